import PyProof.Rows.All
import Wide.All
import OpenK.AllK
import Wide.FinOn
import HandS.ForMost
import HandS.ForExc
import HandS.Wide
import HandS.Flow
import HandS.IsInst
import HandS.Codes
import HandS.ExcInit
import HandS.ExcField
import HandS.ExcIs
import HandS.CallSlots
import HandS.Defaults
import HandS.MakeKw
import HandS.MakeKwOnly
import KE.KExcIs
import KE.KTryMore
import HandS.RaiseMore
import HandS.FStrTup
import PyProof.ReprRoads
import PyProof.StrLawsRepr
import HandS.TupLe
import HandS.Zip
import HandS.Walk
import HandS.Deep
import HandS.More
import HandS.StrMore
import PyProof.StrLawsIn
import HandS.TupAny
import HandS.Style
import PySem.Challenge.RW_takesworks_k13_names_of_anything
set_option Elab.async false
set_option linter.all false
set_option maxRecDepth 100000
set_option maxHeartbeats 4000000
set_option pp.maxSteps 400
set_option pp.deepTerms false
/-! A caught exception that is kept: tracked as an object of its own, with its class and its dict. -/
namespace Xk
open PySem PySem.Spec PyProof.Rows L2
/-- at a: an exception of the class cls, its dict at d (if it has one) -/
def ExK (cls : Value) (d : Option Addr) (a : Addr) : HO := .ext fun h => ∃ oe : Obj, h.get? a = some oe ∧ Zc cls d oe ∧ ∃ vs, oe.data = .fields vs
theorem exK_ok {P : Program} {w : World} {H : Hp} {h : Heap} {a : Addr} {cls : Value} {d : Option Addr} {oe : Obj} {vs : Array Value}
    (e : h.get? a = some oe) (z : Zc cls d oe) (hd : oe.data = .fields vs) : ObjOk P w H h a (ExK cls d a) :=
  ⟨⟨oe, e, z, vs, hd⟩, ⟨oe, e⟩, fun _ _ y k => by
    obtain ⟨o, q, r⟩ := y
    exact ⟨o, k o q, r⟩⟩
theorem exK_at {P : Program} {w : World} {H : Hp} {h : Heap} {a : Addr} {cls : Value} {d : Option Addr} (hok : HOk P w H h) (e : H a = some (ExK cls d a)) :
    ∃ oe : Obj, h.get? a = some oe ∧ Zc cls d oe ∧ ∃ vs, oe.data = .fields vs := by
  have z : ObjOk P w H h a (.ext fun h => ∃ oe : Obj, h.get? a = some oe ∧ Zc cls d oe ∧ ∃ vs, oe.data = .fields vs) := hok a _ e
  exact z.1
section
variable {X : Cx} {pins : List (Addr × Obj)} {σ : L2.St} {H : Hp} {s : Shared}
/-- an object that came during the call, untracked as yet, is tracked from here on -/
theorem track {a : Addr} {o : HO} (I : Inv X pins σ H s) (h0 : X.s_0.heap.get? a = none) (na : H a = none) (nL : a ≠ X.env.locals)
    (nC : ∀ x c, X.env.cells.lookup x = some c → c ≠ a) (nP : ∀ p ∈ X.pn ++ pins, p.1 ≠ a) (new : ObjOk X.prog X.w (upd H a o) s.heap a o) : Inv X pins σ (upd H a o) s := by
  have n0 : ∀ {b : Addr} {u : Obj}, X.s_0.heap.get? b = some u → b ≠ a := fun {b u} e z => by
    rw [z, h0] at e
    cases e
  refine ⟨I.ok, I.os, I.bare, ⟨I.base.keep, I.base.slot, fun b u e n hx => ?_, I.base.there, fun b xs e => ?_, fun b u v e => ?_, fun b ps e => ?_⟩, I.loc, I.cell, ?_, fun x c e => ?_, fun p hp => ?_, fun b u e => ?_, I.len⟩
  · rw [upd_ne (n0 e)]
    exact I.base.free b u e n hx
  · have q := I.base.tups b xs e
    rw [upd_ne (ne_of_none q na)]
    exact q
  · have q := I.base.frzs b u v e
    rw [upd_ne (ne_of_none q na)]
    exact q
  · obtain ⟨m, q⟩ := I.base.tbls b ps e
    exact ⟨m, by rw [upd_ne (ne_of_none q na)]; exact q⟩
  · rw [upd_ne (Ne.symm nL)]
    exact I.free
  · rw [upd_ne (nC x c e)]
    exact I.freeC x c e
  · obtain ⟨e1, e2, e3⟩ := I.pin p hp
    exact ⟨e1, by rw [upd_ne (nP p hp)]; exact e2, e3⟩
  · by_cases hb : b = a
    · subst hb
      rw [upd_same] at e
      cases e
      exact new
    · rw [upd_ne hb] at e
      refine (I.hok b u e).stay (fun _ _ _ q => q) (fun c q => ?_) fun c xs q => ?_
      · rw [upd_ne (ne_of_none q na)]
        exact q
      · rw [upd_ne (ne_of_none q na)]
        exact q
end
theorem flying_kept {B h h' : Heap} {l : List Env} {a : Addr} {Z : Obj → Prop} (f : HandSPX.FlyingZ B l a Z h) (k : ∀ b o, h.get? b = some o → h'.get? b = some o) : HandSPX.FlyingZ B l a Z h' := by
  obtain ⟨f1, f2, f3, oe, vs, T, oT, ts, t1, t2, t3, t4, t5, t6, t7, t8, t9⟩ := f
  exact ⟨fun b o e => k b o (f1 b o e), f2, f3.of_keeps fun b o e _ => ⟨o, k b o e, rfl⟩, oe, vs, T, oT, ts, k _ _ t1, t2, t3, t4, t5, t6, k _ _ t7, t8, t9⟩
/-- what the clause 'except (A, B, C) as n' wishes of an exception of the body: slot i is n's; the exception is tracked -/
def wKeep (K : PySem.W.Frag) (cs : List Value) (i : Nat) (ts : Addr → TS) (Wout : WX) (D : Ends) : WX := fun cls d σ H =>
  ∃ b, PySem.W.exmAny K cls cs = some b ∧
    (b = true → ∀ a, H a = none → ts a { nx := fun σ' H' => D.nx (σ'.set i none) H', rt := D.rt, bk := fun σ' H' => D.bk (σ'.set i none) H', ct := fun σ' H' => D.ct (σ'.set i none) H' } (σ.set i (some (.ref a))) (upd H a (ExK cls d a))) ∧
    (b = false → Wout cls d σ H)
/-- a module's own class by its name -/
structure Nm (X : Cx) (x : Str) (C : Addr) : Prop where
  gl : Gl X x
  db : (x == ("__debug__" : Str)) = false
  mg : X.mg x = some (.ref C)
section
variable {X : Cx} {x1 x2 x3 n : Str} {C1 C2 C3 : Addr} {i : Nat} {body suite : List Stmt} {b₀ : Stmt} {p1 p2 p3 tp pos pos' : Pos} {tb : WX → TS} {ts : Addr → TS} {Wout : WX} {cx}
theorem ps_try_keep (hs : X.stack = X.env :: X.outer) (hf : X.env.frame = some X.env.locals) (hex : X.ex = []) (hN : X.N.Nodup) (hi : X.N[i]? = some n) (hln : X.env.kindOf n = some .local)
    (n1 : Nm X x1 C1) (n2 : Nm X x2 C2) (n3 : Nm X x3 C3) (tk : Takes X Wout)
    (hb : ∀ (W : WX) (pn : List (Addr × Obj)) (xe : Value → Shared → Prop), Takes (X.tr pn xe) W → PassesOwn (model X.prog X.w) X.A X.env xe → PSs (X.tr pn xe) body (tb W))
    (hsu : ∀ (a : Addr) (pn : List (Addr × Obj)), PSs (X.suite a pn) (b₀ :: suite) (ts a)) :
    PS X (.Try body [.ExceptHandler (some (.Tuple [.Name x1 p1, .Name x2 p2, .Name x3 p3] cx tp)) (some n) (b₀ :: suite) pos'] [] [] pos) (fun D σ H => tb (wKeep X.K [.ref C1, .ref C2, .ref C3] i ts Wout D) D σ H) := by
  refine ⟨fun pins s σ H D I h => ?_⟩
  have ok := I.ok
  have frs2 : X.A.frames = some (X.env :: X.outer) := by rw [ok.frames, hs]
  refine wpAny_Try_except ?_
  refine wpAny_mono ((hb (wKeep X.K [.ref C1, .ref C2, .ref C3] i ts Wout D) (X.pn ++ pins)
    (fun e s₁ => wpAny (model X.prog X.w) X.A (noteFrame e X.env) (fun _ s₂ => wpAny (model X.prog X.w) X.A (setFlight e none) (fun _ s₃ => wpAny (model X.prog X.w) X.A
      (handleBy e X.env [.ExceptHandler (some (.Tuple [.Name x1 p1, .Name x2 p2, .Name x3 p3] cx tp)) (some n) (b₀ :: suite) pos']) (SP X pins D) X.xe s₃) X.xe s₂) X.xe s₁)
    (fun u s' air => ?_) PassesOwn.looking).run [] s σ H D (I.toTry _) h) (fun f s1 hsp => ?_) (fun e s1 he => he)
  · obtain ⟨a, B, sI, pins', σ', H', cls, d, rfl, J', nb, up, sky, na, os, ag, b, hb1, hyes, hno⟩ := air
    have J : Inv X pins σ' H' sI := J'.ofTry ok
    have sky2 : Sky B (X.env :: X.outer) a (Zc cls d) X.env.locals s'.heap := by
      rw [← hs]
      exact sky
    refine Sky.land Zc.steady frs2 hf sky2 fun h3 fl3 up3 => ?_
    obtain ⟨oe3, vs3, he3, hz3, hd3⟩ := fl3.there
    have nfr : a ∉ frs (X.env :: X.outer) := fun hm => by
      obtain ⟨_, o', e', hnf⟩ := fl3.2.2.1.mem hm
      rw [he3] at e'
      cases e'
      exact hnf _ hd3
    have nL : a ≠ X.env.locals := fun z => nfr (List.mem_filterMap.mpr ⟨X.env, List.mem_cons_self, by rw [hf, z]⟩)
    have nF : a ∉ X.fs := fun hm => by
      obtain ⟨e, he, q⟩ := List.mem_filterMap.mp hm
      exact nfr (List.mem_filterMap.mpr ⟨e, List.mem_cons_of_mem _ he, q⟩)
    -- it was not there when the call began
    have aI : sI.heap.get? a = none := by
      cases e : sI.heap.get? a with
      | none => rfl
      | some o =>
        have z := nb a o e (by rw [hs]; exact nfr)
        rw [fl3.2.1] at z
        cases z
    have a0 : X.s_0.heap.get? a = none := by
      cases e : X.s_0.heap.get? a with
      | none => rfl
      | some o =>
        obtain ⟨o', z⟩ := J.base.there a o e (by rw [hex]; exact fun z => nomatch z)
        rw [aI] at z
        cases z
    have nP : ∀ p ∈ X.pn ++ pins, p.1 ≠ a := fun p hp z => by
      have q := (J.pin p hp).1
      rw [z, aI] at q
      cases q
    have trk : ∀ {h4 : Heap} {s4 : Shared}, s4.heap = h4 → HandSPX.FlyingZ B (X.env :: X.outer) a (Zc cls d) h4 → Inv X pins σ' H' s4 → Inv X pins σ' (upd H' a (ExK cls d a)) s4 := fun {h4 s4} e4 fl4 J4 => by
      subst e4
      obtain ⟨oe4, vs4, he4, hz4, hd4⟩ := fl4.there
      refine track J4 a0 na nL (fun x c e z => ?_) nP (exK_ok he4 hz4 hd4)
      obtain ⟨v, o, eo, ed⟩ := J4.cell x c e
      rw [z, he4] at eo
      cases eo
      rw [hd4] at ed
      cases ed
    have J3 : Inv X pins σ' H' { s' with heap := h3 } := J.landed nb fl3.1 (up.trans up3) os ag
    have S3 : Inv (X.suite a (X.pn ++ pins)) [] σ' H' { s' with heap := h3 } :=
      ⟨J3.ok.suite _ _, J3.os, J3.bare, J3.base, J3.loc, J3.cell, J3.free, J3.freeC, fun p hp => J3.pin p (by rw [List.append_nil] at hp; exact hp), J3.hok, J3.len⟩
    refine wpAny_handleBy_cons (codeAny_handlers_test ?_) (by intro q; cases q)
    have own : ∀ {x : Str} {C : Addr} {p : Pos} {Q : Value → Shared → Prop} {E : Value → Shared → Prop}, Nm X x C → Q (.ref C) { s' with heap := h3 } →
        wpAny (model X.prog X.w) (X.A.mark (some (.ref a))) (eval (.Name x p) X.env) Q E { s' with heap := h3 } := fun {x C p Q E} z q => ld_glob (X := X.suite a (X.pn ++ pins)) S3 z.gl z.mg q z.db
    have tup : ∀ {Q : Value → Shared → Prop} {E : Value → Shared → Prop}, Q (.ref h3.objs.size) { s' with heap := h3.push { cls := .type "tuple", data := .seq [Value.ref C1, .ref C2, .ref C3].toArray } } →
        wpAny (model X.prog X.w) (X.A.mark (some (.ref a))) (eval (.Tuple [.Name x1 p1, .Name x2 p2, .Name x3 p3] cx tp) X.env) Q E { s' with heap := h3 } := fun {Q E} q => by
      refine wpAny_Tuple_spliced ?_
      show wpAny _ _ (spliced ((false, eval (.Name x1 p1) X.env) :: (false, eval (.Name x2 p2) X.env) :: (false, eval (.Name x3 p3) X.env) :: [])) _ _ _
      exact Calls.spliced_cons (own n1 (Calls.spliced_cons (own n2 (Calls.spliced_cons (own n3 (Calls.spliced_nil ⟨by show 3 ≤ sizeLine; decide, q⟩))))))
    refine tup ?_
    have k4 : ∀ b o, h3.get? b = some o → (h3.push { cls := .type "tuple", data := .seq [Value.ref C1, .ref C2, .ref C3].toArray }).get? b = some o := fun b o e => Heap.get?_push_of_some _ e
    have t4 := Heap.get?_push_size h3 (o := { cls := .type "tuple", data := .seq [Value.ref C1, .ref C2, .ref C3].toArray }) rfl
    generalize h3.push { cls := .type "tuple", data := .seq [Value.ref C1, .ref C2, .ref C3].toArray } = h4 at k4 t4 ⊢
    have fl4 := flying_kept fl3 k4
    have J4 : Inv X pins σ' H' { s' with heap := h4 } := J3.kept k4
    have LT : PySem.W.Looks (model X.prog X.w) h4 (typeOf (.ref a)) cls := fun A Q E s k q => wpAny_typeOf_ref (k _ _ (k4 _ _ he3)) (by rw [hz3.1]; exact q)
    refine (PySem.W.exm_tup3 (M := model X.prog X.w) J4.kIn LT t4 hb1).here ?_
    cases b with
    | true =>
      refine codeAny_handlers_suite_as ?_
      refine HandSPX.lands_againZ fl4 fun h5 fl5 up5 => ?_
      have J5 : Inv X pins σ' H' { s' with heap := h5 } := J.landed nb fl5.1 ((up.trans up3).trans ((Heap.UpToSlots.of_keeps k4).trans up5)) os ag
      have T5 := trk rfl fl5 J5
      have S5 : Inv (X.suite a (X.pn ++ pins)) [] σ' (upd H' a (ExK cls d a)) { s' with heap := h5 } :=
        ⟨T5.ok.suite _ _, T5.os, T5.bare, T5.base, T5.loc, T5.cell, T5.free, T5.freeC, fun p hp => T5.pin p (by rw [List.append_nil] at hp; exact hp), T5.hok, T5.len⟩
      refine store_ok (X := X.suite a (X.pn ++ pins)) (v := .ref a) S5 hN hi (.inl hln) rfl (fun s6 S6 => ?_) (.inr hln)
      refine wpAny_mono ((hsu a (X.pn ++ pins)).run [] s6 _ _ _ S6 (hyes rfl a na)) (fun f s7 hsp => ?_) (fun _ _ z => False.elim z)
      have back : ∀ {σ7 : L2.St} {H7 : Hp}, Inv (X.suite a (X.pn ++ pins)) [] σ7 H7 s7 → Inv X pins σ7 H7 s7 := fun {σ7 H7} S7 =>
        ⟨ok, S7.os, S7.bare, S7.base, S7.loc, S7.cell, S7.free, S7.freeC, fun p hp => S7.pin p (by rw [List.append_nil]; exact hp), S7.hok, S7.len⟩
      cases f with
      | next =>
        obtain ⟨σ7, H7, S7, q7⟩ := hsp
        exact gone_ok (back S7) hN hi hln fun s8 J8 => ⟨_, _, J8, q7⟩
      | brk =>
        obtain ⟨σ7, H7, S7, q7⟩ := hsp
        exact gone_ok (back S7) hN hi hln fun s8 J8 => ⟨_, _, J8, q7⟩
      | cont =>
        obtain ⟨σ7, H7, S7, q7⟩ := hsp
        exact gone_ok (back S7) hN hi hln fun s8 J8 => ⟨_, _, J8, q7⟩
      | ret u =>
        obtain ⟨v7, σ7, H7, S7, r7, q7⟩ := hsp
        exact gone_ok (back S7) hN hi hln fun s8 J8 => ⟨_, _, _, J8, r7, q7⟩
    | false =>
      refine wpAny_handleBy_nil ?_
      obtain ⟨k1, k2, k3, oe, vs, T, oT, ts', he, hz, hd, h1, hr⟩ := id fl4
      unfold PySem.passOn
      refine wpAny_bind (wpAny_field he hd h1 ?_)
      rw [if_neg (by simp : ¬ ((Value.ref T == Value.none) = true))]
      have fin : wpAny (model X.prog X.w) X.A (setFlight (.ref a) X.env.frame) (fun _ s5 => wpAny (model X.prog X.w) X.A (throw (.ref a) : Sem Flow) (SP X pins D) X.xe s5) X.xe { s' with heap := h4 } := by
        rw [hf]
        refine HandSPX.setFlight_upZ fl4 fun h5 hh5 up5 => wpAny_throw (tk _ _ ?_)
        exact ⟨a, B, sI, pins, σ', H', cls, d, rfl, J, nb, (up.trans up3).trans ((Heap.UpToSlots.of_keeps k4).trans up5), .inr (.inr (by rw [hs]; exact hh5)), na, os, ag, hno rfl⟩
      first
        | exact wpAny_bind (wpAny_pure (wpAny_bind fin))
        | exact wpAny_bind fin
  · cases f with
    | next =>
      obtain ⟨σ', H', J', q⟩ := hsp
      exact wpAny_execs_nil ⟨σ', H', J'.ofTry ok, q⟩
    | brk =>
      obtain ⟨σ', H', J', q⟩ := hsp
      exact ⟨σ', H', J'.ofTry ok, q⟩
    | cont =>
      obtain ⟨σ', H', J', q⟩ := hsp
      exact ⟨σ', H', J'.ofTry ok, q⟩
    | ret u =>
      obtain ⟨v, σ', H', J', r, q⟩ := hsp
      exact ⟨v, σ', H', J'.ofTry ok, r, q⟩
end
end Xk
set_option Elab.async false
set_option linter.all false
set_option maxRecDepth 100000
set_option maxHeartbeats 4000000
set_option pp.maxSteps 400
set_option pp.deepTerms false
namespace Xk
open PySem PySem.Spec PyProof.Rows L2
/-- what an own exception class says, so that its kept instances are read and asked -/
structure XcC (K : PySem.W.Frag) (C : Addr) : Prop where
  cl : (PySem.W.clsIn K C).isSome = true
  ga : PySem.W.findIn K (.ref C) "__getattribute__" = some (some (.builtin "BaseException.__getattribute__"))
  gg : PySem.W.findIn K (.ref C) "__getattr__" = some none
  sb : PySem.W.subIn K (.ref C) (.type "BaseException") = some true
  hd : PySem.W.hasDictIn K C = true
  ha : PySem.W.findIn K (.ref C) "__class__" = some (some (.builtin "object.__class__"))
  hn : PySem.W.specialIn K (.builtin "object.__class__") "__get__" = some (some (.builtin "getset_descriptor.__get__"))
  ht : PySem.W.takesIn K (.builtin "object.__class__") = some true
  hm : PySem.W.mroIn K C (.type "object") = some true
/-- a kept exception of the class at C with the fields fs -/
def Kept (H : Hp) (a C : Addr) (fs : List (Str × V)) : Prop := ∃ d, H a = some (ExK (.ref C) (some d) a) ∧ H d = some (.xd fs)
theorem Kept.same {H H' : Hp} {a C : Addr} {fs : List (Str × V)} (k : Kept H a C fs) (s : L2.Same H H') : Kept H' a C fs := by
  obtain ⟨d, e1, e2⟩ := k
  exact ⟨d, s _ _ e1, s _ _ e2⟩
section
variable {X : Cx} {pins : List (Addr × Obj)} {σ : L2.St} {H : Hp} {s : Shared}
theorem Kept.inst {a C : Addr} {fs : List (Str × V)} (I : Inv X pins σ H s) (k : Kept H a C fs) :
    ∃ (oe od : Obj) (mA : Str → Option Value), PySem.W.InstAt s.heap a oe C (some od) ∧ (∀ n, PySem.W.lookIn n od = some (mA n)) ∧ ∀ f, RelO (fs.lookup f) (mA f) := by
  obtain ⟨d, e1, e2⟩ := k
  obtain ⟨oe, he, hz, vs, hv⟩ := exK_at I.hok e1
  have hx : ObjOk X.prog X.w H s.heap d (.xd fs) := I.hok d _ e2
  obtain ⟨mA, hns, hr⟩ := hx
  obtain ⟨od, ho, hl⟩ := lookIn_ns hns
  refine ⟨oe, od, mA, ⟨he, hz.1, by unfold PySem.W.notCls; rw [hv] <;> rfl, by rw [hz.2]; exact ho⟩, hl, hr⟩
end
/-- e.f of a kept exception -/
def tKf (C : Addr) (f : Str) (te : TE) : TE := fun σ H Q => te σ H fun x H1 => ∃ (a : Addr) (fs : List (Str × V)) (v : V), x = .ref a ∧ Kept H1 a C fs ∧ fs.lookup f = some v ∧ Q v H1
theorem pe_kf {X : Cx} {C : Addr} {e : Expr} {te : TE} {pos : Pos} {n : Str} (T : XcC X.K C) (hno : PySem.W.findIn X.K (.ref C) n = some none) (he : PE X e te)
    (hb : attributeBase e n X.env (eval e X.env) = eval e X.env := by rfl) : PE X (.Attribute e n pos) (tKf C n te) := by
  refine ⟨fun pins s σ H Q I h => attr_of hb (thn (he.run pins s σ H _ I h) fun u s1 z => ?_)⟩
  obtain ⟨x, H1, I1, rx, a, fs, v, ex, k, l, q⟩ := z
  subst ex
  obtain rfl : u = Value.ref a := rx
  obtain ⟨oe, od, mA, J, hl, hr⟩ := k.inst I1
  obtain ⟨y, hy, ry⟩ := RelO.some_of (v := v) (o := mA n) (by rw [← l]; exact hr n)
  exact HandSPX.exc_get I1.kIn J T.ga T.gg T.sb (PySem.W.findObj_own T.hd hno rfl (by rw [hl, hy])) (handed_of ry) ⟨v, H1, I1.tok _, ry, q⟩
/-- isinstance(e, c), isinstance(e, (c1, ..)) of a kept exception -/
def rIsK (K : PySem.W.Frag) (C : Addr) : List V → Hp → VK → Prop := fun xs H Q => ∃ (a : Addr) (fs : List (Str × V)) (c : V) (u : Value) (b : Bool), xs = [.ref a, c] ∧ Kept H a C fs ∧ ClsV c u ∧ PySem.W.kitOne K (.ref C) u = some b ∧ Q (.bl b) H
def rIsKT (K : PySem.W.Frag) (C : Addr) : List V → Hp → VK → Prop := fun xs H Q => ∃ (a tp : Addr) (fs : List (Str × V)) (cs : List V) (us : List Value) (b : Bool), xs = [.ref a, .ref tp] ∧ Kept H a C fs ∧
  H tp = some (.tup cs) ∧ Paired ClsV cs us ∧ PySem.W.kitAny K (.ref C) us = some b ∧ Q (.bl b) H
theorem call_isK {X : Cx} {C : Addr} (T : XcC X.K C) : CallR X (.builtin "isinstance") (rIsK X.K C) := by
  intro pins s σ H xs us Q I r h
  obtain ⟨a, fs, c, u, b, rfl, k, hc, e, q⟩ := h
  obtain ⟨u1, u2, rfl, r1, r2⟩ := vals2 r
  have e2 := hc.eq r2
  subst e2
  cases (show u1 = Value.ref a from r1)
  obtain ⟨oe, od, mA, J, _, _⟩ := k.inst I
  exact PySem.W.kia_one (PySem.W.kitx_exc (ox := oe) (od := some od) T.cl T.ga T.gg T.sb T.ha T.hn T.ht T.hm) I.kIn J e (fun z => nomatch z) fun tk => ⟨.bl b, H, I.tok tk, rfl, q⟩
theorem call_isKT {X : Cx} {C : Addr} (T : XcC X.K C) : CallR X (.builtin "isinstance") (rIsKT X.K C) := by
  intro pins s σ H xs us Q I r h
  obtain ⟨a, tp, fs, cs, ws, b, rfl, k, hT, hc, e, q⟩ := h
  obtain ⟨u1, u2, rfl, r1, r2⟩ := vals2 r
  cases (show u1 = Value.ref a from r1)
  cases (show u2 = Value.ref tp from r2)
  obtain ⟨oe, od, mA, J, _, _⟩ := k.inst I
  have ht : ObjOk X.prog X.w H s.heap tp (.tup cs) := I.hok tp _ hT
  obtain ⟨_, its, rv, o, h1, h2, n, h3⟩ := ht
  have e3 := ClsV.all hc rv
  subst e3
  obtain ⟨oc, od2, dt, sl⟩ := o
  simp only at h2 h3
  subst h2 h3
  exact PySem.W.kia_tup (PySem.W.kitx_exc (ox := oe) (od := some od) T.cl T.ga T.gg T.sb T.ha T.hn T.ht T.hm) I.kIn J h1 e (fun z => nomatch z) fun tk => ⟨.bl b, H, I.tok tk, rfl, q⟩
/-! ### B.__init__(self, ..), B an own class over ValueError without own __init__ -/
structure BiC (K : PySem.W.Frag) (B : Addr) : Prop where
  rd : PySem.W.readsIn K B (.type "type") = true
  sp : PySem.W.specialIn K (.ref B) "__getattribute__" = some (some (.builtin "type.__getattribute__"))
  fi : PySem.W.findCls K (.ref B) (.type "type") "__init__" = some (.val (.builtin "ValueError.__init__"))
theorem pe_binit {X : Cx} {B : Addr} {x : Str} {e : Expr} {es : List Expr} {ta : TA} {p1 p2 pos : Pos} {pl : Sem Bool} (T : BiC X.K B) (gl : Gl X x) (mg : X.mg x = some (.ref B)) (ha : PA X (e :: es) ta) (hdb : (x == ("__debug__" : Str)) = false := by decide)
    (hc : eval (.Call (.Attribute (.Name x p1) "__init__" p2) (e :: es) [] pos) X.env = (do
      let ov ← eval (.Name x p1) X.env
      standAt p2.atName
      let (f, first) ← holding [ov] (getMethod ov "__init__" pl)
      callWith pos f first (backTo pos (starEach (e :: es) X.env)) (backToKw pos (keywordEach [] X.env))) := by rfl)
    (he : starEach (e :: es) X.env = (false, eval e X.env) :: starEach es X.env := by rfl) (hpl : (backTo pos (starEach es X.env)).any (·.1) = false := by rfl) :
    PE X (.Call (.Attribute (.Name x p1) "__init__" p2) (e :: es) [] pos) (tVeI X.K ta) := by
  refine ⟨fun pins s σ H Q I h => PySem.W.methodCall_KW (ld_glob I gl mg ?_ hdb) hc⟩
  refine PySem.W.method_cls I.kIn T.sp (PySem.W.cls_value I.kIn T.rd T.fi (by decide +kernel) ?_)
  show wpAny _ _ (callWith pos (Value.builtin "ValueError.__init__") [] (backTo pos (starEach (e :: es) X.env)) []) _ _ _
  refine PyProof.Rows.callWith_method1 (thn (ha.run pos pins _ σ H _ (I.tok _) h) fun us s1 z => ?_) he hpl
  obtain ⟨vs, H1, I1, r1, a, C, ws, ev, hl, Tx, ea, q⟩ := z
  subst ev
  cases r1 with
  | @cons _ u0 _ ur ra rw' =>
    obtain rfl : u0 = Value.ref a := ra
    refine oinit_ok Tx I1 ea ?_ fun s' J => ⟨.non, H1, J, rfl, q⟩
    rw [← Paired.length rw', sizeLine_eq]
    omega
/-! ### calls in a try's body: what is raised is wished for at the slots -/
section
variable {X : Cx} {CX : CXT} {k n : Nat} {f C : Addr} {fd : FuncData} {ps ks : List Str} {sp : Sp} {dvs : List V} {ds : List Value} {E : L2.St → XK} {x : Str} {p pos : Pos} {e : Expr} {es : List Expr} {kws : List Keyword} {t tk : TA}
  {g : List Value → List Value → List Value} {gV : List V → List V → List V}
def tMakeS (C : Addr) (sp : Sp) (dvs : List V) (E : L2.St → XK) (t : TA) : TE := fun σ H Q => t σ H fun vs H1 => ∀ x dx, H1 x = none → H1 dx = none → dx ≠ x →
  sp (.ref x :: (vs ++ dvs)) (upd (upd H1 dx (.own x)) x (.ins C dx [])) (fun v H2 => v = .non ∧ Q (.ref x) H2) (E σ)
theorem pe_makeS (M : Mk X.K C f) (F : FnOk X.prog X.w X.K X.mg X.base CX k f fd ps sp) (room : Room (k + 1) X.A) (gl : Gl X x) (mg : X.mg x = some (.ref C)) (bd : Binds X.K fd ps ds) (rd : Vals dvs ds) (px : ∀ σ, PassesAt CX X σ (E σ))
    (ha : PA X (e :: es) t) (hdb : (x == ("__debug__" : Str)) = false := by decide) (he : starEach (e :: es) X.env = (false, eval e X.env) :: starEach es X.env := by rfl) (hpl : (backTo pos (starEach es X.env)).any (·.1) = false := by rfl) :
    PE X (.Call (.Name x p) (e :: es) [] pos) (tMakeS C sp dvs E t) := by
  refine ⟨fun pins s σ H Q I h => wpAny_Call_Name_kw (ld_glob I gl mg ?_ hdb)⟩
  refine PySem.W.callWith_K (h₀ := X.base) I.ok.mod.kin M.kp (thn (ha.run pos pins s σ H _ I h) fun us s1 z => ?_) he hpl
  obtain ⟨vs, H1, I1, r, q⟩ := z
  refine ⟨I1.kIn, ?_⟩
  have q1 := q (s1.heap.objs.size + 1) s1.heap.objs.size (I1.hok.fresh (Nat.le_succ _)) (I1.hok.fresh (Nat.le_refl _)) (Nat.ne_of_lt (Nat.lt_succ_self _))
  have I2 := Inv.made (C := C) I1
  have r2 : Vals (V.ref (s1.heap.objs.size + 1) :: (vs ++ dvs)) (Value.ref (s1.heap.objs.size + 1) :: (us ++ ds)) := .cons rfl (r.append rd)
  have many : (Value.ref (s1.heap.objs.size + 1) :: us ++ ds).length = ps.length := (r2.length.symm.trans (F.len _ _ _ _ q1))
  refine wpAny_call (make_map (f := f) I1.kIn M.makes M.init (beq_iff_eq.mp M.fn) (codeAny_mono (F.run _ X.stack _ _ ⟨Value.ref (s1.heap.objs.size + 1) :: us, []⟩ (Value.ref (s1.heap.objs.size + 1) :: (us ++ ds)) _ _ (E σ)
    (room.make C us []) (I2.env0.make C us []) (bd _ (Value.ref (s1.heap.objs.size + 1) :: us) I2.kIn many) r2 q1) fun r s' z => ?_))
  cases r with
  | error e => exact px σ pins _ _ e s' I2 z
  | ok fl =>
    cases fl with
    | ret u =>
      obtain ⟨v, H', I3, rv, ev, q3⟩ := I2.after z
      subst ev
      exact ⟨rv, ⟨V.ref (s1.heap.objs.size + 1), H', I3, rfl, q3⟩⟩
    | next => exact False.elim z
    | brk => exact False.elim z
    | cont => exact False.elim z
def tMakeKS (C : Addr) (m : Nat) (sp : Sp) (gV : List V → List V → List V) (E : L2.St → XK) (tk : TA) : TE := fun σ H Q => tk σ H fun zs H2 => zs.length = m ∧
  ∀ x dx, H2 x = none → H2 dx = none → dx ≠ x → sp (gV [.ref x] zs) (upd (upd H2 dx (.own x)) x (.ins C dx [])) (fun v H3 => v = .non ∧ Q (.ref x) H3) (E σ)
theorem pe_makeKS (M : Mk X.K C f) (F : FnOk X.prog X.w X.K X.mg X.base CX k f fd ps sp) (room : Room (k + 1) X.A) (gl : Gl X x) (mg : X.mg x = some (.ref C)) (kb : KBn X.K fd ps 1 ks g gV) (px : ∀ σ, PassesAt CX X σ (E σ)) (pk : PK X kws tk)
    (hall : (backToKw pos (keywordEach kws X.env)).all (·.1.isSome) = true := by rfl) (hks : (backToKw pos (keywordEach kws X.env)).filterMap (·.1) = ks := by rfl) (hdb : (x == ("__debug__" : Str)) = false := by decide)
    (hpl : ((backTo pos (starEach [] X.env)).any (·.1) || (backToKw pos (keywordEach kws X.env)).any (·.1.isNone)) = false := by rfl) :
    PE X (.Call (.Name x p) [] kws pos) (tMakeKS C ks.length sp gV E tk) := by
  refine ⟨fun pins s σ H Q I h => wpAny_Call_Name_kw (ld_glob I gl mg ?_ hdb)⟩
  refine PySem.W.callWith_KW0 (h₀ := X.base) I.ok.mod.kin M.kp hall (thn (pk.run pos pins s σ H _ I h) fun ws s1 z => ?_) hpl
  obtain ⟨zs, H1, I1, rz, l2, q⟩ := z
  refine ⟨I1.kIn, ?_⟩
  rw [hks]
  have q1 := q (s1.heap.objs.size + 1) s1.heap.objs.size (I1.hok.fresh (Nat.le_succ _)) (I1.hok.fresh (Nat.le_refl _)) (Nat.ne_of_lt (Nat.lt_succ_self _))
  have I2 := Inv.made (C := C) I1
  have r1 : Vals [V.ref (s1.heap.objs.size + 1)] [Value.ref (s1.heap.objs.size + 1)] := .cons rfl .nil
  have r2 := kb.rel r1 rz
  refine wpAny_call (make_map (f := f) I1.kIn M.makes M.init (beq_iff_eq.mp M.fn) (codeAny_mono (F.run _ X.stack _ _ ⟨[Value.ref (s1.heap.objs.size + 1)], ks.zip ws⟩ (g [Value.ref (s1.heap.objs.size + 1)] ws) _ _ (E σ)
    (room.make C [] (ks.zip ws)) (I2.env0.make C [] (ks.zip ws)) (kb.to _ [Value.ref (s1.heap.objs.size + 1)] ws I2.kIn rfl (rz.length.symm.trans l2)) r2 q1) fun r s' z => ?_))
  cases r with
  | error e => exact px σ pins _ _ e s' I2 z
  | ok fl =>
    cases fl with
    | ret u =>
      obtain ⟨v, H', I3, rv, ev, q3⟩ := I2.after z
      subst ev
      exact ⟨rv, ⟨V.ref (s1.heap.objs.size + 1), H', I3, rfl, q3⟩⟩
    | next => exact False.elim z
    | brk => exact False.elim z
    | cont => exact False.elim z
def tCallKS (m : Nat) (sp : Sp) (gV : List V → List V → List V) (E : L2.St → XK) (tk : TA) : TE := fun σ H Q => tk σ H fun zs H2 => zs.length = m ∧ sp (gV [] zs) H2 Q (E σ)
theorem pe_callKS (F : FnOk X.prog X.w X.K X.mg X.base CX k f fd ps sp) (room : Room k X.A) (gl : Gl X x) (mg : X.mg x = some (.ref f)) (kp : PySem.W.keepIn X.K (.ref f) = true) (kb : KBn X.K fd ps 0 ks g gV) (px : ∀ σ, PassesAt CX X σ (E σ)) (pk : PK X kws tk)
    (hall : (backToKw pos (keywordEach kws X.env)).all (·.1.isSome) = true := by rfl) (hks : (backToKw pos (keywordEach kws X.env)).filterMap (·.1) = ks := by rfl) (hdb : (x == ("__debug__" : Str)) = false := by decide)
    (hpl : ((backTo pos (starEach [] X.env)).any (·.1) || (backToKw pos (keywordEach kws X.env)).any (·.1.isNone)) = false := by rfl) :
    PE X (.Call (.Name x p) [] kws pos) (tCallKS ks.length sp gV E tk) := by
  refine ⟨fun pins s σ H Q I h => wpAny_Call_Name_kw (ld_glob I gl mg ?_ hdb)⟩
  refine PySem.W.callWith_KW0 (h₀ := X.base) I.ok.mod.kin kp hall (thn (pk.run pos pins s σ H _ I h) fun ws s1 z => ?_) hpl
  obtain ⟨zs, H1, I1, rz, l2, q⟩ := z
  refine ⟨I1.kIn, ?_⟩
  rw [hks]
  have rn : Vals [] [] := .nil
  have r2 := kb.rel rn rz
  refine wpAny_call (codeAny_mono (F.run X.A X.stack s1 H1 ⟨[], ks.zip ws⟩ (g [] ws) (gV [] zs) Q (E σ) room I1.env0 (kb.to s1 [] ws I1.kIn rfl (rz.length.symm.trans l2)) r2 q) fun r s' z => ?_)
  cases r with
  | error e => exact px σ pins _ _ e s' I1 z
  | ok fl =>
    cases fl with
    | ret u => exact I1.after z
    | next => exact False.elim z
    | brk => exact False.elim z
    | cont => exact False.elim z
end
end Xk
set_option Elab.async false
set_option linter.all false
set_option maxRecDepth 100000
set_option maxHeartbeats 4000000
set_option pp.maxSteps 400
set_option pp.deepTerms false
/-! Things of any kind: texts, numbers, truths, None, and lists, tuples, dicts of these, at any depth. -/
namespace Az
open PySem PySem.Spec PyProof.Rows L2
def keyD : Key → PyData
  | .inl i => .int i
  | .inr x => .str x
mutual
inductive Dz (K : PySem.W.Frag) (H : Hp) : V → PyData → Prop
  | non : Dz K H .non .none
  | bl (b : Bool) : Dz K H (.bl b) (.bool b)
  | int (i : Int) : Dz K H (.int i) (.int i)
  | str (x : Str) : Dz K H (.str x) (.str x)
  | lst {a : Addr} {xs : List V} {ds : List PyData} : H a = some (.lst xs) → a ≠ sysModules → DzAll K H xs ds → Dz K H (.ref a) (.list ds)
  | tup {a : Addr} {xs : List V} {ds : List PyData} : H a = some (.tup xs) → DzAll K H xs ds → Dz K H (.ref a) (.tuple ds)
  | dct {a : Addr} {kvs : List (Key × V)} {ds : List (PyData × PyData)} : H a = some (.dK kvs) → DzKv K H kvs ds → Dz K H (.ref a) (.dict ds)
inductive DzAll (K : PySem.W.Frag) (H : Hp) : List V → List PyData → Prop
  | nil : DzAll K H [] []
  | cons {v : V} {vs : List V} {d : PyData} {ds : List PyData} : Dz K H v d → DzAll K H vs ds → DzAll K H (v :: vs) (d :: ds)
inductive DzKv (K : PySem.W.Frag) (H : Hp) : List (Key × V) → List (PyData × PyData) → Prop
  | nil : DzKv K H [] []
  | cons {k : Key} {v : V} {kvs : List (Key × V)} {d : PyData} {ds : List (PyData × PyData)} : Dz K H v d → DzKv K H kvs ds → DzKv K H ((k, v) :: kvs) ((keyD k, d) :: ds)
end
section
variable {K : PySem.W.Frag} {H H' : Hp}
mutual
/-- what is read of a thing stays while its objects do -/
theorem Dz.keep (s : ∀ b o, H b = some o → (∀ x, o ≠ .own x) → H' b = some o) : ∀ {v : V} {d : PyData}, Dz K H v d → Dz K H' v d
  | _, _, .non => .non
  | _, _, .bl b => .bl b
  | _, _, .int i => .int i
  | _, _, .str x => .str x
  | _, _, .lst e n r => .lst (s _ _ e (fun _ z => by cases z)) n (DzAll.keep s r)
  | _, _, .tup e r => .tup (s _ _ e (fun _ z => by cases z)) (DzAll.keep s r)
  | _, _, .dct e r => .dct (s _ _ e (fun _ z => by cases z)) (DzKv.keep s r)
theorem DzAll.keep (s : ∀ b o, H b = some o → (∀ x, o ≠ .own x) → H' b = some o) : ∀ {v : List V} {d : List PyData}, DzAll K H v d → DzAll K H' v d
  | _, _, .nil => .nil
  | _, _, .cons h r => .cons (Dz.keep s h) (DzAll.keep s r)
theorem DzKv.keep (s : ∀ b o, H b = some o → (∀ x, o ≠ .own x) → H' b = some o) : ∀ {v : List (Key × V)} {d : List (PyData × PyData)}, DzKv K H v d → DzKv K H' v d
  | _, _, .nil => .nil
  | _, _, .cons h r => .cons (Dz.keep s h) (DzKv.keep s r)
end
theorem Dz.same {v : V} {d : PyData} (h : Dz K H v d) (s : L2.Same H H') : Dz K H' v d := h.keep fun b o e _ => s b o e
theorem DzAll.same {v : List V} {d : List PyData} (h : DzAll K H v d) (s : L2.Same H H') : DzAll K H' v d := h.keep fun b o e _ => s b o e
/-- the kind of a thing -/
def kindD : PyData → String
  | .none => "NoneType"
  | .bool _ => "bool"
  | .int _ => "int"
  | .str _ => "str"
  | .list _ => "list"
  | .tuple _ => "tuple"
  | .dict _ => "dict"
theorem Dz.ty {v : V} {d : PyData} (h : Dz K H v d) : TyX K H v (.type (kindD d)) := by
  cases h with
  | non => exact .base .non
  | bl b => exact .base (.bl b)
  | int i => exact .base (.int i)
  | str x => exact .base (.str x)
  | lst e _ _ => exact .base (.lst e)
  | tup e _ => exact .base (.tup e)
  | dct e _ => exact .base (.dK e)
end
section
variable {X : Cx} {pins : List (Addr × Obj)} {σ : L2.St} {H : Hp} {s : Shared}
theorem pairs_keys {P : Program} {w : World} : ∀ {es : List DictEntry} {vs : List (Key × Value)}, PySem.Pairs (mixKind P w) es vs → ∃ as, ReadsAll s.heap (es.map (·.key)) (vs.map fun p => keyD p.1) as ∧ as = []
  | _, _, .nil => ⟨[], .nil, rfl⟩
  | e :: es, (k, u) :: vs, .cons h1 h2 r => by
    obtain ⟨as, q, rfl⟩ := pairs_keys r
    rcases keyIs_shape (show keyIs k e.key = true from h1) with ⟨i, t, rfl, ek⟩ | ⟨x, t, rfl, ek⟩
    · refine ⟨[] ++ [], .cons ?_ q, rfl⟩
      show Reads s.heap e.key (.int i) []
      rw [ek]
      exact .int i t
    · refine ⟨[] ++ [], .cons ?_ q, rfl⟩
      show Reads s.heap e.key (.str x) []
      rw [ek]
      exact .str x t
theorem pairs_vals {P : Program} {w : World} : ∀ {es : List DictEntry} {vs : List (Key × Value)}, PySem.Pairs (mixKind P w) es vs → es.map (·.val) = vs.map (·.2)
  | _, _, .nil => rfl
  | e :: es, (k, u) :: vs, .cons h1 h2 r => by
    rw [List.map_cons, List.map_cons, pairs_vals r, h2]
mutual
theorem Dz.reads (I : Inv X pins σ H s) : ∀ (d : PyData) (v : V) (u : Value), Dz X.K H v d → RelV v u → ∃ as, Reads s.heap u d as ∧ sysModules ∉ as
  | .none, _, _, h, r => by
    cases h
    cases r
    exact ⟨[], .none, by simp⟩
  | .bool b, _, _, h, r => by
    cases h
    cases r
    exact ⟨[], .bool b, by simp⟩
  | .int i, _, _, h, r => by
    cases h
    obtain ⟨t, rfl⟩ := r
    exact ⟨[], .int i t, by simp⟩
  | .str x, _, _, h, r => by
    cases h
    obtain ⟨t, rfl⟩ := r
    exact ⟨[], .str x t, by simp⟩
  | .list ds, _, _, h, r => by
    cases h with
    | @lst a xs _ e ne ha =>
      cases r
      have ok : ObjOk X.prog X.w H s.heap a (.lst xs) := I.hok a _ e
      obtain ⟨_, its, n, rv, eh⟩ := ok
      obtain ⟨as, q, na⟩ := DzAll.reads I ds xs its ha rv
      refine ⟨a :: as, .list eh rfl rfl (by simpa using q), fun m => ?_⟩
      rcases List.mem_cons.mp m with z | z
      · exact ne z.symm
      · exact na z
  | .tuple ds, _, _, h, r => by
    cases h with
    | @tup a xs _ e ha =>
      cases r
      have ok : ObjOk X.prog X.w H s.heap a (.tup xs) := I.hok a _ e
      obtain ⟨_, its, rv, o, eh, ec, n, ed⟩ := ok
      obtain ⟨as, q, na⟩ := DzAll.reads I ds xs its ha rv
      exact ⟨as, .tuple eh ec ed (by simpa using q), na⟩
  | .dict ds, _, _, h, r => by
    cases h with
    | @dct a kvs _ e ha =>
      cases r
      obtain ⟨_, ne, vs, rel, o, es, ep, eh, ex, ed, _, pr, _⟩ := dk_of I.hok e
      obtain ⟨as, q1, rfl⟩ := pairs_keys (s := s) pr
      obtain ⟨bs, q2, nb⟩ := DzKv.reads I ds kvs vs ha rel
      have hk : (vs.map fun p => keyD p.1) = ds.map (·.1) := DzKv.keys ha rel
      rw [hk] at q1
      refine ⟨a :: [] ++ bs, .dict eh ex.1 ed q1 (by rw [pairs_vals pr]; exact q2), fun m => ?_⟩
      rcases List.mem_cons.mp m with z | z
      · rw [← z] at ne
        simp at ne
      · exact nb z
theorem DzAll.reads (I : Inv X pins σ H s) : ∀ (ds : List PyData) (vs : List V) (us : List Value), DzAll X.K H vs ds → Vals vs us → ∃ as, ReadsAll s.heap us ds as ∧ sysModules ∉ as
  | [], _, _, h, r => by
    cases h
    cases r
    exact ⟨[], .nil, by simp⟩
  | d :: ds, _, _, h, r => by
    cases h with
    | cons h1 h2 =>
      cases r with
      | cons r1 r2 =>
        obtain ⟨as, q1, n1⟩ := Dz.reads I d _ _ h1 r1
        obtain ⟨bs, q2, n2⟩ := DzAll.reads I ds _ _ h2 r2
        exact ⟨as ++ bs, .cons q1 q2, fun m => (List.mem_append.mp m).elim n1 n2⟩
theorem DzKv.reads (I : Inv X pins σ H s) : ∀ (ds : List (PyData × PyData)) (kvs : List (Key × V)) (vs : List (Key × Value)), DzKv X.K H kvs ds → KV kvs vs → ∃ as, ReadsAll s.heap (vs.map (·.2)) (ds.map (·.2)) as ∧ sysModules ∉ as
  | [], _, _, h, r => by
    cases h
    cases r
    exact ⟨[], .nil, by simp⟩
  | (_, d) :: ds, _, _, h, r => by
    cases h with
    | cons h1 h2 =>
      cases r with
      | cons r1 r2 =>
        obtain ⟨as, q1, n1⟩ := Dz.reads I d _ _ h1 r1.2
        obtain ⟨bs, q2, n2⟩ := DzKv.reads I ds _ _ h2 r2
        exact ⟨as ++ bs, .cons q1 q2, fun m => (List.mem_append.mp m).elim n1 n2⟩
theorem DzKv.keys {K : PySem.W.Frag} : ∀ {ds : List (PyData × PyData)} {kvs : List (Key × V)} {vs : List (Key × Value)}, DzKv K H kvs ds → KV kvs vs → (vs.map fun p => keyD p.1) = ds.map (·.1)
  | [], _, _, h, r => by
    cases h
    cases r
    rfl
  | (_, d) :: ds, _, _, h, r => by
    cases h with
    | cons h1 h2 =>
      cases r with
      | cons r1 r2 =>
        rw [List.map_cons, List.map_cons, DzKv.keys h2 r2, ← r1.1]
end
/-- repr of a thing -/
def rReprZ (K : PySem.W.Frag) : List V → Hp → VK → Prop := fun xs H Q => ∃ (v : V) (d : PyData), xs = [v] ∧ Dz K H v d ∧ d.showable = true ∧ d.depth ≤ 60 ∧ d.shown.length ≤ sizeLine ∧ Q (.str d.shown) H
theorem cr_reprZ {k : Nat} (quiet : X.A.guards = some []) (room : Room k X.A) : CallR X (.builtin "repr") (rReprZ X.K) := by
  intro pins s σ H xs us Q I r h
  obtain ⟨v, d, rfl, hd, hs, hp, hz, q⟩ := h
  obtain ⟨u, rfl, rx⟩ := vals1 r
  have hu := room.units
  cases hd with
  | non =>
    cases rx
    exact PySem.P.repr_of_none ⟨.str _, H, I.tok _, ⟨_, rfl⟩, q⟩
  | bl b =>
    cases rx
    exact PySem.P.repr_of_bool ⟨.str _, H, I.tok _, ⟨_, rfl⟩, q⟩
  | int i =>
    obtain ⟨t, rfl⟩ := rx
    exact PySem.P.repr_of_int (by simpa [PyData.showable] using hs) ⟨.str _, H, I.tok _, ⟨_, rfl⟩, q⟩
  | str x =>
    obtain ⟨t, rfl⟩ := rx
    exact PySem.P.repr_of_str ⟨.str _, H, I.tok _, ⟨_, rfl⟩, q⟩ hz
  | lst e n ha =>
    obtain ⟨as, rd, na⟩ := Dz.reads I _ _ u (.lst e n ha) rx
    cases rx
    exact repr_of_reads' rd hs (fun _ => na) quiet (by omega) (fun _ _ z => z) (fun h' u tk kept => ⟨.str _, H, I.kept kept, ⟨u, rfl⟩, q⟩) hz
  | tup e ha =>
    obtain ⟨as, rd, na⟩ := Dz.reads I _ _ u (.tup e ha) rx
    cases rx
    exact repr_of_reads' rd hs (fun _ => na) quiet (by omega) (fun _ _ z => z) (fun h' u tk kept => ⟨.str _, H, I.kept kept, ⟨u, rfl⟩, q⟩) hz
  | dct e ha =>
    obtain ⟨as, rd, na⟩ := Dz.reads I _ _ u (.dct e ha) rx
    cases rx
    exact repr_of_reads' rd hs (fun _ => na) quiet (by omega) (fun _ _ z => z) (fun h' u tk kept => ⟨.str _, H, I.kept kept, ⟨u, rfl⟩, q⟩) hz
/-- a list of written items: new, and no table of modules -/
def tLstZ (t : TA) : TE := fun σ H Q => t σ H fun xs H1 => xs.length ≤ sizeLine ∧ ∀ p, H1 p = none → p ≠ sysModules → Q (.ref p) (upd H1 p (.lst xs))
theorem pe_lstZ {es : List Expr} {t : TA} {pos : Pos} (h : PA X es t) : PE X (.List es pos) (tLstZ t) := by
  refine ⟨fun pins s σ H Q I hq => wpAny_List_spliced (thn (h.run pos pins s σ H _ I hq) fun us s1 z => ?_)⟩
  obtain ⟨xs, H1, I1, r, z, q⟩ := z
  refine ⟨by rw [← r.length]; exact z, ?_⟩
  have new : H1 s1.heap.objs.size = none := I1.hok.fresh (Nat.le_refl _)
  refine ⟨.ref s1.heap.objs.size, upd H1 s1.heap.objs.size (.lst xs), I1.laid (t' := s1.toks) (fun b u e => Heap.get?_push_of_some _ e) (Nat.le_refl _) ?_, rfl, q _ new (Nat.ne_of_gt I1.big)⟩
  exact ⟨z, us, 0, r, Heap.get?_push_size _ rfl⟩
end
end Az
namespace Az
open PySem PySem.Spec PyProof.Rows L2
/-- a thing that is shown in n signs at most, at most k deep -/
structure Nice (d : PyData) (k n : Nat) : Prop where
  sh : d.showable = true
  dp : d.depth ≤ k
  sz : d.shown.length ≤ n
theorem Nice.mono {d : PyData} {k k' n n' : Nat} (h : Nice d k n) (hk : k ≤ k') (hn : n ≤ n') : Nice d k' n' := ⟨h.sh, Nat.le_trans h.dp hk, Nat.le_trans h.sz hn⟩
theorem nice_int {i : Int} {n : Nat} (h : i.natAbs.log2 < 1920) (hn : (Str.ofString (toString i)).length ≤ n) : Nice (.int i) 0 n :=
  ⟨by simpa [PyData.showable] using h, by simp [PyData.depth], by simpa [PyData.shown] using hn⟩
theorem nice_none : Nice .none 0 4 := ⟨by simp [PyData.showable], by simp [PyData.depth], by simp only [PyData.shown]; decide +kernel⟩
theorem nice_bool (b : Bool) : Nice (.bool b) 0 5 := ⟨by simp [PyData.showable], by simp [PyData.depth], by simp only [PyData.shown]; cases b <;> decide +kernel⟩
theorem nice_str {x : Str} {n : Nat} (h : (reprText x).length ≤ n) : Nice (.str x) 0 n := ⟨by simp [PyData.showable], by simp [PyData.depth], by simpa [PyData.shown] using h⟩
theorem list_le : ∀ ts : List Str, (listText ts).length ≤ piled ts + 2
  | [] => by decide +kernel
  | t :: ts => by
    have e : (textFrom 0 "[" (t :: ts)).length = 1 + t.length + piled ts := by
      show (textFrom 1 (("[" : Str) ++ ((if 0 > 0 then ", " else "" : String) : Str) ++ t) ts).length = _
      rw [textFrom_length_pos ts 1 _ (by decide), strLen_append, strLen_append]
      rfl
    unfold listText
    rw [strLen_append, e, piled_cons]
    show 1 + t.length + piled ts + 1 ≤ _
    omega
theorem dict_le (ps : List Str) : (dictText ps).length ≤ piled ps + 2 := by
  unfold dictText
  rw [strLen_append, strLen_append]
  show 1 + (Str.join ", " ps).length + 1 ≤ _
  cases ps with
  | nil => decide
  | cons p r =>
    have := join_length_add (p :: r) (by simp)
    omega
theorem nice_tup1 {d : PyData} {k n : Nat} (h : Nice d k n) : Nice (.tuple [d]) (k + 1) (n + 4) := by
  refine ⟨by simp [PyData.showable, PyData.showableAll, h.sh], ?_, ?_⟩
  · simp only [PyData.depth, PyData.depthAll]
    have := h.dp
    omega
  · simp only [PyData.shown, PyData.shownAll]
    have a := fmt_text [d.shown]
    simp only [piled_cons, piled_nil] at a
    have := h.sz
    omega
theorem nice_lst1 {d : PyData} {k n : Nat} (h : Nice d k n) : Nice (.list [d]) (k + 1) (n + 4) := by
  refine ⟨by simp [PyData.showable, PyData.showableAll, h.sh], ?_, ?_⟩
  · simp only [PyData.depth, PyData.depthAll]
    have := h.dp
    omega
  · simp only [PyData.shown, PyData.shownAll]
    have a := list_le [d.shown]
    simp only [piled_cons, piled_nil] at a
    have := h.sz
    omega
theorem nice_dct1 {d : PyData} {k n m : Nat} {x : Str} (hx : (reprText x).length ≤ m) (h : Nice d k n) : Nice (.dict [(.str x, d)]) (k + 1) (n + m + 6) := by
  refine ⟨by simp [PyData.showable, PyData.showableKv, h.sh], ?_, ?_⟩
  · simp only [PyData.depth, PyData.depthKv]
    have := h.dp
    omega
  · simp only [PyData.shown, PyData.shownKv]
    have a := dict_le [reprText x ++ ": " ++ d.shown]
    simp only [piled_cons, piled_nil, strLen_append] at a
    have c : ((": " : Str)).length = 2 := by decide +kernel
    have := h.sz
    omega
theorem nice_tup0 : Nice (.tuple []) 1 2 := ⟨by simp [PyData.showable, PyData.showableAll], by simp [PyData.depth, PyData.depthAll], by simp only [PyData.shown, PyData.shownAll]; decide +kernel⟩
theorem nice_lst0 : Nice (.list []) 1 2 := ⟨by simp [PyData.showable, PyData.showableAll], by simp [PyData.depth, PyData.depthAll], by simp only [PyData.shown, PyData.shownAll]; decide +kernel⟩
theorem nice_dct0 : Nice (.dict []) 1 2 := ⟨by simp [PyData.showable, PyData.showableKv], by simp [PyData.depth, PyData.depthKv], by simp only [PyData.shown, PyData.shownKv]; decide +kernel⟩
end Az
set_option Elab.async false
set_option linter.all false
set_option maxRecDepth 100000
set_option maxHeartbeats 4000000
set_option pp.maxSteps 400
set_option pp.deepTerms false
namespace Az
open PySem PySem.Spec PyProof.Rows L2
/-! ### texts of signs that have a number of eight places -/
def Asc (x : Str) : Prop := ∀ c ∈ x.cps.toList, c < 16 ^ 8
theorem asc_str (s : String) : Asc (Str.ofString s) := fun c hc => by
  rw [Str.ofString_eq_toList] at hc
  simp only [List.mem_map] at hc
  obtain ⟨k, _, rfl⟩ := hc
  exact Nat.lt_of_lt_of_le (UInt32.toNat_lt k.val) (by decide)
theorem Asc.app {x y : Str} (h1 : Asc x) (h2 : Asc y) : Asc (x ++ y) := fun c hc => by
  rw [Str.cps_append, Array.toList_append, List.mem_append] at hc
  exact hc.elim (h1 c) (h2 c)
theorem asc_hex (l : List Char) (n : Nat) : ∀ c ∈ List.replicate n 48 ++ l.map Char.toNat, c < 16 ^ 8 := fun c hc => by
  rcases List.mem_append.mp hc with h | h
  · rw [(List.mem_replicate.mp h).2]
    decide
  · obtain ⟨k, _, rfl⟩ := List.mem_map.mp h
    exact Nat.lt_of_lt_of_le (UInt32.toNat_lt k.val) (by decide)
theorem asc_char {q c : Nat} (hc : c < 16 ^ 8) : ∀ d ∈ Builtin.Str.reprChar q c, d < 16 ^ 8 := fun d hd => by
  unfold Builtin.Str.reprChar at hd
  dsimp only at hd
  have two : ∀ a : Nat, a < 16 ^ 8 → d ∈ [92, a] → d < 16 ^ 8 := fun a ha h => by
    simp only [List.mem_cons, List.not_mem_nil, or_false] at h
    rcases h with h | h
    · rw [h]; decide
    · rw [h]; exact ha
  have app : ∀ (a : Nat) (l : List Nat), a < 16 ^ 8 → (∀ c ∈ l, c < 16 ^ 8) → d ∈ [92, a] ++ l → d < 16 ^ 8 := fun a l ha hl h => (List.mem_append.mp h).elim (two a ha) (hl d)
  split at hd
  · exact two c hc hd
  · split at hd
    · exact two 110 (by decide) hd
    · split at hd
      · exact two 114 (by decide) hd
      · split at hd
        · exact two 116 (by decide) hd
        · split at hd
          · simp only [List.mem_cons, List.not_mem_nil, or_false] at hd
            rw [hd]
            exact hc
          · split at hd
            · exact app 120 _ (by decide) (asc_hex _ _) hd
            · split at hd
              · exact app 117 _ (by decide) (asc_hex _ _) hd
              · exact app 85 _ (by decide) (asc_hex _ _) hd
theorem asc_fold {q : Nat} : ∀ (l : List Nat) (acc : Array Nat), (∀ c ∈ l, c < 16 ^ 8) → (∀ c ∈ acc.toList, c < 16 ^ 8) → ∀ c ∈ (l.foldl (fun out c => out ++ (Builtin.Str.reprChar q c).toArray) acc).toList, c < 16 ^ 8
  | [], acc, _, h => h
  | k :: r, acc, hl, ha => by
    rw [List.foldl_cons]
    refine asc_fold r _ (fun c hc => hl c (List.mem_cons_of_mem _ hc)) fun c hc => ?_
    rw [Array.toList_append, List.mem_append] at hc
    exact hc.elim (ha c) fun h => asc_char (hl k List.mem_cons_self) c (by simpa using h)
theorem asc_quote (x : Str) : reprQuote x < 16 ^ 8 := by
  unfold reprQuote
  split <;> decide
theorem asc_repr {x : Str} (h : Asc x) : Asc (reprText x) := fun c hc => by
  unfold reprText at hc
  rw [Array.toList_push, List.mem_append, ← Array.foldl_toList] at hc
  rcases hc with hc | hc
  · refine asc_fold x.cps.toList #[reprQuote x] h (fun d hd => ?_) c hc
    have z : d = reprQuote x := by simpa using hd
    rw [z]
    exact asc_quote x
  · have z : c = reprQuote x := by simpa using hc
    rw [z]
    exact asc_quote x
theorem asc_join : ∀ ts : List Str, (∀ t ∈ ts, Asc t) → Asc (Str.join ", " ts)
  | [], _ => fun c hc => by
    have z : c ∈ (Str.empty).cps.toList := hc
    simp [Str.empty] at z
  | [x], h => h x List.mem_cons_self
  | x :: y :: r, h => ((h x List.mem_cons_self).app (asc_str ", ")).app (asc_join (y :: r) fun t ht => h t (List.mem_cons_of_mem _ ht))
theorem asc_from : ∀ (ts : List Str) (k : Nat) (acc : Str), Asc acc → (∀ t ∈ ts, Asc t) → Asc (textFrom k acc ts)
  | [], _, _, h, _ => h
  | t :: ts, k, acc, h, ht => by
    unfold textFrom
    exact asc_from ts (k + 1) _ ((h.app (asc_str _)).app (ht t List.mem_cons_self)) fun u hu => ht u (List.mem_cons_of_mem _ hu)
mutual
/-- all texts within a thing -/
def ascD : PyData → Prop
  | .none | .bool _ | .int _ => True
  | .str x => Asc x
  | .list xs | .tuple xs => ascAll xs
  | .dict kvs => ascKv kvs
def ascAll : List PyData → Prop
  | [] => True
  | x :: xs => ascD x ∧ ascAll xs
def ascKv : List (PyData × PyData) → Prop
  | [] => True
  | (k, v) :: r => ascD k ∧ ascD v ∧ ascKv r
end
mutual
theorem asc_shown : ∀ d : PyData, ascD d → Asc d.shown
  | .none, _ => asc_str "None"
  | .bool b, _ => by
    simp only [PyData.shown]
    cases b
    · exact asc_str "False"
    · exact asc_str "True"
  | .int i, _ => asc_str (toString i)
  | .str x, h => asc_repr (by simpa [ascD] using h)
  | .list xs, h => by
    simp only [PyData.shown]
    exact (asc_from _ _ _ (asc_str "[") (asc_shownAll xs (by simpa [ascD] using h))).app (asc_str "]")
  | .tuple xs, h => by
    simp only [PyData.shown]
    exact ((asc_str "(").app (asc_join _ (asc_shownAll xs (by simpa [ascD] using h)))).app (asc_str _)
  | .dict kvs, h => by
    simp only [PyData.shown]
    exact ((asc_str "{").app (asc_join _ (asc_shownKv kvs (by simpa [ascD] using h)))).app (asc_str "}")
theorem asc_shownAll : ∀ xs : List PyData, ascAll xs → ∀ t ∈ PyData.shownAll xs, Asc t
  | [], _, t, ht => by
    simp [PyData.shownAll] at ht
  | x :: xs, h, t, ht => by
    have h' : ascD x ∧ ascAll xs := by simpa [ascAll] using h
    simp only [PyData.shownAll, List.mem_cons] at ht
    rcases ht with e | e
    · rw [e]
      exact asc_shown x h'.1
    · exact asc_shownAll xs h'.2 t e
theorem asc_shownKv : ∀ xs : List (PyData × PyData), ascKv xs → ∀ t ∈ PyData.shownKv xs, Asc t
  | [], _, t, ht => by
    simp [PyData.shownKv] at ht
  | (k, v) :: xs, h, t, ht => by
    have h' : ascD k ∧ ascD v ∧ ascKv xs := by simpa [ascKv] using h
    simp only [PyData.shownKv, List.mem_cons] at ht
    rcases ht with e | e
    · rw [e]
      exact ((asc_shown k h'.1).app (asc_str ": ")).app (asc_shown v h'.2.1)
    · exact asc_shownKv xs h'.2.2 t e
end
/-- str of a thing -/
def strD : PyData → Str
  | .str x => x
  | d => d.shown
theorem strD_asc {d : PyData} (h : ascD d) : Asc (strD d) := by
  cases d with
  | str x => simpa [strD, ascD] using h
  | _ => exact asc_shown _ h
theorem len_repr (x : Str) : x.length ≤ (reprText x).length := by
  have grow : ∀ (q : Nat) (l : List Nat) (acc : Array Nat), acc.size + l.length ≤ (l.foldl (fun out c => out ++ (Builtin.Str.reprChar q c).toArray) acc).size := fun q l => by
    induction l with
    | nil => intro acc; simp
    | cons k r ih =>
      intro acc
      have h := ih (acc ++ (Builtin.Str.reprChar q k).toArray)
      have one : 1 ≤ (Builtin.Str.reprChar q k).length := by
        unfold Builtin.Str.reprChar
        dsimp only
        repeat' split
        all_goals simp
        all_goals omega
      rw [List.foldl_cons]
      simp only [Array.size_append, List.size_toArray] at h
      simp only [List.length_cons]
      omega
  have h := grow (reprQuote x) x.cps.toList #[reprQuote x]
  unfold reprText
  show x.length ≤ ((x.cps.foldl (fun out c => out ++ (Builtin.Str.reprChar (reprQuote x) c).toArray) #[reprQuote x]).push (reprQuote x)).size
  rw [Array.size_push, ← Array.foldl_toList]
  have e : x.cps.toList.length = x.length := by simp [Str.length]
  omega
theorem strD_len {d : PyData} : (strD d).length ≤ d.shown.length := by
  cases d with
  | str x =>
    simp only [strD, PyData.shown]
    exact len_repr x
  | _ => exact Nat.le_refl _
section
variable {X : Cx}
def rStrZ (K : PySem.W.Frag) : List V → Hp → VK → Prop := fun xs H Q => ∃ (v : V) (d : PyData), xs = [v] ∧ Dz K H v d ∧ d.showable = true ∧ d.depth ≤ 60 ∧ d.shown.length ≤ sizeLine ∧ Q (.str (strD d)) H
theorem cr_strZ {k : Nat} (quiet : X.A.guards = some []) (room : Room k X.A) : CallR X (.type "str") (rStrZ X.K) := by
  intro pins s σ H xs us Q I r h
  obtain ⟨v, d, rfl, hd, hs, hp, hz, q⟩ := h
  obtain ⟨u, rfl, rx⟩ := vals1 r
  have hu := room.un
  cases hd with
  | non =>
    cases rx
    exact PySem.P.str_of_none ⟨.str _, H, I.tok _, ⟨_, rfl⟩, q⟩
  | bl b =>
    cases rx
    exact PySem.P.str_of_bool ⟨.str _, H, I.tok _, ⟨_, rfl⟩, q⟩
  | int i =>
    obtain ⟨t, rfl⟩ := rx
    exact PySem.P.str_of_int (by simpa [PyData.showable] using hs) ⟨.str _, H, I.tok _, ⟨_, rfl⟩, q⟩
  | str x =>
    obtain ⟨t, rfl⟩ := rx
    exact PySem.P.str_of_str ⟨.str _, H, I, ⟨_, rfl⟩, q⟩
  | lst e n ha =>
    obtain ⟨as, rd, na⟩ := Dz.reads I _ _ u (.lst e n ha) rx
    cases rx
    exact str_of_reads rd hs (fun _ => na) quiet (by omega) (fun _ _ z => z) (fun h' u tk kept => ⟨.str _, H, I.kept kept, ⟨u, rfl⟩, q⟩) hz
  | tup e ha =>
    obtain ⟨as, rd, na⟩ := Dz.reads I _ _ u (.tup e ha) rx
    cases rx
    exact str_of_reads rd hs (fun _ => na) quiet (by omega) (fun _ _ z => z) (fun h' u tk kept => ⟨.str _, H, I.kept kept, ⟨u, rfl⟩, q⟩) hz
  | dct e ha =>
    obtain ⟨as, rd, na⟩ := Dz.reads I _ _ u (.dct e ha) rx
    cases rx
    exact str_of_reads rd hs (fun _ => na) quiet (by omega) (fun _ _ z => z) (fun h' u tk kept => ⟨.str _, H, I.kept kept, ⟨u, rfl⟩, q⟩) hz
end
end Az
set_option Elab.async false
set_option linter.all false
set_option maxRecDepth 100000
set_option maxHeartbeats 4000000
namespace N13
open PySem PySem.Spec PyProof.Rows L2
/-! ## defs that show things: promises where no showing is under way -/
structure Gn (P : Program) (w : World) (K : PySem.W.Frag) (mg : Str → Option Value) (base : Heap) (k : Nat) (f : Addr) (fd : FuncData) (ps : List Str) (sp : Sp) : Prop where
  many : ∀ vs H Q E, sp vs H Q E → vs.length = ps.length
  go : ∀ (A : Around) (outer : List Env) (s : Shared) (H : Hp) (args : Args) (us : List Value) (vs : List V) (Q : VK) (E : XK), A.guards = some [] → Room k A →
    Env0 P w K mg base A outer s H → BindsTo s fd args (ps.zip us) → Vals vs us → sp vs H Q E → codeAny (model P w) A (.call (.ref f) args) (CR CX0 outer P w H s Q E) s
section
variable {P : Program} {w : World} {K : PySem.W.Frag} {mg : Str → Option Value} {base : Heap}
theorem gn_body {x qual : Str} {st : Stmt} {f : Addr} {fd : FuncData} {N ps : List Str} {k : Nat} {sp : Sp} (F : Fun K x qual st f fd) (S : FnScope N ps (defScope st))
    (many : ∀ vs H Q E, sp vs H Q E → vs.length = ps.length)
    (body : ∀ (cdv : Value) (A : Around) (outer : List Env) (s : Shared) (H : Hp) (vs : List V) (Q : VK) (E : XK), A.guards = some [] →
      Room k (A.deeper (envOfC qual (defScope st) s.heap.objs.size f cdv)) → sp vs H Q E →
      ∃ t, PSs (cxOf CX0 P w K mg base N qual (defScope st) f cdv A outer s H E).nox (defBody st) t ∧ t { nx := fun _ H' => Q .non H', rt := Q } (start N vs) H) :
    Gn P w K mg base (k + 1) f fd ps sp := by
  obtain ⟨oc, od, kV, doc, pm, an, cdv, ct, osl, rfl, lk, hcd⟩ := F.ex
  refine ⟨many, fun A outer s H args us vs Q E hg room en bd rv hsp => ?_⟩
  have kin : K.In s.heap := en.mod.kin.keeps fun b o q => (en.bs b o q).1
  refine Att.call_fn kin (en.mod.nolimit.keeps fun b o q => (en.bs b o q).1) lk hcd room.depth bd ?_ (fun s1 inc => ?_) S.co S.gen S.kind
  · refine List.all_eq_true.mpr fun y hy => ?_
    rcases S.par y.1 (List.of_mem_zip (a := y.1) (b := y.2) hy).1 with q | q
    · rw [q]; rfl
    · rw [q]; rfl
  · obtain ⟨t, ht, hq⟩ := body cdv A outer s H vs Q E hg (room.deeper _) hsp
    have I := inv_start (CX := CX0) (E := E) S room.hd en (many _ _ _ _ hsp) rv inc
    refine wpAny_mono (ht.nox.run [] s1 _ H _ I hq) (fun fl s' hs => ?_) fun _ _ z => z
    cases fl with
    | ret u =>
      obtain ⟨v, _, H', J, r, q⟩ := hs
      exact ⟨v, H', J.os, J.bare, J.base, J.hok, r, q⟩
    | next =>
      obtain ⟨_, H', J, q⟩ := hs
      exact ⟨.non, H', J.os, J.bare, J.base, J.hok, rfl, q⟩
    | brk =>
      obtain ⟨_, _, _, z⟩ := hs
      exact False.elim z
    | cont =>
      obtain ⟨_, _, _, z⟩ := hs
      exact False.elim z
end
section
variable {X : Cx} {k : Nat} {f : Addr} {fd : FuncData} {ps : List Str} {sp : Sp} {x : Str} {p pos : Pos} {e : Expr} {es : List Expr} {t : TA}
theorem pe_gn (F : Gn X.prog X.w X.K X.mg X.base k f fd ps sp) (quiet : X.A.guards = some []) (room : Room k X.A) (gl : Gl X x) (mgf : X.mg x = some (.ref f))
    (kp : PySem.W.keepIn X.K (.ref f) = true) (bd : Binds X.K fd ps []) (ha : PA X (e :: es) t) (hdb : (x == ("__debug__" : Str)) = false := by decide)
    (he : starEach (e :: es) X.env = (false, eval e X.env) :: starEach es X.env := by rfl) (hpl : (backTo pos (starEach es X.env)).any (·.1) = false := by rfl) :
    PE X (.Call (.Name x p) (e :: es) [] pos) (tCall sp [] E0 t) := by
  refine ⟨fun pins s σ H Q I h => wpAny_Call_Name_kw (ld_glob I gl mgf ?_ hdb)⟩
  refine PySem.W.callWith_K (h₀ := X.base) I.ok.mod.kin kp ?_ he hpl
  refine thn (ha.run pos pins s σ H _ I h) fun us s1 z => ?_
  obtain ⟨vs, H1, I1, rv, q⟩ := z
  have q' : sp vs H1 Q E0 := by
    have z := q
    rw [List.append_nil] at z
    exact z
  have many : us.length = ps.length := rv.length.symm.trans (F.many _ _ _ _ q')
  have b1 := bd s1 us I1.kIn (by rw [List.append_nil]; exact many)
  rw [List.append_nil] at b1
  refine ⟨I1.kIn, wpAny_call (codeAny_mono (F.go X.A X.stack s1 H1 ⟨us, []⟩ us vs Q E0 quiet room I1.env0 b1 rv q') fun r s' hr => ?_)⟩
  cases r with
  | error z => exact False.elim hr
  | ok fl =>
    cases fl with
    | ret u => exact I1.after hr
    | next => exact False.elim hr
    | brk => exact False.elim hr
    | cont => exact False.elim hr
/-- repr of data at any depth -/
theorem cr_reprD (quiet : X.A.guards = some []) (room : Room k X.A) : CallR X (.builtin "repr") (fun xs H Q => ∃ (a : Addr) (d : PyData), xs = [.ref a] ∧ Dp X.K H (.ref a) d ∧ d.showable = true ∧ d.hasDict = false ∧
    d.depth ≤ 50 ∧ d.shown.length ≤ sizeLine ∧ Q (.str d.shown) H) := by
  intro pins s σ H xs us Q I r h
  obtain ⟨a, d, rfl, hd, hs, hn, hp, hz, q⟩ := h
  obtain ⟨u, rfl, rx⟩ := vals1 r
  obtain ⟨as, rd⟩ := Dp.reads I d _ u hd rx
  cases rx
  have hu := room.units
  exact repr_of_reads' rd hs (fun z => absurd (hn.symm.trans z) Bool.false_ne_true) quiet (by omega) (fun _ _ z => z) (fun h' u tk kept => ⟨.str d.shown, H, I.kept kept, ⟨u, rfl⟩, q⟩) hz
theorem cr_repr_bl : CallR X (.builtin "repr") (fun xs H Q => ∃ b : Bool, xs = [.bl b] ∧ Q (.str (if b then "True" else "False")) H) := by
  intro pins s σ H xs us Q I r h
  obtain ⟨b, rfl, q⟩ := h
  obtain ⟨u, rfl, rx⟩ := vals1 r
  cases rx
  exact PySem.P.repr_of_bool ⟨.str _, H, I.tok _, ⟨_, rfl⟩, q⟩
end
end N13
set_option Elab.async false
set_option linter.all false
set_option maxRecDepth 100000
set_option maxHeartbeats 4000000
namespace N13
open PySem PySem.Spec PyProof.Rows L2
theorem law_go {P : Program} {w : World} {K : PySem.W.Frag} {mg mb : Str → Option Value} {k : Nat} {fa a : Addr} {fd : FuncData} {x : Str} {sp : Sp} {z : Shared} {vs : List Value} {ns : List Int}
    (kin : K.In z.heap) (nsG : z.heap.Ns mainGlobals mg) (nsB : z.heap.Ns builtinsNs mb) (same : ∀ y : Str, y ≠ "__name__" → mb y = bootBuiltins y) (lim : z.heap.NoLimit) (dig : z.heap.NoDigits) (no : z.gens = #[])
    (at_ : z.heap.get? a = some { cls := .type "list", data := .seq vs.toArray }) (intsA : IntsAre vs ns) (many : ns.length ≤ sizeLine) (room : Room k callerA)
    (F : ∀ base : Heap, K.In base → base.Ns mainGlobals mg → base.NoDigits → Gn P w K mg base k fa fd [x] sp) (bind : ∀ (s : Shared) (u : Value), BindsTo s fd ⟨[u], []⟩ [(x, u)])
    (hsp : ∀ H : Hp, SqL K H a (ns.map V.int) → sp [.ref a] H (fun v _ => v = .bl true) fun _ _ _ => False) :
    codeAny (model P w) callerA (.call (.ref fa) ⟨[.ref a], []⟩) (fun r s' => r = .ok (.ret (.bool true)) ∧ OldK z.heap s'.heap ∧ s'.os = z.os ∧ AllBare s'.gens) z := by
  have rv : Vals (ns.map V.int) vs := vals_ints intsA
  have sz : (ns.map V.int).length ≤ sizeLine := by rw [List.length_map]; exact many
  -- what is tracked: the script, unless it is the module's own
  let u : HO := .frz { cls := .type "list", data := .seq vs.toArray } (.lst (ns.map V.int))
  let H : Hp := fun b => if b = a ∧ K.lookup a = none then some u else none
  have only : ∀ b o, H b = some o → b = a ∧ K.lookup a = none ∧ o = u := fun b o e => by
    by_cases c : b = a ∧ K.lookup a = none
    · have e2 : H b = some u := if_pos c
      rw [e2] at e
      exact ⟨c.1, c.2, (Option.some.inj e).symm⟩
    · have e2 : H b = none := if_neg c
      rw [e2] at e
      cases e
  have sq : SqL K H a (ns.map V.int) := by
    cases hk : K.lookup a with
    | none => exact .inl (.inr ⟨_, if_pos ⟨rfl, hk⟩⟩)
    | some o =>
      have e := kin a o hk
      rw [at_] at e
      cases e
      exact .inr ⟨_, vs.toArray, _, hk, rfl, rfl, rfl, by rw [List.size_toArray, ← rv.length]; exact sz, by simpa using rv⟩
  have hok : HOk P w H z.heap := fun b o e => by
    obtain ⟨rfl, _, rfl⟩ := only b o e
    exact ⟨at_, sz, vs, _, rv, at_⟩
  have dictFree : ∀ {b : Addr} {o : Obj} {es : Array DictEntry} {ep : Nat}, z.heap.get? b = some o → o.data = .dict es ep → H b = none := fun {b o es ep} e d => by
    cases q : H b with
    | none => rfl
    | some v =>
      obtain ⟨rfl, _, _⟩ := only b v q
      rw [at_] at e
      cases e
      cases (show Data.seq vs.toArray _ = Data.dict es ep from d)
  have nsK : ∀ {b : Addr} {m : Str → Option Value}, z.heap.Ns b m → (hidT z.heap H).Ns b m := fun {b m} q => by
    obtain ⟨o, es, ep, e, d, r⟩ := q
    exact ⟨o, es, ep, hidT_get e (dictFree e d), d, r⟩
  have kb : K.In (hidT z.heap H) := fun b o e => by
    refine hidT_get (kin b o e) ?_
    cases q : H b with
    | none => rfl
    | some v =>
      obtain ⟨rfl, n, _⟩ := only b v q
      rw [n] at e
      cases e
  have limB : (hidT z.heap H).NoLimit := by
    obtain ⟨mc, h1, h2⟩ := lim
    exact ⟨mc, nsK h1, h2⟩
  have digB : (hidT z.heap H).NoDigits := by
    obtain ⟨mc, h1, h2⟩ := dig
    exact ⟨mc, nsK h1, h2⟩
  have en : Env0 P w K mg (hidT z.heap H) callerA [] z H :=
    ⟨rfl, ⟨kb, nsK nsG, ⟨mb, nsK nsB, same⟩, limB⟩, fun _ _ e => of_hidT e, Nat.le_of_eq (hidT_size _ _), trivial, (fun b hb => absurd (show b ∈ ([] : List Addr) from hb) List.not_mem_nil), hok, .of_eq no⟩
  refine codeAny_mono ((F _ kb (nsK nsG) digB).go callerA [] z H ⟨[.ref a], []⟩ [.ref a] [.ref a] _ _ rfl room en (bind z (.ref a)) (.cons rfl .nil) (hsp H sq)) fun r s' h => ?_
  match r, h with
  | .error e, h => exact False.elim h
  | .ok .next, h => exact False.elim h
  | .ok .brk, h => exact False.elim h
  | .ok .cont, h => exact False.elim h
  | .ok (.ret y), h =>
    obtain ⟨v, H', os, bare, un, hok', r', q⟩ := h
    obtain rfl : v = .bl true := q
    obtain rfl : y = Value.bool true := r'
    refine ⟨rfl, OldK.of_keep fun b o e => ?_, os, bare⟩
    cases q : H b with
    | none => exact un.keep b o e q (fun y => by cases y) (fun y => by cases y)
    | some v =>
      obtain ⟨rfl, _, rfl⟩ := only b v q
      have e2 := (hok' _ _ (un.frzs _ _ _ q)).1
      rw [at_] at e
      cases e
      exact e2
theorem walk_go {l : PySem.W.OpenLaw} {n k : Nat} {q : Program} {loose : List Str} {XP : (Str → Option Value) → Heap → Prop} {YP : World → Heap → Prop} {d : DefRec} {K : Params → PySem.W.Frag} {sp : PySem.W.Frag → Sp} {x : Str}
    (most : l.most = some n) (small : n ≤ sizeLine) (nodef : d.params.defaults = []) (room : Room k callerA) (hY : ∀ (w : World) (h : Heap), YP w h → (K w.params).In h)
    (F : ∀ (w : World) (mg : Str → Option Value) (fa : Addr) (h : Heap), (K w.params).In h → h.Ns mainGlobals mg → mg d.name = some (.ref fa) →
      ∃ fd : FuncData, (∀ (s : Shared) (u : Value), BindsTo s fd ⟨[u], []⟩ [(x, u)]) ∧ ∀ base : Heap, (K w.params).In base → base.Ns mainGlobals mg → base.NoDigits →
        Gn l.prog w (K w.params) mg base k fa fd [x] (sp (K w.params)))
    (hsp : ∀ (K : PySem.W.Frag) (H : Hp) (a : Addr) (ns : List Int), ns.length ≤ n → SqL K H a (ns.map V.int) → sp K [.ref a] H (fun v _ => v = .bl true) fun _ _ _ => False) :
    PySem.W.WalkO q loose XP YP l.row.toRowW d [] (fun f vs => PySem.call f vs) := by
  refine Att.attach_call most nodef fun w s₀ s₁ mg mb fa o pm cd doc a vs ns G Y _ _ _ hmg hobj hints hlen hg => ?_
  have kin := hY w _ Y
  obtain ⟨fd, hb, hF⟩ := F w mg fa _ kin G.T.g hmg
  exact law_go kin G.T.g G.T.b G.T.builtins G.T.nolimit G.T.nodigits hg hobj hints (Nat.le_trans hlen small) room hF hb fun H hS => hsp _ H a ns hlen hS
end N13
set_option Elab.async false
set_option linter.all false
set_option maxRecDepth 100000
set_option maxHeartbeats 4000000
set_option pp.maxSteps 400
set_option pp.deepTerms false
namespace N13
open PySem PySem.Spec PyProof.Rows L2
open Xk Az
def top (i : Nat) : Stmt := PySem.Challenge.pw_takesworks_k13_names_of_anything.main.body.getD i (.Pass ⟨0, 0, 0, 0⟩)
abbrev sIsTextOf : Stmt := top 2
abbrev sIsSmallText : Stmt := top 3
abbrev sIsTongue : Stmt := top 9
abbrev sIsNameText : Stmt := top 10
abbrev sIsName : Stmt := top 11
abbrev sHand : Stmt := top 13
abbrev sTake : Stmt := top 14
abbrev sPick : Stmt := top 15
abbrev sWord : Stmt := top 16
abbrev sText : Stmt := top 17
abbrev sNames : Stmt := top 18
abbrev sLawIsName : Stmt := top 19
abbrev sSpoiltText : Stmt := top 20
abbrev sSpoilt : Stmt := top 21
abbrev sDeep : Stmt := top 22
abbrev sLaw : Stmt := top 23
theorem scIsTextOf : FnScope ["thing", "signs", "least", "most", "sign"] ["thing", "signs", "least", "most"] (defScope sIsTextOf) := ⟨rfl, rfl, rfl, by decide +kernel, rfl, by decide +kernel, by decide +kernel⟩
theorem scIsSmallText : FnScope ["thing", "least", "most"] ["thing", "least", "most"] (defScope sIsSmallText) := ⟨rfl, rfl, rfl, by decide +kernel, rfl, by decide +kernel, by decide +kernel⟩
theorem scIsTongue : FnScope ["thing"] ["thing"] (defScope sIsTongue) := ⟨rfl, rfl, rfl, by decide +kernel, rfl, by decide +kernel, by decide +kernel⟩
theorem scIsNameText : FnScope ["thing"] ["thing"] (defScope sIsNameText) := ⟨rfl, rfl, rfl, by decide +kernel, rfl, by decide +kernel, by decide +kernel⟩
theorem scIsName : FnScope ["thing"] ["thing"] (defScope sIsName) := ⟨rfl, rfl, rfl, by decide +kernel, rfl, by decide +kernel, by decide +kernel⟩
theorem scHand : FnScope ["_law_script", "_law_own", "_law_mixed", "_law_cell"] ["_law_script"] (defScope sHand) := ⟨rfl, rfl, rfl, by decide +kernel, rfl, by decide +kernel, by decide +kernel⟩
theorem scTake : FnScope ["_law_hand_here", "_law_many", "_law_digit", "_law_once", "_law_twice"] ["_law_hand_here", "_law_many"] (defScope sTake) := ⟨rfl, rfl, rfl, by decide +kernel, rfl, by decide +kernel, by decide +kernel⟩
theorem scPick : FnScope ["_law_hand_here", "_law_some"] ["_law_hand_here", "_law_some"] (defScope sPick) := ⟨rfl, rfl, rfl, by decide +kernel, rfl, by decide +kernel, by decide +kernel⟩
theorem scWord : FnScope ["_law_hand_here", "_law_least", "_law_most", "_law_letters", "_law_k"] ["_law_hand_here", "_law_least", "_law_most"] (defScope sWord) := ⟨rfl, rfl, rfl, by decide +kernel, rfl, by decide +kernel, by decide +kernel⟩
theorem scText : FnScope ["_law_hand_here", "_law_many", "_law_signs", "_law_found", "_law_k", "_law_sign"] ["_law_hand_here", "_law_many"] (defScope sText) := ⟨rfl, rfl, rfl, by decide +kernel, rfl, by decide +kernel, by decide +kernel⟩
theorem scNames : FnScope ["_law_hand_here", "_law_many", "_law_signs", "_law_k", "_law_tongues", "_law_stem", "_law_at", "_law_found", "_law_name", "_law_twin"] ["_law_hand_here", "_law_many"] (defScope sNames) := ⟨rfl, rfl, rfl, by decide +kernel, rfl, by decide +kernel, by decide +kernel⟩
theorem scLawIsName : FnScope ["_law_thing", "_law_small", "_law_part", "_law_sign"] ["_law_thing"] (defScope sLawIsName) := ⟨rfl, rfl, rfl, by decide +kernel, rfl, by decide +kernel, by decide +kernel⟩
theorem scSpoiltText : FnScope ["_law_hand_here", "_law_text_here", "_law_at", "_law_way", "_law_sign", "_law_some"] ["_law_hand_here", "_law_text_here"] (defScope sSpoiltText) := ⟨rfl, rfl, rfl, by decide +kernel, rfl, by decide +kernel, by decide +kernel⟩
theorem scSpoilt : FnScope ["_law_hand_here", "_law_name", "_law_way", "_law_part", "_law_odd", "_law_text_here"] ["_law_hand_here", "_law_name"] (defScope sSpoilt) := ⟨rfl, rfl, rfl, by decide +kernel, rfl, by decide +kernel, by decide +kernel⟩
theorem scDeep : FnScope ["_law_hand_here", "_law_thing", "_law_turn"] ["_law_hand_here"] (defScope sDeep) := ⟨rfl, rfl, rfl, by decide +kernel, rfl, by decide +kernel, by decide +kernel⟩
theorem scLaw : FnScope ["_law_script", "_law_hand_here", "_law_turn", "_law_name", "_law_thing", "_law_kept", "_law_found", "_law_k"] ["_law_script"] (defScope sLaw) := ⟨rfl, rfl, rfl, by decide +kernel, rfl, by decide +kernel, by decide +kernel⟩
def offS (A : List Addr) (H : Hp) : Hp := fun b => if b ∈ A then none else H b
theorem offS_all {A : List Addr} {H : Hp} : L2.Same (offS A H) H := fun b o e => by
  unfold offS at e
  split at e
  · cases e
  · exact e
theorem offS_at {A : List Addr} {H : Hp} {p : Addr} {o : HO} (n : p ∉ A) (e : H p = some o) : offS A H p = some o := by
  unfold offS
  rw [if_neg n, e]
theorem offS_upd {A : List Addr} {H : Hp} {p : Addr} {o : HO} (m : p ∈ A) : L2.Same (offS A H) (offS A (upd H p o)) := fun b x e => by
  unfold offS at e
  split at e
  · cases e
  · rename_i n
    exact offS_at n (by rw [upd_ne (show b ≠ p from fun z => n (by rw [z]; exact m))]; exact e)
theorem offS_less {A B : List Addr} {H : Hp} (s : ∀ b ∈ B, b ∈ A) : L2.Same (offS A H) (offS B H) := fun b x e => by
  unfold offS at e
  split at e
  · cases e
  · rename_i n
    exact offS_at (fun m => n (s b m)) e
theorem new_off {A : List Addr} {H : Hp} {p : Addr} (ex : ∀ a ∈ A, H a ≠ none) (np : H p = none) : p ∉ A := fun m => ex p m np
theorem exS {A : List Addr} {H H' : Hp} (ex : ∀ a ∈ A, H a ≠ none) (s : L2.Same H H') : ∀ a ∈ A, H' a ≠ none := fun a m z => by
  cases e : H a with
  | none => exact ex a m e
  | some o =>
    rw [s a o e] at z
    cases z
theorem same_upd {H : Hp} {p : Addr} {o : HO} (h : H p = none) : L2.Same H (upd H p o) := fun b x e => by
  rw [upd_ne (ne_of_none e h)]
  exact e
def Bt (A : List Addr) (H H' : Hp) : Prop := ∀ b x, b ∉ A → H b = some x → H' b = some x
theorem Bt.refl (A : List Addr) (H : Hp) : Bt A H H := fun _ _ _ e => e
theorem Bt.trans {A : List Addr} {H H1 H2 : Hp} (p : Bt A H H1) (q : Bt A H1 H2) : Bt A H H2 := fun b o n e => q b o n (p b o n e)
theorem Bt.of {A : List Addr} {H H' : Hp} (s : L2.Same H H') : Bt A H H' := fun b o _ e => s b o e
theorem Bt.off {A : List Addr} {H H' : Hp} (s : Bt A H H') : L2.Same (offS A H) (offS A H') := fun b o e => by
  unfold offS at e
  split at e
  · cases e
  · rename_i n
    exact offS_at n (s b o n e)
/-- a hand: where it stands, where its own numbers stand -/
def Hd (h o : Addr) (n : Int) (H : Hp) : Prop := ∃ (gs : List Int) (m c : Int), H h = some (.lst [.ref o, .int m, .int c]) ∧ H o = some (.lst (gs.map V.int)) ∧ o ≠ h ∧ (∀ g ∈ gs, 0 ≤ g) ∧ gs.length ≤ 63 ∧ 0 ≤ m ∧ m < 2305843009213693951 ∧ 0 ≤ c ∧ c ≤ n
theorem Hd.mono {h o : Addr} {n n' : Int} {H : Hp} (a : Hd h o n H) (l : n ≤ n') : Hd h o n' H := by
  obtain ⟨gs, m, c, r1, r2, r3, r4, r5, r6, r7, r8, r9⟩ := a
  exact ⟨gs, m, c, r1, r2, r3, r4, r5, r6, r7, r8, Int.le_trans r9 l⟩
theorem Hd.same {h o : Addr} {n : Int} {H H' : Hp} (a : Hd h o n H) (s : L2.Same H H') : Hd h o n H' := by
  obtain ⟨gs, m, c, r1, r2, r⟩ := a
  exact ⟨gs, m, c, s _ _ r1, s _ _ r2, r⟩
theorem Hd.upd {h o p : Addr} {n : Int} {H : Hp} {x : HO} (a : Hd h o n H) (np : p ∉ [h, o]) : Hd h o n (L2.upd H p x) := by
  obtain ⟨gs, m, c, r1, r2, r⟩ := a
  have q1 : h ≠ p := fun z => np (by rw [z]; simp)
  have q2 : o ≠ p := fun z => np (by rw [z]; simp)
  exact ⟨gs, m, c, by rw [upd_ne q1]; exact r1, by rw [upd_ne q2]; exact r2, r⟩
theorem Hd.here {h o : Addr} {n : Int} {H : Hp} (a : Hd h o n H) : ∀ b ∈ [h, o], H b ≠ none := fun b mb z => by
  obtain ⟨gs, m, c, r1, r2, r⟩ := a
  simp only [List.mem_cons, List.not_mem_nil, or_false] at mb
  rcases mb with e | e
  · rw [e, r1] at z; cases z
  · rw [e, r2] at z; cases z
theorem Hd.fresh {h o p : Addr} {n : Int} {H : Hp} (a : Hd h o n H) (np : H p = none) : p ∉ [h, o] := fun m => a.here p m np
end N13
set_option Elab.async false
set_option linter.all false
set_option maxRecDepth 100000
set_option maxHeartbeats 4000000
set_option pp.maxSteps 400
set_option pp.deepTerms false
namespace N13
open PySem PySem.Spec PyProof.Rows L2
open Xk Az
section
variable {P : Program} {w : World} {K : PySem.W.Frag} {mg : Str → Option Value} {base : Heap}
/-- a def that may be called by its name -/
structure Ca (P : Program) (w : World) (K : PySem.W.Frag) (mg : Str → Option Value) (base : Heap) (k : Nat) (x : Str) (ps : List Str) (sp : Sp) : Prop where
  ex : ∃ (f : Addr) (fd : FuncData), FnOk P w K mg base CX0 k f fd ps sp ∧ mg x = some (.ref f) ∧ PySem.W.keepIn K (.ref f) = true ∧ Binds K fd ps []
/-- a def of the text, as the head finds it -/
structure Df (K : PySem.W.Frag) (mg : Str → Option Value) (x : Str) (ps : List Str) (st : Stmt) (f : Addr) (fd : FuncData) : Prop where
  fn : Fun K x x st f fd
  mgf : mg x = some (.ref f)
  bd : Binds K fd ps []
theorem Df.ca {k : Nat} {x : Str} {ps : List Str} {st : Stmt} {f : Addr} {fd : FuncData} {sp : Sp} (d : Df K mg x ps st f fd)
    (h : FnOk P w K mg base CX0 k f fd ps sp) : Ca P w K mg base k x ps sp := ⟨f, fd, h, d.mgf, d.fn.kp, d.bd⟩
section
variable {X : Cx} {k j : Nat} {x : Str} {ps : List Str} {sp : Sp} {p pos : Pos} {e : Expr} {es : List Expr} {t : TA}
theorem pe_ca (c : Ca X.prog X.w X.K X.mg X.base k x ps sp) (hr : Room j X.A) (hk : k ≤ j) (hg : Gl X x) (ha : PA X (e :: es) t) (hdb : (x == ("__debug__" : Str)) = false := by decide)
    (he : starEach (e :: es) X.env = (false, eval e X.env) :: starEach es X.env := by rfl) (hpl : (backTo pos (starEach es X.env)).any (·.1) = false := by rfl) :
    PE X (.Call (.Name x p) (e :: es) [] pos) (tCall sp [] E0 t) := by
  obtain ⟨f, fd, F, hm, kp, b⟩ := c.ex
  exact pe_call F (hr.mono hk) hg hm kp b .nil pass0 ha hdb he hpl
end
def small : Str := "abcdefghijklmnopqrstuvwxyz"
def signs : Str := "abcdefghijklmnopqrstuvwxyzABCDEFGHIJKLMNOPQRSTUVWXYZ0123456789 '-."
/-- what the top has left, besides the defs -/
structure Txt (K : PySem.W.Frag) (mg : Str → Option Value) : Prop where
  sm : ∃ t, mg "SMALL_LETTERS" = some (.str small t)
  sg : ∃ t, mg "TEXT_SIGNS" = some (.str signs t)
  st : ∃ t, mg "SHORTEST_TONGUE" = some (.int 2 t)
  lt : ∃ t, mg "LONGEST_TONGUE" = some (.int 3 t)
  lx : ∃ t, mg "LONGEST_TEXT" = some (.int 40 t)
  isi : mg "isinstance" = none
  str : mg "str" = none
  tuple : mg "tuple" = none
  len : mg "len" = none
  all : mg "all" = none
  range : mg "range" = none
  repr : mg "repr" = none
  list : mg "list" = none
  max : mg "max" = none
  min : mg "min" = none
  bool : mg "bool" = none
abbrev far : Int := 1000000
def spHand (K : PySem.W.Frag) : Sp := fun vs H Q _ => ∃ (a : Addr) (ns : List Int), vs = [.ref a] ∧ SqL K H a (ns.map V.int) ∧ ns.length ≤ 63 ∧ ∀ h o H', Hd h o 0 H' → L2.Same H H' → H h = none → H o = none → Q (.ref h) H'
def spTake : Sp := fun vs H Q _ => ∃ (h o : Addr) (many n : Int), vs = [.ref h, .int many] ∧ 0 < many ∧ many < 1000000 ∧ Hd h o n H ∧ n ≤ far ∧
  ∀ d H', 0 ≤ d → d < many → Hd h o (n + 1) H' → Bt [h, o] H H' → Q (.int d) H'
theorem dpAll_ints {H : Hp} : ∀ gs : List Int, DpAll K H (gs.map V.int) (gs.map PyData.int)
  | [] => .nil
  | g :: r => .cons (.int g) (dpAll_ints r)
theorem lay_ints : ∀ gs : List Int, PyData.canLayAll0 (gs.map PyData.int) = true
  | [] => by simp [PyData.canLayAll0]
  | g :: r => by simp [PyData.canLayAll0, PyData.canLay0, lay_ints r]
theorem depth_ints : ∀ gs : List Int, PyData.depthAll (gs.map PyData.int) ≤ 1
  | [] => by simp [PyData.depthAll]
  | g :: r => by
    have := depth_ints r
    simp only [List.map_cons, PyData.depthAll, PyData.depth]
    omega
theorem shaped_ints (gs : List Int) : SeqAt.shaped (.list (gs.map PyData.int)) = true := by
  unfold SeqAt.shaped
  have := depth_ints gs
  have h1 : (PyData.list (gs.map PyData.int)).canLay0 = true := by simp only [PyData.canLay0]; exact lay_ints gs
  have h2 : (PyData.list (gs.map PyData.int)).depth ≤ 64 := by simp only [PyData.depth]; omega
  rw [h1, decide_eq_true h2]
  rfl
theorem eqv_nil : PyData.eqv (.list (([] : List Int).map PyData.int)) (.list []) = true := by simp [PyData.eqv, PyData.eqvAll]
theorem eqv_cons (g : Int) (r : List Int) : PyData.eqv (.list ((g :: r).map PyData.int)) (.list []) = false := by simp [PyData.eqv, PyData.eqvAll]
theorem ixN_nat {n j : Nat} (h : j < n) : ixN n (j : Int) = some j := by
  unfold ixN
  rw [if_pos (by omega), if_pos (by omega)]
  simp
theorem wide30 {g many : Int} (m1 : 0 < many) (m2 : many < 1000000) : CDivW g many := by
  have h : (1000000 : Int) < 2 ^ 110 := by decide
  exact wide_div (b := 110) m1 (by omega) (by decide) (by decide)
theorem ok_take {f : Addr} {fd : FuncData} (D : Df K mg "_law_take" ["_law_hand_here", "_law_many"] sTake f fd)  : FnOk P w K mg base CX0 1 f fd ["_law_hand_here", "_law_many"] spTake := by
  refine D.fn.ok scTake (fun vs H Q E h => ?_) (fun cdv A outer s H vs Q E hr h => ?_)
  · obtain ⟨h, o, many, n, rfl, m1, m2, hd, hn, q⟩ := h
    rfl
  · obtain ⟨h, o, many, n, rfl, m1, m2, hd, hn, q⟩ := h
    refine ⟨_, (pss_cons (ps_asg (pe_op op_add (pe_ix ix_list (pv 0) pe_int (fun _ _ => rfl)) pe_int) (pg_sub (pv 0) pe_int set_list))
      (pss_cons (ps_while PassesOwn.never (PW.pt (pw_and (pt_cmpR (op_neD hr.units) (pe_ix ix_list (pv 0) pe_int (fun _ _ => rfl)) (pe_lst pa_nil) (nomark _)) (pw_and1 (pt_cmpR op_eq (pe_ix ix_list (pe_ix ix_list (pv 0) pe_int (fun _ _ => rfl)) pe_int (fun _ _ => rfl)) pe_int (nomark _))))) (pss_one (ps_expr (pe_bm PySem.F.plainAttrs_list PySem.F.slot_list_pop PySem.F.type_list_pop mt_popAt (pe_ix ix_list (pv 0) pe_int (fun _ _ => rfl)) (pa_cons pe_int pa_nil)))))
      (pss_cons (ps_if (pt_cmpR (op_neD hr.units) (pe_ix ix_list (pv 0) pe_int (fun _ _ => rfl)) (pe_lst pa_nil) (nomark _)) (pss_cons (ps_set (i := 2) scTake.nd rfl (.inl rfl) (pe_op op_mod (pe_ix ix_list (pe_ix ix_list (pv 0) pe_int (fun _ _ => rfl)) pe_int (fun _ _ => rfl)) (pv 1)))
      (pss_cons (ps_asg (pe_op op_fdivW (pe_ix ix_list (pe_ix ix_list (pv 0) pe_int (fun _ _ => rfl)) pe_int (fun _ _ => rfl)) (pv 1)) (pg_sub (pe_ix ix_list (pv 0) pe_int (fun _ _ => rfl)) pe_int set_list))
      (pss_one (ps_ret (pv 2))))) pss_nil)
      (pss_cons (ps_set (i := 3) scTake.nd rfl (.inl rfl) (pe_op op_mod (pe_op op_mul (pe_op op_add (pe_ix ix_list (pv 0) pe_int (fun _ _ => rfl)) (pe_op op_mul pe_int (pe_ix ix_list (pv 0) pe_int (fun _ _ => rfl)))) pe_int) pe_int))
      (pss_cons (ps_set (i := 4) scTake.nd rfl (.inl rfl) (pe_op op_add (pe_op op_mul (pv 3) (pe_op op_add (pe_op op_fdiv (pv 3) pe_int) pe_int)) (pe_op op_mul (pe_ix ix_list (pv 0) pe_int (fun _ _ => rfl)) (pe_ix ix_list (pv 0) pe_int (fun _ _ => rfl)))))
      (pss_one (ps_ret (pe_op op_mod (pe_op op_fdiv (pe_op op_mod (pv 4) pe_int) pe_int) (pv 1))))))))), ?_⟩
    obtain ⟨gs, m, c, eh, eo, oh, g0, gl, k0, k1, c0, c1⟩ := hd
    have far' : n ≤ 1000000 := hn
    refine ⟨_, rfl, h, _, 2, _, rfl, rfl, SqL.of eh, atI_nat (j := 2) rfl, c, 1, rfl, rfl, _, rfl, h, _, 2, 2, rfl, rfl, eh, rfl, ?_⟩
    have eh2 : (upd H h (.lst [.ref o, .int m, .int (c + 1)])) h = some (.lst [.ref o, .int m, .int (c + 1)]) := upd_same
    have eo2 : (upd H h (.lst [.ref o, .int m, .int (c + 1)])) o = some (.lst (gs.map V.int)) := by rw [upd_ne oh]; exact eo
    have b2 : Bt [h, o] H (upd H h (.lst [.ref o, .int m, .int (c + 1)])) := fun b x nb e => by
      rw [upd_ne (fun z => nb (by rw [z]; simp))]
      exact e
    have dl : ∀ {Hi : Hp} {gs : List Int}, Hi o = some (.lst (gs.map V.int)) → Dp K Hi (.ref o) (.list (gs.map PyData.int)) := fun {Hi gs} e => .lst (SqL.of e) (dpAll_ints gs)
    refine ⟨fun k σ Hi => ∃ gs' : List Int, σ = [some (.ref h), some (.int many), none, none, none] ∧ Hi h = some (.lst [.ref o, .int m, .int (c + 1)]) ∧ Hi o = some (.lst (gs'.map V.int)) ∧ (∀ g ∈ gs', 0 ≤ g) ∧ gs'.length ≤ 63 ∧ gs'.length = k ∧ Bt [h, o] H Hi, ⟨_, gs, rfl, eh2, eo2, g0, gl, rfl, b2⟩, ?_⟩
    rintro k σ Hi ⟨gs', rfl, ehi, eoi, gi0, gil, gik, bi⟩
    refine ⟨_, rfl, h, _, 0, .ref o, rfl, rfl, SqL.of ehi, atI_nat (j := 0) rfl, (by show 0 ≤ sizeLine; decide), fun l nl => ?_⟩
    have s1 := same_upd nl (o := .lst [])
    refine ⟨_, _, dl (s1 _ _ eoi), .lst (SqL.of upd_same) .nil, shaped_ints _, rfl, ?_⟩
    have ehl := s1 _ _ ehi
    have eol := s1 _ _ eoi
    have bl := bi.trans (Bt.of s1)
    clear eh eo eh2 eo2 b2 ehi eoi
    generalize upd Hi l (.lst []) = Hl at ehl eol bl ⊢
    cases gs' with
    | nil =>
      refine ⟨false, by rw [eqv_nil]; rfl, iteF ?_⟩
      refine ⟨_, rfl, h, _, 0, .ref o, rfl, rfl, SqL.of ehl, atI_nat (j := 0) rfl, (by show 0 ≤ sizeLine; decide), fun l2 nl2 => ?_⟩
      have s2 := same_upd nl2 (o := .lst [])
      have eh3 := s2 _ _ ehl
      have eo3 := s2 _ _ eol
      have b3 := bl.trans (Bt.of s2)
      refine ⟨_, _, dl eo3, .lst (SqL.of upd_same) .nil, shaped_ints _, rfl, false, by rw [eqv_nil]; rfl, iteF ?_⟩
      generalize upd Hl l2 (.lst []) = H3 at eh3 eo3 b3 ⊢
      have sq := SqL.of (K := K) eh3
      refine ⟨_, rfl, h, _, 1, _, rfl, rfl, sq, atI_nat (j := 1) rfl, _, rfl, h, _, 2, _, rfl, rfl, sq, atI_nat (j := 2) rfl, 104729, c + 1, rfl, rfl, .inl (by decide), m, _, rfl, rfl, _, 6364136223846793005, rfl, rfl, .inr (by decide), _, 2305843009213693921, rfl, rfl, (by show (0 : Int) < 2305843009213693921; decide), ?_⟩
      generalize (m + 104729 * (c + 1)) * 6364136223846793005 = z
      have z0 : 0 ≤ z % 2305843009213693921 := Int.emod_nonneg _ (by decide)
      have z1 : z % 2305843009213693921 < 2305843009213693921 := Int.emod_lt_of_pos _ (by decide)
      refine ⟨_, rfl, _, rfl, _, 1000003, rfl, rfl, ⟨by decide, by decide⟩, _, 3, rfl, rfl, _, _, rfl, rfl, .inl (by omega), _, rfl, h, _, 2, _, rfl, rfl, sq, atI_nat (j := 2) rfl, _, rfl, h, _, 2, _, rfl, rfl, sq, atI_nat (j := 2) rfl, c + 1, c + 1, rfl, rfl, .inl (by omega), _, _, rfl, rfl, ?_⟩
      refine ⟨_, rfl, _, 2305843009213693907, rfl, rfl, (by show (0 : Int) < 2305843009213693907; decide), _, 8191, rfl, rfl, ⟨by decide, by decide⟩, _, rfl, _, many, rfl, rfl, m1, ?_⟩
      exact q _ _ (Int.emod_nonneg _ (by omega)) (Int.emod_lt_of_pos _ m1) ⟨[], m, c + 1, eh3, eo3, oh, gi0, by simp, k0, k1, by omega, by omega⟩ b3
    | cons g r =>
      refine ⟨true, by rw [eqv_cons]; rfl, iteT ?_⟩
      refine ⟨_, rfl, h, _, 0, .ref o, rfl, rfl, SqL.of ehl, atI_nat (j := 0) rfl, o, _, 0, .int g, rfl, rfl, SqL.of eol, atI_nat (j := 0) rfl, rfl, _, rfl, ite2 (fun e => ?_) (fun e => ?_)⟩
      · refine ⟨fun σ' H' => ∃ gs' : List Int, σ' = [some (.ref h), some (.int many), none, none, none] ∧ H' h = some (.lst [.ref o, .int m, .int (c + 1)]) ∧ H' o = some (.lst (gs'.map V.int)) ∧ (∀ g ∈ gs', 0 ≤ g) ∧ gs'.length ≤ 63 ∧ gs'.length = r.length ∧ Bt [h, o] H H', fun σ' H' w => ⟨r.length, by rw [← gik]; simp, w⟩, ?_⟩
        refine ⟨_, rfl, h, _, 0, .ref o, rfl, rfl, SqL.of ehl, atI_nat (j := 0) rfl, (.inl ⟨rfl, _, SqL.of eol⟩), ?_⟩
        refine ⟨o, _, 0, 0, .int g, rfl, rfl, eol, by decide, by decide, seqIndex_of (by decide) (by simp), rfl, ?_⟩
        refine ⟨r, rfl, by rw [upd_ne (Ne.symm oh)]; exact ehl, upd_same, fun x hx => gi0 x (List.mem_cons_of_mem _ hx), by simp at gil; omega, rfl, fun b x nb e => ?_⟩
        rw [upd_ne (fun z => nb (by rw [z]; simp))]
        exact bl b x nb e
      · refine ⟨_, rfl, h, _, 0, .ref o, rfl, rfl, SqL.of ehl, atI_nat (j := 0) rfl, (by show 0 ≤ sizeLine; decide), fun l2 nl2 => ?_⟩
        have s2 := same_upd nl2 (o := .lst [])
        have eh3 := s2 _ _ ehl
        have eo3 := s2 _ _ eol
        have b3 := bl.trans (Bt.of s2)
        refine ⟨_, _, dl eo3, .lst (SqL.of upd_same) .nil, shaped_ints _, rfl, true, by rw [eqv_cons]; rfl, iteT ?_⟩
        generalize upd Hl l2 (.lst []) = H3 at eh3 eo3 b3 ⊢
        have sq := SqL.of (K := K) eh3
        have so := SqL.of (K := K) eo3
        refine ⟨_, rfl, h, _, 0, .ref o, rfl, rfl, sq, atI_nat (j := 0) rfl, o, _, 0, .int g, rfl, rfl, so, atI_nat (j := 0) rfl, _, rfl, g, many, rfl, rfl, m1, ?_⟩
        refine ⟨_, rfl, h, _, 0, .ref o, rfl, rfl, sq, atI_nat (j := 0) rfl, o, _, 0, .int g, rfl, rfl, so, atI_nat (j := 0) rfl, _, rfl, g, many, rfl, rfl, wide30 m1 m2, ?_⟩
        refine ⟨_, rfl, h, _, 0, .ref o, rfl, rfl, sq, atI_nat (j := 0) rfl, o, _, 0, 0, rfl, rfl, eo3, ixN_nat (j := 0) (by simp), ?_⟩
        refine ⟨_, rfl, q _ _ (Int.emod_nonneg _ (by omega)) (Int.emod_lt_of_pos _ m1) ⟨g / many :: r, m, c + 1, by rw [upd_ne (Ne.symm oh)]; exact eh3, upd_same, oh, ?_, by simp at gil ⊢; omega, k0, k1, by omega, by omega⟩ fun b x nb e => ?_⟩
        · intro x hx
          rcases List.mem_cons.mp hx with e | e
          · rw [e]
            exact Int.ediv_nonneg (gi0 g List.mem_cons_self) (by omega)
          · exact gi0 x (List.mem_cons_of_mem _ e)
        · rw [upd_ne (fun z => nb (by rw [z]; simp))]
          exact b3 b x nb e
theorem cut_ints (ns : List Int) (lo hi : Option Int) : cutV (ns.map V.int) lo hi = ((ns.drop (HT.sIx ns.length 0 lo)).take (HT.sIx ns.length ns.length hi - HT.sIx ns.length 0 lo)).map V.int := by
  unfold cutV
  rw [List.length_map, List.map_take, List.map_drop]
theorem cut_len (ns : List Int) (lo hi : Option Int) : ((ns.drop (HT.sIx ns.length 0 lo)).take (HT.sIx ns.length ns.length hi - HT.sIx ns.length 0 lo)).length ≤ ns.length := by
  rw [List.length_take, List.length_drop]
  omega
theorem ok_hand {f : Addr} {fd : FuncData} (D : Df K mg "_law_hand" ["_law_script"] sHand f fd) (T : Txt K mg) : FnOk P w K mg base CX0 1 f fd ["_law_script"] (spHand K) := by
  refine D.fn.ok scHand (fun vs H Q E h => ?_) (fun cdv A outer s H vs Q E hr h => ?_)
  · obtain ⟨a, ns, rfl, hS, nl, q⟩ := h
    rfl
  · obtain ⟨a, ns, rfl, hS, nl, q⟩ := h
    refine ⟨_, (pss_cons (ps_par (i := 1) (j := 2) (by rfl) scHand.nd rfl rfl (by decide) rfl rfl (pa_cons (pe_lst pa_nil) (pa_cons (pe_op op_add pe_int (pe_op op_mul pe_int (pe_callB call_len_seq (by rfl) T.len PySem.boot_len (pa_cons (pv 0) pa_nil)))) pa_nil)) (by rfl))
      (pss_cons (ps_for PassesOwn.never rfl (pi_list (pe_slice sl_list (pv 0) po_none (po_some pe_int))) (pg_name (i := 3) scHand.nd rfl (.inl rfl)) (pss_cons (ps_set (i := 2) scHand.nd rfl (.inl rfl) (pe_op op_mod (pe_op op_add (pe_op op_add (pe_op op_mul (pv 2) pe_int) (pe_op op_mod (pv 3) pe_int)) pe_int) pe_int))
      (pss_one (ps_if (pt_cmpR op_ge (pv 3) (pe_op op_pow pe_int pe_int) (nomark _)) (pss_one (ps_expr (pe_bm PySem.F.plainAttrs_list PySem.F.slot_list_append PySem.F.type_list_append mt_append (pv 1) (pa_cons (pv 3) pa_nil)))) pss_nil))))
      (pss_one (ps_ret (pe_lst (pa_cons (pv 1) (pa_cons (pv 2) (pa_cons pe_int pa_nil)))))))), ?_⟩
    refine ⟨(by show 0 ≤ sizeLine; decide), fun o no => ?_⟩
    have s0 := same_upd no (o := .lst [])
    refine ⟨_, rfl, a, _, rfl, .inl (Same.seq s0 hS), 31, _, rfl, rfl, .inl (by decide), 7, _, rfl, rfl, _, _, rfl, ?_⟩
    refine ⟨_, rfl, 60, rfl, a, _, rfl, Same.seq s0 hS, fun l nl2 => ⟨l, rfl, ⟨_, SqL.of upd_same⟩, ?_⟩⟩
    have s1 := same_upd nl2 (o := .lst (cutV (ns.map V.int) none (some 60)))
    have el : (upd (upd H o (.lst [])) l (.lst (cutV (ns.map V.int) none (some 60)))) l = some (.lst (cutV (ns.map V.int) none (some 60))) := upd_same
    have eo : (upd (upd H o (.lst [])) l (.lst (cutV (ns.map V.int) none (some 60)))) o = some (.lst []) := s1 _ _ upd_same
    have sA := s0.trans s1
    have ol : l ≠ o := fun z => by
      rw [z, upd_same] at nl2
      cases nl2
    obtain ⟨ms, ems, lms⟩ : ∃ ms : List Int, cutV (ns.map V.int) none (some 60) = ms.map V.int ∧ ms.length ≤ 63 := ⟨_, cut_ints ns none (some 60), Nat.le_trans (cut_len ns none (some 60)) nl⟩
    rw [ems] at el eo sA ⊢
    generalize upd (upd H o (.lst [])) l (.lst (ms.map V.int)) = H1 at el eo sA ⊢
    refine for_list (K := K) (a := l) (xs := ms.map V.int) (fun i σ Hi => ∃ (gs : List Int) (m : Int) (c3 : Option V), σ = [some (.ref a), some (.ref o), some (.int m), c3] ∧ Hi o = some (.lst (gs.map V.int)) ∧ gs.length ≤ i ∧ (∀ g ∈ gs, 0 ≤ g) ∧ 0 ≤ m ∧ m < 2305843009213693951 ∧ (∀ b x, b ≠ o → H1 b = some x → Hi b = some x)) ?_ ?_ ?_ ?_
    · refine ⟨[], _, none, rfl, eo, Nat.le_refl _, by simp, ?_, ?_, fun b x _ e => e⟩
      · rw [List.length_map]; omega
      · rw [List.length_map]; omega
    · rintro i σ Hi _ ⟨gs, m, c3, _, _, _, _, _, _, k⟩
      exact SqL.of (k _ _ ol el)
    · rintro i x σ Hi hx ⟨gs, m, c3, rfl, eoi, gl, g0, m0, m1, k⟩
      rw [List.getElem?_map] at hx
      obtain ⟨g, eg, rfl⟩ := Option.map_eq_some_iff.mp hx
      have il : i < ms.length := (List.getElem?_eq_some_iff.mp eg).1
      refine ⟨_, rfl, m, 1000003, rfl, rfl, .inr (by decide), _, rfl, g, 2305843009213693907, rfl, rfl, (by show (0 : Int) < 2305843009213693907; decide), _, _, rfl, rfl, _, 11, rfl, rfl, _, 2305843009213693951, rfl, rfl, (by show (0 : Int) < 2305843009213693951; decide), ?_⟩
      have p0 := Int.emod_nonneg (m * 1000003 + g % 2305843009213693907 + 11) (b := 2305843009213693951) (by decide)
      have p1 := Int.emod_lt_of_pos (m * 1000003 + g % 2305843009213693907 + 11) (b := 2305843009213693951) (by decide)
      refine ⟨_, rfl, 10, 18, rfl, rfl, ⟨by decide, by decide, by decide⟩, g, _, rfl, rfl, _, rfl, ite2 (fun e => ?_) (fun e => ?_)⟩
      · have e' : (10 : Int) ^ (18 : Int).toNat ≤ g := of_decide_eq_true e
        have g00 : 0 ≤ g := Int.le_trans (by decide) e'
        refine ⟨_, rfl, .inl ⟨rfl, _, SqL.of eoi⟩, _, rfl, o, _, _, rfl, rfl, eoi, ?_, ?_⟩
        · rw [List.length_map]
          exact Nat.lt_of_le_of_lt (show gs.length ≤ 100 by omega) (by decide)
        · refine ⟨gs ++ [g], _, _, rfl, by rw [upd_same, List.map_append]; rfl, by rw [List.length_append]; exact Nat.add_le_add_right gl 1, ?_, p0, p1, fun b x nb e => by rw [upd_ne nb]; exact k b x nb e⟩
          intro x hx
          rcases List.mem_append.mp hx with h | h
          · exact g0 x h
          · rw [List.mem_singleton.mp h]; exact g00
      · exact ⟨gs, _, _, rfl, eoi, Nat.le_succ_of_le gl, g0, p0, p1, k⟩
    · rintro σ Hi ⟨gs, m, c3, rfl, eoi, gl, g0, m0, m1, k⟩
      refine ⟨_, rfl, _, rfl, (by show 3 ≤ sizeLine; decide), fun h nh => ?_⟩
      have oh : o ≠ h := fun z => by
        rw [← z, eoi] at nh
        cases nh
      rw [List.length_map] at gl
      have sF : L2.Same H (upd Hi h (.lst [.ref o, .int m, .int 0])) := fun b x e => by
        have bo : b ≠ o := ne_of_none e no
        exact same_upd nh _ _ (k b x bo (sA b x e))
      refine q h o _ ⟨gs, m, 0, upd_same, by rw [upd_ne oh]; exact eoi, oh, g0, by omega, m0, m1, by omega, by omega⟩ sF ?_ no
      cases z : H h with
      | none => rfl
      | some x =>
        have w := k h x (Ne.symm oh) (sA h x z)
        rw [w] at nh
        cases nh
end
end N13
set_option Elab.async false
set_option linter.all false
set_option maxRecDepth 100000
set_option maxHeartbeats 4000000
set_option pp.maxSteps 400
set_option pp.deepTerms false
namespace N13
open PySem PySem.Spec PyProof.Rows L2
open Xk Az
section
variable {P : Program} {w : World} {K : PySem.W.Frag} {mg : Str → Option Value} {base : Heap}
section
variable {X : Cx}
theorem cr_alt {f : Value} {r1 r2 : List V → Hp → VK → Prop} (h1 : CallR X f r1) (h2 : CallR X f r2) : CallR X f (fun xs H Q => r1 xs H Q ∨ r2 xs H Q) :=
  fun pins s σ H xs us Q I r h => h.elim (h1 pins s σ H xs us Q I r) (h2 pins s σ H xs us Q I r)
end
def spPick : Sp := fun vs H Q _ => ∃ (h o : Addr) (n : Int) (s : V), vs = [.ref h, s] ∧ Hd h o n H ∧ n ≤ far ∧
  ((∃ (l : Addr) (xs : List V), s = .ref l ∧ H l = some (.lst xs) ∧ l ∉ [h, o] ∧ xs ≠ [] ∧ xs.length < 1000 ∧ ∀ v H', v ∈ xs → Hd h o (n + 1) H' → Bt [h, o] H H' → Q v H') ∨
   (∃ x : Str, s = .str x ∧ 0 < x.length ∧ x.length < 1000 ∧ ∀ c H', c ∈ x.cps.toList → Hd h o (n + 1) H' → Bt [h, o] H H' → Q (.str ⟨#[c]⟩) H'))
theorem ok_pick {f : Addr} {fd : FuncData} (D : Df K mg "_law_pick" ["_law_hand_here", "_law_some"] sPick f fd) (T : Txt K mg) (cT : Ca P w K mg base 1 "_law_take" ["_law_hand_here", "_law_many"] spTake) : FnOk P w K mg base CX0 2 f fd ["_law_hand_here", "_law_some"] spPick := by
  refine D.fn.ok scPick (fun vs H Q E h => ?_) (fun cdv A outer s H vs Q E hr h => ?_)
  · obtain ⟨h, o, n, s, rfl, hd, hn, q⟩ := h
    rfl
  · obtain ⟨h, o, n, s, rfl, hd, hn, q⟩ := h
    refine ⟨_, (pss_one (ps_ret (pe_ix ix_seq (pv 1) (pe_ca cT hr (by decide) (by rfl) (pa_cons (pv 0) (pa_cons (pe_callB (cr_alt call_len_seq call_len_str) (by rfl) T.len PySem.boot_len (pa_cons (pv 1) pa_nil)) pa_nil))) (fun _ _ => rfl)))), ?_⟩
    refine ⟨_, rfl, _, rfl, _, rfl, ?_⟩
    rcases q with ⟨l, xs, rfl, hl, nl, ne, few, q⟩ | ⟨x, rfl, pos, few, q⟩
    · have pos : 0 < xs.length := List.length_pos_iff.mpr ne
      refine .inl ⟨l, xs, rfl, .inl (SqL.of hl), h, o, (xs.length : Int), n, rfl, by omega, by omega, hd, hn, fun d H' d0 d1 hh' bt => ?_⟩
      obtain ⟨j, rfl⟩ : ∃ j : Nat, d = (j : Int) := ⟨d.toNat, by omega⟩
      have hj : j < xs.length := by omega
      refine .inl ⟨l, xs, _, xs[j], rfl, rfl, SqL.of (bt _ _ nl hl), atI_nat (List.getElem?_eq_getElem hj), ?_⟩
      exact q _ H' (List.getElem_mem hj) hh' bt
    · have sz : x.length ≤ sizeLine := Nat.le_trans (show x.length ≤ 1000 by omega) (by decide)
      refine .inr ⟨x, rfl, sz, h, o, (x.length : Int), n, rfl, by omega, by omega, hd, hn, fun d H' d0 d1 hh' bt => ?_⟩
      obtain ⟨j, rfl⟩ : ∃ j : Nat, d = (j : Int) := ⟨d.toNat, by omega⟩
      have hj : j < x.cps.toList.length := by
        have : x.length = x.cps.toList.length := by rw [Array.length_toList]; rfl
        omega
      refine .inr (.inr ⟨x, _, x.cps.toList[j], rfl, rfl, sz, atI_nat (List.getElem?_eq_getElem hj), ?_⟩)
      exact q _ H' (List.getElem_mem hj) hh' bt
theorem join_cps' : ∀ ys : List Str, (Str.join "" ys).cps.toList = (ys.map fun y => y.cps.toList).flatten
  | [] => rfl
  | [x] => by simp [Str.join]
  | x :: z :: r => by
    show (x ++ "" ++ Str.join "" (z :: r)).cps.toList = _
    rw [Str.cps_append, Array.toList_append, Str.cps_append, Array.toList_append, join_cps' (z :: r)]
    have e0 : (("" : Str)).cps.toList = [] := rfl
    rw [e0, List.append_nil]
    rfl
theorem join_cps (ys : List Str) : (Txt.join "" ys).cps.toList = (ys.map fun y => y.cps.toList).flatten := by
  rw [TL.join_eq]
  exact join_cps' ys
theorem len_cps (x : Str) : x.length = x.cps.toList.length := by
  rw [Array.length_toList]
  rfl
theorem join_len (ys : List Str) : (Txt.join "" ys).length = (ys.map (·.length)).sum := by
  rw [len_cps, join_cps, List.length_flatten, List.map_map]
  congr 1
theorem ones_sum : ∀ ys : List Str, (∀ y ∈ ys, y.length = 1) → (ys.map (·.length)).sum = ys.length
  | [], _ => rfl
  | y :: r, h => by
    rw [List.map_cons, List.sum_cons, h y List.mem_cons_self, ones_sum r (fun z hz => h z (List.mem_cons_of_mem _ hz)), List.length_cons]
    omega
def letts (x : Str) : Prop := ∀ c ∈ x.cps.toList, c ∈ small.cps.toList
def spWord : Sp := fun vs H Q _ => ∃ (h o : Addr) (n a b : Int), vs = [.ref h, .int a, .int b] ∧ 0 ≤ a ∧ a ≤ b ∧ b ≤ 50 ∧ Hd h o n H ∧ n + 100 ≤ far ∧
  ∀ (x : Str) H', a ≤ x.length → x.length ≤ b → letts x → Hd h o (n + 60) H' → Bt [h, o] H H' → Q (.str x) H'
theorem ok_word {f : Addr} {fd : FuncData} (D : Df K mg "_law_word" ["_law_hand_here", "_law_least", "_law_most"] sWord f fd) (T : Txt K mg) (cT : Ca P w K mg base 1 "_law_take" ["_law_hand_here", "_law_many"] spTake) (cP : Ca P w K mg base 2 "_law_pick" ["_law_hand_here", "_law_some"] spPick) : FnOk P w K mg base CX0 3 f fd ["_law_hand_here", "_law_least", "_law_most"] spWord := by
  refine D.fn.ok scWord (fun vs H Q E h => ?_) (fun cdv A outer s H vs Q E hr h => ?_)
  · obtain ⟨h, o, n, a, b, rfl, a0, ab, b50, hd, hn, q⟩ := h
    rfl
  · obtain ⟨h, o, n, a, b, rfl, a0, ab, b50, hd, hn, q⟩ := h
    refine ⟨_, (pss_cons (ps_set (i := 3) scWord.nd rfl (.inr rfl) pe_str)
      (pss_one (ps_ret (pe_m1 F.slot_str_join F.type_str_join mt_join pe_str (pe_lc (own := [("_law_k", 4)]) (g := gName 4) (tt := tYes) (by rfl) scWord.nd (pi_range1 (by rfl) T.range (pa_cons (pe_op op_add (pv 1) (pe_ca cT hr (by decide) (by rfl) (pa_cons (pv 0) (pa_cons (pe_op op_add (pe_op op_sub (pv 2) (pv 1)) pe_int) pa_nil)))) pa_nil)) (blkOk_by (own := [("_law_k", 4)]) (N := ["_law_hand_here", "_law_least", "_law_most", "_law_letters", "_law_k"]) (sc := defScope sWord) (by decide +kernel)) (fun _ _ _ _ _ => pg_name (i := 4) scWord.nd rfl (.inl rfl)) (fun _ _ _ _ _ => pts_nil) (fun _ _ _ _ _ => pe_ca cP hr (by decide) (by rfl) (pa_cons (pv 0) (pa_cons (pv 3) pa_nil)))))))), ?_⟩
    have fr : n + 100 ≤ 1000000 := hn
    have lf : small.length = 26 := by decide +kernel
    refine ⟨⟨_, rfl⟩, ?_⟩
    refine ⟨_, rfl, _, rfl, _, rfl, _, rfl, b, a, rfl, rfl, _, 1, rfl, rfl, h, o, b - a + 1, n, rfl, by omega, by omega, hd, by show n ≤ 1000000; omega, fun d H1 d0 d1 h1 b1 => ?_⟩
    refine ⟨a, d, rfl, rfl, _, rfl, by omega, by omega, fun L nL => ?_⟩
    have s1 := same_upd nL (o := .lst [])
    refine lc_range (lo := 0) (fun i Hi => ∃ ys : List Str, Hi L = some (.lst (ys.map V.str)) ∧ ys.length = i ∧ (∀ y ∈ ys, ∃ c ∈ small.cps.toList, y = ⟨#[c]⟩) ∧ Hd h o (n + 1 + i) Hi ∧ Bt [h, o] H1 Hi) ?_ ?_ ?_
    · exact ⟨[], upd_same, rfl, by simp, (h1.same s1).mono (by omega), Bt.of s1⟩
    · rintro i Hi hi ⟨ys, eL, ly, cy, hdi, bi⟩
      have hi' : i < (a + d).toNat := hi
      refine ⟨rfl, ?_⟩
      unfold tYes
      refine iteT ?_
      refine ⟨_, rfl, _, rfl, h, o, n + 1 + i, _, rfl, hdi, by show n + 1 + (i : Int) ≤ 1000000; omega, .inr ⟨small, rfl, by rw [lf]; decide, by rw [lf]; decide, fun c H2 mc h2 b2 => ?_⟩⟩
      have nLo : L ∉ [h, o] := h1.fresh nL
      have oth : ∀ b ∈ [h, o], b ≠ L := fun b mb z => nLo (by rw [← z]; exact mb)
      refine ⟨_, b2 _ _ nLo eL, ?_, ys ++ [⟨#[c]⟩], ?_, by rw [List.length_append, ly]; rfl, ?_, ?_, ?_⟩
      · rw [List.length_map, ly]
        exact Nat.lt_of_le_of_lt (show i ≤ 100 by omega) (by decide)
      · rw [upd_same, List.map_append]
        rfl
      · intro y hy
        rcases List.mem_append.mp hy with z | z
        · exact cy y z
        · exact ⟨c, mc, List.mem_singleton.mp z⟩
      · exact (h2.upd nLo).mono (by omega)
      · intro b x nb e
        have bL : b ≠ L := ne_of_none e nL
        rw [upd_ne bL]
        exact b2 b x nb (bi b x nb e)
    · rintro He ⟨ys, eL, ly, cy, hde, be⟩
      have le : (ys.map (·.length)).sum = ys.length := ones_sum ys (fun y hy => by obtain ⟨c, _, e⟩ := cy y hy; rw [e]; rfl)
      have ly' : (ys.length : Int) = a + d := by
        have : ys.length = (a + d).toNat := ly
        omega
      refine ⟨_, L, ys, rfl, rfl, .inl (SqL.of eL), ?_, ?_⟩
      · rw [le]
        have e0 : (("" : Str)).length = 0 := rfl
        rw [e0]
        omega
      · have jl : (Txt.join "" ys).length = ys.length := by rw [join_len, le]
        refine q _ _ (by rw [jl]; omega) (by rw [jl]; omega) ?_ (hde.mono ?_) (b1.trans be)
        · intro c hc
          rw [join_cps] at hc
          obtain ⟨l, ml, hcl⟩ := List.mem_flatten.mp hc
          obtain ⟨y, my, rfl⟩ := List.mem_map.mp ml
          obtain ⟨c', mc', e⟩ := cy y my
          rw [e] at hcl
          have : c = c' := by simpa using hcl
          rw [this]
          exact mc'
        · have : (((a + d).toNat : Nat) : Int) ≤ 50 := by omega
          show n + 1 + (((a + d).toNat : Nat) : Int) ≤ n + 60
          omega
end
end N13
set_option Elab.async false
set_option linter.all false
set_option maxRecDepth 100000
set_option maxHeartbeats 4000000
set_option pp.maxSteps 400
set_option pp.deepTerms false
namespace N13
open PySem PySem.Spec PyProof.Rows L2
open Xk Az
section
variable {P : Program} {w : World} {K : PySem.W.Frag} {mg : Str → Option Value} {base : Heap}
def lawSigns : Str := "abcdefghijklmnopqrstuvwxyzABCDEFGHIJKLMNOPQRSTUVWXYZ0123456789'-.     "
theorem lawSigns_in : ∀ c ∈ lawSigns.cps.toList, c ∈ signs.cps.toList := by decide +kernel
/-- a text of a name as far as it is written -/
def Half (l : List Nat) : Prop := (∀ c ∈ l, c ∈ signs.cps.toList) ∧ l.head? ≠ some 32 ∧ ∀ i, ¬ (l[i]? = some 32 ∧ l[i + 1]? = some 32)
def Clean (l : List Nat) : Prop := Half l ∧ l.getLast? ≠ some 32
theorem half_nil : Half [] := ⟨by simp, by simp, by simp⟩
theorem Half.snoc {l : List Nat} {c : Nat} (h : Half l) (m : c ∈ signs.cps.toList) (e : c = 32 → l ≠ [] ∧ l.getLast? ≠ some 32) : Half (l ++ [c]) := by
  obtain ⟨h1, h2, h3⟩ := h
  refine ⟨fun d hd => ?_, ?_, fun i => ?_⟩
  · rcases List.mem_append.mp hd with z | z
    · exact h1 d z
    · rw [List.mem_singleton.mp z]; exact m
  · cases l with
    | nil =>
      intro z
      have : c = 32 := by simpa using z
      exact (e this).1 rfl
    | cons a r => simpa using h2
  · rintro ⟨e1, e2⟩
    by_cases il : i + 1 < l.length
    · rw [List.getElem?_append_left (by omega)] at e1
      rw [List.getElem?_append_left il] at e2
      exact h3 i ⟨e1, e2⟩
    · by_cases ie : i + 1 = l.length
      · rw [List.getElem?_append_right (by omega)] at e2
        rw [List.getElem?_append_left (by omega)] at e1
        have z : i + 1 - l.length = 0 := by omega
        rw [z] at e2
        have : c = 32 := by simpa using e2
        refine (e this).2 ?_
        rw [List.getLast?_eq_getElem?, show l.length - 1 = i by omega]
        exact e1
      · rw [List.getElem?_eq_none (by simp; omega)] at e2
        cases e2
theorem at_last {l : List Nat} (h : l ≠ []) : atI l (-1) = l.getLast? := by
  have p : 0 < l.length := List.length_pos_iff.mpr h
  unfold atI ixN
  rw [if_neg (by omega), if_pos (by omega)]
  rw [List.getLast?_eq_getElem?]
  simp only [Option.bind_some]
  congr 1
  omega
theorem one_inj {c d : Nat} (h : (⟨#[c]⟩ : Str) = ⟨#[d]⟩) : c = d := by
  injection h with h
  simpa using h
theorem str_nil {x : Str} (h : x.cps.toList = []) : x = "" := by
  obtain ⟨a⟩ := x
  have : a = #[] := by simpa using h
  rw [this]
  rfl
def spText : Sp := fun vs H Q _ => ∃ (h o : Addr) (n many : Int), vs = [.ref h, .int many] ∧ 0 ≤ many ∧ many ≤ 60 ∧ Hd h o n H ∧ n + 200 ≤ far ∧
  ∀ (x : Str) H', (x.length : Int) = many → Clean x.cps.toList → Hd h o (n + 60) H' → Bt [h, o] H H' → Q (.str x) H'
theorem ok_text {f : Addr} {fd : FuncData} (D : Df K mg "_law_text" ["_law_hand_here", "_law_many"] sText f fd) (T : Txt K mg) (cT : Ca P w K mg base 1 "_law_take" ["_law_hand_here", "_law_many"] spTake) (cP : Ca P w K mg base 2 "_law_pick" ["_law_hand_here", "_law_some"] spPick) : FnOk P w K mg base CX0 3 f fd ["_law_hand_here", "_law_many"] spText := by
  refine D.fn.ok scText (fun vs H Q E h => ?_) (fun cdv A outer s H vs Q E hr h => ?_)
  · obtain ⟨h, o, n, many, rfl, m0, m60, hd, hn, q⟩ := h
    rfl
  · obtain ⟨h, o, n, many, rfl, m0, m60, hd, hn, q⟩ := h
    refine ⟨_, (pss_cons (ps_set (i := 2) scText.nd rfl (.inl rfl) pe_str)
      (pss_cons (ps_set (i := 3) scText.nd rfl (.inl rfl) pe_str)
      (pss_cons (ps_for PassesOwn.never rfl (pi_range1 (by rfl) T.range (pa_cons (pv 1) pa_nil)) (pg_name (i := 4) scText.nd rfl (.inl rfl)) (pss_cons (ps_set (i := 5) scText.nd rfl (.inl rfl) (pe_ca cP hr (by decide) (by rfl) (pa_cons (pv 0) (pa_cons (pv 2) pa_nil))))
      (pss_cons (ps_if (PW.pt (pw_and (pt_cmpR op_eq (pv 5) pe_str (nomark _)) (pw_and1 (PW.pt (pw_or (pt_cmpR op_eq (pv 3) pe_str (nomark _)) (pw_or (pt_cmpR op_eq (pe_ix ix_str (pv 3) (pe_un un_neg pe_int) (fun _ _ => rfl)) pe_str (nomark _)) (pw_or1 (pt_cmpR op_eq (pv 4) (pe_op op_sub (pv 1) pe_int) (nomark _))))))))) (pss_one (ps_set (i := 5) scText.nd rfl (.inl rfl) pe_str)) pss_nil)
      (pss_one (ps_set (i := 3) scText.nd rfl (.inl rfl) (pe_op op_add_str (pv 3) (pv 5)))))))
      (pss_one (ps_ret (pv 3)))))), ?_⟩
    have fr : n + 200 ≤ 1000000 := hn
    refine ⟨_, rfl, many, rfl, by omega, by omega, for_range (lo := 0) (n := many.toNat) (fun k σ Hi => ∃ (x : Str) (c4 c5 : Option V), σ = [some (.ref h), some (.int many), some (.str lawSigns), some (.str x), c4, c5] ∧ x.length = k ∧ Half x.cps.toList ∧ ((k : Int) = many → x.cps.toList.getLast? ≠ some 32) ∧ Hd h o (n + k) Hi ∧ Bt [h, o] H Hi) ?_ ?_ ?_⟩
    · exact ⟨"", none, none, rfl, rfl, half_nil, fun _ => by decide, hd.mono (by omega), Bt.refl _ _⟩
    · rintro k σ Hi hk ⟨x, c4, c5, rfl, lx, hf, _, hdi, bi⟩
      have km : (k : Int) < many := by omega
      refine ⟨_, rfl, _, rfl, h, o, n + k, _, rfl, hdi, by show n + (k : Int) ≤ 1000000; omega, .inr ⟨lawSigns, rfl, by decide +kernel, by decide +kernel, fun c H2 mc h2 b2 => ?_⟩⟩
      have sx : x.length ≤ 100 := by omega
      have fit : x.length + 1 ≤ sizeLine := Nat.le_trans (show x.length + 1 ≤ 200 by omega) (by decide)
      have bt := bi.trans b2
      have nx : ∀ (c' : Nat), c' ∈ signs.cps.toList → (c' = 32 → x.cps.toList ≠ [] ∧ x.cps.toList.getLast? ≠ some 32 ∧ (k : Int) ≠ many - 1) → ∀ c4 c5 : Option V, ∃ (x' : Str) (c4' c5' : Option V), [some (V.ref h), some (.int many), some (.str lawSigns), some (.str (x ++ ⟨#[c']⟩)), c4, c5] = [some (V.ref h), some (.int many), some (.str lawSigns), some (.str x'), c4', c5'] ∧ x'.length = k + 1 ∧ Half x'.cps.toList ∧ (((k + 1 : Nat) : Int) = many → x'.cps.toList.getLast? ≠ some 32) ∧ Hd h o (n + ((k + 1 : Nat) : Int)) H2 ∧ Bt [h, o] H H2 := fun c' m1 m2 c4 c5 => by
        refine ⟨x ++ ⟨#[c']⟩, c4, c5, rfl, ?_, ?_, fun ek => ?_, h2.mono (by omega), bt⟩
        · rw [strLen_append, lx]; rfl
        · rw [Str.cps_append, Array.toList_append]
          exact hf.snoc m1 (fun e => ⟨(m2 e).1, (m2 e).2.1⟩)
        · rw [Str.cps_append, Array.toList_append]
          intro e
          have : c' = 32 := by simpa using e
          exact (m2 this).2.2 (by omega)
      have qm : (113 : Nat) ∈ signs.cps.toList := by decide +kernel
      have mc' : c ∈ signs.cps.toList := lawSigns_in c mc
      refine ⟨_, rfl, rfl, _, rfl, ite2 (fun e => ?_) (fun e => ?_)⟩
      · have ec : c = 32 := one_inj (V.str.inj (of_decide_eq_true e))
        have go : ∀ c5 : Option V, _ := fun c5 => nx 113 qm (fun z => by cases z) (some (.int (0 + (k : Int)))) c5
        refine ⟨_, rfl, rfl, _, rfl, ite2 (fun e1 => ?_) (fun e1 => ?_)⟩
        · exact ⟨_, rfl, _, rfl, x, "q", rfl, rfl, fit, go _⟩
        · have xn : x.cps.toList ≠ [] := fun z => e1 (decide_eq_true (by rw [str_nil z]))
          obtain ⟨d, ed⟩ : ∃ d, x.cps.toList.getLast? = some d := by
            cases z : x.cps.toList.getLast? with
            | none => exact absurd (List.getLast?_eq_none_iff.mp z) xn
            | some d => exact ⟨d, rfl⟩
          refine ⟨_, rfl, 1, rfl, x, -1, d, rfl, rfl, Nat.le_trans (Nat.le_succ _) fit, (at_last xn).trans ed, rfl, _, rfl, ite2 (fun e2 => ?_) (fun e2 => ?_)⟩
          · exact ⟨_, rfl, _, rfl, x, "q", rfl, rfl, fit, go _⟩
          · refine ⟨_, rfl, _, rfl, many, 1, rfl, rfl, rfl, _, rfl, ite2 (fun e3 => ?_) (fun e3 => ?_)⟩
            · exact ⟨_, rfl, _, rfl, x, "q", rfl, rfl, fit, go _⟩
            · refine ⟨_, rfl, _, rfl, x, _, rfl, rfl, fit, nx c mc' (fun _ => ⟨xn, fun z => e2 ?_, fun z => e3 ?_⟩) _ _⟩
              · rw [ed] at z
                exact decide_eq_true (by rw [Option.some.inj z]; rfl)
              · exact decide_eq_true (show V.int (0 + (k : Int)) = V.int (many - 1) by congr 1; omega)
      · refine ⟨_, rfl, _, rfl, x, _, rfl, rfl, fit, nx c mc' (fun z => absurd (decide_eq_true (by rw [z]; rfl)) e) _ _⟩
    rintro σ He ⟨x, c4, c5, rfl, lx, hf, la, hde, be⟩
    have lx' : (x.length : Int) = many := by
      have : x.length = many.toNat := lx
      omega
    refine ⟨_, rfl, q x He lx' ⟨hf, la (by omega)⟩ (hde.mono ?_) be⟩
    show n + ((many.toNat : Nat) : Int) ≤ n + 60
    omega
end
end N13
set_option Elab.async false
set_option linter.all false
set_option maxRecDepth 100000
set_option maxHeartbeats 4000000
set_option pp.maxSteps 400
set_option pp.deepTerms false
namespace N13
open PySem PySem.Spec PyProof.Rows L2
open Xk Az
section
variable {P : Program} {w : World} {K : PySem.W.Frag} {mg : Str → Option Value} {base : Heap}
section
variable {X : Cx}
theorem vals_map {α : Type} (g : α → V) (R : α → Value → Prop) (hR : ∀ a v, R a v → RelV (g a) v) : ∀ (as : List α) (us : List Value), as.length = us.length → (∀ (i : Nat) (a : α) (u : Value), as[i]? = some a → us[i]? = some u → R a u) → Vals (as.map g) us
  | [], [], _, _ => .nil
  | a :: as, u :: us, hl, h => .cons (hR a u (h 0 a u rfl rfl)) (vals_map g R hR as us (by simpa using hl) fun i b v e1 e2 => h (i + 1) b v (by simpa using e1) (by simpa using e2))
  | [], _ :: _, hl, _ => by simp at hl
  | _ :: _, [], hl, _ => by simp at hl
def sg1 (c : Nat) : V := .str ⟨#[c]⟩
theorem cr_listS (hc : X.calm = true) : CallR X (.type "list") (fun xs H Q => ∃ x : Str, xs = [.str x] ∧ x.length ≤ sizeLine ∧ ∀ l, H l = none → Q (.ref l) (upd H l (.lst (x.cps.toList.map sg1)))) := by
  intro pins s σ H xs us Q I r h
  obtain ⟨x, rfl, hz, q⟩ := h
  obtain ⟨u, rfl, rx⟩ := vals1 r
  obtain ⟨t, rfl⟩ := rx
  refine call_list_str (I.ok.hd hc) x t (fun h' tk acc c kp e it => ?_) hz
  have v : Vals (x.cps.toList.map sg1) acc.toList := by
    refine vals_map sg1 (fun c u => ∃ t, u = Value.str ⟨#[c]⟩ t) (fun a v ⟨t, e⟩ => ⟨t, e⟩) _ _ (by rw [Array.length_toList, Array.length_toList, it.1]) fun i a u e1 e2 => ?_
    obtain ⟨c', t', q1, q2⟩ := it.2 i u (by rw [← Array.getElem?_toList]; exact e2)
    rw [← Array.getElem?_toList, e1] at q1
    exact ⟨t', by rw [Option.some.inj q1]; exact q2⟩
  have hl : (x.cps.toList.map sg1).length ≤ sizeLine := by rw [List.length_map, Array.length_toList]; exact hz
  exact ⟨.ref s.heap.objs.size, _, I.laid (t' := tk) kp (Nat.le_refl _) (show ObjOk X.prog X.w _ h' _ (.lst (x.cps.toList.map sg1)) from ⟨hl, acc.toList, c, v, by simpa using e⟩), rfl, q _ (I.hok.fresh (Nat.le_refl _))⟩
end
theorem Bt.none {A : List Addr} {H H' : Hp} {p : Addr} (b : Bt A H H') (m : p ∉ A) (e : H' p = none) : H p = none := by
  cases z : H p with
  | none => rfl
  | some x =>
    rw [b p x m z] at e
    cases e
/-- tuples stand -/
def Tp (H H' : Hp) : Prop := ∀ b xs, H b = some (.tup xs) → H' b = some (.tup xs)
theorem Hd.tp {h o : Addr} {n : Int} {H H' : Hp} (a : Hd h o n H) (s : Bt [h, o] H H') : Tp H H' := fun b xs e => by
  obtain ⟨gs, m, c, r1, r2, _⟩ := a
  refine s b _ (fun mb => ?_) e
  simp only [List.mem_cons, List.not_mem_nil, or_false] at mb
  rcases mb with z | z
  · rw [z, r1] at e; cases e
  · rw [z, r2] at e; cases e
theorem tp_upd {H : Hp} {p : Addr} {xs : List V} {x : HO} (e : H p = some (.lst xs)) : Tp H (upd H p x) := fun b ys eb => by
  rw [upd_ne (fun z => by rw [z, e] at eb; cases eb)]
  exact eb
theorem tp_same {H H' : Hp} (s : L2.Same H H') : Tp H H' := fun b ys e => s b _ e
theorem Tp.trans {H H1 H2 : Hp} (p : Tp H H1) (q : Tp H1 H2) : Tp H H2 := fun b xs e => q b xs (p b xs e)
def Nm (H : Hp) (v : V) : Prop := ∃ (t : Addr) (a b : Str), v = .ref t ∧ H t = some (.tup [.str a, .str b]) ∧ letts a ∧ 2 ≤ a.length ∧ a.length ≤ 3 ∧ Clean b.cps.toList ∧ 1 ≤ b.length ∧ b.length ≤ 40
theorem Nm.tp {H H' : Hp} {v : V} (a : Nm H v) (s : Tp H H') : Nm H' v := by
  obtain ⟨t, x, y, e, r1, r⟩ := a
  exact ⟨t, x, y, e, s _ _ r1, r⟩
def alnum : Str := "abcdefghijklmnopqrstuvwxyzABCDEFGHIJKLMNOPQRSTUVWXYZ0123456789"
theorem alnum_ok : ∀ c ∈ alnum.cps.toList, c ∈ signs.cps.toList ∧ c ≠ 32 := by decide +kernel
theorem ins_cps {st : Str} {k c : Nat} (h : k ≤ st.cps.toList.length) : (cutS st none (some (k : Int)) ++ ⟨#[c]⟩ ++ cutS st (some (k : Int)) none).cps.toList = st.cps.toList.take k ++ c :: st.cps.toList.drop k := by
  rw [len_cps st |>.symm] at h
  rw [Str.cps_append, Array.toList_append, Str.cps_append, Array.toList_append]
  have e1 : HT.sIx st.length 0 (some (k : Int)) = k := by rw [HT.sIx_nat]; omega
  have e2 : HT.sIx st.length st.length (some (k : Int)) = k := by rw [HT.sIx_nat]; omega
  have e3 : HT.sIx st.length 0 none = 0 := rfl
  have e4 : HT.sIx st.length st.length none = st.length := rfl
  unfold cutS
  rw [e1, e2, e3, e4]
  simp only [List.drop_zero, Nat.sub_zero, List.append_assoc, List.singleton_append]
  congr 2
  rw [List.take_of_length_le (by rw [List.length_drop, ← len_cps]; omega)]
theorem ins_len {st : Str} {k c : Nat} (h : k ≤ st.cps.toList.length) : (cutS st none (some (k : Int))).length + (cutS st (some (k : Int)) none).length ≤ st.length ∧ (cutS st none (some (k : Int))).length ≤ st.length ∧ (cutS st none (some (k : Int)) ++ ⟨#[c]⟩ ++ cutS st (some (k : Int)) none).length = st.length + 1 := by
  have e := congrArg List.length (ins_cps (c := c) h)
  have l1 : (cutS st none (some (k : Int)) ++ ⟨#[c]⟩ ++ cutS st (some (k : Int)) none).length = st.length + 1 := by
    rw [len_cps, e, List.length_append, List.length_cons, List.length_take, List.length_drop, len_cps st]
    omega
  rw [strLen_append, strLen_append] at l1
  have o1 : (⟨#[c]⟩ : Str).length = 1 := rfl
  rw [strLen_append, strLen_append]
  omega
theorem ins_at {l : List Nat} {k c : Nat} (hk : k ≤ l.length) (i : Nat) : (l.take k ++ c :: l.drop k)[i]? = if i < k then l[i]? else if i = k then some c else l[i - 1]? := by
  rw [List.getElem?_append, List.length_take, Nat.min_eq_left hk]
  split
  · rename_i h
    rw [List.getElem?_take, if_pos h]
  · split
    · rename_i h
      rw [h, Nat.sub_self]
      rfl
    · rw [show i - k = (i - 1 - k) + 1 by omega, List.getElem?_cons_succ, List.getElem?_drop]
      congr 1
      omega
theorem Clean.ins {l : List Nat} {k c : Nat} (h : Clean l) (hk : k ≤ l.length) (m : c ∈ signs.cps.toList) (ne : c ≠ 32) : Clean (l.take k ++ c :: l.drop k) := by
  obtain ⟨⟨h1, h2, h3⟩, h4⟩ := h
  have nc : some c ≠ some 32 := fun z => ne (Option.some.inj z)
  refine ⟨⟨fun d hd => ?_, ?_, fun i => ?_⟩, ?_⟩
  · rcases List.mem_append.mp hd with z | z
    · exact h1 d (List.mem_of_mem_take z)
    · rcases List.mem_cons.mp z with z | z
      · rw [z]; exact m
      · exact h1 d (List.mem_of_mem_drop z)
  · rw [List.head?_eq_getElem?, ins_at hk]
    rw [List.head?_eq_getElem?] at h2
    split
    · exact h2
    · split
      · exact nc
      · omega
  · rw [ins_at hk, ins_at hk]
    rintro ⟨e1, e2⟩
    by_cases a : i + 1 < k
    · rw [if_pos (by omega)] at e1
      rw [if_pos a] at e2
      exact h3 i ⟨e1, e2⟩
    · by_cases b : i + 1 = k
      · rw [if_neg (by omega), if_pos b] at e2
        exact nc e2
      · by_cases d : i = k
        · rw [if_neg (by omega), if_pos d] at e1
          exact nc e1
        · rw [if_neg (by omega), if_neg d] at e1
          rw [if_neg (by omega), if_neg (by omega), show i + 1 - 1 = (i - 1) + 1 by omega] at e2
          exact h3 (i - 1) ⟨e1, e2⟩
  · rw [List.getLast?_eq_getElem?, List.length_append, List.length_cons, List.length_take, List.length_drop, Nat.min_eq_left hk, show k + (l.length - k + 1) - 1 = l.length by omega, ins_at hk]
    rw [List.getLast?_eq_getElem?] at h4
    rw [if_neg (by omega)]
    split
    · exact nc
    · exact h4
theorem erase_map {α β : Type} (f : α → β) : ∀ (l : List α) (j : Nat), (l.map f).eraseIdx j = (l.eraseIdx j).map f
  | [], _ => rfl
  | _ :: _, 0 => rfl
  | a :: r, j + 1 => by
    show f a :: (r.map f).eraseIdx j = f a :: (r.eraseIdx j).map f
    rw [erase_map f r j]
def Asc7 (x : Str) : Prop := ∀ c ∈ x.cps.toList, c < 128
theorem Asc7.ok {x : Str} (h : Asc7 x) : PyData.strOk x = true := by
  unfold PyData.strOk
  rw [← Array.all_toList, List.all_eq_true]
  intro c hc
  exact decide_eq_true (Nat.lt_of_lt_of_le (h c hc) (by decide))
theorem small7 : ∀ c ∈ small.cps.toList, c < 128 := by decide +kernel
theorem signs7 : ∀ c ∈ signs.cps.toList, c < 128 := by decide +kernel
theorem letts.asc {x : Str} (h : letts x) : Asc7 x := fun c hc => small7 c (h c hc)
theorem Clean.asc {x : Str} (h : Clean x.cps.toList) : Asc7 x := fun c hc => signs7 c (h.1.1 c hc)
theorem names_dp {H : Hp} : ∀ xs : List V, (∀ v ∈ xs, Nm H v) → ∃ ds, DpAll K H xs ds ∧ PyData.canLayAll0 ds = true ∧ PyData.depthAll ds ≤ 3
  | [], _ => ⟨[], .nil, by simp [PyData.canLayAll0], by simp [PyData.depthAll]⟩
  | v :: r, h => by
    obtain ⟨ds, q1, q2, q3⟩ := names_dp r (fun w hw => h w (List.mem_cons_of_mem _ hw))
    obtain ⟨t, a, b, rfl, e, la, _, _, lb, _⟩ := h v List.mem_cons_self
    refine ⟨.tuple [.str a, .str b] :: ds, .cons (.tup (SqT.of e) (.cons (.str a) (.cons (.str b) .nil))) q1, ?_, ?_⟩
    · simp [PyData.canLayAll0, PyData.canLay0, q2, la.asc.ok, lb.asc.ok]
    · simp only [PyData.depthAll, PyData.depth]
      omega
theorem shaped_two {a b : Str} (ha : Asc7 a) (hb : Asc7 b) : SeqAt.shaped (.tuple [.str a, .str b]) = true := by
  unfold SeqAt.shaped
  have h1 : (PyData.tuple [.str a, .str b]).canLay0 = true := by simp [PyData.canLay0, PyData.canLayAll0, ha.ok, hb.ok]
  have h2 : (PyData.tuple [.str a, .str b]).depth ≤ 64 := by simp only [PyData.depth, PyData.depthAll]; omega
  rw [h1, decide_eq_true h2]
  rfl
theorem shaped_list {ds : List PyData} (q1 : PyData.canLayAll0 ds = true) (q2 : PyData.depthAll ds ≤ 3) : SeqAt.shaped (.list ds) = true := by
  unfold SeqAt.shaped
  have h1 : (PyData.list ds).canLay0 = true := by simp only [PyData.canLay0]; exact q1
  have h2 : (PyData.list ds).depth ≤ 64 := by simp only [PyData.depth]; omega
  rw [h1, decide_eq_true h2]
  rfl
theorem r65 {k : Nat} {A : Around} (r : Room k A) : A.units + 65 < cLine := by have := r.un; omega
def spNames : Sp := fun vs H Q _ => ∃ (h o : Addr) (n : Int), vs = [.ref h, .int 10] ∧ Hd h o n H ∧ n + 1000 ≤ far ∧
  ∀ (L : Addr) (xs : List V) H', H' L = some (.lst xs) → L ∉ [h, o] → xs.length = 10 → (∀ v ∈ xs, Nm H' v) → Hd h o (n + 700) H' → Bt [h, o] H H' → Q (.ref L) H'
theorem ok_names {f : Addr} {fd : FuncData} (D : Df K mg "_law_names" ["_law_hand_here", "_law_many"] sNames f fd) (T : Txt K mg) (cT : Ca P w K mg base 1 "_law_take" ["_law_hand_here", "_law_many"] spTake) (cP : Ca P w K mg base 2 "_law_pick" ["_law_hand_here", "_law_some"] spPick) (cW : Ca P w K mg base 3 "_law_word" ["_law_hand_here", "_law_least", "_law_most"] spWord) (cX : Ca P w K mg base 3 "_law_text" ["_law_hand_here", "_law_many"] spText) : FnOk P w K mg base CX0 4 f fd ["_law_hand_here", "_law_many"] spNames := by
  refine D.fn.ok scNames (fun vs H Q E h => ?_) (fun cdv A outer s H vs Q E hr h => ?_)
  · obtain ⟨h, o, n, rfl, hd, hn, q⟩ := h
    rfl
  · obtain ⟨h, o, n, rfl, hd, hn, q⟩ := h
    refine ⟨_, (pss_cons (ps_set (i := 2) scNames.nd rfl (.inl rfl) (pe_callTy (cr_listS (by rfl)) (by rfl) T.list (by decide +kernel) (pa_cons pe_str pa_nil)))
      (pss_cons (ps_setLc (i := 4) (own := [("_law_k", 3)]) (g := gName 3) (tt := tYes) (by rfl) scNames.nd rfl rfl (sw_true rfl rfl rfl (by decide +kernel)) (pi_range1 (by rfl) T.range (pa_cons (pe_op op_add pe_int (pe_ca cT hr (by decide) (by rfl) (pa_cons (pv 0) (pa_cons pe_int pa_nil)))) pa_nil)) (blkOk_by (own := [("_law_k", 3)]) (N := ["_law_hand_here", "_law_many", "_law_signs", "_law_k", "_law_tongues", "_law_stem", "_law_at", "_law_found", "_law_name", "_law_twin"]) (sc := defScope sNames) (by decide +kernel)) (fun _ _ _ _ _ => pg_name (i := 3) scNames.nd rfl (.inl rfl)) (fun _ _ _ _ _ => pts_nil) (fun _ _ _ _ _ => pe_ca cW hr (by decide) (by rfl) (pa_cons (pv 0) (pa_cons pe_int (pa_cons pe_int pa_nil)))))
      (pss_cons (ps_set (i := 5) scNames.nd rfl (.inl rfl) (pe_ca cX hr (by decide) (by rfl) (pa_cons (pv 0) (pa_cons (pe_ca cP hr (by decide) (by rfl) (pa_cons (pv 0) (pa_cons (pe_lst (pa_cons pe_int (pa_cons pe_int (pa_cons pe_int (pa_cons pe_int (pa_cons pe_int pa_nil)))))) pa_nil))) pa_nil))))
      (pss_cons (ps_par (i := 6) (j := 7) (by rfl) scNames.nd rfl rfl (by decide) rfl rfl (pa_cons (pe_ca cT hr (by decide) (by rfl) (pa_cons (pv 0) (pa_cons (pe_op op_add (pe_callB call_len_str (by rfl) T.len PySem.boot_len (pa_cons (pv 5) pa_nil)) pe_int) pa_nil))) (pa_cons (pe_lst pa_nil) pa_nil)) (by rfl))
      (pss_cons (ps_for PassesOwn.never rfl (pi_range1 (by rfl) T.range (pa_cons (pv 1) pa_nil)) (pg_name (i := 3) scNames.nd rfl (.inl rfl)) (pss_cons (ps_set (i := 8) scNames.nd rfl (.inl rfl) (pe_tup (pa_cons (pe_ca cP hr (by decide) (by rfl) (pa_cons (pv 0) (pa_cons (pv 4) pa_nil))) (pa_cons (pe_op op_add_str (pe_op op_add_str (pe_slice sl_str (pv 5) po_none (po_some (pv 6))) (pe_bm PySem.F.plainAttrs_list PySem.F.slot_list_pop PySem.F.type_list_pop mt_popAt (pv 2) (pa_cons (pe_ca cT hr (by decide) (by rfl) (pa_cons (pv 0) (pa_cons (pe_callB call_len_seq (by rfl) T.len PySem.boot_len (pa_cons (pv 2) pa_nil)) pa_nil))) pa_nil))) (pe_slice sl_str (pv 5) (po_some (pv 6)) po_none)) pa_nil))))
      (pss_cons (ps_if (PW.pt (pw_and (pt_cmpR op_gt (pv 3) pe_int (nomark _)) (pw_and1 (pt_cmpR op_eq (pe_ca cT hr (by decide) (by rfl) (pa_cons (pv 0) (pa_cons pe_int pa_nil))) pe_int (nomark _))))) (pss_cons (ps_set (i := 9) scNames.nd rfl (.inl rfl) (pe_tup (pa_cons (pe_ca cP hr (by decide) (by rfl) (pa_cons (pv 0) (pa_cons (pv 4) pa_nil))) (pa_cons (pe_ix ix_tup (pe_ca cP hr (by decide) (by rfl) (pa_cons (pv 0) (pa_cons (pv 7) pa_nil))) pe_int (fun _ _ => rfl)) pa_nil))))
      (pss_one (ps_set (i := 8) scNames.nd rfl (.inl rfl) (pe_ifExp (pt_cmpR (op_notInD (r65 hr)) (pv 9) (pv 7) (by rfl)) (pv 9) (pv 8))))) pss_nil)
      (pss_one (ps_expr (pe_bm PySem.F.plainAttrs_list PySem.F.slot_list_insert PySem.F.type_list_insert mt_insert (pv 7) (pa_cons (pe_ca cT hr (by decide) (by rfl) (pa_cons (pv 0) (pa_cons (pe_op op_add (pv 3) pe_int) pa_nil))) (pa_cons (pv 8) pa_nil))))))))
      (pss_one (ps_ret (pv 7)))))))), ?_⟩
    have fr : n + 1000 ≤ 1000000 := hn
    refine ⟨alnum, rfl, (Nat.le_trans (show alnum.length ≤ 100 by decide +kernel) (by decide)), fun S nS => ?_⟩
    have sS := same_upd nS (o := .lst (alnum.cps.toList.map sg1))
    have eS : (upd H S (.lst (alnum.cps.toList.map sg1))) S = some (.lst (alnum.cps.toList.map sg1)) := upd_same
    have hS := hd.same sS
    have So := hd.fresh nS
    have bS : Bt [h, o] H (upd H S (.lst (alnum.cps.toList.map sg1))) := Bt.of sS
    generalize upd H S (.lst (alnum.cps.toList.map sg1)) = H1 at eS hS bS ⊢
    -- tongues
    refine ⟨_, rfl, h, o, 3, n, rfl, by decide, by decide, hS, by show n ≤ 1000000; omega, fun d H2 d0 d1 h2 b2 => ?_⟩
    refine ⟨1, d, rfl, rfl, _, rfl, by omega, by omega, fun T' nT => ?_⟩
    have To := h2.fresh nT
    have sT := same_upd nT (o := .lst [])
    have eS2 := b2 _ _ So eS
    have ST : S ≠ T' := ne_of_none eS2 nT
    refine lc_range (lo := 0) (fun i Hi => ∃ ts : List Str, Hi T' = some (.lst (ts.map V.str)) ∧ ts.length = i ∧ (∀ t ∈ ts, letts t ∧ 2 ≤ t.length ∧ t.length ≤ 3) ∧ Hd h o (n + 1 + 60 * i) Hi ∧ Bt [h, o] H2 Hi) ?_ ?_ ?_
    · exact ⟨[], upd_same, rfl, by simp, (h2.same sT).mono (by omega), Bt.of sT⟩
    · rintro i Hi hi ⟨ts, eT, lt, ct, hdi, bi⟩
      have hi' : i < (1 + d).toNat := hi
      refine ⟨rfl, ?_⟩
      unfold tYes
      refine iteT ?_
      refine ⟨_, rfl, h, o, n + 1 + 60 * i, 2, 3, rfl, by decide, by decide, by decide, hdi, by show n + 1 + 60 * (i : Int) + 100 ≤ 1000000; omega, fun x H3 x0 x1 lx h3 b3 => ?_⟩
      refine ⟨_, b3 _ _ To eT, ?_, ts ++ [x], ?_, by rw [List.length_append, lt]; rfl, ?_, ?_, ?_⟩
      · rw [List.length_map, lt]
        exact Nat.lt_of_le_of_lt (show i ≤ 100 by omega) (by decide)
      · rw [upd_same, List.map_append]
        rfl
      · intro y hy
        rcases List.mem_append.mp hy with z | z
        · exact ct y z
        · rw [List.mem_singleton.mp z]
          exact ⟨lx, by omega, by omega⟩
      · exact (h3.upd To).mono (by omega)
      · intro b x nb e
        rw [upd_ne (ne_of_none e nT)]
        exact b3 b x nb (bi b x nb e)
    rintro H3 ⟨ts, eT, lt, ct, h3, b3⟩
    have lt' : ts.length = (1 + d).toNat := lt
    have tne : ts ≠ [] := fun z => by rw [z] at lt'; simp at lt'; omega
    have h3' : Hd h o (n + 200) H3 := h3.mono (by
      show n + 1 + 60 * (((1 + d).toNat : Nat) : Int) ≤ n + 200
      omega)
    have eS3 := b3 _ _ So eS2
    have bH3 : Bt [h, o] H H3 := bS.trans (b2.trans b3)
    clear h3 b3 eS2 eS b2 bS sS sT h2 hS
    -- stem
    refine ⟨_, rfl, _, rfl, (by show 5 ≤ sizeLine; decide), fun l5 n5 => ?_⟩
    have s5 := same_upd n5 (o := .lst [.int 0, .int 1, .int 3, .int 8, .int 39])
    refine ⟨h, o, n + 200, _, rfl, h3'.same s5, by show n + 200 ≤ 1000000; omega, .inl ⟨l5, _, rfl, upd_same, h3'.fresh n5, by simp, by show 5 < 1000; decide, fun v H4 mv h4 b4 => ?_⟩⟩
    obtain ⟨r, rfl, r1, r2⟩ : ∃ r : Int, v = .int r ∧ 0 ≤ r ∧ r ≤ 39 := by
      simp only [List.mem_cons, List.not_mem_nil, or_false] at mv
      rcases mv with e | e | e | e | e
      · exact ⟨_, e, by decide, by decide⟩
      · exact ⟨_, e, by decide, by decide⟩
      · exact ⟨_, e, by decide, by decide⟩
      · exact ⟨_, e, by decide, by decide⟩
      · exact ⟨_, e, by decide, by decide⟩
    refine ⟨h, o, n + 200 + 1, r, rfl, r1, by omega, h4, by show n + 200 + 1 + 200 ≤ 1000000; omega, fun st H5 ls cl h5 b5 => ?_⟩
    have bb : Bt [h, o] H3 H5 := (Bt.of s5).trans (b4.trans b5)
    have eS5 := bb _ _ So eS3
    have eT5 := bb _ _ To eT
    have bH5 := bH3.trans bb
    have lsz : st.length ≤ sizeLine := Nat.le_trans (show st.length ≤ 100 by omega) (by decide)
    -- at, found
    refine ⟨_, rfl, _, rfl, st, rfl, lsz, _, 1, rfl, rfl, h, o, (st.length : Int) + 1, n + 261, rfl, by omega, by omega, h5.mono (by omega), by show n + 261 ≤ 1000000; omega, fun at' H6 a0 a1 h6 b6 => ?_⟩
    refine ⟨(by show 0 ≤ sizeLine; decide), fun F nF => ⟨_, _, rfl, ?_⟩⟩
    have sF := same_upd nF (o := .lst [])
    have eS6 := b6 _ _ So eS5
    have eT6 := b6 _ _ To eT5
    have bH6 := bH5.trans b6
    have Fo := h6.fresh nF
    have SF : S ≠ F := ne_of_none eS6 nF
    have TF : T' ≠ F := ne_of_none eT6 nF
    have HS : H S = none := nS
    have HF : H F = none := bH6.none Fo nF
    have eF : (upd H6 F (.lst [])) F = some (.lst []) := upd_same
    have eS7 := sF _ _ eS6
    have eT7 := sF _ _ eT6
    have h7 := h6.same sF
    have bH7 := bH6.trans (Bt.of (A := [h, o]) sF)
    generalize upd H6 F (.lst []) = H7 at eF eS7 eT7 h7 bH7 ⊢
    clear eS6 eT6 bH6 eS5 eT5 bH5 eS3 eT bH3 h3' h4 b4 h5 b5 b6 sF s5 h6
    obtain ⟨k0, rfl⟩ : ∃ k0 : Nat, at' = (k0 : Int) := ⟨at'.toNat, by omega⟩
    refine ⟨_, rfl, 10, rfl, by decide, by decide, for_range (lo := 0) (n := (10 : Int).toNat) (fun k σ Hi => ∃ (sg : List Nat) (xs : List V) (c3 c8 c9 : Option V), σ = [some (.ref h), some (.int 10), some (.ref S), c3, some (.ref T'), some (.str st), some (.int (k0 : Int)), some (.ref F), c8, c9] ∧
      Hi S = some (.lst (sg.map sg1)) ∧ sg.length + k = 62 ∧ (∀ c ∈ sg, c ∈ alnum.cps.toList) ∧ Hi T' = some (.lst (ts.map V.str)) ∧ Hi F = some (.lst xs) ∧ xs.length = k ∧ (∀ v ∈ xs, Nm Hi v) ∧ Hd h o (n + 262 + 6 * k) Hi ∧ Bt [h, o] H Hi) ?_ ?_ ?_⟩
    · exact ⟨_, [], none, none, none, rfl, eS7, (by decide +kernel), fun c hc => hc, eT7, eF, rfl, by simp, h7.mono (by omega), bH7⟩
    · rintro k σ Hi hk ⟨sg, xs, c3, c8, c9, rfl, eSi, lsg, csg, eTi, eFi, lxs, cxs, hdi, bi⟩
      have k10 : k < 10 := hk
      have nkb : n + 262 + 6 * (k : Int) + 10 ≤ 1000000 := by omega
      have tl : (ts.map V.str).length < 1000 := by rw [List.length_map]; omega
      have tne' : ts.map V.str ≠ [] := fun z => tne (List.map_eq_nil_iff.mp z)
      have kst : k0 ≤ st.cps.toList.length := by rw [← len_cps]; omega
      -- what the turn leaves
      have fin : ∀ (v : V) (Hx : Hp) (i : Nat) (sg' : List Nat) (c3 c8 c9 : Option V), Hx S = some (.lst (sg'.map sg1)) → sg'.length + (k + 1) = 62 → (∀ c ∈ sg', c ∈ alnum.cps.toList) → Hx T' = some (.lst (ts.map V.str)) → Hx F = some (.lst xs) → Tp Hi Hx → Nm Hx v → Hd h o (n + 262 + 6 * ((k + 1 : Nat) : Int)) Hx → Bt [h, o] H Hx →
          ∃ (sg : List Nat) (xs' : List V) (c3' c8' c9' : Option V), [some (V.ref h), some (.int 10), some (.ref S), c3, some (.ref T'), some (.str st), some (.int (k0 : Int)), some (.ref F), c8, c9] = [some (V.ref h), some (.int 10), some (.ref S), c3', some (.ref T'), some (.str st), some (.int (k0 : Int)), some (.ref F), c8', c9'] ∧
            (upd Hx F (.lst (xs.take i ++ [v] ++ xs.drop i))) S = some (.lst (sg.map sg1)) ∧ sg.length + (k + 1) = 62 ∧ (∀ c ∈ sg, c ∈ alnum.cps.toList) ∧ (upd Hx F (.lst (xs.take i ++ [v] ++ xs.drop i))) T' = some (.lst (ts.map V.str)) ∧ (upd Hx F (.lst (xs.take i ++ [v] ++ xs.drop i))) F = some (.lst xs') ∧ xs'.length = k + 1 ∧
            (∀ v' ∈ xs', Nm (upd Hx F (.lst (xs.take i ++ [v] ++ xs.drop i))) v') ∧ Hd h o (n + 262 + 6 * ((k + 1 : Nat) : Int)) (upd Hx F (.lst (xs.take i ++ [v] ++ xs.drop i))) ∧ Bt [h, o] H (upd Hx F (.lst (xs.take i ++ [v] ++ xs.drop i))) := fun v Hx i sg' c3 c8 c9 q1 q2 q3 q4 q5 q6 q7 q8 q9 => by
        refine ⟨sg', _, _, _, _, rfl, by rw [upd_ne SF]; exact q1, q2, q3, by rw [upd_ne TF]; exact q4, upd_same, ?_, ?_, q8.upd Fo, fun b x nb e => ?_⟩
        · rw [List.length_append, List.length_append, List.length_take, List.length_drop, lxs]
          show min i k + 1 + (k - i) = k + 1
          omega
        · intro v' hv
          have : v' ∈ xs ∨ v' = v := by
            rcases List.mem_append.mp hv with z | z
            · rcases List.mem_append.mp z with z | z
              · exact .inl (List.mem_of_mem_take z)
              · exact .inr (List.mem_singleton.mp z)
            · exact .inl (List.mem_of_mem_drop z)
          rcases this with z | z
          · exact ((cxs v' z).tp q6).tp (tp_upd q5)
          · rw [z]
            exact q7.tp (tp_upd q5)
        · rw [upd_ne (ne_of_none e HF)]
          exact q9 b x nb e
      -- name
      refine ⟨_, rfl, _, rfl, h, o, n + 262 + 6 * k, _, rfl, hdi, by show n + 262 + 6 * (k : Int) ≤ 1000000; omega, .inl ⟨T', _, rfl, eTi, To, tne', tl, fun v1 Ha mv1 ha ba => ?_⟩⟩
      obtain ⟨t1, mt1, rfl⟩ := List.mem_map.mp mv1
      have eSa := ba _ _ So eSi
      have eTa := ba _ _ To eTi
      have eFa := ba _ _ Fo eFi
      have pa : Tp Hi Ha := hdi.tp ba
      have sgl : 0 < sg.length := by omega
      refine ⟨_, rfl, _, rfl, (k0 : Int), rfl, st, rfl, lsz, _, rfl, .inl ⟨rfl, _, SqL.of eSa⟩, _, rfl, _, rfl, S, _, rfl, .inl (SqL.of eSa), h, o, ((sg.map sg1).length : Int), n + 262 + 6 * k + 1, rfl, by rw [List.length_map]; omega, by rw [List.length_map]; omega, ha, by show n + 262 + 6 * (k : Int) + 1 ≤ 1000000; omega, fun j Hb j0 j1 hb bb => ?_⟩
      rw [List.length_map] at j1
      obtain ⟨jn, rfl⟩ : ∃ jn : Nat, j = (jn : Int) := ⟨j.toNat, by omega⟩
      have jl : jn < sg.length := by omega
      have eSb := bb _ _ So eSa
      have eTb := bb _ _ To eTa
      have eFb := bb _ _ Fo eFa
      refine ⟨S, _, (jn : Int), jn, sg1 sg[jn], rfl, rfl, eSb, by omega, by omega, by rw [List.length_map, seqIndex_of (by omega) (by omega)]; rfl, by rw [List.getElem?_map, List.getElem?_eq_getElem jl]; rfl, ?_⟩
      have er : (sg.map sg1).eraseIdx jn = (sg.eraseIdx jn).map sg1 := erase_map sg1 sg jn
      rw [er]
      have mj := csg _ (List.getElem_mem jl)
      generalize sg[jn] = cj at mj ⊢
      have eSc : (upd Hb S (.lst ((sg.eraseIdx jn).map sg1))) S = some (.lst ((sg.eraseIdx jn).map sg1)) := upd_same
      have eTc : (upd Hb S (.lst ((sg.eraseIdx jn).map sg1))) T' = some (.lst (ts.map V.str)) := by rw [upd_ne (Ne.symm ST)]; exact eTb
      have eFc : (upd Hb S (.lst ((sg.eraseIdx jn).map sg1))) F = some (.lst xs) := by rw [upd_ne (Ne.symm SF)]; exact eFb
      have hc := hb.upd So (x := .lst ((sg.eraseIdx jn).map sg1))
      have pc : Tp Hi (upd Hb S (.lst ((sg.eraseIdx jn).map sg1))) := (pa.trans (ha.tp bb)).trans (tp_upd eSb)
      have bc : Bt [h, o] H (upd Hb S (.lst ((sg.eraseIdx jn).map sg1))) := fun b x nb e => by
        rw [upd_ne (ne_of_none e HS)]
        exact bb b x nb (ba b x nb (bi b x nb e))
      have lsg' : (sg.eraseIdx jn).length + (k + 1) = 62 := by
        rw [List.length_eraseIdx_of_lt jl]
        omega
      have csg' : ∀ c ∈ sg.eraseIdx jn, c ∈ alnum.cps.toList := fun c hc => csg c (List.mem_of_mem_eraseIdx hc)
      generalize upd Hb S (.lst ((sg.eraseIdx jn).map sg1)) = Hc at eSc eTc eFc hc pc bc ⊢
      generalize sg.eraseIdx jn = sg' at eSc lsg' csg' ⊢
      clear eSb eTb eFb eSa eTa eFa ha hb bb ba pa er j0 j1
      have i1 := ins_cps (c := cj) kst
      obtain ⟨w1, w2, w3⟩ := ins_len (c := cj) kst
      have fitS : ∀ {a b : Nat}, a + b ≤ 200 → a + b ≤ sizeLine := fun h => Nat.le_trans h (by decide)
      have st40 : st.length ≤ 39 := by omega
      refine ⟨_, _, rfl, rfl, fitS (by show (cutS st none (some (k0 : Int))).length + 1 ≤ 200; omega), _, rfl, _, rfl, (k0 : Int), rfl, st, rfl, lsz, _, _, rfl, rfl, fitS (by rw [strLen_append]; show (cutS st none (some (k0 : Int))).length + 1 + (cutS st (some (k0 : Int)) none).length ≤ 200; omega), ?_⟩
      refine ⟨(by show 2 ≤ sizeLine; decide), fun p1 np1 => ?_⟩
      obtain ⟨bx, ebx⟩ : ∃ bx : Str, bx = cutS st none (some (k0 : Int)) ++ ⟨#[cj]⟩ ++ cutS st (some (k0 : Int)) none := ⟨_, rfl⟩
      rw [← ebx] at i1 w3 ⊢
      have sp := same_upd np1 (o := .tup [.str t1, .str bx])
      have nm1 : Nm (upd Hc p1 (.tup [.str t1, .str bx])) (.ref p1) := by
        obtain ⟨q1, q2, q3⟩ := ct t1 mt1
        refine ⟨p1, t1, bx, rfl, upd_same, q1, q2, q3, ?_, by omega, by omega⟩
        rw [i1]
        exact cl.ins kst (alnum_ok cj mj).1 (alnum_ok cj mj).2
      have eSd := sp _ _ eSc
      have eTd := sp _ _ eTc
      have eFd := sp _ _ eFc
      have hd' := hc.same sp
      have pd := pc.trans (tp_same sp)
      have bd := bc.trans (Bt.of (A := [h, o]) sp)
      generalize upd Hc p1 (.tup [.str t1, .str bx]) = Hd1 at nm1 eSd eTd eFd hd' pd bd ⊢
      clear eSc eTc eFc hc pc bc sp np1
      have xfit : xs.length < sizeLine := Nat.lt_of_le_of_lt (show xs.length ≤ 100 by omega) (by decide)
      refine ⟨_, rfl, _, 0, rfl, rfl, _, rfl, ite2 (fun e => ?_) (fun e => ?_)⟩
      · have kp : 0 < k := by
          have : (0 : Int) < 0 + (k : Int) := of_decide_eq_true e
          omega
        refine ⟨_, rfl, h, o, 4, n + 262 + 6 * (k : Int) + 1 + 1, rfl, by decide, by decide, hd', by show n + 262 + 6 * (k : Int) + 1 + 1 ≤ 1000000; omega, fun u He u0 u1 he be => ⟨rfl, _, rfl, ite2 (fun e2 => ?_) (fun e2 => ?_)⟩⟩
        · have eSe := be _ _ So eSd
          have eTe := be _ _ To eTd
          have eFe := be _ _ Fo eFd
          have pe := pd.trans (hd'.tp be)
          have nme := nm1.tp (hd'.tp be)
          have bte := bd.trans be
          refine ⟨_, rfl, _, rfl, h, o, n + 262 + 6 * (k : Int) + 1 + 1 + 1, _, rfl, he, by show n + 262 + 6 * (k : Int) + 1 + 1 + 1 ≤ 1000000; omega, .inl ⟨T', _, rfl, eTe, To, tne', tl, fun v2 Hf mv2 hf bf => ?_⟩⟩
          obtain ⟨t2, mt2, rfl⟩ := List.mem_map.mp mv2
          have eSf := bf _ _ So eSe
          have eTf := bf _ _ To eTe
          have eFf := bf _ _ Fo eFe
          have pf := pe.trans (he.tp bf)
          have nmf := nme.tp (he.tp bf)
          refine ⟨_, rfl, _, rfl, h, o, n + 262 + 6 * (k : Int) + 1 + 1 + 1 + 1, _, rfl, hf, by show n + 262 + 6 * (k : Int) + 1 + 1 + 1 + 1 ≤ 1000000; omega, .inl ⟨F, xs, rfl, eFf, Fo, fun z => by rw [z] at lxs; simp at lxs; omega, by omega, fun v3 Hg mv3 hg bg => ?_⟩⟩
          have eSg := bg _ _ So eSf
          have eTg := bg _ _ To eTf
          have eFg := bg _ _ Fo eFf
          have pg := pf.trans (hf.tp bg)
          have nmg := nmf.tp (hf.tp bg)
          have btg := (bte.trans bf).trans bg
          obtain ⟨t3, a3, b3, rfl, e3, _, _, _, q4, q5, q6⟩ := (cxs v3 mv3).tp pg
          refine ⟨t3, _, 1, .str b3, rfl, rfl, SqT.of e3, atI_nat (j := 1) rfl, (by show 2 ≤ sizeLine; decide), fun p2 np2 => ?_⟩
          have s2 := same_upd np2 (o := .tup [.str t2, .str b3])
          have nm2 : Nm (upd Hg p2 (.tup [.str t2, .str b3])) (.ref p2) := by
            obtain ⟨r1, r2, r3⟩ := ct t2 mt2
            exact ⟨p2, t2, b3, rfl, upd_same, r1, r2, r3, q4, q5, q6⟩
          have e2' : (upd Hg p2 (.tup [.str t2, .str b3])) p2 = some (.tup [.str t2, .str b3]) := upd_same
          have eSh := s2 _ _ eSg
          have eTh := s2 _ _ eTg
          have eFh := s2 _ _ eFg
          have hh := hg.same s2
          have ph := pg.trans (tp_same s2)
          have nmh := nmg.tp (tp_same s2)
          have bth := btg.trans (Bt.of (A := [h, o]) s2)
          generalize upd Hg p2 (.tup [.str t2, .str b3]) = Hh at nm2 e2' eSh eTh eFh hh ph nmh bth ⊢
          obtain ⟨ds, dq1, dq2, dq3⟩ := names_dp (K := K) xs (fun v hv => (cxs v hv).tp ph)
          refine ⟨_, rfl, _, rfl, _, ds, .tup (SqT.of e2') (.cons (.str t2) (.cons (.str b3) .nil)), .lst (SqL.of eFh) dq1, shaped_two (ct t2 mt2).1.asc q4.asc, shaped_list dq2 dq3, _, rfl, ite2 (fun e3 => ?_) (fun e3 => ?_)⟩
          · refine ⟨_, rfl, ?_⟩
            refine ⟨_, rfl, .inl ⟨rfl, _, SqL.of eFh⟩, _, rfl, _, rfl, _, 1, rfl, rfl, h, o, 0 + (k : Int) + 1, n + 262 + 6 * (k : Int) + 1 + 1 + 1 + 1 + 1, rfl, by omega, by omega, hh, by show n + 262 + 6 * (k : Int) + 1 + 1 + 1 + 1 + 1 ≤ 1000000; omega, fun i Hy i0 i1 hy yb => ?_⟩
            refine ⟨_, rfl, F, xs, i, _, rfl, rfl, yb _ _ Fo eFh, xfit, i0, by omega, ?_⟩
            exact fin _ Hy i.toNat sg' _ _ _ (yb _ _ So eSh) lsg' csg' (yb _ _ To eTh) (yb _ _ Fo eFh) (ph.trans (hh.tp yb)) (nm2.tp (hh.tp yb)) (hy.mono (by omega)) (bth.trans yb)
          · refine ⟨_, rfl, ?_⟩
            refine ⟨_, rfl, .inl ⟨rfl, _, SqL.of eFh⟩, _, rfl, _, rfl, _, 1, rfl, rfl, h, o, 0 + (k : Int) + 1, n + 262 + 6 * (k : Int) + 1 + 1 + 1 + 1 + 1, rfl, by omega, by omega, hh, by show n + 262 + 6 * (k : Int) + 1 + 1 + 1 + 1 + 1 ≤ 1000000; omega, fun i Hy i0 i1 hy yb => ?_⟩
            refine ⟨_, rfl, F, xs, i, _, rfl, rfl, yb _ _ Fo eFh, xfit, i0, by omega, ?_⟩
            exact fin _ Hy i.toNat sg' _ _ _ (yb _ _ So eSh) lsg' csg' (yb _ _ To eTh) (yb _ _ Fo eFh) (ph.trans (hh.tp yb)) (nmh.tp (hh.tp yb)) (hy.mono (by omega)) (bth.trans yb)
        · have eSe := be _ _ So eSd
          have eTe := be _ _ To eTd
          have eFe := be _ _ Fo eFd
          have pe := pd.trans (hd'.tp be)
          have nme := nm1.tp (hd'.tp be)
          have bte := bd.trans be
          refine ⟨_, rfl, .inl ⟨rfl, _, SqL.of eFe⟩, _, rfl, _, rfl, _, 1, rfl, rfl, h, o, 0 + (k : Int) + 1, n + 262 + 6 * (k : Int) + 1 + 1 + 1, rfl, by omega, by omega, he, by show n + 262 + 6 * (k : Int) + 1 + 1 + 1 ≤ 1000000; omega, fun i Hy i0 i1 hy yb => ?_⟩
          refine ⟨_, rfl, F, xs, i, _, rfl, rfl, yb _ _ Fo eFe, xfit, i0, by omega, ?_⟩
          exact fin _ Hy i.toNat sg' _ _ _ (yb _ _ So eSe) lsg' csg' (yb _ _ To eTe) (yb _ _ Fo eFe) (pe.trans (he.tp yb)) (nme.tp (he.tp yb)) (hy.mono (by omega)) (bte.trans yb)
      · skip
        refine ⟨_, rfl, .inl ⟨rfl, _, SqL.of eFd⟩, _, rfl, _, rfl, _, 1, rfl, rfl, h, o, 0 + (k : Int) + 1, n + 262 + 6 * (k : Int) + 1 + 1, rfl, by omega, by omega, hd', by show n + 262 + 6 * (k : Int) + 1 + 1 ≤ 1000000; omega, fun i Hy i0 i1 hy yb => ?_⟩
        refine ⟨_, rfl, F, xs, i, _, rfl, rfl, yb _ _ Fo eFd, xfit, i0, by omega, ?_⟩
        exact fin _ Hy i.toNat sg' _ _ _ (yb _ _ So eSd) lsg' csg' (yb _ _ To eTd) (yb _ _ Fo eFd) (pd.trans (hd'.tp yb)) (nm1.tp (hd'.tp yb)) (hy.mono (by omega)) (bd.trans yb)
    rintro σ He ⟨sg, xs, c3, c8, c9, rfl, eSe, lsg, csg, eTe, eFe, lxs, cxs, hde, be⟩
    refine ⟨_, rfl, q F xs He eFe Fo lxs cxs (hde.mono ?_) be⟩
    show n + 262 + 6 * (((10 : Int).toNat : Nat) : Int) ≤ n + 700
    have : (10 : Int).toNat = 10 := rfl
    omega
end
end N13
set_option Elab.async false
set_option linter.all false
set_option maxRecDepth 100000
set_option maxHeartbeats 4000000
set_option pp.maxSteps 400
set_option pp.deepTerms false
namespace N13
open PySem PySem.Spec PyProof.Rows L2
open Xk Az
section
variable {P : Program} {w : World} {K : PySem.W.Frag} {mg : Str → Option Value} {base : Heap}
def isStr : PyData → Bool
  | .str _ => true
  | _ => false
def isTup : PyData → Bool
  | .tuple _ => true
  | _ => false
theorem z_str : ∀ d : PyData, PySem.W.kitOne K (.type (kindD d)) (.type "str") = some (isStr d)
  | .none => kit_ty (a := "NoneType") (b := "str") (r := false) (by decide +kernel)
  | .bool _ => kit_ty (a := "bool") (b := "str") (r := false) (by decide +kernel)
  | .int _ => kit_ty (a := "int") (b := "str") (r := false) (by decide +kernel)
  | .str _ => kit_ty (a := "str") (b := "str") (r := true) (by decide +kernel)
  | .list _ => kit_ty (a := "list") (b := "str") (r := false) (by decide +kernel)
  | .tuple _ => kit_ty (a := "tuple") (b := "str") (r := false) (by decide +kernel)
  | .dict _ => kit_ty (a := "dict") (b := "str") (r := false) (by decide +kernel)
theorem z_tup : ∀ d : PyData, PySem.W.kitOne K (.type (kindD d)) (.type "tuple") = some (isTup d)
  | .none => kit_ty (a := "NoneType") (b := "tuple") (r := false) (by decide +kernel)
  | .bool _ => kit_ty (a := "bool") (b := "tuple") (r := false) (by decide +kernel)
  | .int _ => kit_ty (a := "int") (b := "tuple") (r := false) (by decide +kernel)
  | .str _ => kit_ty (a := "str") (b := "tuple") (r := false) (by decide +kernel)
  | .list _ => kit_ty (a := "list") (b := "tuple") (r := false) (by decide +kernel)
  | .tuple _ => kit_ty (a := "tuple") (b := "tuple") (r := true) (by decide +kernel)
  | .dict _ => kit_ty (a := "dict") (b := "tuple") (r := false) (by decide +kernel)
def chk (x sg : Str) : Bool := x.cps.toList.all fun c => decide (c ∈ sg.cps.toList)
def ofT (d : PyData) (sg : Str) (a b : Int) : Bool := match d with
  | .str x => decide (a ≤ (x.length : Int)) && decide ((x.length : Int) ≤ b) && chk x sg
  | _ => false
def spTextOf (K : PySem.W.Frag) : Sp := fun vs H Q _ => ∃ (v : V) (d : PyData) (sg : Str) (a b : Int), vs = [v, .str sg, .int a, .int b] ∧ Dz K H v d ∧ (∀ x, d = .str x → x.length ≤ 2000) ∧ ∀ H', L2.Same H H' → Q (.bl (ofT d sg a b)) H'
theorem ok_of {f : Addr} {fd : FuncData} (D : Df K mg "is_text_of" ["thing", "signs", "least", "most"] sIsTextOf f fd) (T : Txt K mg) : FnOk P w K mg base CX0 1 f fd ["thing", "signs", "least", "most"] (spTextOf K) := by
  refine D.fn.ok scIsTextOf (fun vs H Q E h => ?_) (fun cdv A outer s H vs Q E hr h => ?_)
  · obtain ⟨v, d, sg, a, b, rfl, hz, sz, q⟩ := h
    rfl
  · obtain ⟨v, d, sg, a, b, rfl, hz, sz, q⟩ := h
    refine ⟨_, (pss_cons (ps_if (PW.pt (pw_or (pt_not (pt_val (pe_callB call_isi (by rfl) T.isi (by decide +kernel) (pa_cons (pv 0) (pa_cons (pe_bltn (v := .ty "str") (by rfl) T.str (by decide +kernel) rfl) pa_nil))))) (pw_or1 (pt_not (pt_chain op_le op_le (pv 2) (pe_callB call_len_str (by rfl) T.len PySem.boot_len (pa_cons (pv 0) pa_nil)) (pv 3)))))) (pss_one (ps_ret pe_bl)) pss_nil)
      (pss_one (ps_ret (pe_callB (cr_all (by rfl)) (by rfl) T.all (by decide +kernel) (pa_cons (pe_lc (own := [("sign", 4)]) (g := gName 4) (tt := tYes) (by rfl) scIsTextOf.nd (pi_str (pv 0)) (blkOk_by (own := [("sign", 4)]) (N := ["thing", "signs", "least", "most", "sign"]) (sc := defScope sIsTextOf) (by decide +kernel)) (fun _ _ _ _ _ => pg_name (i := 4) scIsTextOf.nd rfl (.inl rfl)) (fun _ _ _ _ _ => pts_nil) (fun _ _ _ _ _ => pe_cmpR op_in_sign (pv 4) (pv 1) (by rfl))) pa_nil))))), ?_⟩
    refine ⟨_, rfl, _, _, _, _, isStr d, rfl, .ty _, hz.ty, z_str d, _, rfl, ?_⟩
    have qf : ofT d sg a b = false → Q (.bl false) H := fun e => by
      have w := q H (Same.refl H)
      rw [e] at w
      exact w
    cases hz with
    | str x =>
      have lx := sz x rfl
      have fit : x.length ≤ sizeLine := Nat.le_trans lx (by decide)
      refine iteF ⟨_, rfl, _, rfl, x, rfl, fit, a, _, rfl, rfl, _, rfl, ?_⟩
      have eo : ofT (.str x) sg a b = (decide (a ≤ (x.length : Int)) && decide ((x.length : Int) ≤ b) && chk x sg) := rfl
      cases c1 : decide (a ≤ (x.length : Int)) with
      | false => exact iteF ⟨_, rfl, iteT (qf (by rw [eo, c1]; rfl))⟩
      | true =>
        refine iteT ⟨_, rfl, _, b, rfl, rfl, _, rfl, ?_⟩
        cases c2 : decide ((x.length : Int) ≤ b) with
        | false => exact iteT (qf (by rw [eo, c1, c2]; rfl))
        | true =>
          refine iteF ⟨_, rfl, x, rfl, fun L nL => ?_⟩
          have sL := same_upd nL (o := .lst [])
          refine lc_it (walk_str (z := x)) (fun i Hi => ∃ bs : List Bool, bs = (x.cps.toList.take i).map (fun c => decide (c ∈ sg.cps.toList)) ∧ Hi L = some (.lst (bs.map V.bl)) ∧ L2.Same H Hi) ?_ (fun _ _ _ _ => trivial) ?_ ?_
          · exact ⟨[], rfl, upd_same, sL⟩
          · rintro i v Hi Hi' _ ⟨bs, eb, eL, sm⟩ ⟨rfl, c, ec, rfl⟩
            rw [← Array.getElem?_toList] at ec
            refine ⟨rfl, ?_⟩
            unfold tYes
            refine iteT ⟨_, rfl, _, rfl, c, sg, rfl, rfl, ?_⟩
            have il : i < x.cps.toList.length := (List.getElem?_eq_some_iff.mp ec).1
            refine ⟨_, eL, ?_, bs ++ [decide (c ∈ sg.cps.toList)], ?_, ?_, fun b o e => ?_⟩
            · rw [List.length_map, eb, List.length_map, List.length_take]
              refine Nat.lt_of_le_of_lt (show min i x.cps.toList.length ≤ 2000 from ?_) (by decide)
              rw [← len_cps]
              omega
            · rw [List.take_succ, ec, List.map_append, eb]
              rfl
            · rw [upd_same, List.map_append]
              rfl
            · rw [upd_ne (ne_of_none e nL)]
              exact sm _ _ e
          · rintro He ⟨bs, eb, eL, sm⟩
            refine ⟨L, _, rfl, SqL.of eL, ?_⟩
            have w := q He sm
            rw [eo, c1, c2] at w
            rw [eb, List.take_of_length_le (by rw [Array.length_toList]; exact Nat.le_refl _), List.all_map]
            exact w
    | _ => exact iteT (qf rfl)
end
end N13
set_option Elab.async false
set_option linter.all false
set_option maxRecDepth 100000
set_option maxHeartbeats 4000000
set_option pp.maxSteps 400
set_option pp.deepTerms false
namespace N13
open PySem PySem.Spec PyProof.Rows L2
open Xk Az
section
variable {P : Program} {w : World} {K : PySem.W.Frag} {mg : Str → Option Value} {base : Heap}
def sk (x : Str) : Bool := decide (V.str x = V.str (Txt.stripChars x " "))
def db (x : Str) : Bool := !(Builtin.Str.occurrences x "  " 0 x.length 1).isEmpty
def ntx (d : PyData) : Bool := match d with
  | .str x => ofT (.str x) signs 1 40 && (sk x && !db x)
  | _ => false
def nmD (d : PyData) : Bool := match d with
  | .tuple [a, b] => ofT a small 2 3 && ntx b
  | _ => false
def Tx (d : PyData) : Prop := ∀ x, d = .str x → x.length ≤ 2000 ∧ Asc7 x
def T2 (d : PyData) : Prop := ∀ ds, d = .tuple ds → ∀ e ∈ ds, Tx e
theorem ofT_str {d : PyData} {sg : Str} {a b : Int} (h : ofT d sg a b = true) : ∃ x, d = .str x := by
  cases d with
  | str x => exact ⟨x, rfl⟩
  | _ => cases h
theorem ntx_no {d : PyData} (h : ofT d signs 1 40 = false) : ntx d = false := by
  cases d with
  | str x =>
    show (ofT (.str x) signs 1 40 && (sk x && !db x)) = false
    rw [h]
    rfl
  | _ => rfl
theorem len3 {α : Type} {a b c : α} {r : List α} (e : ¬(!decide (V.int (((a :: b :: c :: r).length : Nat) : Int) = V.int 2)) = true) : (0 : Nat) ≠ 0 := fun _ => by
  have n : ¬ V.int (((a :: b :: c :: r).length : Nat) : Int) = V.int 2 := fun z => by
    have := V.int.inj z
    simp at this
    omega
  rw [decide_eq_false n] at e
  exact e rfl
def spSmall (K : PySem.W.Frag) : Sp := fun vs H Q _ => ∃ (v : V) (d : PyData) (a b : Int), vs = [v, .int a, .int b] ∧ Dz K H v d ∧ (∀ x, d = .str x → x.length ≤ 2000) ∧ ∀ H', L2.Same H H' → Q (.bl (ofT d small a b)) H'
def spTongue (K : PySem.W.Frag) : Sp := fun vs H Q _ => ∃ (v : V) (d : PyData), vs = [v] ∧ Dz K H v d ∧ (∀ x, d = .str x → x.length ≤ 2000) ∧ ∀ H', L2.Same H H' → Q (.bl (ofT d small 2 3)) H'
def spNT (K : PySem.W.Frag) : Sp := fun vs H Q _ => ∃ (v : V) (d : PyData), vs = [v] ∧ Dz K H v d ∧ (∀ x, d = .str x → x.length ≤ 2000) ∧ ∀ H', L2.Same H H' → Q (.bl (ntx d)) H'
def spIsName (K : PySem.W.Frag) : Sp := fun vs H Q _ => ∃ (v : V) (d : PyData), vs = [v] ∧ Dz K H v d ∧ T2 d ∧ ∀ H', L2.Same H H' → Q (.bl (nmD d)) H'
theorem ok_small {f : Addr} {fd : FuncData} (D : Df K mg "is_small_text" ["thing", "least", "most"] sIsSmallText f fd) (T : Txt K mg) (cO : Ca P w K mg base 1 "is_text_of" ["thing", "signs", "least", "most"] (spTextOf K)) : FnOk P w K mg base CX0 2 f fd ["thing", "least", "most"] (spSmall K) := by
  obtain ⟨_, gS⟩ := T.sm
  obtain ⟨_, gG⟩ := T.sg
  obtain ⟨_, gA⟩ := T.st
  obtain ⟨_, gB⟩ := T.lt
  obtain ⟨_, gX⟩ := T.lx
  refine D.fn.ok scIsSmallText (fun vs H Q E h => ?_) (fun cdv A outer s H vs Q E hr h => ?_)
  · obtain ⟨v, d, a, b, rfl, hz, sz, q⟩ := h
    rfl
  · obtain ⟨v, d, a, b, rfl, hz, sz, q⟩ := h
    refine ⟨_, (pss_one (ps_ret (pe_ca cO hr (by decide) (by rfl) (pa_cons (pv 0) (pa_cons (pe_glob (v := .str small) (by rfl) gS ⟨_, rfl⟩) (pa_cons (pv 1) (pa_cons (pv 2) pa_nil))))))), ?_⟩
    exact ⟨_, rfl, _, rfl, _, rfl, v, d, small, a, b, rfl, hz, sz, q⟩
theorem ok_tongue {f : Addr} {fd : FuncData} (D : Df K mg "is_tongue" ["thing"] sIsTongue f fd) (T : Txt K mg) (cS : Ca P w K mg base 2 "is_small_text" ["thing", "least", "most"] (spSmall K)) : FnOk P w K mg base CX0 3 f fd ["thing"] (spTongue K) := by
  obtain ⟨_, gS⟩ := T.sm
  obtain ⟨_, gG⟩ := T.sg
  obtain ⟨_, gA⟩ := T.st
  obtain ⟨_, gB⟩ := T.lt
  obtain ⟨_, gX⟩ := T.lx
  refine D.fn.ok scIsTongue (fun vs H Q E h => ?_) (fun cdv A outer s H vs Q E hr h => ?_)
  · obtain ⟨v, d, rfl, hz, sz, q⟩ := h
    rfl
  · obtain ⟨v, d, rfl, hz, sz, q⟩ := h
    refine ⟨_, (pss_one (ps_ret (pe_ca cS hr (by decide) (by rfl) (pa_cons (pv 0) (pa_cons (pe_glob (v := .int 2) (by rfl) gA ⟨_, rfl⟩) (pa_cons (pe_glob (v := .int 3) (by rfl) gB ⟨_, rfl⟩) pa_nil)))))), ?_⟩
    exact ⟨_, rfl, v, d, 2, 3, rfl, hz, sz, q⟩
theorem ok_nt {f : Addr} {fd : FuncData} (D : Df K mg "is_name_text" ["thing"] sIsNameText f fd) (T : Txt K mg) (cO : Ca P w K mg base 1 "is_text_of" ["thing", "signs", "least", "most"] (spTextOf K)) : FnOk P w K mg base CX0 2 f fd ["thing"] (spNT K) := by
  obtain ⟨_, gS⟩ := T.sm
  obtain ⟨_, gG⟩ := T.sg
  obtain ⟨_, gA⟩ := T.st
  obtain ⟨_, gB⟩ := T.lt
  obtain ⟨_, gX⟩ := T.lx
  refine D.fn.ok scIsNameText (fun vs H Q E h => ?_) (fun cdv A outer s H vs Q E hr h => ?_)
  · obtain ⟨v, d, rfl, hz, sz, q⟩ := h
    rfl
  · obtain ⟨v, d, rfl, hz, sz, q⟩ := h
    refine ⟨_, (pss_cons (ps_if (pt_not (pt_val (pe_ca cO hr (by decide) (by rfl) (pa_cons (pv 0) (pa_cons (pe_glob (v := .str signs) (by rfl) gG ⟨_, rfl⟩) (pa_cons pe_int (pa_cons (pe_glob (v := .int 40) (by rfl) gX ⟨_, rfl⟩) pa_nil))))))) (pss_one (ps_ret pe_bl)) pss_nil)
      (pss_one (ps_ret (pe_and (pe_cmpR op_eq (pv 0) (pe_m1 F.slot_str_strip F.type_str_strip mt_stripChars (pv 0) pe_str) (nomark _)) (pe_one (pe_cmpR op_notin_str pe_str (pv 0) (by rfl))))))), ?_⟩
    refine ⟨_, rfl, v, d, signs, 1, 40, rfl, hz, sz, fun H1 s1 => ⟨_, rfl, ?_⟩⟩
    have w := q H1 s1
    cases c : ofT d signs 1 40 with
    | false =>
      rw [ntx_no c] at w
      exact iteT w
    | true =>
      obtain ⟨x, rfl⟩ := ofT_str c
      obtain ⟨x', rfl⟩ : ∃ x', v = .str x' := by cases hz; exact ⟨_, rfl⟩
      have ex : x' = x := by cases hz; rfl
      subst ex
      have fit : x'.length ≤ sizeLine := Nat.le_trans (sz x' rfl) (by decide)
      have e : ntx (.str x') = (sk x' && !db x') := by
        show (ofT (.str x') signs 1 40 && (sk x' && !db x')) = _
        rw [c]
        rfl
      rw [e] at w
      refine iteF ⟨_, rfl, _, rfl, ⟨_, rfl⟩, x', " ", rfl, rfl, fit, rfl, _, rfl, ?_⟩
      refine ite2 (fun c2 => ?_) (fun c2 => ?_)
      · have cs : sk x' = true := c2
        rw [cs] at w
        exact ⟨_, rfl, "  ", x', rfl, rfl, w⟩
      · have cs : sk x' = false := Bool.eq_false_iff.mpr c2
        rw [cs] at w
        exact w
theorem ok_name {f : Addr} {fd : FuncData} (D : Df K mg "is_name" ["thing"] sIsName f fd) (T : Txt K mg) (cTo : Ca P w K mg base 3 "is_tongue" ["thing"] (spTongue K)) (cN : Ca P w K mg base 2 "is_name_text" ["thing"] (spNT K)) : FnOk P w K mg base CX0 4 f fd ["thing"] (spIsName K) := by
  refine D.fn.ok scIsName (fun vs H Q E h => ?_) (fun cdv A outer s H vs Q E hr h => ?_)
  · obtain ⟨v, d, rfl, hz, t2, q⟩ := h
    rfl
  · obtain ⟨v, d, rfl, hz, t2, q⟩ := h
    refine ⟨_, (pss_cons (ps_if (PW.pt (pw_or (pt_not (pt_val (pe_callB call_isi (by rfl) T.isi (by decide +kernel) (pa_cons (pv 0) (pa_cons (pe_bltn (v := .ty "tuple") (by rfl) T.tuple (by decide +kernel) rfl) pa_nil))))) (pw_or1 (pt_cmpR op_ne (pe_callB call_len_seq (by rfl) T.len PySem.boot_len (pa_cons (pv 0) pa_nil)) pe_int (nomark _))))) (pss_one (ps_ret pe_bl)) pss_nil)
      (pss_one (ps_ret (pe_and (pe_ca cTo hr (by decide) (by rfl) (pa_cons (pe_ix ix_tup (pv 0) pe_int (fun _ _ => rfl)) pa_nil)) (pe_one (pe_ca cN hr (by decide) (by rfl) (pa_cons (pe_ix ix_tup (pv 0) pe_int (fun _ _ => rfl)) pa_nil))))))), ?_⟩
    refine ⟨_, rfl, _, _, _, _, isTup d, rfl, .ty _, hz.ty, z_tup d, _, rfl, ?_⟩
    have qf : nmD d = false → Q (.bl false) H := fun e => by
      have w := q H (Same.refl H)
      rw [e] at w
      exact w
    cases hz with
    | @tup t xs ds et ra =>
      refine iteF ⟨_, rfl, t, xs, rfl, .inr (SqT.of et), rfl, _, rfl, ?_⟩
      match xs, ds, ra with
      | [], _, .nil => exact iteT (qf rfl)
      | [_], _, .cons _ .nil => exact iteT (qf rfl)
      | _ :: _ :: _ :: r, _, .cons _ (.cons _ (.cons _ _)) => exact ite2 (fun _ => qf rfl) (fun e => absurd rfl (len3 e))
      | [va, vb], _, .cons (d := a) ha (.cons (d := b) hb .nil) =>
        obtain ⟨ta, tb⟩ : Tx a ∧ Tx b := ⟨t2 _ rfl a (by simp), t2 _ rfl b (by simp)⟩
        refine iteF ⟨_, rfl, t, _, 0, va, rfl, rfl, SqT.of et, atI_nat (j := 0) rfl, va, a, rfl, ha, fun x e => (ta x e).1, fun H1 s1 => ⟨_, rfl, ?_⟩⟩
        have w := fun H' sm => q H' sm
        cases c : ofT a small 2 3 with
        | false =>
          have w := q H1 s1
          rw [show nmD (.tuple [a, b]) = false by show (ofT a small 2 3 && ntx b) = false; rw [c]; rfl] at w
          exact iteF w
        | true =>
          refine iteT ⟨_, rfl, t, _, 1, vb, rfl, rfl, SqT.of (s1 _ _ et), atI_nat (j := 1) rfl, vb, b, rfl, hb.same s1, fun x e => (tb x e).1, fun H2 s2 => ?_⟩
          have w := q H2 (s1.trans s2)
          rw [show nmD (.tuple [a, b]) = ntx b by show (ofT a small 2 3 && ntx b) = _; rw [c]; rfl] at w
          exact w
    | _ => exact iteT (qf rfl)
end
end N13
set_option Elab.async false
set_option linter.all false
set_option maxRecDepth 100000
set_option maxHeartbeats 4000000
set_option pp.maxSteps 400
set_option pp.deepTerms false
namespace N13
open PySem PySem.Spec PyProof.Rows L2
open Xk Az
section
variable {P : Program} {w : World} {K : PySem.W.Frag} {mg : Str → Option Value} {base : Heap}
theorem in23 (n : Nat) : inV (V.int (n : Int)) [.int 2, .int 3] = (decide ((2 : Int) ≤ n) && decide ((n : Int) ≤ 3)) := by
  rw [Bool.eq_iff_iff]
  simp [inV, eqV]
  omega
theorem sk_comm (y : Str) : sk y = decide (V.str (Txt.stripChars y " ") = V.str y) := by
  unfold sk
  exact decide_eq_decide.mpr eq_comm
def low (c : Nat) : Nat := if 65 ≤ c ∧ c ≤ 90 then c + 32 else c
theorem low_ok : ∀ c : Nat, c < 128 → Txt.lower ⟨#[c]⟩ = ⟨#[low c]⟩ := by decide +kernel
def wide : Str := "abcdefghijklmnopqrstuvwxyz" ++ "0123456789'-. "
theorem low_in : ∀ c : Nat, c < 128 → decide (low c ∈ wide.cps.toList) = decide (c ∈ signs.cps.toList) := by decide +kernel
theorem ok_lname {f : Addr} {fd : FuncData} (D : Df K mg "_law_is_name" ["_law_thing"] sLawIsName f fd) (T : Txt K mg) : FnOk P w K mg base CX0 1 f fd ["_law_thing"] (spIsName K) := by
  refine D.fn.ok scLawIsName (fun vs H Q E h => ?_) (fun cdv A outer s H vs Q E hr h => ?_)
  · obtain ⟨v, d, rfl, hz, t2, q⟩ := h
    rfl
  · obtain ⟨v, d, rfl, hz, t2, q⟩ := h
    refine ⟨_, (pss_cons (ps_if (PW.pt (pw_or (pt_not (pt_val (pe_callB call_isi (by rfl) T.isi (by decide +kernel) (pa_cons (pv 0) (pa_cons (pe_bltn (v := .ty "tuple") (by rfl) T.tuple (by decide +kernel) rfl) pa_nil))))) (pw_or1 (pt_cmpR op_ne (pe_callB call_len_seq (by rfl) T.len PySem.boot_len (pa_cons (pv 0) pa_nil)) pe_int (nomark _))))) (pss_one (ps_ret pe_bl)) pss_nil)
      (pss_cons (ps_if (PW.pt (pw_or (pt_not (pt_val (pe_callB (cr_all (by rfl)) (by rfl) T.all (by decide +kernel) (pa_cons (pe_lc (own := [("_law_part", 2)]) (g := gName 2) (tt := tYes) (te := tCB (rIsi K) (tCons (tVar 2) (tCons (tC (V.ty "str")) tNil))) (by rfl) scLawIsName.nd (pi_tup (pv 0)) (blkOk_by (own := [("_law_part", 2)]) (N := ["_law_thing", "_law_small", "_law_part", "_law_sign"]) (sc := defScope sLawIsName) (by decide +kernel)) (fun _ _ _ _ _ => pg_name (i := 2) scLawIsName.nd rfl (.inl rfl)) (fun _ _ _ _ _ => pts_nil) (fun _ _ _ _ _ => pe_callB call_isi (by rfl) T.isi (by decide +kernel) (pa_cons (pv 2) (pa_cons (pe_bltn (v := .ty "str") (by rfl) T.str (by decide +kernel) rfl) pa_nil)))) pa_nil)))) (pw_or1 (pt_cmpR op_notIn_seq (pe_callB call_len_str (by rfl) T.len PySem.boot_len (pa_cons (pe_ix ix_tup (pv 0) pe_int (fun _ _ => rfl)) pa_nil)) (pe_tup (pa_cons pe_int (pa_cons pe_int pa_nil))) (by rfl))))) (pss_one (ps_ret pe_bl)) pss_nil)
      (pss_cons (ps_if (PW.pt (pw_or (pt_not (pt_chain op_le op_le pe_int (pe_callB call_len_str (by rfl) T.len PySem.boot_len (pa_cons (pe_ix ix_tup (pv 0) pe_int (fun _ _ => rfl)) pa_nil)) pe_int)) (pw_or (pt_cmpR op_ne (pe_m1 F.slot_str_strip F.type_str_strip mt_stripChars (pe_ix ix_tup (pv 0) pe_int (fun _ _ => rfl)) pe_str) (pe_ix ix_tup (pv 0) pe_int (fun _ _ => rfl)) (nomark _)) (pw_or1 (pt_cmpR op_in_str pe_str (pe_ix ix_tup (pv 0) pe_int (fun _ _ => rfl)) (by rfl)))))) (pss_one (ps_ret pe_bl)) pss_nil)
      (pss_cons (ps_set (i := 1) scLawIsName.nd rfl (.inr rfl) pe_str)
      (pss_cons (ps_if (pt_not (pt_val (pe_callB (cr_all (by rfl)) (by rfl) T.all (by decide +kernel) (pa_cons (pe_lc (own := [("_law_sign", 3)]) (g := gName 3) (tt := tYes) (by rfl) scLawIsName.nd (pi_str (pe_ix ix_tup (pv 0) pe_int (fun _ _ => rfl))) (blkOk_by (own := [("_law_sign", 3)]) (N := ["_law_thing", "_law_small", "_law_part", "_law_sign"]) (sc := defScope sLawIsName) (by decide +kernel)) (fun _ _ _ _ _ => pg_name (i := 3) scLawIsName.nd rfl (.inl rfl)) (fun _ _ _ _ _ => pts_nil) (fun _ _ _ _ _ => pe_cmpR op_in_sign (pv 3) (pv 1) (by rfl))) pa_nil)))) (pss_one (ps_ret pe_bl)) pss_nil)
      (pss_one (ps_ret (pe_callB (cr_all (by rfl)) (by rfl) T.all (by decide +kernel) (pa_cons (pe_lc (own := [("_law_sign", 3)]) (g := gName 3) (tt := tYes) (by rfl) scLawIsName.nd (pi_str (pe_ix ix_tup (pv 0) pe_int (fun _ _ => rfl))) (blkOk_by (own := [("_law_sign", 3)]) (N := ["_law_thing", "_law_small", "_law_part", "_law_sign"]) (sc := defScope sLawIsName) (by decide +kernel)) (fun _ _ _ _ _ => pg_name (i := 3) scLawIsName.nd rfl (.inl rfl)) (fun _ _ _ _ _ => pts_nil) (fun _ _ _ _ _ => pe_cmpR op_in_sign (pe_m0 F.slot_str_lower F.type_str_lower mt_lower (pv 3)) (pe_op op_add_str (pv 1) pe_str) (by rfl))) pa_nil))))))))), ?_⟩
    refine ⟨_, rfl, _, _, _, _, isTup d, rfl, .ty _, hz.ty, z_tup d, _, rfl, ?_⟩
    have qf : nmD d = false → ∀ H', L2.Same H H' → Q (.bl false) H' := fun e H' sm => by
      have w := q H' sm
      rw [e] at w
      exact w
    cases hz with
    | @tup t xs ds et ra =>
      refine iteF ⟨_, rfl, t, xs, rfl, .inr (SqT.of et), rfl, _, rfl, ?_⟩
      match xs, ds, ra with
      | [], _, .nil => exact iteT (qf rfl _ (Same.refl H))
      | [_], _, .cons _ .nil => exact iteT (qf rfl _ (Same.refl H))
      | _ :: _ :: _ :: r, _, .cons _ (.cons _ (.cons _ _)) => exact ite2 (fun _ => qf rfl _ (Same.refl H)) (fun e => absurd rfl (len3 e))
      | [va, vb], _, .cons (d := a) ha (.cons (d := b) hb .nil) =>
        obtain ⟨ta, tb⟩ : Tx a ∧ Tx b := ⟨t2 _ rfl a (by simp), t2 _ rfl b (by simp)⟩
        refine iteF ⟨_, rfl, t, rfl, ⟨_, SqT.of et⟩, fun L nL => ?_⟩
        have sL := same_upd nL (o := .lst [])
        refine lc_tup (K := K) (a := t) (xs := [va, vb]) (fun i Hi => ∃ bs : List Bool, bs = ([a, b].take i).map isStr ∧ Hi L = some (.lst (bs.map V.bl)) ∧ L2.Same H Hi) ⟨[], rfl, upd_same, sL⟩ (fun i Hi _ pv => SqT.of (pv.choose_spec.2.2 _ _ et)) ?_ ?_
        · rintro i x Hi ec ⟨bs, eb, eL, sm⟩
          obtain ⟨d', ed, zd⟩ : ∃ d', [a, b][i]? = some d' ∧ Dz K Hi x d' := by
            match i, ec with
            | 0, ec => cases ec; exact ⟨a, rfl, ha.same sm⟩
            | 1, ec => cases ec; exact ⟨b, rfl, hb.same sm⟩
          refine ⟨rfl, ?_⟩
          unfold tYes
          refine iteT ⟨_, rfl, _, _, _, _, isStr d', rfl, .ty _, zd.ty, z_str d', ?_⟩
          refine ⟨_, eL, ?_, bs ++ [isStr d'], ?_, ?_, fun b o e => ?_⟩
          · rw [List.length_map, eb, List.length_map, List.length_take]
            exact Nat.lt_of_le_of_lt (show min i [a, b].length ≤ 2 from Nat.min_le_right _ _) (by decide)
          · rw [List.take_succ, ed, List.map_append, eb]
            rfl
          · rw [upd_same, List.map_append]
            rfl
          · rw [upd_ne (ne_of_none e nL)]
            exact sm _ _ e
        rintro H1 ⟨bs, eb, eL, s1⟩
        refine ⟨L, _, rfl, SqL.of eL, _, rfl, ?_⟩
        rw [eb]
        have et1 := s1 _ _ et
        cases cab : (([a, b].take [va, vb].length).map isStr).all id with
        | false =>
          refine iteT (qf ?_ _ s1)
          show (ofT a small 2 3 && ntx b) = false
          cases a with
          | str x =>
            cases b with
            | str y => cases cab
            | _ => exact Bool.and_false _
          | _ => rfl
        | true =>
          obtain ⟨x, rfl⟩ : ∃ x, a = .str x := by
            cases a with
            | str x => exact ⟨x, rfl⟩
            | _ => cases cab
          obtain ⟨y, rfl⟩ : ∃ y, b = .str y := by
            cases b with
            | str y => exact ⟨y, rfl⟩
            | _ => cases cab
          cases ha
          cases hb
          obtain ⟨lx, ax⟩ := ta x rfl
          obtain ⟨ly, ay⟩ := tb y rfl
          have fx : x.length ≤ sizeLine := Nat.le_trans lx (by decide)
          have fy : y.length ≤ sizeLine := Nat.le_trans ly (by decide)
          have en : nmD (.tuple [.str x, .str y]) = ((decide ((2 : Int) ≤ x.length) && decide ((x.length : Int) ≤ 3) && chk x small) && ((decide ((1 : Int) ≤ y.length) && decide ((y.length : Int) ≤ 40) && chk y signs) && (sk y && !db y))) := rfl
          refine iteF ⟨_, rfl, t, _, 0, .str x, rfl, rfl, SqT.of et1, atI_nat (j := 0) rfl, x, rfl, fx, (by show 2 ≤ sizeLine; decide), fun tp ntp => ?_⟩
          have s2 := s1.trans (same_upd ntp (o := .tup [.int 2, .int 3]))
          have et2 := s2 _ _ et
          refine ⟨tp, _, rfl, .inr (SqT.of upd_same), rfl, rfl, _, rfl, ?_⟩
          generalize upd H1 tp (.tup [.int 2, .int 3]) = H2 at s2 et2 ⊢
          have e23 : inV (V.int (x.length : Int)) [.int 2, .int 3] = (decide ((2 : Int) ≤ x.length) && decide ((x.length : Int) ≤ 3)) := in23 _
          refine ite2 (fun c => ?_) (fun c => ?_)
          · refine qf ?_ _ s2
            have z : (!inV (V.int (x.length : Int)) [.int 2, .int 3]) = true := c
            rw [e23] at z
            rw [en, (Bool.not_eq_true' _).mp z]
            rfl
          · have z : ¬ (!inV (V.int (x.length : Int)) [.int 2, .int 3]) = true := c
            rw [e23] at z
            have z2 : (decide ((2 : Int) ≤ x.length) && decide ((x.length : Int) ≤ 3)) = true := by simpa using z
            rw [z2, Bool.true_and] at en
            refine ⟨_, rfl, t, _, 1, .str y, rfl, rfl, SqT.of et2, atI_nat (j := 1) rfl, y, rfl, fy, 1, _, rfl, rfl, _, rfl, ?_⟩
            refine ite2 (fun c1 => ?_) (fun c1 => ?_)
            · refine ⟨_, 40, rfl, rfl, _, rfl, ite2 (fun c2 => ?_) (fun c2 => ?_)⟩
              · refine qf ?_ _ s2
                have d2 : decide ((y.length : Int) ≤ 40) = false := (Bool.not_eq_true' _).mp c2
                rw [en, d2]
                simp
              · have d1 : decide ((1 : Int) ≤ y.length) = true := c1
                have d2 : decide ((y.length : Int) ≤ 40) = true := by simpa using c2
                rw [d1, d2, Bool.true_and, Bool.true_and] at en
                refine ⟨_, rfl, t, _, 1, .str y, rfl, rfl, SqT.of et2, atI_nat (j := 1) rfl, ⟨_, rfl⟩, y, " ", rfl, rfl, fy, _, rfl, t, _, 1, .str y, rfl, rfl, SqT.of et2, atI_nat (j := 1) rfl, rfl, _, rfl, ite2 (fun c3 => ?_) (fun c3 => ?_)⟩
                · refine qf ?_ _ s2
                  have k3 : sk y = false := by
                    rw [sk_comm]
                    exact (Bool.not_eq_true' _).mp c3
                  rw [en, k3]
                  simp
                · have k3 : sk y = true := by
                    rw [sk_comm]
                    simpa using c3
                  refine ⟨_, rfl, t, _, 1, .str y, rfl, rfl, SqT.of et2, atI_nat (j := 1) rfl, "  ", y, rfl, rfl, _, rfl, ite2 (fun c4 => ?_) (fun c4 => ?_)⟩
                  · refine qf ?_ _ s2
                    have k4 : db y = true := c4
                    rw [en, k4]
                    simp
                  · have k4 : db y = false := Bool.eq_false_iff.mpr c4
                    rw [k3, k4] at en
                    have en' : nmD (.tuple [.str x, .str y]) = (chk x small && chk y signs) := by rw [en]; simp
                    refine ⟨_, rfl, t, _, 0, .str x, rfl, rfl, SqT.of et2, atI_nat (j := 0) rfl, x, rfl, fun L2' nL2 => ?_⟩
                    have nH := same_upd nL2 (o := .lst [])
                    refine lc_it (walk_str (z := x)) (fun i Hi => ∃ bs : List Bool, bs = (x.cps.toList.take i).map (fun c => decide (c ∈ small.cps.toList)) ∧ Hi L2' = some (.lst (bs.map V.bl)) ∧ L2.Same H2 Hi) ⟨[], rfl, upd_same, nH⟩ (fun _ _ _ _ => trivial) ?_ ?_
                    · rintro i v Hi Hi' _ ⟨bs, eb, eL, sm⟩ ⟨rfl, c, ec, rfl⟩
                      rw [← Array.getElem?_toList] at ec
                      refine ⟨rfl, ?_⟩
                      unfold tYes
                      have il : i < x.cps.toList.length := (List.getElem?_eq_some_iff.mp ec).1
                      have mc : c ∈ x.cps.toList := List.mem_of_getElem? ec
                      refine iteT ⟨_, rfl, _, rfl, c, small, rfl, rfl, ?_⟩
                      refine ⟨_, eL, ?_, bs ++ [decide (c ∈ small.cps.toList)], ?_, ?_, fun b o e => ?_⟩
                      · rw [List.length_map, eb, List.length_map, List.length_take]
                        refine Nat.lt_of_le_of_lt (show min i x.cps.toList.length ≤ 2000 from ?_) (by decide)
                        rw [← len_cps]
                        omega
                      · rw [List.take_succ, ec, List.map_append, eb]
                        rfl
                      · rw [upd_same, List.map_append]
                        rfl
                      · rw [upd_ne (ne_of_none e nL2)]
                        exact sm _ _ e
                    rintro H3 ⟨bs, eb, eL, s3⟩
                    rw [List.take_of_length_le (by rw [Array.length_toList]; exact Nat.le_refl _)] at eb
                    refine ⟨L2', _, rfl, SqL.of eL, ?_⟩
                    rw [eb, List.all_map]
                    have s23 := s2.trans s3
                    have et3 := s23 _ _ et
                    refine ⟨_, rfl, ?_⟩
                    cases k5 : x.cps.toList.all ((fun b => id b) ∘ fun c => decide (c ∈ small.cps.toList)) with
                    | false => exact iteT (qf (by rw [en', show chk x small = false from k5]; rfl) _ s23)
                    | true =>
                      rw [show chk x small = true from k5, Bool.true_and] at en'
                      refine iteF ⟨_, rfl, t, _, 1, .str y, rfl, rfl, SqT.of et3, atI_nat (j := 1) rfl, y, rfl, fun L2' nL2 => ?_⟩
                      clear eL eb
                      have nH := same_upd nL2 (o := .lst [])
                      refine lc_it (walk_str (z := y)) (fun i Hi => ∃ bs : List Bool, bs = (y.cps.toList.take i).map (fun c => decide (c ∈ signs.cps.toList)) ∧ Hi L2' = some (.lst (bs.map V.bl)) ∧ L2.Same H3 Hi) ⟨[], rfl, upd_same, nH⟩ (fun _ _ _ _ => trivial) ?_ ?_
                      · rintro i v Hi Hi' _ ⟨bs, eb, eL, sm⟩ ⟨rfl, c, ec, rfl⟩
                        rw [← Array.getElem?_toList] at ec
                        refine ⟨rfl, ?_⟩
                        unfold tYes
                        have il : i < y.cps.toList.length := (List.getElem?_eq_some_iff.mp ec).1
                        have mc : c ∈ y.cps.toList := List.mem_of_getElem? ec
                        have c7 := ay c mc
                        refine iteT ⟨_, rfl, ⟨_, rfl⟩, _, rfl, rfl, (by show 1 ≤ 5592405; decide), _, rfl, small, _, rfl, rfl, (Nat.le_trans (show small.length + ("0123456789'-. " : Str).length ≤ 100 by decide +kernel) (by decide)), low c, wide, by rw [low_ok c c7], rfl, ?_⟩
                        rw [low_in c c7]
                        refine ⟨_, eL, ?_, bs ++ [decide (c ∈ signs.cps.toList)], ?_, ?_, fun b o e => ?_⟩
                        · rw [List.length_map, eb, List.length_map, List.length_take]
                          refine Nat.lt_of_le_of_lt (show min i y.cps.toList.length ≤ 2000 from ?_) (by decide)
                          rw [← len_cps]
                          omega
                        · rw [List.take_succ, ec, List.map_append, eb]
                          rfl
                        · rw [upd_same, List.map_append]
                          rfl
                        · rw [upd_ne (ne_of_none e nL2)]
                          exact sm _ _ e
                      rintro H4 ⟨bs, eb, eL, s4⟩
                      rw [List.take_of_length_le (by rw [Array.length_toList]; exact Nat.le_refl _)] at eb
                      refine ⟨L2', _, rfl, SqL.of eL, ?_⟩
                      rw [eb, List.all_map]
                      have w := q H4 (s23.trans s4)
                      rw [en'] at w
                      exact w
            · refine ⟨_, rfl, qf ?_ _ s2⟩
              have d1 : decide ((1 : Int) ≤ y.length) = false := Bool.eq_false_iff.mpr c1
              rw [en, d1]
              simp
    | _ => exact iteT (qf rfl _ (Same.refl H))
end
end N13
set_option Elab.async false
set_option linter.all false
set_option maxRecDepth 100000
set_option maxHeartbeats 4000000
set_option pp.maxSteps 400
set_option pp.deepTerms false
namespace N13
open PySem PySem.Spec PyProof.Rows L2
open Xk Az
section
variable {P : Program} {w : World} {K : PySem.W.Frag} {mg : Str → Option Value} {base : Heap}
def oddSigns : Str := "!#chr_of(hand)()*+,/:;<=>?\x40[]^_{|}~aZ0'-."
theorem oddSigns7 : ∀ c ∈ oddSigns.cps.toList, c < 128 := by decide +kernel
theorem cut_mem (x : Str) (lo hi : Option Int) : ∀ c ∈ (cutS x lo hi).cps.toList, c ∈ x.cps.toList := fun c hc => by
  unfold cutS at hc
  exact List.mem_of_mem_drop (List.mem_of_mem_take (by simpa using hc))
theorem cut_le (x : Str) (lo hi : Option Int) : (cutS x lo hi).length ≤ x.length := by
  rw [len_cps, len_cps x]
  unfold cutS
  simp only [List.length_take, List.length_drop]
  omega
theorem cut7 {x : Str} (h : Asc7 x) (lo hi : Option Int) : Asc7 (cutS x lo hi) := fun c hc => h c (cut_mem x lo hi c hc)
theorem Asc7.app {x y : Str} (h1 : Asc7 x) (h2 : Asc7 y) : Asc7 (x ++ y) := fun c hc => by
  rw [Str.cps_append, Array.toList_append, List.mem_append] at hc
  exact hc.elim (h1 c) (h2 c)
def spST : Sp := fun vs H Q _ => ∃ (h o : Addr) (n : Int) (x : Str), vs = [.ref h, .str x] ∧ x.length ≤ 100 ∧ Asc7 x ∧ Hd h o n H ∧ n + 50 ≤ far ∧
  ∀ (y : Str) H', y.length ≤ 300 → Asc7 y → Hd h o (n + 10) H' → Bt [h, o] H H' → Q (.str y) H'
theorem ok_st {f : Addr} {fd : FuncData} (D : Df K mg "_law_spoilt_text" ["_law_hand_here", "_law_text_here"] sSpoiltText f fd) (T : Txt K mg) (cT : Ca P w K mg base 1 "_law_take" ["_law_hand_here", "_law_many"] spTake) (cP : Ca P w K mg base 2 "_law_pick" ["_law_hand_here", "_law_some"] spPick) : FnOk P w K mg base CX0 3 f fd ["_law_hand_here", "_law_text_here"] spST := by
  refine D.fn.ok scSpoiltText (fun vs H Q E h => ?_) (fun cdv A outer s H vs Q E hr h => ?_)
  · obtain ⟨h, o, n, x, rfl, lx, ax, hd, hn, q⟩ := h
    rfl
  · obtain ⟨h, o, n, x, rfl, lx, ax, hd, hn, q⟩ := h
    refine ⟨_, (pss_cons (ps_par (i := 2) (j := 3) (by rfl) scSpoiltText.nd rfl rfl (by decide) rfl rfl (pa_cons (pe_ca cT hr (by decide) (by rfl) (pa_cons (pv 0) (pa_cons (pe_op op_add (pe_callB call_len_str (by rfl) T.len PySem.boot_len (pa_cons (pv 1) pa_nil)) pe_int) pa_nil))) (pa_cons (pe_ca cT hr (by decide) (by rfl) (pa_cons (pv 0) (pa_cons pe_int pa_nil))) pa_nil)) (by rfl))
      (pss_cons (ps_set (i := 4) scSpoiltText.nd rfl (.inl rfl) (pe_ca cP hr (by decide) (by rfl) (pa_cons (pv 0) (pa_cons (pe_lst (pa_cons pe_str (pa_cons pe_str (pa_cons (pe_ca cP hr (by decide) (by rfl) (pa_cons (pv 0) (pa_cons pe_str pa_nil))) (pa_cons pe_str (pa_cons pe_str pa_nil)))))) pa_nil))))
      (pss_cons (ps_set (i := 5) scSpoiltText.nd rfl (.inl rfl) (pe_lst (pa_cons (pe_op op_add_str (pe_op op_add_str (pe_slice sl_str (pv 1) po_none (po_some (pv 2))) (pv 4)) (pe_slice sl_str (pv 1) (po_some (pv 2)) po_none)) (pa_cons (pe_op op_add_str (pe_slice sl_str (pv 1) po_none (po_some (pe_callB (call_max2 (by rfl)) (by rfl) T.max (by decide +kernel) (pa_cons pe_int (pa_cons (pe_op op_sub (pv 2) pe_int) pa_nil))))) (pe_slice sl_str (pv 1) (po_some (pv 2)) po_none)) (pa_cons (pe_op op_add_str (pe_op op_add_str (pe_slice sl_str (pv 1) po_none (po_some (pv 2))) (pv 4)) (pe_slice sl_str (pv 1) (po_some (pe_op op_add (pv 2) pe_int)) po_none)) pa_nil)))))
      (pss_one (ps_ret (pe_ix ix_list (pe_op op_cat (pv 5) (pe_lst (pa_cons (pe_op op_add_str (pv 1) (pv 1)) pa_nil))) (pv 3) (fun _ _ => rfl))))))), ?_⟩
    have fr : n + 50 ≤ 1000000 := hn
    have fx : x.length ≤ sizeLine := Nat.le_trans lx (by decide)
    refine ⟨_, rfl, _, rfl, x, rfl, fx, _, 1, rfl, rfl, h, o, (x.length : Int) + 1, n, rfl, by omega, by omega, hd, by show n ≤ 1000000; omega, fun a H1 a0 a1 h1 b1 => ?_⟩
    refine ⟨_, rfl, h, o, 4, n + 1, rfl, by decide, by decide, h1, by show n + 1 ≤ 1000000; omega, fun w H2 w0 w1 h2 b2 => ⟨_, _, rfl, ?_⟩⟩
    refine ⟨_, rfl, _, rfl, h, o, n + 1 + 1, _, rfl, h2, by show n + 1 + 1 ≤ 1000000; omega, .inr ⟨oddSigns, rfl, by decide +kernel, by decide +kernel, fun c H3 mc h3 b3 => ?_⟩⟩
    refine ⟨(by show 5 ≤ sizeLine; decide), fun l nl => ?_⟩
    have s3 := same_upd nl (o := .lst [.str " ", .str "  ", .str ⟨#[c]⟩, .str "\n", .str ""])
    refine ⟨h, o, n + 1 + 1 + 1, _, rfl, h3.same s3, by show n + 1 + 1 + 1 ≤ 1000000; omega, .inl ⟨l, _, rfl, upd_same, h3.fresh nl, by simp, by show 5 < 1000; decide, fun v H4 mv h4 b4 => ?_⟩⟩
    have bt : Bt [h, o] H H4 := b1.trans (b2.trans (b3.trans ((Bt.of s3).trans b4)))
    obtain ⟨z, rfl, lz, az⟩ : ∃ z : Str, v = .str z ∧ z.length ≤ 2 ∧ Asc7 z := by
      have c7 := oddSigns7 c mc
      simp only [List.mem_cons, List.not_mem_nil, or_false] at mv
      rcases mv with e | e | e | e | e
      · exact ⟨_, e, by decide +kernel, by unfold Asc7; decide +kernel⟩
      · exact ⟨_, e, by decide +kernel, by unfold Asc7; decide +kernel⟩
      · exact ⟨_, e, by show 1 ≤ 2; decide, fun d hd => by
          have : d = c := by simpa using hd
          rw [this]
          exact c7⟩
      · exact ⟨_, e, by decide +kernel, by unfold Asc7; decide +kernel⟩
      · exact ⟨_, e, by decide +kernel, by unfold Asc7; decide +kernel⟩
    clear mv s3 mc nl
    have cl : ∀ lo hi, (cutS x lo hi).length ≤ 100 := fun lo hi => Nat.le_trans (cut_le x lo hi) lx
    have f2 : ∀ {p q : Nat}, p ≤ 250 → q ≤ 250 → p + q ≤ sizeLine := fun h1 h2 => Nat.le_trans (Nat.add_le_add h1 h2) (by decide)
    have l100 : ∀ lo hi, (cutS x lo hi).length ≤ 250 := fun lo hi => Nat.le_trans (cl lo hi) (by decide)
    have lz' : z.length ≤ 250 := Nat.le_trans lz (by decide)
    have lcz : ∀ lo hi, (cutS x lo hi ++ z).length ≤ 250 := fun lo hi => by
      rw [strLen_append]
      have := cl lo hi
      omega
    refine ⟨_, rfl, _, rfl, a, rfl, x, rfl, fx, _, rfl, _, _, rfl, rfl, f2 (l100 _ _) lz', _, rfl, _, rfl, a, rfl, x, rfl, fx, _, _, rfl, rfl, f2 (lcz _ _) (l100 _ _), ?_⟩
    refine ⟨_, rfl, _, rfl, a, 1, rfl, rfl, 0, _, rfl, _, rfl, x, rfl, fx, _, rfl, _, rfl, a, rfl, x, rfl, fx, _, _, rfl, rfl, f2 (l100 _ _) (l100 _ _), ?_⟩
    refine ⟨_, rfl, _, rfl, a, rfl, x, rfl, fx, _, rfl, _, _, rfl, rfl, f2 (l100 _ _) lz', _, rfl, _, rfl, a, 1, rfl, rfl, _, rfl, x, rfl, fx, _, _, rfl, rfl, f2 (lcz _ _) (l100 _ _), ?_⟩
    refine ⟨(by show 3 ≤ sizeLine; decide), fun L3 nL3 => ?_⟩
    have s5 := same_upd nL3 (o := .lst [.str (cutS x none (some a) ++ z ++ cutS x (some a) none), .str (cutS x none (some (if a - 1 > 0 then a - 1 else 0)) ++ cutS x (some a) none), .str (cutS x none (some a) ++ z ++ cutS x (some (a + 1)) none)])
    refine ⟨_, rfl, _, rfl, _, rfl, x, x, rfl, rfl, f2 (Nat.le_trans lx (by decide)) (Nat.le_trans lx (by decide)), (by show 1 ≤ sizeLine; decide), fun L4 nL4 => ?_⟩
    have s6 := same_upd nL4 (o := .lst [.str (x ++ x)])
    refine ⟨L3, L4, _, _, rfl, rfl, s6 _ _ upd_same, upd_same, (by show 3 + 1 ≤ sizeLine; decide), fun L5 nL5 => ?_⟩
    have s7 := same_upd nL5 (o := .lst ([.str (cutS x none (some a) ++ z ++ cutS x (some a) none), .str (cutS x none (some (if a - 1 > 0 then a - 1 else 0)) ++ cutS x (some a) none), .str (cutS x none (some a) ++ z ++ cutS x (some (a + 1)) none)] ++ [.str (x ++ x)]))
    have sA := (s5.trans s6).trans s7
    have go : ∀ y : Str, y.length ≤ 300 → Asc7 y → Q (.str y) _ := fun y y1 y2 => q y _ y1 y2 ((h4.same sA).mono (by omega)) (bt.trans (Bt.of sA))
    have tri : ∀ l1 l2 l3 l4, (cutS x l1 l2 ++ z ++ cutS x l3 l4).length ≤ 300 := fun l1 l2 l3 l4 => by
      rw [strLen_append, strLen_append]
      have := cl l1 l2
      have := cl l3 l4
      omega
    obtain ⟨j, rfl⟩ : ∃ j : Nat, w = (j : Int) := ⟨w.toNat, by omega⟩
    have hj : j < 4 := by omega
    match j, hj with
    | 0, _ => exact ⟨_, rfl, L5, _, _, _, rfl, rfl, SqL.of upd_same, atI_nat (j := 0) rfl, go _ (tri _ _ _ _) (((cut7 ax _ _).app az).app (cut7 ax _ _))⟩
    | 1, _ =>
      refine ⟨_, rfl, L5, _, _, _, rfl, rfl, SqL.of upd_same, atI_nat (j := 1) rfl, go _ ?_ ((cut7 ax _ _).app (cut7 ax _ _))⟩
      rw [strLen_append]
      have := cl none (some (if a - 1 > 0 then a - 1 else 0))
      have := cl (some a) none
      omega
    | 2, _ => exact ⟨_, rfl, L5, _, _, _, rfl, rfl, SqL.of upd_same, atI_nat (j := 2) rfl, go _ (tri _ _ _ _) (((cut7 ax _ _).app az).app (cut7 ax _ _))⟩
    | 3, _ =>
      refine ⟨_, rfl, L5, _, _, _, rfl, rfl, SqL.of upd_same, atI_nat (j := 3) rfl, go _ ?_ (ax.app ax)⟩
      rw [strLen_append]
      omega
end
end N13
set_option Elab.async false
set_option linter.all false
set_option maxRecDepth 100000
set_option maxHeartbeats 4000000
set_option pp.maxSteps 400
set_option pp.deepTerms false
namespace N13
open PySem PySem.Spec PyProof.Rows L2
open Xk Az
section
variable {P : Program} {w : World} {K : PySem.W.Frag} {mg : Str → Option Value} {base : Heap}
theorem tw0 {l : List Nat} {g : Nat → Bool} (h : ∀ c, l.head? = some c → g c = false) : l.takeWhile g = [] := by
  cases l with
  | nil => rfl
  | cons a r => rw [List.takeWhile_cons, h a rfl]; rfl
theorem sp32 (c : Nat) : ((" " : Str)).cps.contains c = decide (c = 32) := by
  have e : ((" " : Str)).cps = #[32] := by decide +kernel
  rw [e]
  by_cases h : c = 32
  · subst h; simp
  · rw [decide_eq_false h]
    simpa using h
theorem sk_clean {x : Str} (h : Clean x.cps.toList) : sk x = true := by
  obtain ⟨⟨_, h2, _⟩, h4⟩ := h
  have g : ∀ c : Nat, c ≠ 32 → ((" " : Str)).cps.contains c = false := fun c n => by rw [sp32, decide_eq_false n]
  have lo : stripLo ((" " : Str)).cps.contains true x = 0 := by
    unfold stripLo
    rw [if_pos rfl, tw0 (fun c e => g c (fun z => h2 (by rw [e, z])))]
    rfl
  have hi : stripHi ((" " : Str)).cps.contains true x 0 = x.length := by
    unfold stripHi
    rw [if_pos rfl, List.drop_zero, tw0 (fun c e => g c (fun z => h4 (by rw [List.head?_reverse] at e; rw [e, z])))]
    rfl
  have s : stripSame ((" " : Str)).cps.contains true true x = true := by
    unfold stripSame
    rw [lo, hi]
    simp
  unfold sk Txt.stripChars Txt.stripBy
  rw [if_pos s]
  exact decide_eq_true rfl
theorem db_clean {x : Str} (h : Clean x.cps.toList) : db x = false := by
  obtain ⟨⟨_, _, h3⟩, _⟩ := h
  unfold db
  rw [Bool.eq_false_iff]
  intro z
  obtain ⟨i, hi, hs⟩ := (PySem.StrLaws.found_iff x "  ").mp z
  have l2 : (("  " : Str)).length = 2 := by decide +kernel
  rw [l2] at hi
  unfold Builtin.Str.subAt at hs
  rw [l2] at hs
  have e : x.cps.extract i (i + 2) = #[32, 32] := by
    have : (("  " : Str)).cps = #[32, 32] := by decide +kernel
    rw [this] at hs
    exact eq_of_beq hs
  have e' : (x.cps.toList.drop i).take 2 = [32, 32] := by
    have := congrArg Array.toList e
    rw [Array.toList_extract] at this
    simpa [List.extract_eq_take_drop] using this
  have a0 : x.cps.toList[i]? = some 32 := by
    have := congrArg (fun l : List Nat => l[0]?) e'
    simpa [List.getElem?_take, List.getElem?_drop] using this
  have a1 : x.cps.toList[i + 1]? = some 32 := by
    have := congrArg (fun l : List Nat => l[1]?) e'
    simpa [List.getElem?_take, List.getElem?_drop] using this
  exact h3 i ⟨a0, a1⟩
theorem nm_true {a b : Str} (ha : letts a) (a2 : 2 ≤ a.length) (a3 : a.length ≤ 3) (hb : Clean b.cps.toList) (b1 : 1 ≤ b.length) (b4 : b.length ≤ 40) : nmD (.tuple [.str a, .str b]) = true := by
  have c1 : chk a small = true := List.all_eq_true.mpr fun c hc => decide_eq_true (ha c hc)
  have c2 : chk b signs = true := List.all_eq_true.mpr fun c hc => decide_eq_true (hb.1.1 c hc)
  show ((decide ((2 : Int) ≤ a.length) && decide ((a.length : Int) ≤ 3) && chk a small) && ((decide ((1 : Int) ≤ b.length) && decide ((b.length : Int) ≤ 40) && chk b signs) && (sk b && !db b))) = true
  rw [c1, c2, sk_clean hb, db_clean hb, decide_eq_true (show (2 : Int) ≤ a.length by omega), decide_eq_true (show (a.length : Int) ≤ 3 by omega), decide_eq_true (show (1 : Int) ≤ b.length by omega), decide_eq_true (show (b.length : Int) ≤ 40 by omega)]
  rfl
end
end N13
set_option Elab.async false
set_option linter.all false
set_option maxRecDepth 100000
set_option maxHeartbeats 4000000
set_option pp.maxSteps 400
set_option pp.deepTerms false
namespace N13
open PySem PySem.Spec PyProof.Rows L2
open Xk Az
section
variable {P : Program} {w : World} {K : PySem.W.Frag} {mg : Str → Option Value} {base : Heap}
theorem txDe : Tx (.str "de") := fun x e => by
  cases e
  exact ⟨by decide +kernel, by unfold Asc7; decide +kernel⟩
theorem nice_pair {d : PyData} {k n : Nat} (h : Nice d k n) : Nice (.tuple [.str "de", d]) (k + 1) (n + 14) := by
  refine ⟨by simp [PyData.showable, PyData.showableAll, h.sh], ?_, ?_⟩
  · simp only [PyData.depth, PyData.depthAll]
    have := h.dp
    omega
  · simp only [PyData.shown, PyData.shownAll]
    have z := fmt_text [reprText "de", d.shown]
    simp only [piled_cons, piled_nil] at z
    have := h.sz
    have l : (reprText ("de" : Str)).length ≤ 4 := by decide +kernel
    omega
theorem nice_two : Nice (.list [.str "de", .str "a"]) 2 30 := by
  refine ⟨by simp [PyData.showable, PyData.showableAll], ?_, ?_⟩
  · simp only [PyData.depth, PyData.depthAll]
    omega
  · simp only [PyData.shown, PyData.shownAll]
    have z := list_le [reprText "de", reprText "a"]
    simp only [piled_cons, piled_nil] at z
    have l : (reprText ("de" : Str)).length ≤ 4 := by decide +kernel
    have l2 : (reprText ("a" : Str)).length ≤ 4 := by decide +kernel
    omega
def spDeep (K : PySem.W.Frag) : Sp := fun vs H Q _ => ∃ (h o : Addr) (n : Int), vs = [.ref h] ∧ Hd h o n H ∧ n + 100 ≤ far ∧
  ∀ v d H', Dz K (offS [h, o] H') v d → Nice d 40 2000 → T2 d → Hd h o (n + 60) H' → Bt [h, o] H H' → Q v H'
theorem ok_deep {f : Addr} {fd : FuncData} (D : Df K mg "_law_deep" ["_law_hand_here"] sDeep f fd) (T : Txt K mg) (cT : Ca P w K mg base 1 "_law_take" ["_law_hand_here", "_law_many"] spTake) (cP : Ca P w K mg base 2 "_law_pick" ["_law_hand_here", "_law_some"] spPick) : FnOk P w K mg base CX0 3 f fd ["_law_hand_here"] (spDeep K) := by
  refine D.fn.ok scDeep (fun vs H Q E h => ?_) (fun cdv A outer s H vs Q E hr h => ?_)
  · obtain ⟨h, o, n, rfl, hd, hn, q⟩ := h
    rfl
  · obtain ⟨h, o, n, rfl, hd, hn, q⟩ := h
    refine ⟨_, (pss_cons (ps_set (i := 1) scDeep.nd rfl (.inl rfl) (pe_ca cP hr (by decide) (by rfl) (pa_cons (pv 0) (pa_cons (pe_lst (pa_cons pe_str (pa_cons pe_non (pa_cons (pe_tup pa_nil) (pa_cons (pe_lstZ (pa_cons pe_str (pa_cons pe_str pa_nil))) (pa_cons pe_int pa_nil)))))) pa_nil))))
      (pss_cons (ps_for PassesOwn.never rfl (pi_range1 (by rfl) T.range (pa_cons (pe_op op_add pe_int (pe_ca cT hr (by decide) (by rfl) (pa_cons (pv 0) (pa_cons pe_int pa_nil)))) pa_nil)) (pg_name (i := 2) scDeep.nd rfl (.inl rfl)) (pss_one (ps_set (i := 1) scDeep.nd rfl (.inl rfl) (pe_ix ix_list (pe_lst (pa_cons (pe_tup (pa_cons (pv 1) pa_nil)) (pa_cons (pe_lstZ (pa_cons (pv 1) pa_nil)) (pa_cons (pe_tup (pa_cons pe_str (pa_cons (pv 1) pa_nil))) (pa_cons (pe_disp (pps_cons pe_str (pv 1) pps_nil) rfl rfl (by simp) (by decide)) pa_nil))))) (pe_ca cT hr (by decide) (by rfl) (pa_cons (pv 0) (pa_cons pe_int pa_nil))) (fun _ _ => rfl)))))
      (pss_one (ps_ret (pv 1))))), ?_⟩
    have fr : n + 100 ≤ 1000000 := hn
    refine ⟨_, rfl, (by show 0 ≤ sizeLine; decide), fun t0 n0 => ?_⟩
    have s0 := same_upd n0 (o := .tup [])
    refine ⟨(by show 2 ≤ sizeLine; decide), fun l0 nl0 ne0 => ?_⟩
    have s1 := same_upd nl0 (o := .lst [.str "de", .str "a"])
    refine ⟨(by show 5 ≤ sizeLine; decide), fun l1 nl1 => ?_⟩
    have s2 := same_upd nl1 (o := .lst [.str "de", .non, .ref t0, .ref l0, .int 7])
    have sA := (s0.trans s1).trans s2
    have t0A := hd.fresh n0
    have l0A := (hd.same s0).fresh nl0
    have e0 : (upd (upd (upd H t0 (.tup [])) l0 (.lst [.str "de", .str "a"])) l1 (.lst [.str "de", .non, .ref t0, .ref l0, .int 7])) t0 = some (.tup []) := s2 _ _ (s1 _ _ upd_same)
    have e1 : (upd (upd (upd H t0 (.tup [])) l0 (.lst [.str "de", .str "a"])) l1 (.lst [.str "de", .non, .ref t0, .ref l0, .int 7])) l0 = some (.lst [.str "de", .str "a"]) := s2 _ _ upd_same
    refine ⟨h, o, n, _, rfl, hd.same sA, by show n ≤ 1000000; omega, .inl ⟨l1, _, rfl, upd_same, ((hd.same s0).same s1).fresh nl1, by simp, by show 5 < 1000; decide, fun v0 H1 mv h1 b1 => ?_⟩⟩
    have f0 := b1 _ _ t0A e0
    have f1 := b1 _ _ l0A e1
    have bt1 : Bt [h, o] H H1 := (Bt.of sA).trans b1
    obtain ⟨d0, z0, nc0, tx0, t20⟩ : ∃ d, Dz K (offS [h, o] H1) v0 d ∧ Nice d 2 30 ∧ Tx d ∧ T2 d := by
      simp only [List.mem_cons, List.not_mem_nil, or_false] at mv
      rcases mv with e | e | e | e | e
      · subst e
        exact ⟨_, .str "de", (nice_str (n := 30) (by decide +kernel)).mono (by decide) (by decide), txDe, fun ds e => by cases e⟩
      · subst e
        exact ⟨_, .non, nice_none.mono (by decide) (by decide), (fun x e => by cases e), fun ds e => by cases e⟩
      · subst e
        exact ⟨_, .tup (offS_at t0A f0) .nil, nice_tup0.mono (by decide) (by decide), (fun x e => by cases e), fun ds e => by cases e; intro e he; cases he⟩
      · subst e
        exact ⟨_, .lst (offS_at l0A f1) ne0 (.cons (.str "de") (.cons (.str "a") .nil)), nice_two, (fun x e => by cases e), fun ds e => by cases e⟩
      · subst e
        exact ⟨_, .int 7, (nice_int (n := 30) (by decide +kernel) (by decide +kernel)).mono (by decide) (by decide), (fun x e => by cases e), fun ds e => by cases e⟩
    clear mv e0 e1 s0 s1 s2 sA f0 f1 b1
    refine ⟨_, rfl, h, o, 28, n + 1, rfl, by decide, by decide, h1, by show n + 1 ≤ 1000000; omega, fun r H2 r0 r1 h2 b2 => ?_⟩
    refine ⟨1, r, rfl, rfl, _, rfl, by omega, by omega, for_range (lo := 0) (n := (1 + r).toNat) (fun k σ Hi => ∃ (v : V) (d : PyData) (c2 : Option V), σ = [some (.ref h), some v, c2] ∧ Dz K (offS [h, o] Hi) v d ∧ Nice d (2 + k) (30 + 20 * k) ∧ Tx d ∧ T2 d ∧ Hd h o (n + 2 + k) Hi ∧ Bt [h, o] H Hi) ?_ ?_ ?_⟩
    · exact ⟨v0, d0, none, rfl, z0.same b2.off, nc0.mono (by omega) (by omega), tx0, t20, h2.mono (by omega), bt1.trans b2⟩
    · rintro k σ Hi hk ⟨v, d, c2, rfl, dz, nc, tx, t2, hdi, bi⟩
      have k28 : k < 29 := by omega
      refine ⟨_, rfl, (by show 1 ≤ sizeLine; decide), fun p1 n1 => ?_⟩
      have q1 := same_upd n1 (o := .tup [v])
      refine ⟨_, rfl, (by show 1 ≤ sizeLine; decide), fun p2 n2 ne2 => ?_⟩
      have q2 := same_upd n2 (o := .lst [v])
      refine ⟨_, rfl, (by show 2 ≤ sizeLine; decide), fun p3 n3 => ?_⟩
      have q3 := same_upd n3 (o := .tup [.str "de", v])
      intro p4 n4
      have a1 := hdi.fresh n1
      have a2 := (hdi.same q1).fresh n2
      have a3 := ((hdi.same q1).same q2).fresh n3
      have a4 := (((hdi.same q1).same q2).same q3).fresh n4
      refine ⟨_, rfl, upd_same, [(Sum.inr "de", v)], rfl, (by show 1 ≤ 15; decide), (by show 4 ≤ sizeLine; decide), fun l2 nl2 => ?_⟩
      have q4 : L2.Same (upd (upd (upd Hi p1 (.tup [v])) p2 (.lst [v])) p3 (.tup [.str "de", v])) (upd (upd (upd (upd (upd Hi p1 (.tup [v])) p2 (.lst [v])) p3 (.tup [.str "de", v])) p4 (.dK [])) p4 (.dK (mergeK [] [(Sum.inr "de", v)]))) := by
        rw [upd_upd]
        exact same_upd n4
      have q5 := same_upd nl2 (o := .lst [.ref p1, .ref p2, .ref p3, .ref p4])
      have hd5 := ((((hdi.same q1).same q2).same q3).same q4).same q5
      refine ⟨_, rfl, h, o, 4, n + 2 + k, rfl, by decide, by decide, hd5, by show n + 2 + (k : Int) ≤ 1000000; omega, fun a H5 a0 a1' h5 b5 => ?_⟩
      have l2A := ((((hdi.same q1).same q2).same q3).same q4).fresh nl2
      have al := (((q1.trans q2).trans q3).trans q4).trans q5
      have bt : Bt [h, o] Hi H5 := (Bt.of al).trans b5
      have dz5 : Dz K (offS [h, o] H5) v d := dz.same bt.off
      have g1 : H5 p1 = some (.tup [v]) := b5 _ _ a1 (q5 _ _ (q4 _ _ (q3 _ _ (q2 _ _ upd_same))))
      have g2 : H5 p2 = some (.lst [v]) := b5 _ _ a2 (q5 _ _ (q4 _ _ (q3 _ _ upd_same)))
      have g3 : H5 p3 = some (.tup [.str "de", v]) := b5 _ _ a3 (q5 _ _ (q4 _ _ upd_same))
      have g4 : H5 p4 = some (.dK [(Sum.inr "de", v)]) := b5 _ _ a4 (q5 _ _ upd_same)
      have g5 : H5 l2 = some (.lst [.ref p1, .ref p2, .ref p3, .ref p4]) := b5 _ _ l2A upd_same
      have nx : ∀ (x : Addr) (d' : PyData), Dz K (offS [h, o] H5) (.ref x) d' → Nice d' (2 + (k + 1)) (30 + 20 * (k + 1)) → Tx d' → T2 d' → ∃ (v2 : V) (d2 : PyData) (c2 : Option V), [some (V.ref h), some (V.ref x), some (.int (0 + (k : Int)))] = [some (V.ref h), some v2, c2] ∧
          Dz K (offS [h, o] H5) v2 d2 ∧ Nice d2 (2 + (k + 1)) (30 + 20 * (k + 1)) ∧ Tx d2 ∧ T2 d2 ∧ Hd h o (n + 2 + ((k + 1 : Nat) : Int)) H5 ∧ Bt [h, o] H H5 :=
        fun x d' w1 w2 w3 w4 => ⟨_, d', _, rfl, w1, w2, w3, w4, h5.mono (by omega), bi.trans bt⟩
      have hl : (reprText ("de" : Str)).length ≤ 6 := by decide +kernel
      obtain ⟨j, rfl⟩ : ∃ j : Nat, a = (j : Int) := ⟨a.toNat, by omega⟩
      have hj : j < 4 := by omega
      match j, hj with
      | 0, _ => exact ⟨l2, _, _, _, rfl, rfl, SqL.of g5, atI_nat (j := 0) rfl, nx p1 (.tuple [d]) (.tup (offS_at a1 g1) (.cons dz5 .nil)) ((nice_tup1 nc).mono (by omega) (by omega)) (fun x e => by cases e) (fun ds e => by cases e; intro e he; rw [List.mem_singleton.mp he]; exact tx)⟩
      | 1, _ => exact ⟨l2, _, _, _, rfl, rfl, SqL.of g5, atI_nat (j := 1) rfl, nx p2 (.list [d]) (.lst (offS_at a2 g2) ne2 (.cons dz5 .nil)) ((nice_lst1 nc).mono (by omega) (by omega)) (fun x e => by cases e) (fun ds e => by cases e)⟩
      | 2, _ => exact ⟨l2, _, _, _, rfl, rfl, SqL.of g5, atI_nat (j := 2) rfl, nx p3 (.tuple [.str "de", d]) (.tup (offS_at a3 g3) (.cons (.str "de") (.cons dz5 .nil))) ((nice_pair nc).mono (by omega) (by omega)) (fun x e => by cases e) (fun ds e => by
          cases e
          intro e he
          rcases List.mem_cons.mp he with z | z
          · rw [z]; exact txDe
          · rw [List.mem_singleton.mp z]; exact tx)⟩
      | 3, _ => exact ⟨l2, _, _, _, rfl, rfl, SqL.of g5, atI_nat (j := 3) rfl, nx p4 (.dict [(.str "de", d)]) (.dct (offS_at a4 g4) (.cons (k := Sum.inr "de") dz5 .nil)) ((nice_dct1 hl nc).mono (by omega) (by omega)) (fun x e => by cases e) (fun ds e => by cases e)⟩
    rintro σ He ⟨v, d, c2, rfl, dz, nc, tx, t2, hde, be⟩
    have rr : (1 + r).toNat ≤ 29 := by omega
    refine ⟨_, rfl, q v d He dz (nc.mono (by omega) (by omega)) t2 (hde.mono ?_) be⟩
    omega
end
end N13
set_option Elab.async false
set_option linter.all false
set_option maxRecDepth 100000
set_option maxHeartbeats 4000000
set_option pp.maxSteps 400
set_option pp.deepTerms false
namespace N13
open PySem PySem.Spec PyProof.Rows L2
open Xk Az
section
variable {P : Program} {w : World} {K : PySem.W.Frag} {mg : Str → Option Value} {base : Heap}
section
variable {prog : Program} {w : World} {A : Around} {E : Value → Shared → Prop} {s : Shared}
/-- what a slice that turns two things about comes to -/
theorem turn2 {sl : Addr} {u : Tok} {Q : Int × Int × Nat → Shared → Prop} (hs : s.heap.IsSliceOf sl .none .none (.int (-1) u)) (h : Q (1, -1, 2) s) : wpAny (model prog w) A (Builtin.Slice.sliceApplied (.ref sl) (pure ((2 : Nat) : Int))) Q E s := by
  obtain ⟨os, a1, a2, a3⟩ := id hs
  unfold Builtin.Slice.sliceApplied Builtin.Slice.sliceFields
  refine wpAny_bind (wpAny_bind (wpAny_field a1 a3 (x := .none) rfl (wpAny_bind (wpAny_field a1 a3 (x := .none) rfl (wpAny_bind (wpAny_field a1 a3 (x := .int (-1) u) rfl (wpAny_pure ?_)))))))
  refine wpAny_bind (slicePart_int ?_)
  show wpAny _ _ (if ((-1 : Int) == 0) = true then _ else _) _ _ s
  rw [if_neg (by decide)]
  exact wpAny_bind (slicePart_none (wpAny_bind (slicePart_none (wpAny_bind (wpAny_pure (wpAny_pure h))))))
theorem item2 {t sl : Addr} {a b : Value} {u : Tok} {Q : Value → Shared → Prop} (ht : IsTup s.heap t #[a, b]) (hs : s.heap.IsSliceOf sl .none .none (.int (-1) u))
    (h : Q (.ref s.heap.objs.size) { s with heap := s.heap.push { cls := .type "tuple", data := .seq #[b, a] } }) : wpAny (model prog w) A (getItem (.ref t) (.ref sl)) Q E s := by
  have fits : sizeOk (.seq #[b, a]) := by show 2 ≤ sizeLine; decide
  obtain ⟨os, a1, a2, a3⟩ := id hs
  have ty : s.TypeIs (.ref sl) "slice" := ⟨os, a1, a2⟩
  unfold getItem; try with_reducible refine wpAny_holding ?_
  (first | refine wpAny_bind (wpAny_pure ?_) | skip); refine wpAny_bind (wpAny_sequenceKey ht.typeIs (by decide) ?_)
  refine wpAny_bind (wpAny_callSpecial?_slot (name := Str.ofString "__getitem__") ht.typeIs PyProof.Rows.slot_tuple_getitem (wpAny_call_entry PyProof.Rows.slot_tuple_getitem ht.typeIs entry_tuple_getitem ?_ (args_tuple_getitem _ _)))
  show wpAny _ _ (Builtin.Tuple.tupleItemsOf (.ref t) >>= _) _ _ s; refine wpAny_bind (tupleItemsOf_ ht ?_)
  refine wpAny_bind (wpAny_typeOf ty ?_); rw [if_pos (by decide)]
  refine wpAny_bind (turn2 hs ?_)
  show wpAny _ _ (if ((1 : Int) == 0 && (-1 : Int) == 1 && (2 == 2)) = true then _ else _) _ _ s
  rw [if_neg (by decide)]
  (first
    | exact wpAny_bind (m := Builtin.Tuple.tupleExact _) (wpAny_newObj_type (wpAny_pure ⟨_, rfl, wpAny_pure h⟩) fits)
    | exact wpAny_bind (m := Builtin.Tuple.tupleExact _) (wpAny_newObj_type (wpAny_bind (wpAny_pure (wpAny_pure ⟨_, rfl, wpAny_pure h⟩))) fits)
    | exact wpAny_bind (wpAny_bind (m := Builtin.Tuple.tupleExact _) (wpAny_newObj_type (wpAny_pure (wpAny_pure ⟨_, rfl, wpAny_pure h⟩)) fits)))
end
section
variable {X : Cx}
/-- a pair turned about -/
def tRev2 (K : PySem.W.Frag) (te : TE) : TE := fun σ H Q => te σ H fun x H1 => ∃ (a : Addr) (y z : V), x = .ref a ∧ SqT K H1 a [y, z] ∧ ∀ p, H1 p = none → Q (.ref p) (upd H1 p (.tup [z, y]))
theorem pe_rev2 {e : Expr} {te : TE} {k : Nat} {p1 p2 p3 pos : Pos} (he : PE X e te) : PE X (.Subscript e (.Slice none none (some (.UnaryOp .USub (.Constant (.int 1) k p1) p2)) p3) pos) (tRev2 X.K te) := by
  refine ⟨fun pins s σ H Q I h => Subscript_ (thn (he.run pins s σ H _ I h) fun v s1 ⟨x, H1, I1, r1, a, y, z, ex, hx, q⟩ => ?_)⟩
  subst ex; cases r1
  have hst : PO X (some (.UnaryOp .USub (.Constant (.int 1) k p1) p2)) (tPart (tUn (rU fun i => .int (-i)) (tC (.int 1)))) := po_some (pe_un un_neg pe_int)
  refine wpAny_Slice (thn (po_none.run pins s1 σ H1 (fun o G => o = none ∧ G = H1) I1 ⟨rfl, rfl⟩) fun vl s2 ⟨l, G, I2, pl, el, e2⟩ => ?_)
  subst el e2
  refine thn (po_none.run pins s2 σ G (fun o G2 => o = none ∧ G2 = G) I2 ⟨rfl, rfl⟩) fun vu s3 ⟨u, G2, I3, pu, eu, e3⟩ => ?_
  subst eu e3
  refine thn (hst.run pins s3 σ G2 (fun o G3 => o = some (-1) ∧ G3 = G2) I3 ⟨1, rfl, -1, rfl, rfl, rfl⟩) fun vs s4 ⟨o, G3, I4, ps, eo, e4⟩ => ?_
  subst eo e4
  cases pl; cases pu
  cases ps with
  | int _ tk =>
  have I5 : Inv X pins σ G3 { s4 with heap := s4.heap.push { cls := .type "slice", data := .fields #[.none, .none, .int (-1) tk] } } := I4.kept (t' := s4.toks) fun b ob q => Heap.get?_push_of_some _ q
  obtain ⟨its, r, ht, hz⟩ := I5.tuple hx
  cases r with
  | cons ry r =>
  cases r with
  | cons rz r =>
  cases r
  show wpAny (model X.prog X.w) X.A (subscriptTail e (.Slice none none (some (.UnaryOp .USub (.Constant (.int 1) k p1) p2)) p3) (.ref a) (.ref s4.heap.objs.size)) (EP X pins σ Q) X.xe { s4 with heap := s4.heap.push { cls := .type "slice", data := .fields #[.none, .none, .int (-1) tk] } }
  refine tail_any (ops := [.ref a, .ref s4.heap.objs.size]) ht.typeIs PyProof.Rows.slot_tuple_getitem.lookup ?_ (by with_unfolding_all rfl)
  refine item2 ht (Heap.IsSliceOf.new _ _ _ _) ?_
  refine ⟨.ref _, _, I5.laid (t' := s4.toks) (o := .tup [z, y]) (fun b ob q => Heap.get?_push_of_some _ q) (Nat.le_refl _) ?_, rfl, q _ (I5.hok.fresh (Nat.le_refl _))⟩
  exact ⟨(by show 2 ≤ sizeLine; decide), _, .cons rz (.cons ry .nil), IsTup.new _ _⟩
/-- a list of a tuple's things, new -/
theorem cr_listT : CallR X (.type "list") (fun xs H Q => ∃ p ys, xs = [.ref p] ∧ SqT X.K H p ys ∧ ∀ l, H l = none → l ≠ sysModules → Q (.ref l) (upd H l (.lst ys))) := by
  intro pins s σ H xs us Q I r h
  obtain ⟨p, ys, rfl, hq, q⟩ := h
  obtain ⟨u, rfl, rx⟩ := vals1 r; cases rx
  obtain ⟨its, r', ⟨o, ho, hc, n, hd⟩, hz⟩ := I.tuple hq
  have hlen := r'.length
  exact call_list_seq p (.inr rfl) ho hc hd (fun h' c' kp e => ⟨.ref s.heap.objs.size, _, I.laid (t' := s.toks) kp (Nat.le_refl _) (show ObjOk X.prog X.w _ h' _ (.lst ys) from ⟨hz, its, c', r', e⟩), rfl, q _ (I.hok.fresh (Nat.le_refl _)) (Nat.ne_of_gt I.big)⟩) (by simp only [List.size_toArray]; omega)
end
theorem asc_of7 {x : Str} (h : Asc7 x) : ∀ c ∈ x.cps.toList, c < 16 ^ 8 := fun c hc => Nat.lt_of_lt_of_le (h c hc) (by decide)
theorem nice_s {x : Str} {n : Nat} (h : Asc7 x) (l : 10 * x.length + 2 ≤ n) : Nice (.str x) 0 n := nice_str (Nat.le_trans (PySem.StrLaws.reprText_len x (asc_of7 h)) l)
theorem nice_t2 {d e : PyData} {k n m : Nat} (h : Nice d k n) (h' : Nice e k m) : Nice (.tuple [d, e]) (k + 1) (n + m + 10) := by
  refine ⟨by simp [PyData.showable, PyData.showableAll, h.sh, h'.sh], ?_, ?_⟩
  · simp only [PyData.depth, PyData.depthAll]
    have := h.dp
    have := h'.dp
    omega
  · simp only [PyData.shown, PyData.shownAll]
    have z := fmt_text [d.shown, e.shown]
    simp only [piled_cons, piled_nil] at z
    have := h.sz
    have := h'.sz
    omega
theorem nice_t3 {d e g : PyData} {k n m j : Nat} (h : Nice d k n) (h' : Nice e k m) (h2 : Nice g k j) : Nice (.tuple [d, e, g]) (k + 1) (n + m + j + 12) := by
  refine ⟨by simp [PyData.showable, PyData.showableAll, h.sh, h'.sh, h2.sh], ?_, ?_⟩
  · simp only [PyData.depth, PyData.depthAll]
    have := h.dp
    have := h'.dp
    have := h2.dp
    omega
  · simp only [PyData.shown, PyData.shownAll]
    have z := fmt_text [d.shown, e.shown, g.shown]
    simp only [piled_cons, piled_nil] at z
    have := h.sz
    have := h'.sz
    have := h2.sz
    omega
theorem nice_l2 {d e : PyData} {k n m : Nat} (h : Nice d k n) (h' : Nice e k m) : Nice (.list [d, e]) (k + 1) (n + m + 10) := by
  refine ⟨by simp [PyData.showable, PyData.showableAll, h.sh, h'.sh], ?_, ?_⟩
  · simp only [PyData.depth, PyData.depthAll]
    have := h.dp
    have := h'.dp
    omega
  · simp only [PyData.shown, PyData.shownAll]
    have z := list_le [d.shown, e.shown]
    simp only [piled_cons, piled_nil] at z
    have := h.sz
    have := h'.sz
    omega
theorem tx_s {x : Str} (h : Asc7 x) (l : x.length ≤ 2000) : Tx (.str x) := fun y e => by
  cases e
  exact ⟨l, h⟩
theorem t2_l {ds : List PyData} : T2 (.list ds) := fun _ e => by cases e
theorem t2_1 {d : PyData} (h : Tx d) : T2 (.tuple [d]) := fun ds e => by
  cases e
  intro x hx
  rw [List.mem_singleton.mp hx]
  exact h
theorem t2_2 {d e : PyData} (h : Tx d) (h' : Tx e) : T2 (.tuple [d, e]) := fun ds q => by
  cases q
  intro x hx
  rcases List.mem_cons.mp hx with z | z
  · rw [z]; exact h
  · rw [List.mem_singleton.mp z]; exact h'
theorem t2_3 {d e g : PyData} (h : Tx d) (h' : Tx e) (h2 : Tx g) : T2 (.tuple [d, e, g]) := fun ds q => by
  cases q
  intro x hx
  rcases List.mem_cons.mp hx with z | z
  · rw [z]; exact h
  · rcases List.mem_cons.mp z with z | z
    · rw [z]; exact h'
    · rw [List.mem_singleton.mp z]; exact h2
/-- where lists stand -/
def AlL (A : List Addr) (H : Hp) : Prop := ∀ b ∈ A, ∃ xs, H b = some (.lst xs)
theorem AlL.same {A : List Addr} {H H' : Hp} (a : AlL A H) (s : L2.Same H H') : AlL A H' := fun b m => by
  obtain ⟨xs, e⟩ := a b m
  exact ⟨xs, s _ _ e⟩
theorem AlL.fresh {A : List Addr} {H : Hp} {p : Addr} (a : AlL A H) (n : H p = none) : p ∉ A := fun m => by
  obtain ⟨xs, e⟩ := a p m
  rw [n] at e
  cases e
theorem AlL.bt {A : List Addr} {h o : Addr} {n : Int} {H H' : Hp} (a : AlL A H) (s : Bt [h, o] H H') (d : Hd h o n H') : AlL A H' := fun b m => by
  obtain ⟨xs, e⟩ := a b m
  by_cases z : b ∈ [h, o]
  · obtain ⟨gs, m', c, r1, r2, _⟩ := d
    simp only [List.mem_cons, List.not_mem_nil, or_false] at z
    rcases z with z | z
    · rw [z]; exact ⟨_, r1⟩
    · rw [z]; exact ⟨_, r2⟩
  · exact ⟨xs, s _ _ z e⟩
theorem offS_mem {A : List Addr} {H : Hp} {b : Addr} (m : b ∈ A) : offS A H b = none := by
  unfold offS
  rw [if_pos m]
theorem offS_le {A : List Addr} {H : Hp} : L2.Same (offS A H) H := fun b x e => by
  by_cases m : b ∈ A
  · rw [offS_mem m] at e; cases e
  · unfold offS at e
    rw [if_neg m] at e
    exact e
theorem Bt.offA {A : List Addr} {h o : Addr} {H H' : Hp} (s : Bt [h, o] H H') (hA : h ∈ A) (oA : o ∈ A) : L2.Same (offS A H) (offS A H') := fun b x e => by
  by_cases m : b ∈ A
  · rw [offS_mem m] at e; cases e
  · refine offS_at m (s b x (fun z => ?_) (offS_le _ _ e))
    simp only [List.mem_cons, List.not_mem_nil, or_false] at z
    rcases z with z | z
    · exact m (z ▸ hA)
    · exact m (z ▸ oA)
theorem off_set {A : List Addr} {H : Hp} {p : Addr} {x : HO} (m : p ∈ A) : L2.Same (offS A H) (offS A (upd H p x)) := fun b y e => by
  by_cases z : b ∈ A
  · rw [offS_mem z] at e; cases e
  · refine offS_at z ?_
    rw [upd_ne (fun q => z (by rw [q]; exact m))]
    exact offS_le _ _ e
def spSpoilt (K : PySem.W.Frag) : Sp := fun vs H Q _ => ∃ (h o : Addr) (n : Int) (v : V) (A : List Addr), vs = [.ref h, v] ∧ Nm H v ∧ Hd h o n H ∧ n + 200 ≤ far ∧ h ∈ A ∧ o ∈ A ∧ AlL A H ∧
  ∀ v' d H', Dz K (offS A H') v' d → Nice d 40 5000 → T2 d → Hd h o (n + 60) H' → Bt [h, o] H H' → Q v' H'
theorem ok_spoilt {f : Addr} {fd : FuncData} (D : Df K mg "_law_spoilt" ["_law_hand_here", "_law_name"] sSpoilt f fd) (T : Txt K mg) (cT : Ca P w K mg base 1 "_law_take" ["_law_hand_here", "_law_many"] spTake) (cP : Ca P w K mg base 2 "_law_pick" ["_law_hand_here", "_law_some"] spPick) (cST : Ca P w K mg base 3 "_law_spoilt_text" ["_law_hand_here", "_law_text_here"] spST) : FnOk P w K mg base CX0 4 f fd ["_law_hand_here", "_law_name"] (spSpoilt K) := by
  refine D.fn.ok scSpoilt (fun vs H Q E h => ?_) (fun cdv A outer s H vs Q E hr h => ?_)
  · obtain ⟨h, o, n, v, A, rfl, nm, hd, hn, hA, oA, al, q⟩ := h
    rfl
  · obtain ⟨h, o, n, v, A, rfl, nm, hd, hn, hA, oA, al, q⟩ := h
    refine ⟨_, (pss_cons (ps_par (i := 2) (j := 3) (by rfl) scSpoilt.nd rfl rfl (by decide) rfl rfl (pa_cons (pe_ca cT hr (by decide) (by rfl) (pa_cons (pv 0) (pa_cons pe_int pa_nil))) (pa_cons (pe_ca cT hr (by decide) (by rfl) (pa_cons (pv 0) (pa_cons pe_int pa_nil))) pa_nil)) (by rfl))
      (pss_cons (ps_set (i := 4) scSpoilt.nd rfl (.inl rfl) (pe_ca cP hr (by decide) (by rfl) (pa_cons (pv 0) (pa_cons (pe_lst (pa_cons pe_non (pa_cons pe_int (pa_cons pe_bl (pa_cons (pe_tup pa_nil) (pa_cons (pe_lstZ pa_nil) (pa_cons pe_str (pa_cons pe_str (pa_cons (pe_tup (pa_cons pe_str pa_nil)) (pa_cons (pe_disp (pps_cons pe_str pe_str pps_nil) rfl rfl (by simp) (by decide)) (pa_cons (pv 1) pa_nil))))))))))) pa_nil))))
      (pss_cons (ps_if (pt_cmpR op_lt (pv 2) pe_int (nomark _)) (pss_cons (ps_set (i := 5) scSpoilt.nd rfl (.inl rfl) (pe_ca cST hr (by decide) (by rfl) (pa_cons (pv 0) (pa_cons (pe_ix ix_tup (pv 1) (pv 3) (fun _ _ => rfl)) pa_nil))))
      (pss_one (ps_ret (pe_ifExp (pt_cmpR op_eq (pv 3) pe_int (nomark _)) (pe_tup (pa_cons (pv 5) (pa_cons (pe_ix ix_tup (pv 1) pe_int (fun _ _ => rfl)) pa_nil))) (pe_tup (pa_cons (pe_ix ix_tup (pv 1) pe_int (fun _ _ => rfl)) (pa_cons (pv 5) pa_nil))))))) pss_nil)
      (pss_cons (ps_if (pt_cmpR op_eq (pv 2) pe_int (nomark _)) (pss_one (ps_ret (pe_ifExp (pt_cmpR op_eq (pv 3) pe_int (nomark _)) (pe_tup (pa_cons (pv 4) (pa_cons (pe_ix ix_tup (pv 1) pe_int (fun _ _ => rfl)) pa_nil))) (pe_tup (pa_cons (pe_ix ix_tup (pv 1) pe_int (fun _ _ => rfl)) (pa_cons (pv 4) pa_nil)))))) pss_nil)
      (pss_one (ps_ret (pe_ix ix_list (pe_lst (pa_cons (pe_op op_catA (pv 1) (pe_tup (pa_cons (pv 4) pa_nil))) (pa_cons (pe_slice sl_tup (pv 1) po_none (po_some pe_int)) (pa_cons (pe_ix ix_list (pe_lst (pa_cons (pe_callTy cr_listT (by rfl) T.list (by decide +kernel) (pa_cons (pv 1) pa_nil)) (pa_cons (pe_rev2 (pv 1)) pa_nil))) (pv 3) (fun _ _ => rfl)) pa_nil)))) (pe_op op_sub (pv 2) pe_int) (fun _ _ => rfl)))))))), ?_⟩
    obtain ⟨t, a, b, rfl, et, la, a2, a3, cb, b1, b4⟩ := nm
    have fr : n + 200 ≤ 1000000 := hn
    have tN : t ∉ A := fun m => by
      obtain ⟨xs, e⟩ := al _ m
      rw [et] at e
      cases e
    have tA : t ∉ [h, o] := fun m => by
      obtain ⟨gs, m', c, r1, r2, _⟩ := hd
      simp only [List.mem_cons, List.not_mem_nil, or_false] at m
      rcases m with e | e
      · rw [e, r1] at et; cases et
      · rw [e, r2] at et; cases et
    refine ⟨_, rfl, h, o, 7, n, rfl, by decide, by decide, hd, by show n ≤ 1000000; omega, fun wy H1 w0 w1 h1 c1 => ?_⟩
    refine ⟨_, rfl, h, o, 2, n + 1, rfl, by decide, by decide, h1, by show n + 1 ≤ 1000000; omega, fun p H2 p0 p1 h2 c2 => ⟨_, _, rfl, ?_⟩⟩
    have et2 := c2 _ _ tA (c1 _ _ tA et)
    have bt2 : Bt [h, o] H H2 := c1.trans c2
    have al2 := (al.bt c1 h1).bt c2 h2
    clear c1 c2 h1
    refine ⟨_, rfl, (by show 0 ≤ sizeLine; decide), fun t0 n0 => ?_⟩
    have s0 := same_upd n0 (o := .tup [])
    refine ⟨(by show 0 ≤ sizeLine; decide), fun l0 nl0 ne0 => ?_⟩
    have s1 := same_upd nl0 (o := .lst [])
    refine ⟨(by show 1 ≤ sizeLine; decide), fun t1 n1 => ?_⟩
    have s2 := same_upd n1 (o := .tup [.str "de"])
    intro p4 n4
    refine ⟨upd_same, [(Sum.inr "de", .str "a")], rfl, (by show 1 ≤ 15; decide), _, rfl, (by show 10 ≤ sizeLine; decide), fun l1 nl1 => ?_⟩
    have s3 : L2.Same (upd (upd (upd H2 t0 (.tup [])) l0 (.lst [])) t1 (.tup [.str "de"])) (upd (upd (upd (upd (upd H2 t0 (.tup [])) l0 (.lst [])) t1 (.tup [.str "de"])) p4 (.dK [])) p4 (.dK (mergeK [] [(Sum.inr "de", .str "a")]))) := by
      rw [upd_upd]
      exact same_upd n4
    have s4 := same_upd nl1 (o := .lst [.non, .int 0, .bl true, .ref t0, .ref l0, .str "", .str "de", .ref t1, .ref p4, .ref t])
    have g1 := h2.same s0
    have g2 := g1.same s1
    have g3 := g2.same s2
    have g4 := g3.same s3
    have t0A := h2.fresh n0
    have l0A := g1.fresh nl0
    have t1A := g2.fresh n1
    have p4A := g3.fresh n4
    have t0N := al2.fresh n0
    have l0N := (al2.same s0).fresh nl0
    have t1N := ((al2.same s0).same s1).fresh n1
    have p4N := (((al2.same s0).same s1).same s2).fresh n4
    refine ⟨h, o, n + 1 + 1, _, rfl, g4.same s4, by show n + 1 + 1 ≤ 1000000; omega, .inl ⟨l1, _, rfl, upd_same, g4.fresh nl1, by simp, by show 10 < 1000; decide, fun v0 H3 mv h3 b3 => ?_⟩⟩
    have f0 := b3 _ _ t0A (s4 _ _ (s3 _ _ (s2 _ _ (s1 _ _ upd_same))))
    have f1 := b3 _ _ l0A (s4 _ _ (s3 _ _ (s2 _ _ upd_same)))
    have f2 := b3 _ _ t1A (s4 _ _ (s3 _ _ upd_same))
    have f4 : H3 p4 = some (.dK [(Sum.inr "de", .str "a")]) := b3 _ _ p4A (s4 _ _ upd_same)
    have et3 := b3 _ _ tA (s4 _ _ (s3 _ _ (s2 _ _ (s1 _ _ (s0 _ _ et2)))))
    have al3 := ((((((al2.same s0).same s1).same s2).same s3).same s4).bt b3 h3)
    have bt3 : Bt [h, o] H H3 := bt2.trans ((Bt.of ((((s0.trans s1).trans s2).trans s3).trans s4)).trans b3)
    have na : Nice (.str a) 0 40 := nice_s la.asc (by omega)
    have nb : Nice (.str b) 0 420 := nice_s cb.asc (by omega)
    have txa : Tx (.str a) := tx_s la.asc (by omega)
    have txb : Tx (.str b) := tx_s cb.asc (by omega)
    obtain ⟨d0, z0, nc0, tx0⟩ : ∃ d, Dz K (offS A H3) v0 d ∧ Nice d 1 600 ∧ Tx d := by
      have hl : (reprText ("de" : Str)).length ≤ 6 := by decide +kernel
      simp only [List.mem_cons, List.not_mem_nil, or_false] at mv
      rcases mv with e | e | e | e | e | e | e | e | e | e
      · subst e
        exact ⟨_, .non, nice_none.mono (by decide) (by decide), fun x e => by cases e⟩
      · subst e
        exact ⟨_, .int 0, (nice_int (n := 30) (by decide +kernel) (by decide +kernel)).mono (by decide) (by decide), fun x e => by cases e⟩
      · subst e
        exact ⟨_, .bl true, (nice_bool true).mono (by decide) (by decide), fun x e => by cases e⟩
      · subst e
        exact ⟨_, .tup (offS_at t0N f0) .nil, nice_tup0.mono (by decide) (by decide), fun x e => by cases e⟩
      · subst e
        exact ⟨_, .lst (offS_at l0N f1) ne0 .nil, nice_lst0.mono (by decide) (by decide), fun x e => by cases e⟩
      · subst e
        exact ⟨_, .str "", (nice_str (n := 30) (by decide +kernel)).mono (by decide) (by decide), tx_s (by unfold Asc7; decide +kernel) (by decide +kernel)⟩
      · subst e
        exact ⟨_, .str "de", (nice_str (n := 30) (by decide +kernel)).mono (by decide) (by decide), txDe⟩
      · subst e
        exact ⟨_, .tup (offS_at t1N f2) (.cons (.str "de") .nil), (nice_tup1 (nice_str (n := 30) (by decide +kernel))).mono (by decide) (by decide), fun x e => by cases e⟩
      · subst e
        exact ⟨_, .dct (offS_at p4N f4) (.cons (k := Sum.inr "de") (.str "a") .nil), (nice_dct1 hl (nice_str (n := 30) (by decide +kernel))).mono (by decide) (by decide), fun x e => by cases e⟩
      · subst e
        exact ⟨_, .tup (offS_at tN et3) (.cons (.str a) (.cons (.str b) .nil)), (nice_t2 na nb).mono (by decide) (by decide), fun x e => by cases e⟩
    clear mv f0 f1 f2 f4 b3 s0 s1 s2 s3 s4 g1 g2 g3 g4 t0A l0A t1A p4A n0 nl0 n1 n4 nl1
    have fin : ∀ (v' : V) (d : PyData) (H' : Hp), Dz K (offS A H') v' d → Nice d 3 5000 → T2 d → Hd h o (n + 40) H' → Bt [h, o] H3 H' → Q v' H' := fun v' d H' q1 q2 q3 q4 q5 => q v' d H' q1 (q2.mono (by decide) (by decide)) q3 (q4.mono (by omega)) (bt3.trans q5)
    have at0 : ∀ {H' : Hp}, H' t = some (.tup [.str a, .str b]) → SqT K H' t [.str a, .str b] := fun e => SqT.of e
    have pe : p = 0 ∨ p = 1 := by omega
    refine ⟨_, rfl, wy, 3, rfl, rfl, _, rfl, ite2 (fun e => ?_) (fun e => ?_)⟩
    · rcases pe with pe | pe
      · subst pe
        refine ⟨_, rfl, _, rfl, _, rfl, t, _, 0, .str a, rfl, rfl, SqT.of et3, atI_nat (j := 0) rfl, h, o, n + 1 + 1 + 1, a, rfl, by omega, la.asc, h3, by show n + 1 + 1 + 1 + 50 ≤ 1000000; omega, fun y H4 ly ay h4 b4' => ?_⟩
        have et4 := b4' _ _ tA et3
        refine ⟨_, rfl, rfl, _, rfl, iteT ⟨_, rfl, _, rfl, t, _, 1, .str b, rfl, rfl, SqT.of et4, atI_nat (j := 1) rfl, (by show 2 ≤ sizeLine; decide), fun p5 n5 => ?_⟩⟩
        have s5 := same_upd n5 (o := .tup [.str y, .str b])
        exact fin _ (.tuple [.str y, .str b]) _ (.tup (offS_at ((al3.bt b4' h4).fresh n5) upd_same) (.cons (.str y) (.cons (.str b) .nil))) ((nice_t2 (nice_s (n := 3100) ay (by omega)) nb).mono (by decide) (by decide)) (t2_2 (tx_s ay (by omega)) txb) ((h4.same s5).mono (by omega)) (b4'.trans (Bt.of s5))
      · subst pe
        refine ⟨_, rfl, _, rfl, _, rfl, t, _, 1, .str b, rfl, rfl, SqT.of et3, atI_nat (j := 1) rfl, h, o, n + 1 + 1 + 1, b, rfl, by omega, cb.asc, h3, by show n + 1 + 1 + 1 + 50 ≤ 1000000; omega, fun y H4 ly ay h4 b4' => ?_⟩
        have et4 := b4' _ _ tA et3
        refine ⟨_, rfl, rfl, _, rfl, iteF ⟨_, rfl, t, _, 0, .str a, rfl, rfl, SqT.of et4, atI_nat (j := 0) rfl, _, rfl, (by show 2 ≤ sizeLine; decide), fun p5 n5 => ?_⟩⟩
        have s5 := same_upd n5 (o := .tup [.str a, .str y])
        exact fin _ (.tuple [.str a, .str y]) _ (.tup (offS_at ((al3.bt b4' h4).fresh n5) upd_same) (.cons (.str a) (.cons (.str y) .nil))) ((nice_t2 na (nice_s (n := 3100) ay (by omega))).mono (by decide) (by decide)) (t2_2 txa (tx_s ay (by omega))) ((h4.same s5).mono (by omega)) (b4'.trans (Bt.of s5))
    · refine ⟨_, rfl, rfl, _, rfl, ite2 (fun e3 => ?_) (fun e3 => ?_)⟩
      · rcases pe with pe | pe
        · subst pe
          refine ⟨_, rfl, rfl, _, rfl, iteT ⟨_, rfl, _, rfl, t, _, 1, .str b, rfl, rfl, SqT.of et3, atI_nat (j := 1) rfl, (by show 2 ≤ sizeLine; decide), fun p5 n5 => ?_⟩⟩
          have s5 := same_upd n5 (o := .tup [v0, .str b])
          exact fin _ (.tuple [d0, .str b]) _ (.tup (offS_at (al3.fresh n5) upd_same) (.cons (z0.same ((Bt.of s5).offA hA oA)) (.cons (.str b) .nil))) ((nice_t2 nc0 (nb.mono (by decide) (Nat.le_refl _))).mono (by decide) (by decide)) (t2_2 tx0 txb) ((h3.same s5).mono (by omega)) (Bt.of s5)
        · subst pe
          refine ⟨_, rfl, rfl, _, rfl, iteF ⟨_, rfl, t, _, 0, .str a, rfl, rfl, SqT.of et3, atI_nat (j := 0) rfl, _, rfl, (by show 2 ≤ sizeLine; decide), fun p5 n5 => ?_⟩⟩
          have s5 := same_upd n5 (o := .tup [.str a, v0])
          exact fin _ (.tuple [.str a, d0]) _ (.tup (offS_at (al3.fresh n5) upd_same) (.cons (.str a) (.cons (z0.same ((Bt.of s5).offA hA oA)) .nil))) ((nice_t2 (na.mono (by decide) (Nat.le_refl _)) nc0).mono (by decide) (by decide)) (t2_2 txa tx0) ((h3.same s5).mono (by omega)) (Bt.of s5)
      · have w4 : 4 ≤ wy := by
          have e1 : ¬ wy < 3 := of_decide_eq_false (by simpa using e)
          have e2 : ¬ V.int wy = V.int 3 := of_decide_eq_false (by simpa using e3)
          have e4 : wy ≠ 3 := fun z => e2 (by rw [z])
          omega
        refine ⟨_, rfl, _, rfl, (by show 1 ≤ sizeLine; decide), fun p1' n1 => ?_⟩
        have s1 := same_upd n1 (o := .tup [v0])
        refine ⟨t, p1', _, _, rfl, rfl, SqT.of (s1 _ _ et3), SqT.of upd_same, (by show 3 ≤ sizeLine; decide), (fun z => by cases z), (fun _ z => by cases z), fun _ _ p2 n2 => ?_⟩
        have s2 := same_upd n2 (o := .tup [.str a, .str b, v0])
        have e2t := s2 _ _ (s1 _ _ et3)
        refine ⟨_, rfl, 1, rfl, t, _, rfl, SqT.of e2t, (by show ¬(HT.sIx 2 0 none = 0 ∧ HT.sIx 2 2 (some 1) = 2); decide), fun p3 n3 => ?_⟩
        have s3 := same_upd n3 (o := .tup [.str a])
        refine ⟨_, rfl, t, _, rfl, SqT.of (s3 _ _ e2t), fun p4' n4 ne4 => ?_⟩
        have s4 := same_upd n4 (o := .lst [.str a, .str b])
        refine ⟨_, rfl, t, _, _, rfl, SqT.of (s4 _ _ (s3 _ _ e2t)), fun p5 n5 => ?_⟩
        have s5 := same_upd n5 (o := .tup [.str b, .str a])
        refine ⟨(by show 2 ≤ sizeLine; decide), fun p6 n6 => ?_⟩
        have s6 := same_upd n6 (o := .lst [.ref p4', .ref p5])
        have k1 := h3.same s1
        have k2 := k1.same s2
        have k3 := k2.same s3
        have k4 := k3.same s4
        have k5 := k4.same s5
        have k6 := k5.same s6
        have p2A := (al3.same s1).fresh n2
        have p3A := ((al3.same s1).same s2).fresh n3
        have p4A := (((al3.same s1).same s2).same s3).fresh n4
        have p5A := ((((al3.same s1).same s2).same s3).same s4).fresh n5
        have all5 : ∀ {H' : Hp}, L2.Same (upd (upd (upd (upd (upd (upd H3 p1' (.tup [v0])) p2 (.tup [.str a, .str b, v0])) p3 (.tup (cutV [.str a, .str b] none (some 1)))) p4' (.lst [.str a, .str b])) p5 (.tup [.str b, .str a])) p6 (.lst [.ref p4', .ref p5])) H' → Hd h o (n + 40) H' → ∀ vp, vp = .ref p4' ∨ vp = .ref p5 → Q vp H' ∧ Q (.ref p2) H' ∧ Q (.ref p3) H' := fun {H'} sm hd' vp hvp => by
          have bt : Bt [h, o] H3 H' := Bt.of ((((((s1.trans s2).trans s3).trans s4).trans s5).trans s6).trans sm)
          refine ⟨?_, ?_, ?_⟩
          · rcases hvp with e | e
            · subst e
              exact fin _ (.list [.str a, .str b]) H' (.lst (offS_at p4A (sm _ _ (s6 _ _ (s5 _ _ upd_same)))) ne4 (.cons (.str a) (.cons (.str b) .nil))) ((nice_l2 na nb).mono (by decide) (by decide)) t2_l hd' bt
            · subst e
              exact fin _ (.tuple [.str b, .str a]) H' (.tup (offS_at p5A (sm _ _ (s6 _ _ upd_same))) (.cons (.str b) (.cons (.str a) .nil))) ((nice_t2 nb na).mono (by decide) (by decide)) (t2_2 txb txa) hd' bt
          · exact fin _ (.tuple [.str a, .str b, d0]) H' (.tup (offS_at p2A (sm _ _ (s6 _ _ (s5 _ _ (s4 _ _ (s3 _ _ upd_same)))))) (.cons (.str a) (.cons (.str b) (.cons (z0.same (bt.offA hA oA)) .nil)))) ((nice_t3 (na.mono (by decide) (Nat.le_refl _)) (nb.mono (by decide) (Nat.le_refl _)) nc0).mono (by decide) (by decide)) (t2_3 txa txb tx0) hd' bt
          · exact fin _ (.tuple [.str a]) H' (.tup (offS_at p3A (sm _ _ (s6 _ _ (s5 _ _ (s4 _ _ upd_same))))) (.cons (.str a) .nil)) ((nice_tup1 na).mono (by decide) (by decide)) (t2_1 txa) hd' bt
        obtain ⟨vp, hvp, ap⟩ : ∃ vp : V, (vp = .ref p4' ∨ vp = .ref p5) ∧ atI [V.ref p4', V.ref p5] p = some vp := by
          rcases pe with pe | pe
          · subst pe
            exact ⟨_, .inl rfl, atI_nat (j := 0) rfl⟩
          · subst pe
            exact ⟨_, .inr rfl, atI_nat (j := 1) rfl⟩
        refine ⟨_, rfl, p6, _, _, vp, rfl, rfl, SqL.of upd_same, ap, (by show 3 ≤ sizeLine; decide), fun p7 n7 => ?_⟩
        have s7 := same_upd n7 (o := .lst [.ref p2, .ref p3, vp])
        obtain ⟨r1, r2, r3⟩ := all5 s7 ((k6.same s7).mono (by omega)) vp hvp
        obtain we | we | we : wy = 4 ∨ wy = 5 ∨ wy = 6 := by omega
        · subst we
          exact ⟨_, rfl, 4, 4, rfl, rfl, p7, _, _, _, rfl, rfl, SqL.of upd_same, atI_nat (j := 0) rfl, r2⟩
        · subst we
          exact ⟨_, rfl, 5, 4, rfl, rfl, p7, _, _, _, rfl, rfl, SqL.of upd_same, atI_nat (j := 1) rfl, r3⟩
        · subst we
          exact ⟨_, rfl, 6, 4, rfl, rfl, p7, _, _, _, rfl, rfl, SqL.of upd_same, atI_nat (j := 2) rfl, r1⟩
end
end N13
set_option Elab.async false
set_option linter.all false
set_option maxRecDepth 100000
set_option maxHeartbeats 4000000
set_option pp.maxSteps 400
set_option pp.deepTerms false
namespace N13
open PySem PySem.Spec PyProof.Rows L2
open Xk Az
section
variable {P : Program} {w : World} {K : PySem.W.Frag} {mg : Str → Option Value} {base : Heap}
def spLaw (K : PySem.W.Frag) : Sp := fun vs H Q _ => ∃ (a : Addr) (ns : List Int), vs = [.ref a] ∧ SqL K H a (ns.map V.int) ∧ ns.length ≤ 63 ∧ ∀ H', Q (.bl true) H'
theorem ok_law {f : Addr} {fd : FuncData} (D : Df K mg "law" ["_law_script"] sLaw f fd) (T : Txt K mg) (cNm : Ca P w K mg base 4 "is_name" ["thing"] (spIsName K)) (cLn : Ca P w K mg base 1 "_law_is_name" ["_law_thing"] (spIsName K)) (cH : Ca P w K mg base 1 "_law_hand" ["_law_script"] (spHand K)) (cNs : Ca P w K mg base 4 "_law_names" ["_law_hand_here", "_law_many"] spNames) (cSp : Ca P w K mg base 4 "_law_spoilt" ["_law_hand_here", "_law_name"] (spSpoilt K)) (cDp : Ca P w K mg base 3 "_law_deep" ["_law_hand_here"] (spDeep K)) : Gn P w K mg base 5 f fd ["_law_script"] (spLaw K) := by
  refine gn_body D.fn scLaw (fun vs H Q E h => ?_) (fun cdv A outer s H vs Q E hg hr h => ?_)
  · obtain ⟨a, ns, rfl, hS, hlen, q⟩ := h
    rfl
  · obtain ⟨a, ns, rfl, hS, hlen, q⟩ := h
    refine ⟨_, (pss_cons (ps_set (i := 1) scLaw.nd rfl (.inr rfl) (pe_ca cH hr (by decide) (by rfl) (pa_cons (pv 0) pa_nil)))
      (pss_cons (ps_for PassesOwn.never rfl (pi_range1 (by rfl) T.range (pa_cons (pe_op op_add pe_int (pe_callB (call_min2 (by rfl)) (by rfl) T.min (by decide +kernel) (pa_cons pe_int (pa_cons (pe_callB call_len_seq (by rfl) T.len PySem.boot_len (pa_cons (pv 0) pa_nil)) pa_nil)))) pa_nil)) (pg_name (i := 2) scLaw.nd rfl (.inl rfl)) (pss_cons (ps_for PassesOwn.never rfl (pi_list (pe_ca cNs hr (by decide) (by rfl) (pa_cons (pv 1) (pa_cons pe_int pa_nil)))) (pg_name (i := 3) scLaw.nd rfl (.inr rfl)) (pss_cons (ps_if (pt_cmpR op_notBl (pe_ca cNm hr (by decide) (by rfl) (pa_cons (pv 3) pa_nil)) pe_bl (nomark _)) (pss_one (ps_ret pe_bl)) pss_nil)
      (pss_one (ps_for PassesOwn.never rfl (pi_list (pe_lc (own := [("_law_k", 7)]) (g := gName 7) (tt := tYes) (by rfl) scLaw.nd (pi_range1 (by rfl) T.range (pa_cons pe_int pa_nil)) (blkOk_by (own := [("_law_k", 7)]) (N := ["_law_script", "_law_hand_here", "_law_turn", "_law_name", "_law_thing", "_law_kept", "_law_found", "_law_k"]) (sc := defScope sLaw) (by decide +kernel)) (fun _ _ _ _ _ => pg_name (i := 7) scLaw.nd rfl (.inl rfl)) (fun _ _ _ _ _ => pts_nil) (fun _ _ _ _ _ => pe_ca cSp hr (by decide) (by rfl) (pa_cons (pv 1) (pa_cons (pv 3) pa_nil))))) (pg_name (i := 4) scLaw.nd rfl (.inl rfl)) (pss_cons (ps_par (i := 5) (j := 6) (by rfl) scLaw.nd rfl rfl (by decide) rfl rfl (pa_cons (pe_callB (cr_reprZ hg hr) (by rfl) T.repr (by decide +kernel) (pa_cons (pv 4) pa_nil)) (pa_cons (pe_ca cNm hr (by decide) (by rfl) (pa_cons (pv 4) pa_nil)) pa_nil)) (by rfl))
      (pss_one (ps_if (PW.pt (pw_or (pt_not (pt_val (pe_callB call_isi (by rfl) T.isi (by decide +kernel) (pa_cons (pv 6) (pa_cons (pe_bltn (v := .ty "bool") (by rfl) T.bool (by decide +kernel) rfl) pa_nil))))) (pw_or (pt_cmpR op_ne (pv 6) (pe_ca cLn hr (by decide) (by rfl) (pa_cons (pv 4) pa_nil)) (nomark _)) (pw_or1 (pt_cmpR op_ne (pe_callB (cr_reprZ hg hr) (by rfl) T.repr (by decide +kernel) (pa_cons (pv 4) pa_nil)) (pv 5) (nomark _)))))) (pss_one (ps_ret pe_bl)) pss_nil)))))))
      (pss_one (ps_for PassesOwn.never rfl (pi_list (pe_lst (pa_cons (pe_ca cDp hr (by decide) (by rfl) (pa_cons (pv 1) pa_nil)) (pa_cons pe_non (pa_cons pe_int (pa_cons pe_bl (pa_cons pe_str (pa_cons (pe_tup pa_nil) (pa_cons (pe_tup (pa_cons pe_str pa_nil)) (pa_cons (pe_tup (pa_cons pe_str (pa_cons pe_str (pa_cons pe_str pa_nil)))) (pa_cons pe_dnewK pa_nil))))))))))) (pg_name (i := 4) scLaw.nd rfl (.inl rfl)) (pss_one (ps_if (pt_cmpR op_ne (pe_callB (cr_reprZ hg hr) (by rfl) T.repr (by decide +kernel) (pa_cons (pe_ca cNm hr (by decide) (by rfl) (pa_cons (pv 4) pa_nil)) pa_nil)) (pe_callB (cr_reprZ hg hr) (by rfl) T.repr (by decide +kernel) (pa_cons (pe_ca cLn hr (by decide) (by rfl) (pa_cons (pv 4) pa_nil)) pa_nil)) (nomark _)) (pss_one (ps_ret pe_bl)) pss_nil))))))
      (pss_one (ps_ret pe_bl)))), ?_⟩
    refine ⟨_, rfl, a, ns, rfl, hS, hlen, fun h o H1 hd s1 nh no => ?_⟩
    refine ⟨_, rfl, a, _, rfl, .inl (s1.seq hS), 2, _, rfl, 2, _, rfl, rfl, ?_⟩
    obtain ⟨m, em, m0, m2⟩ : ∃ m : Int, (if ((ns.map V.int).length : Int) < 2 then ((ns.map V.int).length : Int) else 2) = m ∧ 0 ≤ m ∧ m ≤ 2 := ⟨_, rfl, by split <;> omega, by split <;> omega⟩
    rw [em]
    clear em
    refine ⟨_, rfl, by omega, by omega, for_range (lo := 0) (n := (2 + m).toNat) (fun k σ Hi => ∃ c2 c3 c4 c5 c6 c7 : Option V, σ = [some (.ref a), some (.ref h), c2, c3, c4, c5, c6, c7] ∧ Hd h o (6000 * k) Hi) ?_ ?_ ?_⟩
    · exact ⟨_, _, _, _, _, _, rfl, hd.mono (by omega)⟩
    · rintro k σ Hi hk ⟨c2, c3, c4, c5, c6, c7, rfl, hdi⟩
      have k4 : k < 4 := by omega
      refine ⟨_, rfl, h, o, 6000 * k, rfl, hdi, by show 6000 * (k : Int) + 1000 ≤ 1000000; omega, fun L xs H2 eL LA lx nmx h2 b2 => ⟨L, rfl, ⟨_, SqL.of eL⟩, ?_⟩⟩
      refine for_list (K := K) (a := L) (xs := xs) (fun i σ Hj => ∃ c3 c4 c5 c6 c7 : Option V, σ = [some (.ref a), some (.ref h), some (.int (0 + (k : Int))), c3, c4, c5, c6, c7] ∧ Hj L = some (.lst xs) ∧ (∀ v ∈ xs, Nm Hj v) ∧ Hd h o (6000 * k + 700 + 300 * i) Hj) ?_ ?_ ?_ ?_
      · exact ⟨_, _, _, _, _, rfl, eL, nmx, h2.mono (by omega)⟩
      · rintro i σ Hj _ ⟨_, _, _, _, _, _, e, _⟩
        exact SqL.of e
      · rintro i x σ Hj hx ⟨c3, c4, c5, c6, c7, rfl, eLj, nmj, hdj⟩
        have i10 : i < 10 := by
          have := (List.getElem?_eq_some_iff.mp hx).1
          omega
        have nx := nmj x (List.mem_of_getElem? hx)
        obtain ⟨t, y, z, rfl, et, ly, y2, y3, cz, z1, z4⟩ := id nx
        have txy : Tx (.str y) := tx_s ly.asc (by omega)
        have txz : Tx (.str z) := tx_s cz.asc (by omega)
        refine ⟨_, rfl, .ref t, .tuple [.str y, .str z], rfl, .tup et (.cons (.str y) (.cons (.str z) .nil)), t2_2 txy txz, fun H3 s3 => ?_⟩
        rw [nm_true ly y2 y3 cz z1 z4]
        refine ⟨true, true, rfl, rfl, _, rfl, iteF ?_⟩
        have hd3 := hdj.same s3
        refine ⟨_, rfl, by decide, by decide, fun T' nT => ?_⟩
        have sT := same_upd nT (o := .lst [])
        have To := hd3.fresh nT
        refine lc_range (lo := 0) (fun j Hc => ∃ vs : List V, Hc T' = some (.lst vs) ∧ vs.length = j ∧ (∀ v ∈ vs, ∃ d, Dz K (offS [h, o, T'] Hc) v d ∧ Nice d 40 5000 ∧ T2 d) ∧ Hd h o (6000 * k + 700 + 300 * i + 60 * j) Hc ∧ Bt [h, o] H3 Hc) ?_ ?_ ?_
        · exact ⟨[], upd_same, rfl, by simp, (hd3.same sT).mono (by omega), Bt.of sT⟩
        · rintro j Hc hj ⟨vs, eT, lv, ct, hdc, bc⟩
          have j4 : j < 4 := hj
          refine ⟨rfl, ?_⟩
          unfold tYes
          refine iteT ?_
          have al : AlL [h, o, T'] Hc := fun b m => by
            obtain ⟨gs, m', c, r1, r2, _⟩ := hdc
            simp only [List.mem_cons, List.not_mem_nil, or_false] at m
            rcases m with z | z | z
            · rw [z]; exact ⟨_, r1⟩
            · rw [z]; exact ⟨_, r2⟩
            · rw [z]; exact ⟨_, eT⟩
          refine ⟨_, rfl, _, rfl, h, o, 6000 * k + 700 + 300 * i + 60 * j, .ref t, [h, o, T'], rfl, (nx.tp (tp_same s3)).tp (hd3.tp bc), hdc, by show 6000 * (k : Int) + 700 + 300 * i + 60 * j + 200 ≤ 1000000; omega, by simp, by simp, al, fun v' d H5 dz nc t2 h5 b5 => ?_⟩
          refine ⟨_, b5 _ _ To eT, ?_, vs ++ [v'], upd_same, by rw [List.length_append, lv]; rfl, ?_, (h5.upd To).mono (by omega), ?_⟩
          · rw [lv]
            exact Nat.lt_of_le_of_lt (show j ≤ 100 by omega) (by decide)
          · intro v hv
            rcases List.mem_append.mp hv with z | z
            · obtain ⟨d', w1, w2, w3⟩ := ct v z
              exact ⟨d', (w1.same (b5.offA (by simp) (by simp))).same (off_set (by simp)), w2, w3⟩
            · rw [List.mem_singleton.mp z]
              exact ⟨d, dz.same (off_set (by simp)), nc, t2⟩
          · intro b x nb e
            rw [upd_ne (ne_of_none e nT)]
            exact b5 b x nb (bc b x nb e)
        rintro H4 ⟨vs, eT, lv, ct, h4, b4⟩
        refine ⟨T', rfl, ⟨_, SqL.of eT⟩, ?_⟩
        have lv4 : vs.length = 4 := lv
        have h4' : Hd h o (6000 * k + 700 + 300 * ((i + 1 : Nat) : Int)) H4 := h4.mono (by
          show 6000 * (k : Int) + 700 + 300 * i + 60 * ((4 : Nat) : Int) ≤ _
          omega)
        have eL4 := b4 _ _ LA (s3 _ _ eLj)
        have nm4 : ∀ v ∈ xs, Nm H4 v := fun v hv => ((nmj v hv).tp (tp_same s3)).tp (hd3.tp b4)
        refine for_list (K := K) (a := T') (xs := vs) (fun j σ Hm => ∃ c3 c4 c5 c6 c7 : Option V, σ = [some (.ref a), some (.ref h), some (.int (0 + (k : Int))), c3, c4, c5, c6, c7] ∧ L2.Same H4 Hm) ?_ ?_ ?_ ?_
        · exact ⟨_, _, _, _, _, rfl, Same.refl H4⟩
        · rintro j σ Hm _ ⟨_, _, _, _, _, _, e⟩
          exact SqL.of (e _ _ eT)
        · rintro j v σ Hm hv ⟨c3, c4, c5, c6, c7, rfl, sm⟩
          obtain ⟨d, dz', nc, t2⟩ := ct v (List.mem_of_getElem? hv)
          have dz : Dz K Hm v d := (dz'.same offS_le).same sm
          have fit : d.shown.length ≤ sizeLine := Nat.le_trans nc.sz (by decide)
          have dp : d.depth ≤ 60 := Nat.le_trans nc.dp (by decide)
          refine ⟨_, rfl, v, d, rfl, dz, nc.sh, dp, fit, ?_⟩
          refine ⟨_, rfl, v, d, rfl, dz, t2, fun H6 s6 => ⟨_, _, rfl, ?_⟩⟩
          have tb : TyX K H6 (.bl (nmD d)) (.type "bool") := (Dz.bl (nmD d)).ty
          refine ⟨_, rfl, _, _, _, _, true, rfl, .ty _, tb, kit_ty (by decide +kernel), ?_⟩
          have ne1 : (!decide (V.bl (nmD d) = V.bl (nmD d))) = false := by simp
          have ne2 : (!decide (V.str d.shown = V.str d.shown)) = false := by simp
          have dz6 := dz.same s6
          refine ⟨true, rfl, iteF ⟨_, rfl, _, rfl, v, d, rfl, dz6, t2, fun H7 s7 => ⟨rfl, _, rfl, ?_⟩⟩⟩
          rw [ne1]
          refine iteF ⟨_, rfl, v, d, rfl, dz6.same s7, nc.sh, dp, fit, _, rfl, rfl, _, rfl, ?_⟩
          rw [ne2]
          exact iteF ⟨_, _, _, _, _, rfl, (sm.trans s6).trans s7⟩
        · rintro σ He ⟨c3, c4, c5, c6, c7, rfl, sm⟩
          exact ⟨_, _, _, _, _, rfl, sm _ _ eL4, fun v hv => (nm4 v hv).tp (tp_same sm), h4'.same sm⟩
      · rintro σ H7 ⟨c3, c4, c5, c6, c7, rfl, eL7, nm7, h7⟩
        have h7' : Hd h o (6000 * k + 4000) H7 := h7.mono (by omega)
        refine ⟨_, rfl, h, o, 6000 * k + 4000, rfl, h7', by show 6000 * (k : Int) + 4000 + 100 ≤ 1000000; omega, fun v8 d8 H8 dz8 nc8 t28 h8 b8 => ?_⟩
        refine ⟨(by show 0 ≤ sizeLine; decide), fun t0 n0 => ⟨(by show 1 ≤ sizeLine; decide), fun t1 n1 => ⟨(by show 3 ≤ sizeLine; decide), fun t3 n3 => ?_⟩⟩⟩
        intro p4 n4
        refine ⟨(by show 9 ≤ sizeLine; decide), fun l9 n9 => ⟨l9, rfl, ⟨_, SqL.of upd_same⟩, ?_⟩⟩
        have s0 := same_upd n0 (o := .tup [])
        have s1' := same_upd n1 (o := .tup [.str "de"])
        have s3 := same_upd n3 (o := .tup [.str "de", .str "a", .str "b"])
        have s4 := same_upd n4 (o := .dK [])
        have s9 := same_upd n9 (o := .lst [v8, .non, .int 0, .bl true, .str "", .ref t0, .ref t1, .ref t3, .ref p4])
        have sA := (((s0.trans s1').trans s3).trans s4).trans s9
        have h9 := h8.same sA
        have e0 := s9 _ _ (s4 _ _ (s3 _ _ (s1' _ _ (upd_same (H := H8) (a := t0) (o := .tup [])))))
        have e1 := s9 _ _ (s4 _ _ (s3 _ _ (upd_same (H := upd H8 t0 (.tup [])) (a := t1) (o := .tup [.str "de"]))))
        have e3 := s9 _ _ (s4 _ _ (upd_same (H := upd (upd H8 t0 (.tup [])) t1 (.tup [.str "de"])) (a := t3) (o := .tup [.str "de", .str "a", .str "b"])))
        have e4 := s9 _ _ (upd_same (H := upd (upd (upd H8 t0 (.tup [])) t1 (.tup [.str "de"])) t3 (.tup [.str "de", .str "a", .str "b"])) (a := p4) (o := .dK []))
        have e9 : (upd (upd (upd (upd (upd H8 t0 (.tup [])) t1 (.tup [.str "de"])) t3 (.tup [.str "de", .str "a", .str "b"])) p4 (.dK [])) l9 (.lst [v8, .non, .int 0, .bl true, .str "", .ref t0, .ref t1, .ref t3, .ref p4])) l9 = _ := upd_same
        have dz9 := (dz8.same offS_le).same sA
        generalize upd (upd (upd (upd (upd H8 t0 (.tup [])) t1 (.tup [.str "de"])) t3 (.tup [.str "de", .str "a", .str "b"])) p4 (.dK [])) l9 (.lst [v8, .non, .int 0, .bl true, .str "", .ref t0, .ref t1, .ref t3, .ref p4]) = H9 at e0 e1 e3 e4 e9 dz9 h9 ⊢
        have txA : Tx (.str "a") := tx_s (by unfold Asc7; decide +kernel) (by decide +kernel)
        have txB : Tx (.str "b") := tx_s (by unfold Asc7; decide +kernel) (by decide +kernel)
        have every : ∀ v ∈ [v8, V.non, .int 0, .bl true, .str "", .ref t0, .ref t1, .ref t3, .ref p4], ∃ d, Dz K H9 v d ∧ T2 d := fun v hv => by
          simp only [List.mem_cons, List.not_mem_nil, or_false] at hv
          rcases hv with e | e | e | e | e | e | e | e | e
          · subst e; exact ⟨_, dz9, t28⟩
          · subst e; exact ⟨_, .non, fun ds e => by cases e⟩
          · subst e; exact ⟨_, .int 0, fun ds e => by cases e⟩
          · subst e; exact ⟨_, .bl true, fun ds e => by cases e⟩
          · subst e; exact ⟨_, .str "", fun ds e => by cases e⟩
          · subst e; exact ⟨_, .tup e0 .nil, fun ds e => by cases e; intro x hx; cases hx⟩
          · subst e; exact ⟨_, .tup e1 (.cons (.str "de") .nil), t2_1 txDe⟩
          · subst e; exact ⟨_, .tup e3 (.cons (.str "de") (.cons (.str "a") (.cons (.str "b") .nil))), t2_3 txDe txA txB⟩
          · subst e; exact ⟨_, .dct e4 .nil, fun ds e => by cases e⟩
        refine for_list (K := K) (a := l9) (xs := [v8, .non, .int 0, .bl true, .str "", .ref t0, .ref t1, .ref t3, .ref p4]) (fun j σ Hm => ∃ c3 c4 c5 c6 c7 : Option V, σ = [some (.ref a), some (.ref h), some (.int (0 + (k : Int))), c3, c4, c5, c6, c7] ∧ L2.Same H9 Hm) ?_ ?_ ?_ ?_
        · exact ⟨_, _, _, _, _, rfl, Same.refl H9⟩
        · rintro j σ Hm _ ⟨_, _, _, _, _, _, e⟩
          exact SqL.of (e _ _ e9)
        · rintro j v σ Hm hv ⟨c3, c4, c5, c6, c7, rfl, sm⟩
          obtain ⟨d, dz', t2⟩ := every v (List.mem_of_getElem? hv)
          have dz : Dz K Hm v d := dz'.same sm
          have nb : Nice (.bool (nmD d)) 0 5 := nice_bool _
          have fit : (PyData.bool (nmD d)).shown.length ≤ sizeLine := Nat.le_trans nb.sz (by decide)
          have dp : (PyData.bool (nmD d)).depth ≤ 60 := Nat.le_trans nb.dp (by decide)
          have ne2 : (!decide (V.str (PyData.bool (nmD d)).shown = V.str (PyData.bool (nmD d)).shown)) = false := by simp
          refine ⟨_, rfl, v, d, rfl, dz, t2, fun Ha sa => ⟨_, .bool (nmD d), rfl, .bl _, nb.sh, dp, fit, _, rfl, v, d, rfl, dz.same sa, t2, fun Hb sb => ⟨_, .bool (nmD d), rfl, .bl _, nb.sh, dp, fit, rfl, _, rfl, ?_⟩⟩⟩
          rw [ne2]
          exact iteF ⟨_, _, _, _, _, rfl, (sm.trans sa).trans sb⟩
        · rintro σ He ⟨c3, c4, c5, c6, c7, rfl, sm⟩
          exact ⟨_, _, _, _, _, _, rfl, (h9.same sm).mono (by omega)⟩
    · rintro σ He ⟨c2, c3, c4, c5, c6, c7, rfl, hde⟩
      exact q He
end
end N13
set_option Elab.async false
set_option linter.all false
set_option maxRecDepth 100000
set_option maxHeartbeats 4000000
set_option pp.maxSteps 400
set_option pp.deepTerms false
namespace N13
open PySem PySem.Spec PyProof.Rows L2
open Xk Az
theorem all_mk {l : PySem.W.OpenLaw} {w : World} {K : PySem.W.Frag} {h : Heap} {mg : Str → Option Value} {fa f0 f1 f2 f3 f4 f5 f6 f7 f8 f9 f10 f11 f12 f13 f14 f15 : Addr}
    {od0 an0 od1 an1 od2 an2 od3 an3 od4 an4 od5 an5 od6 an6 od7 an7 od8 an8 od9 an9 od10 an10 od11 an11 od12 an12 od13 an13 od14 an14 od15 an15 : Option Addr}
    {sl0 sl1 sl2 sl3 sl4 sl5 sl6 sl7 sl8 sl9 sl10 sl11 sl12 sl13 sl14 sl15 : Array (Option Value)}
    {oc0 kV0 dc0 pm0 cd0 ct0 oc1 kV1 dc1 pm1 cd1 ct1 oc2 kV2 dc2 pm2 cd2 ct2 oc3 kV3 dc3 pm3 cd3 ct3 oc4 kV4 dc4 pm4 cd4 ct4 oc5 kV5 dc5 pm5 cd5 ct5 oc6 kV6 dc6 pm6 cd6 ct6 oc7 kV7 dc7 pm7 cd7 ct7 oc8 kV8 dc8 pm8 cd8 ct8 oc9 kV9 dc9 pm9 cd9 ct9 oc10 kV10 dc10 pm10 cd10 ct10 oc11 kV11 dc11 pm11 cd11 ct11 oc12 kV12 dc12 pm12 cd12 ct12 oc13 kV13 dc13 pm13 cd13 ct13 oc14 kV14 dc14 pm14 cd14 ct14 oc15 kV15 dc15 pm15 cd15 ct15 : Value}
    {u_SMALL_LETTERS u_TEXT_SIGNS u_SHORTEST_TONGUE u_LONGEST_TONGUE u_LONGEST_TEXT : Tok}
    (X : K.In h) (G : h.Ns mainGlobals mg) (hfa : mg "law" = some (.ref fa))
    (a0 : PySem.W.nsIn K mainGlobals "is_text_of" = some (some (.ref f0)))
    (l0 : K.lookup f0 = some ⟨oc0, od0, .func (PySem.W.fnOf "is_text_of" "is_text_of" (defArgs sIsTextOf) (defBody sIsTextOf) (defScope sIsTextOf) .none kV0 dc0 pm0 an0 cd0 ct0), sl0⟩)
    (c0 : PySem.W.codeIn K cd0 "is_text_of" = true)
    (k0 : PySem.W.keepIn K (.ref f0) = true)
    (a1 : PySem.W.nsIn K mainGlobals "is_small_text" = some (some (.ref f1)))
    (l1 : K.lookup f1 = some ⟨oc1, od1, .func (PySem.W.fnOf "is_small_text" "is_small_text" (defArgs sIsSmallText) (defBody sIsSmallText) (defScope sIsSmallText) .none kV1 dc1 pm1 an1 cd1 ct1), sl1⟩)
    (c1 : PySem.W.codeIn K cd1 "is_small_text" = true)
    (k1 : PySem.W.keepIn K (.ref f1) = true)
    (a2 : PySem.W.nsIn K mainGlobals "is_tongue" = some (some (.ref f2)))
    (l2 : K.lookup f2 = some ⟨oc2, od2, .func (PySem.W.fnOf "is_tongue" "is_tongue" (defArgs sIsTongue) (defBody sIsTongue) (defScope sIsTongue) .none kV2 dc2 pm2 an2 cd2 ct2), sl2⟩)
    (c2 : PySem.W.codeIn K cd2 "is_tongue" = true)
    (k2 : PySem.W.keepIn K (.ref f2) = true)
    (a3 : PySem.W.nsIn K mainGlobals "is_name_text" = some (some (.ref f3)))
    (l3 : K.lookup f3 = some ⟨oc3, od3, .func (PySem.W.fnOf "is_name_text" "is_name_text" (defArgs sIsNameText) (defBody sIsNameText) (defScope sIsNameText) .none kV3 dc3 pm3 an3 cd3 ct3), sl3⟩)
    (c3 : PySem.W.codeIn K cd3 "is_name_text" = true)
    (k3 : PySem.W.keepIn K (.ref f3) = true)
    (a4 : PySem.W.nsIn K mainGlobals "is_name" = some (some (.ref f4)))
    (l4 : K.lookup f4 = some ⟨oc4, od4, .func (PySem.W.fnOf "is_name" "is_name" (defArgs sIsName) (defBody sIsName) (defScope sIsName) .none kV4 dc4 pm4 an4 cd4 ct4), sl4⟩)
    (c4 : PySem.W.codeIn K cd4 "is_name" = true)
    (k4 : PySem.W.keepIn K (.ref f4) = true)
    (a5 : PySem.W.nsIn K mainGlobals "_law_hand" = some (some (.ref f5)))
    (l5 : K.lookup f5 = some ⟨oc5, od5, .func (PySem.W.fnOf "_law_hand" "_law_hand" (defArgs sHand) (defBody sHand) (defScope sHand) .none kV5 dc5 pm5 an5 cd5 ct5), sl5⟩)
    (c5 : PySem.W.codeIn K cd5 "_law_hand" = true)
    (k5 : PySem.W.keepIn K (.ref f5) = true)
    (a6 : PySem.W.nsIn K mainGlobals "_law_take" = some (some (.ref f6)))
    (l6 : K.lookup f6 = some ⟨oc6, od6, .func (PySem.W.fnOf "_law_take" "_law_take" (defArgs sTake) (defBody sTake) (defScope sTake) .none kV6 dc6 pm6 an6 cd6 ct6), sl6⟩)
    (c6 : PySem.W.codeIn K cd6 "_law_take" = true)
    (k6 : PySem.W.keepIn K (.ref f6) = true)
    (a7 : PySem.W.nsIn K mainGlobals "_law_pick" = some (some (.ref f7)))
    (l7 : K.lookup f7 = some ⟨oc7, od7, .func (PySem.W.fnOf "_law_pick" "_law_pick" (defArgs sPick) (defBody sPick) (defScope sPick) .none kV7 dc7 pm7 an7 cd7 ct7), sl7⟩)
    (c7 : PySem.W.codeIn K cd7 "_law_pick" = true)
    (k7 : PySem.W.keepIn K (.ref f7) = true)
    (a8 : PySem.W.nsIn K mainGlobals "_law_word" = some (some (.ref f8)))
    (l8 : K.lookup f8 = some ⟨oc8, od8, .func (PySem.W.fnOf "_law_word" "_law_word" (defArgs sWord) (defBody sWord) (defScope sWord) .none kV8 dc8 pm8 an8 cd8 ct8), sl8⟩)
    (c8 : PySem.W.codeIn K cd8 "_law_word" = true)
    (k8 : PySem.W.keepIn K (.ref f8) = true)
    (a9 : PySem.W.nsIn K mainGlobals "_law_text" = some (some (.ref f9)))
    (l9 : K.lookup f9 = some ⟨oc9, od9, .func (PySem.W.fnOf "_law_text" "_law_text" (defArgs sText) (defBody sText) (defScope sText) .none kV9 dc9 pm9 an9 cd9 ct9), sl9⟩)
    (c9 : PySem.W.codeIn K cd9 "_law_text" = true)
    (k9 : PySem.W.keepIn K (.ref f9) = true)
    (a10 : PySem.W.nsIn K mainGlobals "_law_names" = some (some (.ref f10)))
    (l10 : K.lookup f10 = some ⟨oc10, od10, .func (PySem.W.fnOf "_law_names" "_law_names" (defArgs sNames) (defBody sNames) (defScope sNames) .none kV10 dc10 pm10 an10 cd10 ct10), sl10⟩)
    (c10 : PySem.W.codeIn K cd10 "_law_names" = true)
    (k10 : PySem.W.keepIn K (.ref f10) = true)
    (a11 : PySem.W.nsIn K mainGlobals "_law_is_name" = some (some (.ref f11)))
    (l11 : K.lookup f11 = some ⟨oc11, od11, .func (PySem.W.fnOf "_law_is_name" "_law_is_name" (defArgs sLawIsName) (defBody sLawIsName) (defScope sLawIsName) .none kV11 dc11 pm11 an11 cd11 ct11), sl11⟩)
    (c11 : PySem.W.codeIn K cd11 "_law_is_name" = true)
    (k11 : PySem.W.keepIn K (.ref f11) = true)
    (a12 : PySem.W.nsIn K mainGlobals "_law_spoilt_text" = some (some (.ref f12)))
    (l12 : K.lookup f12 = some ⟨oc12, od12, .func (PySem.W.fnOf "_law_spoilt_text" "_law_spoilt_text" (defArgs sSpoiltText) (defBody sSpoiltText) (defScope sSpoiltText) .none kV12 dc12 pm12 an12 cd12 ct12), sl12⟩)
    (c12 : PySem.W.codeIn K cd12 "_law_spoilt_text" = true)
    (k12 : PySem.W.keepIn K (.ref f12) = true)
    (a13 : PySem.W.nsIn K mainGlobals "_law_spoilt" = some (some (.ref f13)))
    (l13 : K.lookup f13 = some ⟨oc13, od13, .func (PySem.W.fnOf "_law_spoilt" "_law_spoilt" (defArgs sSpoilt) (defBody sSpoilt) (defScope sSpoilt) .none kV13 dc13 pm13 an13 cd13 ct13), sl13⟩)
    (c13 : PySem.W.codeIn K cd13 "_law_spoilt" = true)
    (k13 : PySem.W.keepIn K (.ref f13) = true)
    (a14 : PySem.W.nsIn K mainGlobals "_law_deep" = some (some (.ref f14)))
    (l14 : K.lookup f14 = some ⟨oc14, od14, .func (PySem.W.fnOf "_law_deep" "_law_deep" (defArgs sDeep) (defBody sDeep) (defScope sDeep) .none kV14 dc14 pm14 an14 cd14 ct14), sl14⟩)
    (c14 : PySem.W.codeIn K cd14 "_law_deep" = true)
    (k14 : PySem.W.keepIn K (.ref f14) = true)
    (a15 : PySem.W.nsIn K mainGlobals "law" = some (some (.ref f15)))
    (l15 : K.lookup f15 = some ⟨oc15, od15, .func (PySem.W.fnOf "law" "law" (defArgs sLaw) (defBody sLaw) (defScope sLaw) .none kV15 dc15 pm15 an15 cd15 ct15), sl15⟩)
    (c15 : PySem.W.codeIn K cd15 "law" = true)
    (k15 : PySem.W.keepIn K (.ref f15) = true)
    (g_SMALL_LETTERS : PySem.W.nsIn K mainGlobals "SMALL_LETTERS" = some (some (.str "abcdefghijklmnopqrstuvwxyz" u_SMALL_LETTERS)))
    (g_TEXT_SIGNS : PySem.W.nsIn K mainGlobals "TEXT_SIGNS" = some (some (.str "abcdefghijklmnopqrstuvwxyzABCDEFGHIJKLMNOPQRSTUVWXYZ0123456789 '-." u_TEXT_SIGNS)))
    (g_SHORTEST_TONGUE : PySem.W.nsIn K mainGlobals "SHORTEST_TONGUE" = some (some (.int 2 u_SHORTEST_TONGUE)))
    (g_LONGEST_TONGUE : PySem.W.nsIn K mainGlobals "LONGEST_TONGUE" = some (some (.int 3 u_LONGEST_TONGUE)))
    (g_LONGEST_TEXT : PySem.W.nsIn K mainGlobals "LONGEST_TEXT" = some (some (.int 40 u_LONGEST_TEXT)))
    (z_isinstance : PySem.W.nsIn K mainGlobals "isinstance" = some none)
    (z_str : PySem.W.nsIn K mainGlobals "str" = some none)
    (z_tuple : PySem.W.nsIn K mainGlobals "tuple" = some none)
    (z_len : PySem.W.nsIn K mainGlobals "len" = some none)
    (z_all : PySem.W.nsIn K mainGlobals "all" = some none)
    (z_range : PySem.W.nsIn K mainGlobals "range" = some none)
    (z_repr : PySem.W.nsIn K mainGlobals "repr" = some none)
    (z_list : PySem.W.nsIn K mainGlobals "list" = some none)
    (z_max : PySem.W.nsIn K mainGlobals "max" = some none)
    (z_min : PySem.W.nsIn K mainGlobals "min" = some none)
    (z_bool : PySem.W.nsIn K mainGlobals "bool" = some none)
    : ∃ fd : FuncData, (∀ (s : Shared) (v : Value), BindsTo s fd ⟨[v], []⟩ [("_law_script", v)]) ∧
      ∀ base : Heap, K.In base → base.Ns mainGlobals mg → base.NoDigits → Gn l.prog w K mg base 5 fa fd ["_law_script"] (spLaw K) := by
  have e := hfa.symm.trans (PySem.W.mg_of X G a15)
  cases e
  have F0 := fun_mk (st := sIsTextOf) l0 c0 k0
  have D0 : Df K mg "is_text_of" ["thing", "signs", "least", "most"] sIsTextOf f0 _ := ⟨F0, PySem.W.mg_of X G a0, F0.binds (ps := ["thing", "signs", "least", "most"]) fun _ _ _ _ _ _ us hl => match us, hl with | [_, _, _, _], _ => rfl⟩
  have F1 := fun_mk (st := sIsSmallText) l1 c1 k1
  have D1 : Df K mg "is_small_text" ["thing", "least", "most"] sIsSmallText f1 _ := ⟨F1, PySem.W.mg_of X G a1, F1.binds (ps := ["thing", "least", "most"]) fun _ _ _ _ _ _ us hl => match us, hl with | [_, _, _], _ => rfl⟩
  have F2 := fun_mk (st := sIsTongue) l2 c2 k2
  have D2 : Df K mg "is_tongue" ["thing"] sIsTongue f2 _ := ⟨F2, PySem.W.mg_of X G a2, F2.binds (ps := ["thing"]) fun _ _ _ _ _ _ us hl => match us, hl with | [_], _ => rfl⟩
  have F3 := fun_mk (st := sIsNameText) l3 c3 k3
  have D3 : Df K mg "is_name_text" ["thing"] sIsNameText f3 _ := ⟨F3, PySem.W.mg_of X G a3, F3.binds (ps := ["thing"]) fun _ _ _ _ _ _ us hl => match us, hl with | [_], _ => rfl⟩
  have F4 := fun_mk (st := sIsName) l4 c4 k4
  have D4 : Df K mg "is_name" ["thing"] sIsName f4 _ := ⟨F4, PySem.W.mg_of X G a4, F4.binds (ps := ["thing"]) fun _ _ _ _ _ _ us hl => match us, hl with | [_], _ => rfl⟩
  have F5 := fun_mk (st := sHand) l5 c5 k5
  have D5 : Df K mg "_law_hand" ["_law_script"] sHand f5 _ := ⟨F5, PySem.W.mg_of X G a5, F5.binds (ps := ["_law_script"]) fun _ _ _ _ _ _ us hl => match us, hl with | [_], _ => rfl⟩
  have F6 := fun_mk (st := sTake) l6 c6 k6
  have D6 : Df K mg "_law_take" ["_law_hand_here", "_law_many"] sTake f6 _ := ⟨F6, PySem.W.mg_of X G a6, F6.binds (ps := ["_law_hand_here", "_law_many"]) fun _ _ _ _ _ _ us hl => match us, hl with | [_, _], _ => rfl⟩
  have F7 := fun_mk (st := sPick) l7 c7 k7
  have D7 : Df K mg "_law_pick" ["_law_hand_here", "_law_some"] sPick f7 _ := ⟨F7, PySem.W.mg_of X G a7, F7.binds (ps := ["_law_hand_here", "_law_some"]) fun _ _ _ _ _ _ us hl => match us, hl with | [_, _], _ => rfl⟩
  have F8 := fun_mk (st := sWord) l8 c8 k8
  have D8 : Df K mg "_law_word" ["_law_hand_here", "_law_least", "_law_most"] sWord f8 _ := ⟨F8, PySem.W.mg_of X G a8, F8.binds (ps := ["_law_hand_here", "_law_least", "_law_most"]) fun _ _ _ _ _ _ us hl => match us, hl with | [_, _, _], _ => rfl⟩
  have F9 := fun_mk (st := sText) l9 c9 k9
  have D9 : Df K mg "_law_text" ["_law_hand_here", "_law_many"] sText f9 _ := ⟨F9, PySem.W.mg_of X G a9, F9.binds (ps := ["_law_hand_here", "_law_many"]) fun _ _ _ _ _ _ us hl => match us, hl with | [_, _], _ => rfl⟩
  have F10 := fun_mk (st := sNames) l10 c10 k10
  have D10 : Df K mg "_law_names" ["_law_hand_here", "_law_many"] sNames f10 _ := ⟨F10, PySem.W.mg_of X G a10, F10.binds (ps := ["_law_hand_here", "_law_many"]) fun _ _ _ _ _ _ us hl => match us, hl with | [_, _], _ => rfl⟩
  have F11 := fun_mk (st := sLawIsName) l11 c11 k11
  have D11 : Df K mg "_law_is_name" ["_law_thing"] sLawIsName f11 _ := ⟨F11, PySem.W.mg_of X G a11, F11.binds (ps := ["_law_thing"]) fun _ _ _ _ _ _ us hl => match us, hl with | [_], _ => rfl⟩
  have F12 := fun_mk (st := sSpoiltText) l12 c12 k12
  have D12 : Df K mg "_law_spoilt_text" ["_law_hand_here", "_law_text_here"] sSpoiltText f12 _ := ⟨F12, PySem.W.mg_of X G a12, F12.binds (ps := ["_law_hand_here", "_law_text_here"]) fun _ _ _ _ _ _ us hl => match us, hl with | [_, _], _ => rfl⟩
  have F13 := fun_mk (st := sSpoilt) l13 c13 k13
  have D13 : Df K mg "_law_spoilt" ["_law_hand_here", "_law_name"] sSpoilt f13 _ := ⟨F13, PySem.W.mg_of X G a13, F13.binds (ps := ["_law_hand_here", "_law_name"]) fun _ _ _ _ _ _ us hl => match us, hl with | [_, _], _ => rfl⟩
  have F14 := fun_mk (st := sDeep) l14 c14 k14
  have D14 : Df K mg "_law_deep" ["_law_hand_here"] sDeep f14 _ := ⟨F14, PySem.W.mg_of X G a14, F14.binds (ps := ["_law_hand_here"]) fun _ _ _ _ _ _ us hl => match us, hl with | [_], _ => rfl⟩
  have F15 := fun_mk (st := sLaw) l15 c15 k15
  have D15 : Df K mg "law" ["_law_script"] sLaw fa _ := ⟨F15, PySem.W.mg_of X G a15, F15.binds (ps := ["_law_script"]) fun _ _ _ _ _ _ us hl => match us, hl with | [_], _ => rfl⟩
  have T : Txt K mg := ⟨⟨_, PySem.W.mg_of X G g_SMALL_LETTERS⟩,
    ⟨_, PySem.W.mg_of X G g_TEXT_SIGNS⟩,
    ⟨_, PySem.W.mg_of X G g_SHORTEST_TONGUE⟩,
    ⟨_, PySem.W.mg_of X G g_LONGEST_TONGUE⟩,
    ⟨_, PySem.W.mg_of X G g_LONGEST_TEXT⟩,
    PySem.W.mg_none_of X G z_isinstance,
    PySem.W.mg_none_of X G z_str,
    PySem.W.mg_none_of X G z_tuple,
    PySem.W.mg_none_of X G z_len,
    PySem.W.mg_none_of X G z_all,
    PySem.W.mg_none_of X G z_range,
    PySem.W.mg_none_of X G z_repr,
    PySem.W.mg_none_of X G z_list,
    PySem.W.mg_none_of X G z_max,
    PySem.W.mg_none_of X G z_min,
    PySem.W.mg_none_of X G z_bool⟩
  refine ⟨PySem.W.fnOf "law" "law" (defArgs sLaw) (defBody sLaw) (defScope sLaw) .none kV15 dc15 pm15 an15 cd15 ct15, fun s v => .of_eq rfl, fun base kb gb nd => ?g⟩
  case g =>
    have cO := D0.ca (ok_of (P := l.prog) (w := w) (base := base) D0 T)
    have cS := D1.ca (ok_small D1 T cO)
    have cTo := D2.ca (ok_tongue D2 T cS)
    have cN := D3.ca (ok_nt D3 T cO)
    have cNm := D4.ca (ok_name D4 T cTo cN)
    have cH := D5.ca (ok_hand (P := l.prog) (w := w) (base := base) D5 T)
    have cT := D6.ca (ok_take (P := l.prog) (w := w) (base := base) D6)
    have cP := D7.ca (ok_pick D7 T cT)
    have cW := D8.ca (ok_word D8 T cT cP)
    have cX := D9.ca (ok_text D9 T cT cP)
    have cNs := D10.ca (ok_names D10 T cT cP cW cX)
    have cLn := D11.ca (ok_lname (P := l.prog) (w := w) (base := base) D11 T)
    have cST := D12.ca (ok_st D12 T cT cP)
    have cSp := D13.ca (ok_spoilt D13 T cT cP cST)
    have cDp := D14.ca (ok_deep D14 T cT cP)
    exact ok_law D15 T cNm cLn cH cNs cSp cDp
end N13
open PySem PySem.W PyProof.Rows
set_option maxRecDepth 100000 in
set_option maxHeartbeats 0 in
theorem PySem.Challenge.cw_takesworks_k13_names_of_anything_holds : PySem.Challenge.rw_takesworks_k13_names_of_anything.Holds := by
  w_on; o_law; k_head; (case hw => w_witness2)
  k_fill
  refine N13.walk_go (l := PySem.Challenge.rw_takesworks_k13_names_of_anything) (n := 63) (k := 5) (x := "_law_script") (sp := N13.spLaw) rfl (by decide) rfl ⟨rfl, by decide, by decide⟩ (fun w h Y => PySem.W.kIn_of Y) ?F
    (fun _ _ a ns hl hS => ⟨a, ns, rfl, hS, hl, fun _ => rfl⟩)
  case F =>
    intro w mg fa h KX G hmg
    refine' N13.all_mk KX G hmg ?a0 ?l0 ?c0 ?k0 ?a1 ?l1 ?c1 ?k1 ?a2 ?l2 ?c2 ?k2 ?a3 ?l3 ?c3 ?k3 ?a4 ?l4 ?c4 ?k4 ?a5 ?l5 ?c5 ?k5 ?a6 ?l6 ?c6 ?k6 ?a7 ?l7 ?c7 ?k7 ?a8 ?l8 ?c8 ?k8 ?a9 ?l9 ?c9 ?k9 ?a10 ?l10 ?c10 ?k10 ?a11 ?l11 ?c11 ?k11 ?a12 ?l12 ?c12 ?k12 ?a13 ?l13 ?c13 ?k13 ?a14 ?l14 ?c14 ?k14 ?a15 ?l15 ?c15 ?k15 ?g_SMALL_LETTERS ?g_TEXT_SIGNS ?g_SHORTEST_TONGUE ?g_LONGEST_TONGUE ?g_LONGEST_TEXT ?z_isinstance ?z_str ?z_tuple ?z_len ?z_all ?z_range ?z_repr ?z_list ?z_max ?z_min ?z_bool
    (case a0 => k_is)
    (case l0 => k_is)
    (case c0 => k_is)
    (case k0 => k_is)
    (case a1 => k_is)
    (case l1 => k_is)
    (case c1 => k_is)
    (case k1 => k_is)
    (case a2 => k_is)
    (case l2 => k_is)
    (case c2 => k_is)
    (case k2 => k_is)
    (case a3 => k_is)
    (case l3 => k_is)
    (case c3 => k_is)
    (case k3 => k_is)
    (case a4 => k_is)
    (case l4 => k_is)
    (case c4 => k_is)
    (case k4 => k_is)
    (case a5 => k_is)
    (case l5 => k_is)
    (case c5 => k_is)
    (case k5 => k_is)
    (case a6 => k_is)
    (case l6 => k_is)
    (case c6 => k_is)
    (case k6 => k_is)
    (case a7 => k_is)
    (case l7 => k_is)
    (case c7 => k_is)
    (case k7 => k_is)
    (case a8 => k_is)
    (case l8 => k_is)
    (case c8 => k_is)
    (case k8 => k_is)
    (case a9 => k_is)
    (case l9 => k_is)
    (case c9 => k_is)
    (case k9 => k_is)
    (case a10 => k_is)
    (case l10 => k_is)
    (case c10 => k_is)
    (case k10 => k_is)
    (case a11 => k_is)
    (case l11 => k_is)
    (case c11 => k_is)
    (case k11 => k_is)
    (case a12 => k_is)
    (case l12 => k_is)
    (case c12 => k_is)
    (case k12 => k_is)
    (case a13 => k_is)
    (case l13 => k_is)
    (case c13 => k_is)
    (case k13 => k_is)
    (case a14 => k_is)
    (case l14 => k_is)
    (case c14 => k_is)
    (case k14 => k_is)
    (case a15 => k_is)
    (case l15 => k_is)
    (case c15 => k_is)
    (case k15 => k_is)
    (case g_SMALL_LETTERS => k_is)
    (case g_TEXT_SIGNS => k_is)
    (case g_SHORTEST_TONGUE => k_is)
    (case g_LONGEST_TONGUE => k_is)
    (case g_LONGEST_TEXT => k_is)
    (case z_isinstance => k_is)
    (case z_str => k_is)
    (case z_tuple => k_is)
    (case z_len => k_is)
    (case z_all => k_is)
    (case z_range => k_is)
    (case z_repr => k_is)
    (case z_list => k_is)
    (case z_max => k_is)
    (case z_min => k_is)
    (case z_bool => k_is)
