import PyProof.Rows.All
import Wide.All
import OpenK.AllK
import Wide.FinOn
import HandS.ForMost
import HandS.ForExc
import HandS.Wide
import HandS.Flow
import HandS.IsInst
import HandS.Codes
import HandS.ExcInit
import HandS.ExcField
import HandS.ExcIs
import HandS.CallSlots
import HandS.Defaults
import HandS.MakeKw
import HandS.MakeKwOnly
import KE.KExcIs
import KE.KTryMore
import HandS.RaiseMore
import HandS.FStrTup
import PyProof.ReprRoads
import PyProof.StrLawsRepr
import HandS.Zip
import HandS.TupAny
import HandS.SortInts
import HandS.Walk
import HandS.Style
import KE.KRevSl
import PyProof.NeKinds
import HandS.Conv
import PySem.Challenge.RW_takesworks_k57_discs_that_hold_all
set_option Elab.async false
set_option linter.all false
set_option maxRecDepth 100000
set_option maxHeartbeats 4000000
set_option pp.maxSteps 400
set_option pp.deepTerms false
/-! A caught exception that is kept: tracked as an object of its own, with its class and its dict. -/
namespace Xk
open PySem PySem.Spec PyProof.Rows L2
/-- at a: an exception of the class cls, its dict at d (if it has one) -/
def ExK (cls : Value) (d : Option Addr) (a : Addr) : HO := .ext fun h => ∃ oe : Obj, h.get? a = some oe ∧ Zc cls d oe ∧ ∃ vs, oe.data = .fields vs
theorem exK_ok {P : Program} {w : World} {H : Hp} {h : Heap} {a : Addr} {cls : Value} {d : Option Addr} {oe : Obj} {vs : Array Value}
    (e : h.get? a = some oe) (z : Zc cls d oe) (hd : oe.data = .fields vs) : ObjOk P w H h a (ExK cls d a) :=
  ⟨⟨oe, e, z, vs, hd⟩, ⟨oe, e⟩, fun _ _ y k => by
    obtain ⟨o, q, r⟩ := y
    exact ⟨o, k o q, r⟩⟩
theorem exK_at {P : Program} {w : World} {H : Hp} {h : Heap} {a : Addr} {cls : Value} {d : Option Addr} (hok : HOk P w H h) (e : H a = some (ExK cls d a)) :
    ∃ oe : Obj, h.get? a = some oe ∧ Zc cls d oe ∧ ∃ vs, oe.data = .fields vs := by
  have z : ObjOk P w H h a (.ext fun h => ∃ oe : Obj, h.get? a = some oe ∧ Zc cls d oe ∧ ∃ vs, oe.data = .fields vs) := hok a _ e
  exact z.1
section
variable {X : Cx} {pins : List (Addr × Obj)} {σ : L2.St} {H : Hp} {s : Shared}
/-- an object that came during the call, untracked as yet, is tracked from here on -/
theorem track {a : Addr} {o : HO} (I : Inv X pins σ H s) (h0 : X.s_0.heap.get? a = none) (na : H a = none) (nL : a ≠ X.env.locals)
    (nC : ∀ x c, X.env.cells.lookup x = some c → c ≠ a) (nP : ∀ p ∈ X.pn ++ pins, p.1 ≠ a) (new : ObjOk X.prog X.w (upd H a o) s.heap a o) : Inv X pins σ (upd H a o) s := by
  have n0 : ∀ {b : Addr} {u : Obj}, X.s_0.heap.get? b = some u → b ≠ a := fun {b u} e z => by
    rw [z, h0] at e
    cases e
  refine ⟨I.ok, I.os, I.bare, ⟨I.base.keep, I.base.slot, fun b u e n hx => ?_, I.base.there, fun b xs e => ?_, fun b u v e => ?_, fun b ps e => ?_⟩, I.loc, I.cell, ?_, fun x c e => ?_, fun p hp => ?_, fun b u e => ?_, I.len⟩
  · rw [upd_ne (n0 e)]
    exact I.base.free b u e n hx
  · have q := I.base.tups b xs e
    rw [upd_ne (ne_of_none q na)]
    exact q
  · have q := I.base.frzs b u v e
    rw [upd_ne (ne_of_none q na)]
    exact q
  · obtain ⟨m, q⟩ := I.base.tbls b ps e
    exact ⟨m, by rw [upd_ne (ne_of_none q na)]; exact q⟩
  · rw [upd_ne (Ne.symm nL)]
    exact I.free
  · rw [upd_ne (nC x c e)]
    exact I.freeC x c e
  · obtain ⟨e1, e2, e3⟩ := I.pin p hp
    exact ⟨e1, by rw [upd_ne (nP p hp)]; exact e2, e3⟩
  · by_cases hb : b = a
    · subst hb
      rw [upd_same] at e
      cases e
      exact new
    · rw [upd_ne hb] at e
      refine (I.hok b u e).stay (fun _ _ _ q => q) (fun c q => ?_) fun c xs q => ?_
      · rw [upd_ne (ne_of_none q na)]
        exact q
      · rw [upd_ne (ne_of_none q na)]
        exact q
end
theorem flying_kept {B h h' : Heap} {l : List Env} {a : Addr} {Z : Obj → Prop} (f : HandSPX.FlyingZ B l a Z h) (k : ∀ b o, h.get? b = some o → h'.get? b = some o) : HandSPX.FlyingZ B l a Z h' := by
  obtain ⟨f1, f2, f3, oe, vs, T, oT, ts, t1, t2, t3, t4, t5, t6, t7, t8, t9⟩ := f
  exact ⟨fun b o e => k b o (f1 b o e), f2, f3.of_keeps fun b o e _ => ⟨o, k b o e, rfl⟩, oe, vs, T, oT, ts, k _ _ t1, t2, t3, t4, t5, t6, k _ _ t7, t8, t9⟩
/-- what the clause 'except (A, B, C) as n' wishes of an exception of the body: slot i is n's; the exception is tracked -/
def wKeep (K : PySem.W.Frag) (cs : List Value) (i : Nat) (ts : Addr → TS) (Wout : WX) (D : Ends) : WX := fun cls d σ H =>
  ∃ b, PySem.W.exmAny K cls cs = some b ∧
    (b = true → ∀ a, H a = none → ts a { nx := fun σ' H' => D.nx (σ'.set i none) H', rt := D.rt, bk := fun σ' H' => D.bk (σ'.set i none) H', ct := fun σ' H' => D.ct (σ'.set i none) H' } (σ.set i (some (.ref a))) (upd H a (ExK cls d a))) ∧
    (b = false → Wout cls d σ H)
/-- a module's own class by its name -/
structure Nm (X : Cx) (x : Str) (C : Addr) : Prop where
  gl : Gl X x
  db : (x == ("__debug__" : Str)) = false
  mg : X.mg x = some (.ref C)
section
variable {X : Cx} {x1 x2 x3 n : Str} {C1 C2 C3 : Addr} {i : Nat} {body suite : List Stmt} {b₀ : Stmt} {p1 p2 p3 tp pos pos' : Pos} {tb : WX → TS} {ts : Addr → TS} {Wout : WX} {cx}
theorem ps_try_keep (hs : X.stack = X.env :: X.outer) (hf : X.env.frame = some X.env.locals) (hex : X.ex = []) (hN : X.N.Nodup) (hi : X.N[i]? = some n) (hln : X.env.kindOf n = some .local)
    (n1 : Nm X x1 C1) (n2 : Nm X x2 C2) (n3 : Nm X x3 C3) (tk : Takes X Wout)
    (hb : ∀ (W : WX) (pn : List (Addr × Obj)) (xe : Value → Shared → Prop), Takes (X.tr pn xe) W → PassesOwn (model X.prog X.w) X.A X.env xe → PSs (X.tr pn xe) body (tb W))
    (hsu : ∀ (a : Addr) (pn : List (Addr × Obj)), PSs (X.suite a pn) (b₀ :: suite) (ts a)) :
    PS X (.Try body [.ExceptHandler (some (.Tuple [.Name x1 p1, .Name x2 p2, .Name x3 p3] cx tp)) (some n) (b₀ :: suite) pos'] [] [] pos) (fun D σ H => tb (wKeep X.K [.ref C1, .ref C2, .ref C3] i ts Wout D) D σ H) := by
  refine ⟨fun pins s σ H D I h => ?_⟩
  have ok := I.ok
  have frs2 : X.A.frames = some (X.env :: X.outer) := by rw [ok.frames, hs]
  refine wpAny_Try_except ?_
  refine wpAny_mono ((hb (wKeep X.K [.ref C1, .ref C2, .ref C3] i ts Wout D) (X.pn ++ pins)
    (fun e s₁ => wpAny (model X.prog X.w) X.A (noteFrame e X.env) (fun _ s₂ => wpAny (model X.prog X.w) X.A (setFlight e none) (fun _ s₃ => wpAny (model X.prog X.w) X.A
      (handleBy e X.env [.ExceptHandler (some (.Tuple [.Name x1 p1, .Name x2 p2, .Name x3 p3] cx tp)) (some n) (b₀ :: suite) pos']) (SP X pins D) X.xe s₃) X.xe s₂) X.xe s₁)
    (fun u s' air => ?_) PassesOwn.looking).run [] s σ H D (I.toTry _) h) (fun f s1 hsp => ?_) (fun e s1 he => he)
  · obtain ⟨a, B, sI, pins', σ', H', cls, d, rfl, J', nb, up, sky, na, os, ag, b, hb1, hyes, hno⟩ := air
    have J : Inv X pins σ' H' sI := J'.ofTry ok
    have sky2 : Sky B (X.env :: X.outer) a (Zc cls d) X.env.locals s'.heap := by
      rw [← hs]
      exact sky
    refine Sky.land Zc.steady frs2 hf sky2 fun h3 fl3 up3 => ?_
    obtain ⟨oe3, vs3, he3, hz3, hd3⟩ := fl3.there
    have nfr : a ∉ frs (X.env :: X.outer) := fun hm => by
      obtain ⟨_, o', e', hnf⟩ := fl3.2.2.1.mem hm
      rw [he3] at e'
      cases e'
      exact hnf _ hd3
    have nL : a ≠ X.env.locals := fun z => nfr (List.mem_filterMap.mpr ⟨X.env, List.mem_cons_self, by rw [hf, z]⟩)
    have nF : a ∉ X.fs := fun hm => by
      obtain ⟨e, he, q⟩ := List.mem_filterMap.mp hm
      exact nfr (List.mem_filterMap.mpr ⟨e, List.mem_cons_of_mem _ he, q⟩)
    -- it was not there when the call began
    have aI : sI.heap.get? a = none := by
      cases e : sI.heap.get? a with
      | none => rfl
      | some o =>
        have z := nb a o e (by rw [hs]; exact nfr)
        rw [fl3.2.1] at z
        cases z
    have a0 : X.s_0.heap.get? a = none := by
      cases e : X.s_0.heap.get? a with
      | none => rfl
      | some o =>
        obtain ⟨o', z⟩ := J.base.there a o e (by rw [hex]; exact fun z => nomatch z)
        rw [aI] at z
        cases z
    have nP : ∀ p ∈ X.pn ++ pins, p.1 ≠ a := fun p hp z => by
      have q := (J.pin p hp).1
      rw [z, aI] at q
      cases q
    have trk : ∀ {h4 : Heap} {s4 : Shared}, s4.heap = h4 → HandSPX.FlyingZ B (X.env :: X.outer) a (Zc cls d) h4 → Inv X pins σ' H' s4 → Inv X pins σ' (upd H' a (ExK cls d a)) s4 := fun {h4 s4} e4 fl4 J4 => by
      subst e4
      obtain ⟨oe4, vs4, he4, hz4, hd4⟩ := fl4.there
      refine track J4 a0 na nL (fun x c e z => ?_) nP (exK_ok he4 hz4 hd4)
      obtain ⟨v, o, eo, ed⟩ := J4.cell x c e
      rw [z, he4] at eo
      cases eo
      rw [hd4] at ed
      cases ed
    have J3 : Inv X pins σ' H' { s' with heap := h3 } := J.landed nb fl3.1 (up.trans up3) os ag
    have S3 : Inv (X.suite a (X.pn ++ pins)) [] σ' H' { s' with heap := h3 } :=
      ⟨J3.ok.suite _ _, J3.os, J3.bare, J3.base, J3.loc, J3.cell, J3.free, J3.freeC, fun p hp => J3.pin p (by rw [List.append_nil] at hp; exact hp), J3.hok, J3.len⟩
    refine wpAny_handleBy_cons (codeAny_handlers_test ?_) (by intro q; cases q)
    have own : ∀ {x : Str} {C : Addr} {p : Pos} {Q : Value → Shared → Prop} {E : Value → Shared → Prop}, Nm X x C → Q (.ref C) { s' with heap := h3 } →
        wpAny (model X.prog X.w) (X.A.mark (some (.ref a))) (eval (.Name x p) X.env) Q E { s' with heap := h3 } := fun {x C p Q E} z q => ld_glob (X := X.suite a (X.pn ++ pins)) S3 z.gl z.mg q z.db
    have tup : ∀ {Q : Value → Shared → Prop} {E : Value → Shared → Prop}, Q (.ref h3.objs.size) { s' with heap := h3.push { cls := .type "tuple", data := .seq [Value.ref C1, .ref C2, .ref C3].toArray } } →
        wpAny (model X.prog X.w) (X.A.mark (some (.ref a))) (eval (.Tuple [.Name x1 p1, .Name x2 p2, .Name x3 p3] cx tp) X.env) Q E { s' with heap := h3 } := fun {Q E} q => by
      refine wpAny_Tuple_spliced ?_
      show wpAny _ _ (spliced ((false, eval (.Name x1 p1) X.env) :: (false, eval (.Name x2 p2) X.env) :: (false, eval (.Name x3 p3) X.env) :: [])) _ _ _
      exact Calls.spliced_cons (own n1 (Calls.spliced_cons (own n2 (Calls.spliced_cons (own n3 (Calls.spliced_nil ⟨by show 3 ≤ sizeLine; decide, q⟩))))))
    refine tup ?_
    have k4 : ∀ b o, h3.get? b = some o → (h3.push { cls := .type "tuple", data := .seq [Value.ref C1, .ref C2, .ref C3].toArray }).get? b = some o := fun b o e => Heap.get?_push_of_some _ e
    have t4 := Heap.get?_push_size h3 (o := { cls := .type "tuple", data := .seq [Value.ref C1, .ref C2, .ref C3].toArray }) rfl
    generalize h3.push { cls := .type "tuple", data := .seq [Value.ref C1, .ref C2, .ref C3].toArray } = h4 at k4 t4 ⊢
    have fl4 := flying_kept fl3 k4
    have J4 : Inv X pins σ' H' { s' with heap := h4 } := J3.kept k4
    have LT : PySem.W.Looks (model X.prog X.w) h4 (typeOf (.ref a)) cls := fun A Q E s k q => wpAny_typeOf_ref (k _ _ (k4 _ _ he3)) (by rw [hz3.1]; exact q)
    refine (PySem.W.exm_tup3 (M := model X.prog X.w) J4.kIn LT t4 hb1).here ?_
    cases b with
    | true =>
      refine codeAny_handlers_suite_as ?_
      refine HandSPX.lands_againZ fl4 fun h5 fl5 up5 => ?_
      have J5 : Inv X pins σ' H' { s' with heap := h5 } := J.landed nb fl5.1 ((up.trans up3).trans ((Heap.UpToSlots.of_keeps k4).trans up5)) os ag
      have T5 := trk rfl fl5 J5
      have S5 : Inv (X.suite a (X.pn ++ pins)) [] σ' (upd H' a (ExK cls d a)) { s' with heap := h5 } :=
        ⟨T5.ok.suite _ _, T5.os, T5.bare, T5.base, T5.loc, T5.cell, T5.free, T5.freeC, fun p hp => T5.pin p (by rw [List.append_nil] at hp; exact hp), T5.hok, T5.len⟩
      refine store_ok (X := X.suite a (X.pn ++ pins)) (v := .ref a) S5 hN hi (.inl hln) rfl (fun s6 S6 => ?_) (.inr hln)
      refine wpAny_mono ((hsu a (X.pn ++ pins)).run [] s6 _ _ _ S6 (hyes rfl a na)) (fun f s7 hsp => ?_) (fun _ _ z => False.elim z)
      have back : ∀ {σ7 : L2.St} {H7 : Hp}, Inv (X.suite a (X.pn ++ pins)) [] σ7 H7 s7 → Inv X pins σ7 H7 s7 := fun {σ7 H7} S7 =>
        ⟨ok, S7.os, S7.bare, S7.base, S7.loc, S7.cell, S7.free, S7.freeC, fun p hp => S7.pin p (by rw [List.append_nil]; exact hp), S7.hok, S7.len⟩
      cases f with
      | next =>
        obtain ⟨σ7, H7, S7, q7⟩ := hsp
        exact gone_ok (back S7) hN hi hln fun s8 J8 => ⟨_, _, J8, q7⟩
      | brk =>
        obtain ⟨σ7, H7, S7, q7⟩ := hsp
        exact gone_ok (back S7) hN hi hln fun s8 J8 => ⟨_, _, J8, q7⟩
      | cont =>
        obtain ⟨σ7, H7, S7, q7⟩ := hsp
        exact gone_ok (back S7) hN hi hln fun s8 J8 => ⟨_, _, J8, q7⟩
      | ret u =>
        obtain ⟨v7, σ7, H7, S7, r7, q7⟩ := hsp
        exact gone_ok (back S7) hN hi hln fun s8 J8 => ⟨_, _, _, J8, r7, q7⟩
    | false =>
      refine wpAny_handleBy_nil ?_
      obtain ⟨k1, k2, k3, oe, vs, T, oT, ts', he, hz, hd, h1, hr⟩ := id fl4
      unfold PySem.passOn
      refine wpAny_bind (wpAny_field he hd h1 ?_)
      rw [if_neg (by simp : ¬ ((Value.ref T == Value.none) = true))]
      have fin : wpAny (model X.prog X.w) X.A (setFlight (.ref a) X.env.frame) (fun _ s5 => wpAny (model X.prog X.w) X.A (throw (.ref a) : Sem Flow) (SP X pins D) X.xe s5) X.xe { s' with heap := h4 } := by
        rw [hf]
        refine HandSPX.setFlight_upZ fl4 fun h5 hh5 up5 => wpAny_throw (tk _ _ ?_)
        exact ⟨a, B, sI, pins, σ', H', cls, d, rfl, J, nb, (up.trans up3).trans ((Heap.UpToSlots.of_keeps k4).trans up5), .inr (.inr (by rw [hs]; exact hh5)), na, os, ag, hno rfl⟩
      first
        | exact wpAny_bind (wpAny_pure (wpAny_bind fin))
        | exact wpAny_bind fin
  · cases f with
    | next =>
      obtain ⟨σ', H', J', q⟩ := hsp
      exact wpAny_execs_nil ⟨σ', H', J'.ofTry ok, q⟩
    | brk =>
      obtain ⟨σ', H', J', q⟩ := hsp
      exact ⟨σ', H', J'.ofTry ok, q⟩
    | cont =>
      obtain ⟨σ', H', J', q⟩ := hsp
      exact ⟨σ', H', J'.ofTry ok, q⟩
    | ret u =>
      obtain ⟨v, σ', H', J', r, q⟩ := hsp
      exact ⟨v, σ', H', J'.ofTry ok, r, q⟩
end
end Xk
set_option Elab.async false
set_option linter.all false
set_option maxRecDepth 100000
set_option maxHeartbeats 4000000
set_option pp.maxSteps 400
set_option pp.deepTerms false
namespace Xk
open PySem PySem.Spec PyProof.Rows L2
/-- what an own exception class says, so that its kept instances are read and asked -/
structure XcC (K : PySem.W.Frag) (C : Addr) : Prop where
  cl : (PySem.W.clsIn K C).isSome = true
  ga : PySem.W.findIn K (.ref C) "__getattribute__" = some (some (.builtin "BaseException.__getattribute__"))
  gg : PySem.W.findIn K (.ref C) "__getattr__" = some none
  sb : PySem.W.subIn K (.ref C) (.type "BaseException") = some true
  hd : PySem.W.hasDictIn K C = true
  ha : PySem.W.findIn K (.ref C) "__class__" = some (some (.builtin "object.__class__"))
  hn : PySem.W.specialIn K (.builtin "object.__class__") "__get__" = some (some (.builtin "getset_descriptor.__get__"))
  ht : PySem.W.takesIn K (.builtin "object.__class__") = some true
  hm : PySem.W.mroIn K C (.type "object") = some true
/-- a kept exception of the class at C with the fields fs -/
def Kept (H : Hp) (a C : Addr) (fs : List (Str × V)) : Prop := ∃ d, H a = some (ExK (.ref C) (some d) a) ∧ H d = some (.xd fs)
theorem Kept.same {H H' : Hp} {a C : Addr} {fs : List (Str × V)} (k : Kept H a C fs) (s : L2.Same H H') : Kept H' a C fs := by
  obtain ⟨d, e1, e2⟩ := k
  exact ⟨d, s _ _ e1, s _ _ e2⟩
section
variable {X : Cx} {pins : List (Addr × Obj)} {σ : L2.St} {H : Hp} {s : Shared}
theorem Kept.inst {a C : Addr} {fs : List (Str × V)} (I : Inv X pins σ H s) (k : Kept H a C fs) :
    ∃ (oe od : Obj) (mA : Str → Option Value), PySem.W.InstAt s.heap a oe C (some od) ∧ (∀ n, PySem.W.lookIn n od = some (mA n)) ∧ ∀ f, RelO (fs.lookup f) (mA f) := by
  obtain ⟨d, e1, e2⟩ := k
  obtain ⟨oe, he, hz, vs, hv⟩ := exK_at I.hok e1
  have hx : ObjOk X.prog X.w H s.heap d (.xd fs) := I.hok d _ e2
  obtain ⟨mA, hns, hr⟩ := hx
  obtain ⟨od, ho, hl⟩ := lookIn_ns hns
  refine ⟨oe, od, mA, ⟨he, hz.1, by unfold PySem.W.notCls; rw [hv] <;> rfl, by rw [hz.2]; exact ho⟩, hl, hr⟩
end
/-- e.f of a kept exception -/
def tKf (C : Addr) (f : Str) (te : TE) : TE := fun σ H Q => te σ H fun x H1 => ∃ (a : Addr) (fs : List (Str × V)) (v : V), x = .ref a ∧ Kept H1 a C fs ∧ fs.lookup f = some v ∧ Q v H1
theorem pe_kf {X : Cx} {C : Addr} {e : Expr} {te : TE} {pos : Pos} {n : Str} (T : XcC X.K C) (hno : PySem.W.findIn X.K (.ref C) n = some none) (he : PE X e te)
    (hb : attributeBase e n X.env (eval e X.env) = eval e X.env := by rfl) : PE X (.Attribute e n pos) (tKf C n te) := by
  refine ⟨fun pins s σ H Q I h => attr_of hb (thn (he.run pins s σ H _ I h) fun u s1 z => ?_)⟩
  obtain ⟨x, H1, I1, rx, a, fs, v, ex, k, l, q⟩ := z
  subst ex
  obtain rfl : u = Value.ref a := rx
  obtain ⟨oe, od, mA, J, hl, hr⟩ := k.inst I1
  obtain ⟨y, hy, ry⟩ := RelO.some_of (v := v) (o := mA n) (by rw [← l]; exact hr n)
  exact HandSPX.exc_get I1.kIn J T.ga T.gg T.sb (PySem.W.findObj_own T.hd hno rfl (by rw [hl, hy])) (handed_of ry) ⟨v, H1, I1.tok _, ry, q⟩
/-- isinstance(e, c), isinstance(e, (c1, ..)) of a kept exception -/
def rIsK (K : PySem.W.Frag) (C : Addr) : List V → Hp → VK → Prop := fun xs H Q => ∃ (a : Addr) (fs : List (Str × V)) (c : V) (u : Value) (b : Bool), xs = [.ref a, c] ∧ Kept H a C fs ∧ ClsV c u ∧ PySem.W.kitOne K (.ref C) u = some b ∧ Q (.bl b) H
def rIsKT (K : PySem.W.Frag) (C : Addr) : List V → Hp → VK → Prop := fun xs H Q => ∃ (a tp : Addr) (fs : List (Str × V)) (cs : List V) (us : List Value) (b : Bool), xs = [.ref a, .ref tp] ∧ Kept H a C fs ∧
  H tp = some (.tup cs) ∧ Paired ClsV cs us ∧ PySem.W.kitAny K (.ref C) us = some b ∧ Q (.bl b) H
theorem call_isK {X : Cx} {C : Addr} (T : XcC X.K C) : CallR X (.builtin "isinstance") (rIsK X.K C) := by
  intro pins s σ H xs us Q I r h
  obtain ⟨a, fs, c, u, b, rfl, k, hc, e, q⟩ := h
  obtain ⟨u1, u2, rfl, r1, r2⟩ := vals2 r
  have e2 := hc.eq r2
  subst e2
  cases (show u1 = Value.ref a from r1)
  obtain ⟨oe, od, mA, J, _, _⟩ := k.inst I
  exact PySem.W.kia_one (PySem.W.kitx_exc (ox := oe) (od := some od) T.cl T.ga T.gg T.sb T.ha T.hn T.ht T.hm) I.kIn J e (fun z => nomatch z) fun tk => ⟨.bl b, H, I.tok tk, rfl, q⟩
theorem call_isKT {X : Cx} {C : Addr} (T : XcC X.K C) : CallR X (.builtin "isinstance") (rIsKT X.K C) := by
  intro pins s σ H xs us Q I r h
  obtain ⟨a, tp, fs, cs, ws, b, rfl, k, hT, hc, e, q⟩ := h
  obtain ⟨u1, u2, rfl, r1, r2⟩ := vals2 r
  cases (show u1 = Value.ref a from r1)
  cases (show u2 = Value.ref tp from r2)
  obtain ⟨oe, od, mA, J, _, _⟩ := k.inst I
  have ht : ObjOk X.prog X.w H s.heap tp (.tup cs) := I.hok tp _ hT
  obtain ⟨_, its, rv, o, h1, h2, n, h3⟩ := ht
  have e3 := ClsV.all hc rv
  subst e3
  obtain ⟨oc, od2, dt, sl⟩ := o
  simp only at h2 h3
  subst h2 h3
  exact PySem.W.kia_tup (PySem.W.kitx_exc (ox := oe) (od := some od) T.cl T.ga T.gg T.sb T.ha T.hn T.ht T.hm) I.kIn J h1 e (fun z => nomatch z) fun tk => ⟨.bl b, H, I.tok tk, rfl, q⟩
/-! ### B.__init__(self, ..), B an own class over ValueError without own __init__ -/
structure BiC (K : PySem.W.Frag) (B : Addr) : Prop where
  rd : PySem.W.readsIn K B (.type "type") = true
  sp : PySem.W.specialIn K (.ref B) "__getattribute__" = some (some (.builtin "type.__getattribute__"))
  fi : PySem.W.findCls K (.ref B) (.type "type") "__init__" = some (.val (.builtin "ValueError.__init__"))
theorem pe_binit {X : Cx} {B : Addr} {x : Str} {e : Expr} {es : List Expr} {ta : TA} {p1 p2 pos : Pos} {pl : Sem Bool} (T : BiC X.K B) (gl : Gl X x) (mg : X.mg x = some (.ref B)) (ha : PA X (e :: es) ta) (hdb : (x == ("__debug__" : Str)) = false := by decide)
    (hc : eval (.Call (.Attribute (.Name x p1) "__init__" p2) (e :: es) [] pos) X.env = (do
      let ov ← eval (.Name x p1) X.env
      standAt p2.atName
      let (f, first) ← holding [ov] (getMethod ov "__init__" pl)
      callWith pos f first (backTo pos (starEach (e :: es) X.env)) (backToKw pos (keywordEach [] X.env))) := by rfl)
    (he : starEach (e :: es) X.env = (false, eval e X.env) :: starEach es X.env := by rfl) (hpl : (backTo pos (starEach es X.env)).any (·.1) = false := by rfl) :
    PE X (.Call (.Attribute (.Name x p1) "__init__" p2) (e :: es) [] pos) (tVeI X.K ta) := by
  refine ⟨fun pins s σ H Q I h => PySem.W.methodCall_KW (ld_glob I gl mg ?_ hdb) hc⟩
  refine PySem.W.method_cls I.kIn T.sp (PySem.W.cls_value I.kIn T.rd T.fi (by decide +kernel) ?_)
  show wpAny _ _ (callWith pos (Value.builtin "ValueError.__init__") [] (backTo pos (starEach (e :: es) X.env)) []) _ _ _
  refine PyProof.Rows.callWith_method1 (thn (ha.run pos pins _ σ H _ (I.tok _) h) fun us s1 z => ?_) he hpl
  obtain ⟨vs, H1, I1, r1, a, C, ws, ev, hl, Tx, ea, q⟩ := z
  subst ev
  cases r1 with
  | @cons _ u0 _ ur ra rw' =>
    obtain rfl : u0 = Value.ref a := ra
    refine oinit_ok Tx I1 ea ?_ fun s' J => ⟨.non, H1, J, rfl, q⟩
    rw [← Paired.length rw', sizeLine_eq]
    omega
/-! ### calls in a try's body: what is raised is wished for at the slots -/
section
variable {X : Cx} {CX : CXT} {k n : Nat} {f C : Addr} {fd : FuncData} {ps ks : List Str} {sp : Sp} {dvs : List V} {ds : List Value} {E : L2.St → XK} {x : Str} {p pos : Pos} {e : Expr} {es : List Expr} {kws : List Keyword} {t tk : TA}
  {g : List Value → List Value → List Value} {gV : List V → List V → List V}
def tMakeS (C : Addr) (sp : Sp) (dvs : List V) (E : L2.St → XK) (t : TA) : TE := fun σ H Q => t σ H fun vs H1 => ∀ x dx, H1 x = none → H1 dx = none → dx ≠ x →
  sp (.ref x :: (vs ++ dvs)) (upd (upd H1 dx (.own x)) x (.ins C dx [])) (fun v H2 => v = .non ∧ Q (.ref x) H2) (E σ)
theorem pe_makeS (M : Mk X.K C f) (F : FnOk X.prog X.w X.K X.mg X.base CX k f fd ps sp) (room : Room (k + 1) X.A) (gl : Gl X x) (mg : X.mg x = some (.ref C)) (bd : Binds X.K fd ps ds) (rd : Vals dvs ds) (px : ∀ σ, PassesAt CX X σ (E σ))
    (ha : PA X (e :: es) t) (hdb : (x == ("__debug__" : Str)) = false := by decide) (he : starEach (e :: es) X.env = (false, eval e X.env) :: starEach es X.env := by rfl) (hpl : (backTo pos (starEach es X.env)).any (·.1) = false := by rfl) :
    PE X (.Call (.Name x p) (e :: es) [] pos) (tMakeS C sp dvs E t) := by
  refine ⟨fun pins s σ H Q I h => wpAny_Call_Name_kw (ld_glob I gl mg ?_ hdb)⟩
  refine PySem.W.callWith_K (h₀ := X.base) I.ok.mod.kin M.kp (thn (ha.run pos pins s σ H _ I h) fun us s1 z => ?_) he hpl
  obtain ⟨vs, H1, I1, r, q⟩ := z
  refine ⟨I1.kIn, ?_⟩
  have q1 := q (s1.heap.objs.size + 1) s1.heap.objs.size (I1.hok.fresh (Nat.le_succ _)) (I1.hok.fresh (Nat.le_refl _)) (Nat.ne_of_lt (Nat.lt_succ_self _))
  have I2 := Inv.made (C := C) I1
  have r2 : Vals (V.ref (s1.heap.objs.size + 1) :: (vs ++ dvs)) (Value.ref (s1.heap.objs.size + 1) :: (us ++ ds)) := .cons rfl (r.append rd)
  have many : (Value.ref (s1.heap.objs.size + 1) :: us ++ ds).length = ps.length := (r2.length.symm.trans (F.len _ _ _ _ q1))
  refine wpAny_call (make_map (f := f) I1.kIn M.makes M.init (beq_iff_eq.mp M.fn) (codeAny_mono (F.run _ X.stack _ _ ⟨Value.ref (s1.heap.objs.size + 1) :: us, []⟩ (Value.ref (s1.heap.objs.size + 1) :: (us ++ ds)) _ _ (E σ)
    (room.make C us []) (I2.env0.make C us []) (bd _ (Value.ref (s1.heap.objs.size + 1) :: us) I2.kIn many) r2 q1) fun r s' z => ?_))
  cases r with
  | error e => exact px σ pins _ _ e s' I2 z
  | ok fl =>
    cases fl with
    | ret u =>
      obtain ⟨v, H', I3, rv, ev, q3⟩ := I2.after z
      subst ev
      exact ⟨rv, ⟨V.ref (s1.heap.objs.size + 1), H', I3, rfl, q3⟩⟩
    | next => exact False.elim z
    | brk => exact False.elim z
    | cont => exact False.elim z
def tMakeKS (C : Addr) (m : Nat) (sp : Sp) (gV : List V → List V → List V) (E : L2.St → XK) (tk : TA) : TE := fun σ H Q => tk σ H fun zs H2 => zs.length = m ∧
  ∀ x dx, H2 x = none → H2 dx = none → dx ≠ x → sp (gV [.ref x] zs) (upd (upd H2 dx (.own x)) x (.ins C dx [])) (fun v H3 => v = .non ∧ Q (.ref x) H3) (E σ)
theorem pe_makeKS (M : Mk X.K C f) (F : FnOk X.prog X.w X.K X.mg X.base CX k f fd ps sp) (room : Room (k + 1) X.A) (gl : Gl X x) (mg : X.mg x = some (.ref C)) (kb : KBn X.K fd ps 1 ks g gV) (px : ∀ σ, PassesAt CX X σ (E σ)) (pk : PK X kws tk)
    (hall : (backToKw pos (keywordEach kws X.env)).all (·.1.isSome) = true := by rfl) (hks : (backToKw pos (keywordEach kws X.env)).filterMap (·.1) = ks := by rfl) (hdb : (x == ("__debug__" : Str)) = false := by decide)
    (hpl : ((backTo pos (starEach [] X.env)).any (·.1) || (backToKw pos (keywordEach kws X.env)).any (·.1.isNone)) = false := by rfl) :
    PE X (.Call (.Name x p) [] kws pos) (tMakeKS C ks.length sp gV E tk) := by
  refine ⟨fun pins s σ H Q I h => wpAny_Call_Name_kw (ld_glob I gl mg ?_ hdb)⟩
  refine PySem.W.callWith_KW0 (h₀ := X.base) I.ok.mod.kin M.kp hall (thn (pk.run pos pins s σ H _ I h) fun ws s1 z => ?_) hpl
  obtain ⟨zs, H1, I1, rz, l2, q⟩ := z
  refine ⟨I1.kIn, ?_⟩
  rw [hks]
  have q1 := q (s1.heap.objs.size + 1) s1.heap.objs.size (I1.hok.fresh (Nat.le_succ _)) (I1.hok.fresh (Nat.le_refl _)) (Nat.ne_of_lt (Nat.lt_succ_self _))
  have I2 := Inv.made (C := C) I1
  have r1 : Vals [V.ref (s1.heap.objs.size + 1)] [Value.ref (s1.heap.objs.size + 1)] := .cons rfl .nil
  have r2 := kb.rel r1 rz
  refine wpAny_call (make_map (f := f) I1.kIn M.makes M.init (beq_iff_eq.mp M.fn) (codeAny_mono (F.run _ X.stack _ _ ⟨[Value.ref (s1.heap.objs.size + 1)], ks.zip ws⟩ (g [Value.ref (s1.heap.objs.size + 1)] ws) _ _ (E σ)
    (room.make C [] (ks.zip ws)) (I2.env0.make C [] (ks.zip ws)) (kb.to _ [Value.ref (s1.heap.objs.size + 1)] ws I2.kIn rfl (rz.length.symm.trans l2)) r2 q1) fun r s' z => ?_))
  cases r with
  | error e => exact px σ pins _ _ e s' I2 z
  | ok fl =>
    cases fl with
    | ret u =>
      obtain ⟨v, H', I3, rv, ev, q3⟩ := I2.after z
      subst ev
      exact ⟨rv, ⟨V.ref (s1.heap.objs.size + 1), H', I3, rfl, q3⟩⟩
    | next => exact False.elim z
    | brk => exact False.elim z
    | cont => exact False.elim z
def tCallKS (m : Nat) (sp : Sp) (gV : List V → List V → List V) (E : L2.St → XK) (tk : TA) : TE := fun σ H Q => tk σ H fun zs H2 => zs.length = m ∧ sp (gV [] zs) H2 Q (E σ)
theorem pe_callKS (F : FnOk X.prog X.w X.K X.mg X.base CX k f fd ps sp) (room : Room k X.A) (gl : Gl X x) (mg : X.mg x = some (.ref f)) (kp : PySem.W.keepIn X.K (.ref f) = true) (kb : KBn X.K fd ps 0 ks g gV) (px : ∀ σ, PassesAt CX X σ (E σ)) (pk : PK X kws tk)
    (hall : (backToKw pos (keywordEach kws X.env)).all (·.1.isSome) = true := by rfl) (hks : (backToKw pos (keywordEach kws X.env)).filterMap (·.1) = ks := by rfl) (hdb : (x == ("__debug__" : Str)) = false := by decide)
    (hpl : ((backTo pos (starEach [] X.env)).any (·.1) || (backToKw pos (keywordEach kws X.env)).any (·.1.isNone)) = false := by rfl) :
    PE X (.Call (.Name x p) [] kws pos) (tCallKS ks.length sp gV E tk) := by
  refine ⟨fun pins s σ H Q I h => wpAny_Call_Name_kw (ld_glob I gl mg ?_ hdb)⟩
  refine PySem.W.callWith_KW0 (h₀ := X.base) I.ok.mod.kin kp hall (thn (pk.run pos pins s σ H _ I h) fun ws s1 z => ?_) hpl
  obtain ⟨zs, H1, I1, rz, l2, q⟩ := z
  refine ⟨I1.kIn, ?_⟩
  rw [hks]
  have rn : Vals [] [] := .nil
  have r2 := kb.rel rn rz
  refine wpAny_call (codeAny_mono (F.run X.A X.stack s1 H1 ⟨[], ks.zip ws⟩ (g [] ws) (gV [] zs) Q (E σ) room I1.env0 (kb.to s1 [] ws I1.kIn rfl (rz.length.symm.trans l2)) r2 q) fun r s' z => ?_)
  cases r with
  | error e => exact px σ pins _ _ e s' I1 z
  | ok fl =>
    cases fl with
    | ret u => exact I1.after z
    | next => exact False.elim z
    | brk => exact False.elim z
    | cont => exact False.elim z
end
end Xk
set_option Elab.async false
set_option linter.all false
set_option maxRecDepth 100000
set_option maxHeartbeats 4000000
set_option pp.maxSteps 400
set_option pp.deepTerms false
/-! Things of any kind: texts, numbers, truths, None, and lists, tuples, dicts of these, at any depth. -/
namespace Az
open PySem PySem.Spec PyProof.Rows L2
def keyD : Key → PyData
  | .inl i => .int i
  | .inr x => .str x
mutual
inductive Dz (K : PySem.W.Frag) (H : Hp) : V → PyData → Prop
  | non : Dz K H .non .none
  | bl (b : Bool) : Dz K H (.bl b) (.bool b)
  | int (i : Int) : Dz K H (.int i) (.int i)
  | str (x : Str) : Dz K H (.str x) (.str x)
  | lst {a : Addr} {xs : List V} {ds : List PyData} : H a = some (.lst xs) → a ≠ sysModules → DzAll K H xs ds → Dz K H (.ref a) (.list ds)
  | tup {a : Addr} {xs : List V} {ds : List PyData} : H a = some (.tup xs) → DzAll K H xs ds → Dz K H (.ref a) (.tuple ds)
  | dct {a : Addr} {kvs : List (Key × V)} {ds : List (PyData × PyData)} : H a = some (.dK kvs) → DzKv K H kvs ds → Dz K H (.ref a) (.dict ds)
inductive DzAll (K : PySem.W.Frag) (H : Hp) : List V → List PyData → Prop
  | nil : DzAll K H [] []
  | cons {v : V} {vs : List V} {d : PyData} {ds : List PyData} : Dz K H v d → DzAll K H vs ds → DzAll K H (v :: vs) (d :: ds)
inductive DzKv (K : PySem.W.Frag) (H : Hp) : List (Key × V) → List (PyData × PyData) → Prop
  | nil : DzKv K H [] []
  | cons {k : Key} {v : V} {kvs : List (Key × V)} {d : PyData} {ds : List (PyData × PyData)} : Dz K H v d → DzKv K H kvs ds → DzKv K H ((k, v) :: kvs) ((keyD k, d) :: ds)
end
section
variable {K : PySem.W.Frag} {H H' : Hp}
mutual
/-- what is read of a thing stays while its objects do -/
theorem Dz.keep (s : ∀ b o, H b = some o → (∀ x, o ≠ .own x) → H' b = some o) : ∀ {v : V} {d : PyData}, Dz K H v d → Dz K H' v d
  | _, _, .non => .non
  | _, _, .bl b => .bl b
  | _, _, .int i => .int i
  | _, _, .str x => .str x
  | _, _, .lst e n r => .lst (s _ _ e (fun _ z => by cases z)) n (DzAll.keep s r)
  | _, _, .tup e r => .tup (s _ _ e (fun _ z => by cases z)) (DzAll.keep s r)
  | _, _, .dct e r => .dct (s _ _ e (fun _ z => by cases z)) (DzKv.keep s r)
theorem DzAll.keep (s : ∀ b o, H b = some o → (∀ x, o ≠ .own x) → H' b = some o) : ∀ {v : List V} {d : List PyData}, DzAll K H v d → DzAll K H' v d
  | _, _, .nil => .nil
  | _, _, .cons h r => .cons (Dz.keep s h) (DzAll.keep s r)
theorem DzKv.keep (s : ∀ b o, H b = some o → (∀ x, o ≠ .own x) → H' b = some o) : ∀ {v : List (Key × V)} {d : List (PyData × PyData)}, DzKv K H v d → DzKv K H' v d
  | _, _, .nil => .nil
  | _, _, .cons h r => .cons (Dz.keep s h) (DzKv.keep s r)
end
theorem Dz.same {v : V} {d : PyData} (h : Dz K H v d) (s : L2.Same H H') : Dz K H' v d := h.keep fun b o e _ => s b o e
theorem DzAll.same {v : List V} {d : List PyData} (h : DzAll K H v d) (s : L2.Same H H') : DzAll K H' v d := h.keep fun b o e _ => s b o e
/-- the kind of a thing -/
def kindD : PyData → String
  | .none => "NoneType"
  | .bool _ => "bool"
  | .int _ => "int"
  | .str _ => "str"
  | .list _ => "list"
  | .tuple _ => "tuple"
  | .dict _ => "dict"
theorem Dz.ty {v : V} {d : PyData} (h : Dz K H v d) : TyX K H v (.type (kindD d)) := by
  cases h with
  | non => exact .base .non
  | bl b => exact .base (.bl b)
  | int i => exact .base (.int i)
  | str x => exact .base (.str x)
  | lst e _ _ => exact .base (.lst e)
  | tup e _ => exact .base (.tup e)
  | dct e _ => exact .base (.dK e)
end
section
variable {X : Cx} {pins : List (Addr × Obj)} {σ : L2.St} {H : Hp} {s : Shared}
theorem pairs_keys {P : Program} {w : World} : ∀ {es : List DictEntry} {vs : List (Key × Value)}, PySem.Pairs (mixKind P w) es vs → ∃ as, ReadsAll s.heap (es.map (·.key)) (vs.map fun p => keyD p.1) as ∧ as = []
  | _, _, .nil => ⟨[], .nil, rfl⟩
  | e :: es, (k, u) :: vs, .cons h1 h2 r => by
    obtain ⟨as, q, rfl⟩ := pairs_keys r
    rcases keyIs_shape (show keyIs k e.key = true from h1) with ⟨i, t, rfl, ek⟩ | ⟨x, t, rfl, ek⟩
    · refine ⟨[] ++ [], .cons ?_ q, rfl⟩
      show Reads s.heap e.key (.int i) []
      rw [ek]
      exact .int i t
    · refine ⟨[] ++ [], .cons ?_ q, rfl⟩
      show Reads s.heap e.key (.str x) []
      rw [ek]
      exact .str x t
theorem pairs_vals {P : Program} {w : World} : ∀ {es : List DictEntry} {vs : List (Key × Value)}, PySem.Pairs (mixKind P w) es vs → es.map (·.val) = vs.map (·.2)
  | _, _, .nil => rfl
  | e :: es, (k, u) :: vs, .cons h1 h2 r => by
    rw [List.map_cons, List.map_cons, pairs_vals r, h2]
mutual
theorem Dz.reads (I : Inv X pins σ H s) : ∀ (d : PyData) (v : V) (u : Value), Dz X.K H v d → RelV v u → ∃ as, Reads s.heap u d as ∧ sysModules ∉ as
  | .none, _, _, h, r => by
    cases h
    cases r
    exact ⟨[], .none, by simp⟩
  | .bool b, _, _, h, r => by
    cases h
    cases r
    exact ⟨[], .bool b, by simp⟩
  | .int i, _, _, h, r => by
    cases h
    obtain ⟨t, rfl⟩ := r
    exact ⟨[], .int i t, by simp⟩
  | .str x, _, _, h, r => by
    cases h
    obtain ⟨t, rfl⟩ := r
    exact ⟨[], .str x t, by simp⟩
  | .list ds, _, _, h, r => by
    cases h with
    | @lst a xs _ e ne ha =>
      cases r
      have ok : ObjOk X.prog X.w H s.heap a (.lst xs) := I.hok a _ e
      obtain ⟨_, its, n, rv, eh⟩ := ok
      obtain ⟨as, q, na⟩ := DzAll.reads I ds xs its ha rv
      refine ⟨a :: as, .list eh rfl rfl (by simpa using q), fun m => ?_⟩
      rcases List.mem_cons.mp m with z | z
      · exact ne z.symm
      · exact na z
  | .tuple ds, _, _, h, r => by
    cases h with
    | @tup a xs _ e ha =>
      cases r
      have ok : ObjOk X.prog X.w H s.heap a (.tup xs) := I.hok a _ e
      obtain ⟨_, its, rv, o, eh, ec, n, ed⟩ := ok
      obtain ⟨as, q, na⟩ := DzAll.reads I ds xs its ha rv
      exact ⟨as, .tuple eh ec ed (by simpa using q), na⟩
  | .dict ds, _, _, h, r => by
    cases h with
    | @dct a kvs _ e ha =>
      cases r
      obtain ⟨_, ne, vs, rel, o, es, ep, eh, ex, ed, _, pr, _⟩ := dk_of I.hok e
      obtain ⟨as, q1, rfl⟩ := pairs_keys (s := s) pr
      obtain ⟨bs, q2, nb⟩ := DzKv.reads I ds kvs vs ha rel
      have hk : (vs.map fun p => keyD p.1) = ds.map (·.1) := DzKv.keys ha rel
      rw [hk] at q1
      refine ⟨a :: [] ++ bs, .dict eh ex.1 ed q1 (by rw [pairs_vals pr]; exact q2), fun m => ?_⟩
      rcases List.mem_cons.mp m with z | z
      · rw [← z] at ne
        simp at ne
      · exact nb z
theorem DzAll.reads (I : Inv X pins σ H s) : ∀ (ds : List PyData) (vs : List V) (us : List Value), DzAll X.K H vs ds → Vals vs us → ∃ as, ReadsAll s.heap us ds as ∧ sysModules ∉ as
  | [], _, _, h, r => by
    cases h
    cases r
    exact ⟨[], .nil, by simp⟩
  | d :: ds, _, _, h, r => by
    cases h with
    | cons h1 h2 =>
      cases r with
      | cons r1 r2 =>
        obtain ⟨as, q1, n1⟩ := Dz.reads I d _ _ h1 r1
        obtain ⟨bs, q2, n2⟩ := DzAll.reads I ds _ _ h2 r2
        exact ⟨as ++ bs, .cons q1 q2, fun m => (List.mem_append.mp m).elim n1 n2⟩
theorem DzKv.reads (I : Inv X pins σ H s) : ∀ (ds : List (PyData × PyData)) (kvs : List (Key × V)) (vs : List (Key × Value)), DzKv X.K H kvs ds → KV kvs vs → ∃ as, ReadsAll s.heap (vs.map (·.2)) (ds.map (·.2)) as ∧ sysModules ∉ as
  | [], _, _, h, r => by
    cases h
    cases r
    exact ⟨[], .nil, by simp⟩
  | (_, d) :: ds, _, _, h, r => by
    cases h with
    | cons h1 h2 =>
      cases r with
      | cons r1 r2 =>
        obtain ⟨as, q1, n1⟩ := Dz.reads I d _ _ h1 r1.2
        obtain ⟨bs, q2, n2⟩ := DzKv.reads I ds _ _ h2 r2
        exact ⟨as ++ bs, .cons q1 q2, fun m => (List.mem_append.mp m).elim n1 n2⟩
theorem DzKv.keys {K : PySem.W.Frag} : ∀ {ds : List (PyData × PyData)} {kvs : List (Key × V)} {vs : List (Key × Value)}, DzKv K H kvs ds → KV kvs vs → (vs.map fun p => keyD p.1) = ds.map (·.1)
  | [], _, _, h, r => by
    cases h
    cases r
    rfl
  | (_, d) :: ds, _, _, h, r => by
    cases h with
    | cons h1 h2 =>
      cases r with
      | cons r1 r2 =>
        rw [List.map_cons, List.map_cons, DzKv.keys h2 r2, ← r1.1]
end
/-- repr of a thing -/
def rReprZ (K : PySem.W.Frag) : List V → Hp → VK → Prop := fun xs H Q => ∃ (v : V) (d : PyData), xs = [v] ∧ Dz K H v d ∧ d.showable = true ∧ d.depth ≤ 60 ∧ d.shown.length ≤ sizeLine ∧ Q (.str d.shown) H
theorem cr_reprZ {k : Nat} (quiet : X.A.guards = some []) (room : Room k X.A) : CallR X (.builtin "repr") (rReprZ X.K) := by
  intro pins s σ H xs us Q I r h
  obtain ⟨v, d, rfl, hd, hs, hp, hz, q⟩ := h
  obtain ⟨u, rfl, rx⟩ := vals1 r
  have hu := room.units
  cases hd with
  | non =>
    cases rx
    exact PySem.P.repr_of_none ⟨.str _, H, I.tok _, ⟨_, rfl⟩, q⟩
  | bl b =>
    cases rx
    exact PySem.P.repr_of_bool ⟨.str _, H, I.tok _, ⟨_, rfl⟩, q⟩
  | int i =>
    obtain ⟨t, rfl⟩ := rx
    exact PySem.P.repr_of_int (by simpa [PyData.showable] using hs) ⟨.str _, H, I.tok _, ⟨_, rfl⟩, q⟩
  | str x =>
    obtain ⟨t, rfl⟩ := rx
    exact PySem.P.repr_of_str ⟨.str _, H, I.tok _, ⟨_, rfl⟩, q⟩ hz
  | lst e n ha =>
    obtain ⟨as, rd, na⟩ := Dz.reads I _ _ u (.lst e n ha) rx
    cases rx
    exact repr_of_reads' rd hs (fun _ => na) quiet (by omega) (fun _ _ z => z) (fun h' u tk kept => ⟨.str _, H, I.kept kept, ⟨u, rfl⟩, q⟩) hz
  | tup e ha =>
    obtain ⟨as, rd, na⟩ := Dz.reads I _ _ u (.tup e ha) rx
    cases rx
    exact repr_of_reads' rd hs (fun _ => na) quiet (by omega) (fun _ _ z => z) (fun h' u tk kept => ⟨.str _, H, I.kept kept, ⟨u, rfl⟩, q⟩) hz
  | dct e ha =>
    obtain ⟨as, rd, na⟩ := Dz.reads I _ _ u (.dct e ha) rx
    cases rx
    exact repr_of_reads' rd hs (fun _ => na) quiet (by omega) (fun _ _ z => z) (fun h' u tk kept => ⟨.str _, H, I.kept kept, ⟨u, rfl⟩, q⟩) hz
/-- a list of written items: new, and no table of modules -/
def tLstZ (t : TA) : TE := fun σ H Q => t σ H fun xs H1 => xs.length ≤ sizeLine ∧ ∀ p, H1 p = none → p ≠ sysModules → Q (.ref p) (upd H1 p (.lst xs))
theorem pe_lstZ {es : List Expr} {t : TA} {pos : Pos} (h : PA X es t) : PE X (.List es pos) (tLstZ t) := by
  refine ⟨fun pins s σ H Q I hq => wpAny_List_spliced (thn (h.run pos pins s σ H _ I hq) fun us s1 z => ?_)⟩
  obtain ⟨xs, H1, I1, r, z, q⟩ := z
  refine ⟨by rw [← r.length]; exact z, ?_⟩
  have new : H1 s1.heap.objs.size = none := I1.hok.fresh (Nat.le_refl _)
  refine ⟨.ref s1.heap.objs.size, upd H1 s1.heap.objs.size (.lst xs), I1.laid (t' := s1.toks) (fun b u e => Heap.get?_push_of_some _ e) (Nat.le_refl _) ?_, rfl, q _ new (Nat.ne_of_gt I1.big)⟩
  exact ⟨z, us, 0, r, Heap.get?_push_size _ rfl⟩
end
end Az
namespace Az
open PySem PySem.Spec PyProof.Rows L2
/-- a thing that is shown in n signs at most, at most k deep -/
structure Nice (d : PyData) (k n : Nat) : Prop where
  sh : d.showable = true
  dp : d.depth ≤ k
  sz : d.shown.length ≤ n
theorem Nice.mono {d : PyData} {k k' n n' : Nat} (h : Nice d k n) (hk : k ≤ k') (hn : n ≤ n') : Nice d k' n' := ⟨h.sh, Nat.le_trans h.dp hk, Nat.le_trans h.sz hn⟩
theorem nice_int {i : Int} {n : Nat} (h : i.natAbs.log2 < 1920) (hn : (Str.ofString (toString i)).length ≤ n) : Nice (.int i) 0 n :=
  ⟨by simpa [PyData.showable] using h, by simp [PyData.depth], by simpa [PyData.shown] using hn⟩
theorem nice_none : Nice .none 0 4 := ⟨by simp [PyData.showable], by simp [PyData.depth], by simp only [PyData.shown]; decide +kernel⟩
theorem nice_bool (b : Bool) : Nice (.bool b) 0 5 := ⟨by simp [PyData.showable], by simp [PyData.depth], by simp only [PyData.shown]; cases b <;> decide +kernel⟩
theorem nice_str {x : Str} {n : Nat} (h : (reprText x).length ≤ n) : Nice (.str x) 0 n := ⟨by simp [PyData.showable], by simp [PyData.depth], by simpa [PyData.shown] using h⟩
theorem list_le : ∀ ts : List Str, (listText ts).length ≤ piled ts + 2
  | [] => by decide +kernel
  | t :: ts => by
    have e : (textFrom 0 "[" (t :: ts)).length = 1 + t.length + piled ts := by
      show (textFrom 1 (("[" : Str) ++ ((if 0 > 0 then ", " else "" : String) : Str) ++ t) ts).length = _
      rw [textFrom_length_pos ts 1 _ (by decide), strLen_append, strLen_append]
      rfl
    unfold listText
    rw [strLen_append, e, piled_cons]
    show 1 + t.length + piled ts + 1 ≤ _
    omega
theorem dict_le (ps : List Str) : (dictText ps).length ≤ piled ps + 2 := by
  unfold dictText
  rw [strLen_append, strLen_append]
  show 1 + (Str.join ", " ps).length + 1 ≤ _
  cases ps with
  | nil => decide
  | cons p r =>
    have := join_length_add (p :: r) (by simp)
    omega
theorem nice_tup1 {d : PyData} {k n : Nat} (h : Nice d k n) : Nice (.tuple [d]) (k + 1) (n + 4) := by
  refine ⟨by simp [PyData.showable, PyData.showableAll, h.sh], ?_, ?_⟩
  · simp only [PyData.depth, PyData.depthAll]
    have := h.dp
    omega
  · simp only [PyData.shown, PyData.shownAll]
    have a := fmt_text [d.shown]
    simp only [piled_cons, piled_nil] at a
    have := h.sz
    omega
theorem nice_lst1 {d : PyData} {k n : Nat} (h : Nice d k n) : Nice (.list [d]) (k + 1) (n + 4) := by
  refine ⟨by simp [PyData.showable, PyData.showableAll, h.sh], ?_, ?_⟩
  · simp only [PyData.depth, PyData.depthAll]
    have := h.dp
    omega
  · simp only [PyData.shown, PyData.shownAll]
    have a := list_le [d.shown]
    simp only [piled_cons, piled_nil] at a
    have := h.sz
    omega
theorem nice_dct1 {d : PyData} {k n m : Nat} {x : Str} (hx : (reprText x).length ≤ m) (h : Nice d k n) : Nice (.dict [(.str x, d)]) (k + 1) (n + m + 6) := by
  refine ⟨by simp [PyData.showable, PyData.showableKv, h.sh], ?_, ?_⟩
  · simp only [PyData.depth, PyData.depthKv]
    have := h.dp
    omega
  · simp only [PyData.shown, PyData.shownKv]
    have a := dict_le [reprText x ++ ": " ++ d.shown]
    simp only [piled_cons, piled_nil, strLen_append] at a
    have c : ((": " : Str)).length = 2 := by decide +kernel
    have := h.sz
    omega
theorem nice_tup0 : Nice (.tuple []) 1 2 := ⟨by simp [PyData.showable, PyData.showableAll], by simp [PyData.depth, PyData.depthAll], by simp only [PyData.shown, PyData.shownAll]; decide +kernel⟩
theorem nice_lst0 : Nice (.list []) 1 2 := ⟨by simp [PyData.showable, PyData.showableAll], by simp [PyData.depth, PyData.depthAll], by simp only [PyData.shown, PyData.shownAll]; decide +kernel⟩
theorem nice_dct0 : Nice (.dict []) 1 2 := ⟨by simp [PyData.showable, PyData.showableKv], by simp [PyData.depth, PyData.depthKv], by simp only [PyData.shown, PyData.shownKv]; decide +kernel⟩
end Az
set_option Elab.async false
set_option linter.all false
set_option maxRecDepth 100000
set_option maxHeartbeats 4000000
set_option pp.maxSteps 400
set_option pp.deepTerms false
namespace Az
open PySem PySem.Spec PyProof.Rows L2
/-! ### texts of signs that have a number of eight places -/
def Asc (x : Str) : Prop := ∀ c ∈ x.cps.toList, c < 16 ^ 8
theorem asc_str (s : String) : Asc (Str.ofString s) := fun c hc => by
  rw [Str.ofString_eq_toList] at hc
  simp only [List.mem_map] at hc
  obtain ⟨k, _, rfl⟩ := hc
  exact Nat.lt_of_lt_of_le (UInt32.toNat_lt k.val) (by decide)
theorem Asc.app {x y : Str} (h1 : Asc x) (h2 : Asc y) : Asc (x ++ y) := fun c hc => by
  rw [Str.cps_append, Array.toList_append, List.mem_append] at hc
  exact hc.elim (h1 c) (h2 c)
theorem asc_hex (l : List Char) (n : Nat) : ∀ c ∈ List.replicate n 48 ++ l.map Char.toNat, c < 16 ^ 8 := fun c hc => by
  rcases List.mem_append.mp hc with h | h
  · rw [(List.mem_replicate.mp h).2]
    decide
  · obtain ⟨k, _, rfl⟩ := List.mem_map.mp h
    exact Nat.lt_of_lt_of_le (UInt32.toNat_lt k.val) (by decide)
theorem asc_char {q c : Nat} (hc : c < 16 ^ 8) : ∀ d ∈ Builtin.Str.reprChar q c, d < 16 ^ 8 := fun d hd => by
  unfold Builtin.Str.reprChar at hd
  dsimp only at hd
  have two : ∀ a : Nat, a < 16 ^ 8 → d ∈ [92, a] → d < 16 ^ 8 := fun a ha h => by
    simp only [List.mem_cons, List.not_mem_nil, or_false] at h
    rcases h with h | h
    · rw [h]; decide
    · rw [h]; exact ha
  have app : ∀ (a : Nat) (l : List Nat), a < 16 ^ 8 → (∀ c ∈ l, c < 16 ^ 8) → d ∈ [92, a] ++ l → d < 16 ^ 8 := fun a l ha hl h => (List.mem_append.mp h).elim (two a ha) (hl d)
  split at hd
  · exact two c hc hd
  · split at hd
    · exact two 110 (by decide) hd
    · split at hd
      · exact two 114 (by decide) hd
      · split at hd
        · exact two 116 (by decide) hd
        · split at hd
          · simp only [List.mem_cons, List.not_mem_nil, or_false] at hd
            rw [hd]
            exact hc
          · split at hd
            · exact app 120 _ (by decide) (asc_hex _ _) hd
            · split at hd
              · exact app 117 _ (by decide) (asc_hex _ _) hd
              · exact app 85 _ (by decide) (asc_hex _ _) hd
theorem asc_fold {q : Nat} : ∀ (l : List Nat) (acc : Array Nat), (∀ c ∈ l, c < 16 ^ 8) → (∀ c ∈ acc.toList, c < 16 ^ 8) → ∀ c ∈ (l.foldl (fun out c => out ++ (Builtin.Str.reprChar q c).toArray) acc).toList, c < 16 ^ 8
  | [], acc, _, h => h
  | k :: r, acc, hl, ha => by
    rw [List.foldl_cons]
    refine asc_fold r _ (fun c hc => hl c (List.mem_cons_of_mem _ hc)) fun c hc => ?_
    rw [Array.toList_append, List.mem_append] at hc
    exact hc.elim (ha c) fun h => asc_char (hl k List.mem_cons_self) c (by simpa using h)
theorem asc_quote (x : Str) : reprQuote x < 16 ^ 8 := by
  unfold reprQuote
  split <;> decide
theorem asc_repr {x : Str} (h : Asc x) : Asc (reprText x) := fun c hc => by
  unfold reprText at hc
  rw [Array.toList_push, List.mem_append, ← Array.foldl_toList] at hc
  rcases hc with hc | hc
  · refine asc_fold x.cps.toList #[reprQuote x] h (fun d hd => ?_) c hc
    have z : d = reprQuote x := by simpa using hd
    rw [z]
    exact asc_quote x
  · have z : c = reprQuote x := by simpa using hc
    rw [z]
    exact asc_quote x
theorem asc_join : ∀ ts : List Str, (∀ t ∈ ts, Asc t) → Asc (Str.join ", " ts)
  | [], _ => fun c hc => by
    have z : c ∈ (Str.empty).cps.toList := hc
    simp [Str.empty] at z
  | [x], h => h x List.mem_cons_self
  | x :: y :: r, h => ((h x List.mem_cons_self).app (asc_str ", ")).app (asc_join (y :: r) fun t ht => h t (List.mem_cons_of_mem _ ht))
theorem asc_from : ∀ (ts : List Str) (k : Nat) (acc : Str), Asc acc → (∀ t ∈ ts, Asc t) → Asc (textFrom k acc ts)
  | [], _, _, h, _ => h
  | t :: ts, k, acc, h, ht => by
    unfold textFrom
    exact asc_from ts (k + 1) _ ((h.app (asc_str _)).app (ht t List.mem_cons_self)) fun u hu => ht u (List.mem_cons_of_mem _ hu)
mutual
/-- all texts within a thing -/
def ascD : PyData → Prop
  | .none | .bool _ | .int _ => True
  | .str x => Asc x
  | .list xs | .tuple xs => ascAll xs
  | .dict kvs => ascKv kvs
def ascAll : List PyData → Prop
  | [] => True
  | x :: xs => ascD x ∧ ascAll xs
def ascKv : List (PyData × PyData) → Prop
  | [] => True
  | (k, v) :: r => ascD k ∧ ascD v ∧ ascKv r
end
mutual
theorem asc_shown : ∀ d : PyData, ascD d → Asc d.shown
  | .none, _ => asc_str "None"
  | .bool b, _ => by
    simp only [PyData.shown]
    cases b
    · exact asc_str "False"
    · exact asc_str "True"
  | .int i, _ => asc_str (toString i)
  | .str x, h => asc_repr (by simpa [ascD] using h)
  | .list xs, h => by
    simp only [PyData.shown]
    exact (asc_from _ _ _ (asc_str "[") (asc_shownAll xs (by simpa [ascD] using h))).app (asc_str "]")
  | .tuple xs, h => by
    simp only [PyData.shown]
    exact ((asc_str "(").app (asc_join _ (asc_shownAll xs (by simpa [ascD] using h)))).app (asc_str _)
  | .dict kvs, h => by
    simp only [PyData.shown]
    exact ((asc_str "{").app (asc_join _ (asc_shownKv kvs (by simpa [ascD] using h)))).app (asc_str "}")
theorem asc_shownAll : ∀ xs : List PyData, ascAll xs → ∀ t ∈ PyData.shownAll xs, Asc t
  | [], _, t, ht => by
    simp [PyData.shownAll] at ht
  | x :: xs, h, t, ht => by
    have h' : ascD x ∧ ascAll xs := by simpa [ascAll] using h
    simp only [PyData.shownAll, List.mem_cons] at ht
    rcases ht with e | e
    · rw [e]
      exact asc_shown x h'.1
    · exact asc_shownAll xs h'.2 t e
theorem asc_shownKv : ∀ xs : List (PyData × PyData), ascKv xs → ∀ t ∈ PyData.shownKv xs, Asc t
  | [], _, t, ht => by
    simp [PyData.shownKv] at ht
  | (k, v) :: xs, h, t, ht => by
    have h' : ascD k ∧ ascD v ∧ ascKv xs := by simpa [ascKv] using h
    simp only [PyData.shownKv, List.mem_cons] at ht
    rcases ht with e | e
    · rw [e]
      exact ((asc_shown k h'.1).app (asc_str ": ")).app (asc_shown v h'.2.1)
    · exact asc_shownKv xs h'.2.2 t e
end
/-- str of a thing -/
def strD : PyData → Str
  | .str x => x
  | d => d.shown
theorem strD_asc {d : PyData} (h : ascD d) : Asc (strD d) := by
  cases d with
  | str x => simpa [strD, ascD] using h
  | _ => exact asc_shown _ h
theorem len_repr (x : Str) : x.length ≤ (reprText x).length := by
  have grow : ∀ (q : Nat) (l : List Nat) (acc : Array Nat), acc.size + l.length ≤ (l.foldl (fun out c => out ++ (Builtin.Str.reprChar q c).toArray) acc).size := fun q l => by
    induction l with
    | nil => intro acc; simp
    | cons k r ih =>
      intro acc
      have h := ih (acc ++ (Builtin.Str.reprChar q k).toArray)
      have one : 1 ≤ (Builtin.Str.reprChar q k).length := by
        unfold Builtin.Str.reprChar
        dsimp only
        repeat' split
        all_goals simp
        all_goals omega
      rw [List.foldl_cons]
      simp only [Array.size_append, List.size_toArray] at h
      simp only [List.length_cons]
      omega
  have h := grow (reprQuote x) x.cps.toList #[reprQuote x]
  unfold reprText
  show x.length ≤ ((x.cps.foldl (fun out c => out ++ (Builtin.Str.reprChar (reprQuote x) c).toArray) #[reprQuote x]).push (reprQuote x)).size
  rw [Array.size_push, ← Array.foldl_toList]
  have e : x.cps.toList.length = x.length := by simp [Str.length]
  omega
theorem strD_len {d : PyData} : (strD d).length ≤ d.shown.length := by
  cases d with
  | str x =>
    simp only [strD, PyData.shown]
    exact len_repr x
  | _ => exact Nat.le_refl _
section
variable {X : Cx}
def rStrZ (K : PySem.W.Frag) : List V → Hp → VK → Prop := fun xs H Q => ∃ (v : V) (d : PyData), xs = [v] ∧ Dz K H v d ∧ d.showable = true ∧ d.depth ≤ 60 ∧ d.shown.length ≤ sizeLine ∧ Q (.str (strD d)) H
theorem cr_strZ {k : Nat} (quiet : X.A.guards = some []) (room : Room k X.A) : CallR X (.type "str") (rStrZ X.K) := by
  intro pins s σ H xs us Q I r h
  obtain ⟨v, d, rfl, hd, hs, hp, hz, q⟩ := h
  obtain ⟨u, rfl, rx⟩ := vals1 r
  have hu := room.un
  cases hd with
  | non =>
    cases rx
    exact PySem.P.str_of_none ⟨.str _, H, I.tok _, ⟨_, rfl⟩, q⟩
  | bl b =>
    cases rx
    exact PySem.P.str_of_bool ⟨.str _, H, I.tok _, ⟨_, rfl⟩, q⟩
  | int i =>
    obtain ⟨t, rfl⟩ := rx
    exact PySem.P.str_of_int (by simpa [PyData.showable] using hs) ⟨.str _, H, I.tok _, ⟨_, rfl⟩, q⟩
  | str x =>
    obtain ⟨t, rfl⟩ := rx
    exact PySem.P.str_of_str ⟨.str _, H, I, ⟨_, rfl⟩, q⟩
  | lst e n ha =>
    obtain ⟨as, rd, na⟩ := Dz.reads I _ _ u (.lst e n ha) rx
    cases rx
    exact str_of_reads rd hs (fun _ => na) quiet (by omega) (fun _ _ z => z) (fun h' u tk kept => ⟨.str _, H, I.kept kept, ⟨u, rfl⟩, q⟩) hz
  | tup e ha =>
    obtain ⟨as, rd, na⟩ := Dz.reads I _ _ u (.tup e ha) rx
    cases rx
    exact str_of_reads rd hs (fun _ => na) quiet (by omega) (fun _ _ z => z) (fun h' u tk kept => ⟨.str _, H, I.kept kept, ⟨u, rfl⟩, q⟩) hz
  | dct e ha =>
    obtain ⟨as, rd, na⟩ := Dz.reads I _ _ u (.dct e ha) rx
    cases rx
    exact str_of_reads rd hs (fun _ => na) quiet (by omega) (fun _ _ z => z) (fun h' u tk kept => ⟨.str _, H, I.kept kept, ⟨u, rfl⟩, q⟩) hz
end
end Az
set_option Elab.async false
set_option linter.all false
set_option maxRecDepth 100000
set_option maxHeartbeats 4000000
set_option pp.maxSteps 400
set_option pp.deepTerms false
namespace K57
open PySem PySem.Spec PyProof.Rows L2
open Xk Az
def top (i : Nat) : Stmt := PySem.Challenge.pw_takesworks_k57_discs_that_hold_all.main.body.getD i (.Pass ⟨0, 0, 0, 0⟩)
abbrev sIsWhole : Stmt := top 1
abbrev sIsWithin : Stmt := top 2
abbrev sAreRising : Stmt := top 3
abbrev sShowsHeld : Stmt := top 5
abbrev sHand : Stmt := top 7
abbrev sTake : Stmt := top 8
abbrev sPick : Stmt := top 9
abbrev sNumbers : Stmt := top 10
abbrev sCase : Stmt := top 11
abbrev sOdd : Stmt := top 12
abbrev sBent : Stmt := top 13
abbrev sDue : Stmt := top 14
abbrev sSome : Stmt := top 15
abbrev sLaw : Stmt := top 16
theorem scIsWhole : FnScope ["thing"] ["thing"] (defScope sIsWhole) := ⟨rfl, rfl, rfl, by decide +kernel, rfl, by decide +kernel, by decide +kernel⟩
theorem scIsWithin : FnScope ["thing", "least", "most"] ["thing", "least", "most"] (defScope sIsWithin) := ⟨rfl, rfl, rfl, by decide +kernel, rfl, by decide +kernel, by decide +kernel⟩
theorem scAreRising : FnScope ["things", "one", "other"] ["things"] (defScope sAreRising) := ⟨rfl, rfl, rfl, by decide +kernel, rfl, by decide +kernel, by decide +kernel⟩
theorem scShowsHeld : FnScope ["held", "wishes", "thing", "number", "disc", "wish"] ["held", "wishes", "thing"] (defScope sShowsHeld) := ⟨rfl, rfl, rfl, by decide +kernel, rfl, by decide +kernel, by decide +kernel⟩
theorem scHand : FnScope ["_law_script", "_law_k", "_law_cell", "_law_great"] ["_law_script", "_law_k"] (defScope sHand) := ⟨rfl, rfl, rfl, by decide +kernel, rfl, by decide +kernel, by decide +kernel⟩
theorem scTake : FnScope ["_law_hand_here", "_law_many", "_law_digit", "_law_mixed"] ["_law_hand_here", "_law_many"] (defScope sTake) := ⟨rfl, rfl, rfl, by decide +kernel, rfl, by decide +kernel, by decide +kernel⟩
theorem scPick : FnScope ["_law_hand_here", "_law_some_here"] ["_law_hand_here", "_law_some_here"] (defScope sPick) := ⟨rfl, rfl, rfl, by decide +kernel, rfl, by decide +kernel, by decide +kernel⟩
theorem scNumbers : FnScope ["_law_hand_here", "_law_many", "_law_found", "_law_number", "_law_k"] ["_law_hand_here", "_law_many"] (defScope sNumbers) := ⟨rfl, rfl, rfl, by decide +kernel, rfl, by decide +kernel, by decide +kernel⟩
theorem scCase : FnScope ["_law_hand_here", "_law_most_discs", "_law_most_wishes", "_law_things", "_law_wishes", "_law_thin", "_law_held", "_law_k", "_law_wish", "_law_spot", "_law_one", "_law_some_here"] ["_law_hand_here", "_law_most_discs", "_law_most_wishes"] (defScope sCase) := ⟨rfl, rfl, rfl, by decide +kernel, rfl, by decide +kernel, by decide +kernel⟩
theorem scOdd : FnScope ["_law_hand_here", "_law_thing", "_law_cut", "_law_some_here", "_law_signs", "_law_sign", "_law_number"] ["_law_hand_here", "_law_thing"] (defScope sOdd) := ⟨rfl, rfl, rfl, by decide +kernel, rfl, by decide +kernel, by decide +kernel⟩
theorem scBent : FnScope ["_law_hand_here", "_law_thing", "_law_cut"] ["_law_hand_here", "_law_thing"] (defScope sBent) := ⟨rfl, rfl, rfl, by decide +kernel, rfl, by decide +kernel, by decide +kernel⟩
theorem scDue : FnScope ["_law_held", "_law_wishes", "_law_thing", "_law_one", "_law_other", "_law_k", "_law_wish"] ["_law_held", "_law_wishes", "_law_thing"] (defScope sDue) := ⟨rfl, rfl, rfl, by decide +kernel, rfl, by decide +kernel, by decide +kernel⟩
theorem scSome : FnScope ["_law_hand_here", "_law_many", "_law_k"] ["_law_hand_here", "_law_many"] (defScope sSome) := ⟨rfl, rfl, rfl, by decide +kernel, rfl, by decide +kernel, by decide +kernel⟩
theorem scLaw : FnScope ["_law_script", "_law_k", "_law_hand_here", "_law_held", "_law_wishes", "_law_whole", "_law_things", "_law_turn", "_law_one", "_law_thing", "_law_found"] ["_law_script"] (defScope sLaw) := ⟨rfl, rfl, rfl, by decide +kernel, rfl, by decide +kernel, by decide +kernel⟩
/-! ## objects -/
/-- all that was tracked stands but for the hand -/
def But (h : Addr) (H H' : Hp) : Prop := ∀ b o, b ≠ h → H b = some o → H' b = some o
theorem But.refl (h : Addr) (H : Hp) : But h H H := fun _ _ _ e => e
theorem But.trans {h : Addr} {H H1 H2 : Hp} (p : But h H H1) (q : But h H1 H2) : But h H H2 := fun b o n e => q b o n (p b o n e)
theorem Same.but {H H' : Hp} (s : Same H H') (h : Addr) : But h H H' := fun b o _ e => s b o e
theorem But.seqT {K : PySem.W.Frag} {h : Addr} {H H' : Hp} (s : But h H H') {t : Addr} {xs : List V} (n : t ≠ h) (q : SqT K H t xs) : SqT K H' t xs := by
  rcases q with (q | ⟨o, q⟩) | q
  · exact .inl (.inl (s _ _ n q))
  · exact .inl (.inr ⟨o, s _ _ n q⟩)
  · exact .inr q
theorem But.seqL {K : PySem.W.Frag} {h : Addr} {H H' : Hp} (s : But h H H') {t : Addr} {xs : List V} (n : t ≠ h) (q : SqL K H t xs) : SqL K H' t xs := by
  rcases q with (q | ⟨o, q⟩) | q
  · exact .inl (.inl (s _ _ n q))
  · exact .inl (.inr ⟨o, s _ _ n q⟩)
  · exact .inr q
theorem Same.seqT {K : PySem.W.Frag} {H H' : Hp} (s : Same H H') {t : Addr} {xs : List V} (q : SqT K H t xs) : SqT K H' t xs := by
  rcases q with (q | ⟨o, q⟩) | q
  · exact .inl (.inl (s _ _ q))
  · exact .inl (.inr ⟨o, s _ _ q⟩)
  · exact .inr q
theorem same_upd {H : Hp} {p : Addr} {o : HO} (h : H p = none) : Same H (upd H p o) := fun b x e => by
  rw [upd_ne (ne_of_none e h)]
  exact e
theorem but_upd {H : Hp} {p : Addr} {o : HO} : But p H (upd H p o) := fun b x n e => by
  rw [upd_ne n]
  exact e
/-- the hand: what is left of the cell, what it is mixed of, how often it was asked -/
def Hand (n : Int) (H : Hp) (a : Addr) : Prop := ∃ g m c : Int, H a = some (.lst [.int g, .int m, .int c]) ∧ 0 ≤ g ∧ 0 ≤ m ∧ m < 2305843009213693951 ∧ 0 ≤ c ∧ c ≤ n
theorem Hand.mono {n n' : Int} {H : Hp} {a : Addr} (h : Hand n H a) (l : n ≤ n') : Hand n' H a := by
  obtain ⟨g, m, c, e, h1, h2, h3, h4, h5⟩ := h
  exact ⟨g, m, c, e, h1, h2, h3, h4, Int.le_trans h5 l⟩
theorem Hand.same {n : Int} {H H' : Hp} {a : Addr} (h : Hand n H a) (s : Same H H') : Hand n H' a := by
  obtain ⟨g, m, c, e, r⟩ := h
  exact ⟨g, m, c, s _ _ e, r⟩
theorem Hand.at_ {n : Int} {H : Hp} {a : Addr} (h : Hand n H a) : ∃ xs, H a = some (.lst xs) := by
  obtain ⟨g, m, c, e, r⟩ := h
  exact ⟨_, e⟩
theorem Hand.ne_tup {K : PySem.W.Frag} {n : Int} {H : Hp} {a t : Addr} {xs : List V} (h : Hand n H a) (e : H t = some (.tup xs)) : t ≠ a := by
  obtain ⟨ys, e2⟩ := h.at_
  exact ne_of e e2 (by intro z; cases z)
theorem But.free {h l : Addr} {H H' : Hp} (b : But h H H') (ne : l ≠ h) (e : H' l = none) : H l = none := by
  cases q : H l with
  | none => rfl
  | some o =>
    rw [b l o ne q] at e
    cases e
theorem Hand.fresh {n : Int} {H : Hp} {a l : Addr} (h : Hand n H a) (e : H l = none) : l ≠ a := by
  obtain ⟨xs, q⟩ := h.at_
  exact (ne_of_none q e).symm
theorem Hand.upd {n : Int} {H : Hp} {a p : Addr} {x : HO} (h : Hand n H a) (ne : a ≠ p) : Hand n (L2.upd H p x) a := by
  obtain ⟨g, m, c, e, r⟩ := h
  exact ⟨g, m, c, by rw [upd_ne ne]; exact e, r⟩
theorem off_all {h : Addr} {H : Hp} : L2.Same (del H h) H := fun b o e => by
  by_cases z : b = h
  · rw [z, del_same] at e
    cases e
  · rw [del_ne z] at e
    exact e
theorem off_but {h : Addr} {H H' : Hp} (s : But h H H') : L2.Same (del H h) (del H' h) := fun b o e => by
  by_cases z : b = h
  · rw [z, del_same] at e
    cases e
  · rw [del_ne z] at e
    rw [del_ne z]
    exact s b o z e
theorem off_new {h p : Addr} {H : Hp} {o : HO} (ne : p ≠ h) : del (upd H p o) h p = some o := by rw [del_ne ne, upd_same]
theorem off_at {h p : Addr} {H : Hp} {o : HO} (ne : p ≠ h) (e : H p = some o) : del H h p = some o := by rw [del_ne ne, e]
section
variable {X : Cx}
theorem cr_alt {f : Value} {r1 r2 : List V → Hp → VK → Prop} (h1 : CallR X f r1) (h2 : CallR X f r2) : CallR X f (fun xs H Q => r1 xs H Q ∨ r2 xs H Q) :=
  fun pins s σ H xs us Q I r h => h.elim (h1 pins s σ H xs us Q I r) (h2 pins s σ H xs us Q I r)
end
end K57
set_option Elab.async false
set_option linter.all false
set_option maxRecDepth 100000
set_option maxHeartbeats 4000000
set_option pp.maxSteps 400
set_option pp.deepTerms false
namespace K57
open PySem PySem.Spec PyProof.Rows L2
open Xk Az
section
variable {P : Program} {w : World} {K : PySem.W.Frag} {mg : Str → Option Value} {base : Heap}
/-- a def that may be called by its name -/
structure Ca (P : Program) (w : World) (K : PySem.W.Frag) (mg : Str → Option Value) (base : Heap) (k : Nat) (x : Str) (ps : List Str) (sp : Sp) : Prop where
  ex : ∃ (f : Addr) (fd : FuncData), FnOk P w K mg base CX0 k f fd ps sp ∧ mg x = some (.ref f) ∧ PySem.W.keepIn K (.ref f) = true ∧ Binds K fd ps []
/-- a def of the text, as the head finds it -/
structure Df (K : PySem.W.Frag) (mg : Str → Option Value) (x : Str) (ps : List Str) (st : Stmt) (f : Addr) (fd : FuncData) : Prop where
  fn : Fun K x x st f fd
  mgf : mg x = some (.ref f)
  bd : Binds K fd ps []
theorem Df.ca {k : Nat} {x : Str} {ps : List Str} {st : Stmt} {f : Addr} {fd : FuncData} {sp : Sp} (d : Df K mg x ps st f fd)
    (h : FnOk P w K mg base CX0 k f fd ps sp) : Ca P w K mg base k x ps sp := ⟨f, fd, h, d.mgf, d.fn.kp, d.bd⟩
section
variable {X : Cx} {k j : Nat} {x : Str} {ps : List Str} {sp : Sp} {p pos : Pos} {e : Expr} {es : List Expr} {t : TA}
theorem pe_ca (c : Ca X.prog X.w X.K X.mg X.base k x ps sp) (hr : Room j X.A) (hk : k ≤ j) (hg : Gl X x) (ha : PA X (e :: es) t) (hdb : (x == ("__debug__" : Str)) = false := by decide)
    (he : starEach (e :: es) X.env = (false, eval e X.env) :: starEach es X.env := by rfl) (hpl : (backTo pos (starEach es X.env)).any (·.1) = false := by rfl) :
    PE X (.Call (.Name x p) (e :: es) [] pos) (tCall sp [] E0 t) := by
  obtain ⟨f, fd, F, hm, kp, b⟩ := c.ex
  exact pe_call F (hr.mono hk) hg hm kp b .nil pass0 ha hdb he hpl
end
/-- what the top has left, besides the defs -/
structure Txt (mg : Str → Option Value) : Prop where
  isi : mg "isinstance" = none
  int : mg "int" = none
  bool : mg "bool" = none
  str : mg "str" = none
  tuple : mg "tuple" = none
  list : mg "list" = none
  len : mg "len" = none
  all : mg "all" = none
  any : mg "any" = none
  zip : mg "zip" = none
  range : mg "range" = none
  max : mg "max" = none
  min : mg "min" = none
  sorted : mg "sorted" = none
/-- the number of a thing that is a whole one -/
def wh : PyData → Option Int
  | .int i => some i
  | _ => none
def spWhole (K : PySem.W.Frag) : Sp := fun vs H Q _ => ∃ (v : V) (d : PyData), vs = [v] ∧ Dz K H v d ∧ Q (.bl (wh d).isSome) H
def inB (a b : Int) (d : PyData) : Bool := match wh d with
  | some i => decide (a ≤ i) && decide (i ≤ b)
  | none => false
def spWithin (K : PySem.W.Frag) : Sp := fun vs H Q _ => ∃ (v : V) (d : PyData) (a b : Int), vs = [v, .int a, .int b] ∧ Dz K H v d ∧ Q (.bl (inB a b d)) H
theorem ok_whole {f : Addr} {fd : FuncData} (D : Df K mg "is_whole" ["thing"] sIsWhole f fd) (T : Txt mg) : FnOk P w K mg base CX0 1 f fd ["thing"] (spWhole K) := by
  refine D.fn.ok scIsWhole (fun vs H Q E h => ?_) (fun cdv A outer s H vs Q E hr h => ?_)
  · obtain ⟨v, d, rfl, h, q⟩ := h
    rfl
  · obtain ⟨v, d, rfl, h, q⟩ := h
    refine ⟨_, (pss_one (ps_ret (pe_and (pe_callB call_isi (by rfl) T.isi (by decide +kernel) (pa_cons (pv 0) (pa_cons (pe_bltn (v := .ty "int") (by rfl) T.int (by decide +kernel) rfl) pa_nil))) (pe_one (pe_not (pe_callB call_isi (by rfl) T.isi (by decide +kernel) (pa_cons (pv 0) (pa_cons (pe_bltn (v := .ty "bool") (by rfl) T.bool (by decide +kernel) rfl) pa_nil)))))))), ?_⟩
    cases d with
    | int i =>
      have ty : TyX K H v (.type "int") := h.ty
      refine ⟨_, rfl, _, _, _, _, true, rfl, .ty _, ty, kit_ty (by decide +kernel), true, rfl, iteT ?_⟩
      exact ⟨_, rfl, _, _, _, _, false, rfl, .ty _, ty, kit_ty (by decide +kernel), false, rfl, q⟩
    | bool b =>
      have ty : TyX K H v (.type "bool") := h.ty
      refine ⟨_, rfl, _, _, _, _, true, rfl, .ty _, ty, kit_ty (by decide +kernel), true, rfl, iteT ?_⟩
      exact ⟨_, rfl, _, _, _, _, true, rfl, .ty _, ty, kit_ty (by decide +kernel), true, rfl, q⟩
    | none  =>
      have ty : TyX K H v (.type "NoneType") := h.ty
      exact ⟨_, rfl, _, _, _, _, false, rfl, .ty _, ty, kit_ty (by decide +kernel), false, rfl, iteF q⟩
    | str x =>
      have ty : TyX K H v (.type "str") := h.ty
      exact ⟨_, rfl, _, _, _, _, false, rfl, .ty _, ty, kit_ty (by decide +kernel), false, rfl, iteF q⟩
    | list ds =>
      have ty : TyX K H v (.type "list") := h.ty
      exact ⟨_, rfl, _, _, _, _, false, rfl, .ty _, ty, kit_ty (by decide +kernel), false, rfl, iteF q⟩
    | tuple ds =>
      have ty : TyX K H v (.type "tuple") := h.ty
      exact ⟨_, rfl, _, _, _, _, false, rfl, .ty _, ty, kit_ty (by decide +kernel), false, rfl, iteF q⟩
    | dict ds =>
      have ty : TyX K H v (.type "dict") := h.ty
      exact ⟨_, rfl, _, _, _, _, false, rfl, .ty _, ty, kit_ty (by decide +kernel), false, rfl, iteF q⟩
theorem ok_within {f : Addr} {fd : FuncData} (D : Df K mg "is_within" ["thing", "least", "most"] sIsWithin f fd) (cW : Ca P w K mg base 1 "is_whole" ["thing"] (spWhole K)) : FnOk P w K mg base CX0 2 f fd ["thing", "least", "most"] (spWithin K) := by
  refine D.fn.ok scIsWithin (fun vs H Q E h => ?_) (fun cdv A outer s H vs Q E hr h => ?_)
  · obtain ⟨v, d, a, b, rfl, h, q⟩ := h
    rfl
  · obtain ⟨v, d, a, b, rfl, h, q⟩ := h
    refine ⟨_, (pss_one (ps_ret (pe_and (pe_ca cW hr (by decide) (by rfl) (pa_cons (pv 0) pa_nil)) (pe_one (pe_chain op_le op_le (pv 1) (pv 0) (pv 2)))))), ?_⟩
    refine ⟨_, rfl, v, d, rfl, h, _, rfl, ?_⟩
    unfold inB at q
    cases w0 : wh d with
    | none =>
      rw [w0] at q
      exact iteF q
    | some i =>
      have ev : v = .int i := by
        cases h <;> simp [wh] at w0
        rw [w0]
      subst ev
      rw [w0] at q
      dsimp only at q
      refine iteT ⟨_, rfl, _, rfl, a, i, rfl, rfl, _, rfl, ?_⟩
      cases e : decide (a ≤ i) with
      | true =>
        rw [e, Bool.true_and] at q
        exact iteT ⟨_, rfl, i, b, rfl, rfl, q⟩
      | false =>
        rw [e, Bool.false_and] at q
        exact iteF q
end
end K57
set_option Elab.async false
set_option linter.all false
set_option maxRecDepth 100000
set_option maxHeartbeats 4000000
set_option pp.maxSteps 400
set_option pp.deepTerms false
namespace K57
open PySem PySem.Spec PyProof.Rows L2
open Xk Az
section
variable {P : Program} {w : World} {K : PySem.W.Frag} {mg : Str → Option Value} {base : Heap}
abbrev far : Int := 1000000
def spHand (K : PySem.W.Frag) : Sp := fun vs H Q _ => ∃ (a : Addr) (k : Int) (ns : List Int), vs = [.ref a, .int k] ∧ 0 ≤ k ∧ SqL K H a (ns.map V.int) ∧
  ∀ p g m, H p = none → 0 ≤ g → 0 ≤ m → m < 2305843009213693951 → Q (.ref p) (upd H p (.lst [.int g, .int m, .int 0]))
def spTake : Sp := fun vs H Q _ => ∃ (h : Addr) (many n : Int), vs = [.ref h, .int many] ∧ 0 < many ∧ many < 10 ^ 30 ∧ Hand n H h ∧ n ≤ far ∧
  ∀ d H', 0 ≤ d → d < many → Hand (n + 1) H' h → But h H H' → Q (.int d) H'
def spPick : Sp := fun vs H Q _ => ∃ (h : Addr) (n : Int) (s : V), vs = [.ref h, s] ∧ Hand n H h ∧ n ≤ far ∧
  ((∃ (l : Addr) (xs : List V), s = .ref l ∧ H l = some (.lst xs) ∧ l ≠ h ∧ xs ≠ [] ∧ xs.length < 1000 ∧ ∀ v H', v ∈ xs → Hand (n + 1) H' h → But h H H' → Q v H') ∨
   (∃ x : Str, s = .str x ∧ 0 < x.length ∧ x.length < 1000 ∧ ∀ c H', c ∈ x.cps.toList → Hand (n + 1) H' h → But h H H' → Q (.str ⟨#[c]⟩) H'))
theorem wide30 {g many : Int} (m1 : 0 < many) (m2 : many < 10 ^ 30) : CDivW g many := by
  have h : (10 : Int) ^ 30 < 2 ^ 110 := by decide
  exact wide_div (b := 110) m1 (by omega) (by decide) (by decide)
theorem lt30 {n : Nat} (h : n < 1000) : (n : Int) < 10 ^ 30 := Int.lt_trans (Int.ofNat_lt.mpr h) (by decide)
theorem b01 (b : Bool) : -(2 ^ 64) < (if b = true then (1 : Int) else 0) ∧ (if b = true then (1 : Int) else 0) < 2 ^ 64 := by cases b <;> decide
theorem b0 (b : Bool) : 0 ≤ (if b = true then (1 : Int) else 0) := by cases b <;> decide
theorem ok_hand {f : Addr} {fd : FuncData} (D : Df K mg "_law_hand" ["_law_script", "_law_k"] sHand f fd) (T : Txt mg) : FnOk P w K mg base CX0 1 f fd ["_law_script", "_law_k"] (spHand K) := by
  refine D.fn.ok scHand (fun vs H Q E h => ?_) (fun cdv A outer s H vs Q E hr h => ?_)
  · obtain ⟨a, k, ns, rfl, hk, hS, q⟩ := h
    rfl
  · obtain ⟨a, k, ns, rfl, hk, hS, q⟩ := h
    refine ⟨_, (pss_cons (ps_set (i := 2) scHand.nd rfl (.inl rfl) pe_int)
      (pss_cons (ps_if (pt_cmpR op_lt (pv 1) (pe_callB call_len_seq (by rfl) T.len PySem.boot_len (pa_cons (pv 0) pa_nil)) (nomark _)) (pss_one (ps_set (i := 2) scHand.nd rfl (.inl rfl) (pe_ix ix_list (pv 0) (pv 1) (fun _ _ => rfl)))) pss_nil)
      (pss_cons (ps_set (i := 3) scHand.nd rfl (.inl rfl) (pe_op op_mul (pe_op op_mod (pv 2) (pe_op op_mulW (pe_op op_mulW (pe_op op_pow pe_int pe_int) (pe_op op_pow pe_int pe_int)) (pe_op op_pow pe_int pe_int))) (pe_callTy call_int1 (by rfl) T.int (by decide +kernel) (pa_cons (pe_cmpR op_ge (pv 2) (pe_op op_pow pe_int pe_int) (nomark _)) pa_nil))))
      (pss_one (ps_ret (pe_lst (pa_cons (pv 3) (pa_cons (pe_op op_mod (pe_op op_add (pe_op op_add (pe_op op_mod (pv 2) pe_int) (pe_op op_mul pe_int (pv 1))) pe_int) pe_int) (pa_cons pe_int pa_nil))))))))), ?_⟩
    refine ⟨_, rfl, _, rfl, a, _, rfl, .inl hS, k, _, rfl, rfl, _, rfl, ?_⟩
    refine ite2 (fun e => ?_) (fun e => ?_)
    · have hlt : k < ((ns.map V.int).length : Int) := of_decide_eq_true e
      rw [List.length_map] at hlt
      obtain ⟨j, rfl⟩ : ∃ j : Nat, k = (j : Int) := ⟨k.toNat, by omega⟩
      have hj : j < ns.length := by omega
      have hat : atI (ns.map V.int) ((j : Nat) : Int) = some (.int ns[j]) := atI_nat (by rw [List.getElem?_map, List.getElem?_eq_getElem hj]; rfl)
      refine ⟨_, rfl, _, rfl, a, _, _, _, rfl, rfl, hS, hat, ?_⟩
      refine ⟨_, rfl, 10, 60, rfl, rfl, ⟨by decide, by decide, by decide⟩, 10, 60, rfl, rfl, ⟨by decide, by decide, by decide⟩, _, _, rfl, rfl, ?_, 10, 60, rfl, rfl, ⟨by decide, by decide, by decide⟩, _, _, rfl, rfl, ?_, ns[j], _, rfl, rfl, ?_, ?_⟩
      · exact wide_mul (a := 300) (b := 300) (by decide +kernel) (by decide +kernel) (by decide) (by decide) (by decide)
      · exact wide_mul (a := 600) (b := 300) (by decide +kernel) (by decide +kernel) (by decide) (by decide) (by decide)
      · show (0 : Int) < 10 ^ (60 : Int).toNat * 10 ^ (60 : Int).toNat * 10 ^ (60 : Int).toNat
        decide +kernel
      · refine ⟨_, rfl, 10, 18, rfl, rfl, ⟨by decide, by decide, by decide⟩, ns[j], _, rfl, rfl, .inr ⟨_, rfl, _, _, rfl, rfl, .inr (b01 _), ?_⟩⟩
        refine ⟨_, rfl, _, rfl, ns[j], 2305843009213693951, rfl, rfl, (by show (0 : Int) < 2305843009213693951; decide), _, rfl, 7919, _, rfl, rfl, .inl (by decide), _, _, rfl, rfl, _, _, rfl, rfl, _, _, rfl, rfl, (by show (0 : Int) < 2305843009213693951; decide), (by show 3 ≤ sizeLine; decide), fun p np => ?_⟩
        refine q p _ _ np ?_ (Int.emod_nonneg _ (by decide)) (Int.emod_lt_of_pos _ (by decide))
        exact Int.mul_nonneg (Int.emod_nonneg _ (by decide +kernel)) (b0 _)
    · refine ⟨_, rfl, 10, 60, rfl, rfl, ⟨by decide, by decide, by decide⟩, 10, 60, rfl, rfl, ⟨by decide, by decide, by decide⟩, _, _, rfl, rfl, ?_, 10, 60, rfl, rfl, ⟨by decide, by decide, by decide⟩, _, _, rfl, rfl, ?_, 0, _, rfl, rfl, ?_, ?_⟩
      · exact wide_mul (a := 300) (b := 300) (by decide +kernel) (by decide +kernel) (by decide) (by decide) (by decide)
      · exact wide_mul (a := 600) (b := 300) (by decide +kernel) (by decide +kernel) (by decide) (by decide) (by decide)
      · show (0 : Int) < 10 ^ (60 : Int).toNat * 10 ^ (60 : Int).toNat * 10 ^ (60 : Int).toNat
        decide +kernel
      · refine ⟨_, rfl, 10, 18, rfl, rfl, ⟨by decide, by decide, by decide⟩, 0, _, rfl, rfl, .inr ⟨_, rfl, _, _, rfl, rfl, .inr (b01 _), ?_⟩⟩
        refine ⟨_, rfl, _, rfl, 0, 2305843009213693951, rfl, rfl, (by show (0 : Int) < 2305843009213693951; decide), _, rfl, 7919, _, rfl, rfl, .inl (by decide), _, _, rfl, rfl, _, _, rfl, rfl, _, _, rfl, rfl, (by show (0 : Int) < 2305843009213693951; decide), (by show 3 ≤ sizeLine; decide), fun p np => ?_⟩
        refine q p _ _ np ?_ (Int.emod_nonneg _ (by decide)) (Int.emod_lt_of_pos _ (by decide))
        exact Int.mul_nonneg (Int.emod_nonneg _ (by decide +kernel)) (b0 _)
theorem ok_take {f : Addr} {fd : FuncData} (D : Df K mg "_law_take" ["_law_hand_here", "_law_many"] sTake f fd) : FnOk P w K mg base CX0 1 f fd ["_law_hand_here", "_law_many"] spTake := by
  refine D.fn.ok scTake (fun vs H Q E h => ?_) (fun cdv A outer s H vs Q E hr h => ?_)
  · obtain ⟨h, many, n, rfl, _⟩ := h
    rfl
  · obtain ⟨h, many, n, rfl, m1, m2, ⟨g, m, c, hh, g0, k0, k1, c0, c1⟩, hn, q⟩ := h
    refine ⟨_, pss_cons (ps_if (pt_cmpR op_gt (pe_ix ix_list (pv 0) pe_int (fun _ _ => rfl)) pe_int (nomark _))
        (pss_cons (ps_set (i := 2) scTake.nd rfl (.inl rfl) (pe_op op_mod (pe_ix ix_list (pv 0) pe_int (fun _ _ => rfl)) (pv 1)))
        (pss_cons (ps_asg (pe_op op_fdivW (pe_ix ix_list (pv 0) pe_int (fun _ _ => rfl)) (pv 1)) (pg_sub (pv 0) pe_int set_list))
        (pss_one (ps_ret (pv 2))))) pss_nil)
      (pss_cons (ps_asg (pe_op op_add (pe_ix ix_list (pv 0) pe_int (fun _ _ => rfl)) pe_int) (pg_sub (pv 0) pe_int set_list))
      (pss_cons (ps_set (i := 3) scTake.nd rfl (.inl rfl) (pe_op op_mod (pe_op op_mul (pe_op op_add (pe_op op_add (pe_ix ix_list (pv 0) pe_int (fun _ _ => rfl))
          (pe_op op_mul (pe_op op_mul pe_int (pe_ix ix_list (pv 0) pe_int (fun _ _ => rfl))) (pe_ix ix_list (pv 0) pe_int (fun _ _ => rfl)))) pe_int) pe_int) pe_int))
      (pss_cons (ps_set (i := 3) scTake.nd rfl (.inl rfl) (pe_op op_mod (pe_op op_mul (pv 3) (pe_op op_add (pe_op op_mod (pv 3) pe_int) (pe_op op_mul pe_int (pe_ix ix_list (pv 0) pe_int (fun _ _ => rfl))))) pe_int))
      (pss_one (ps_ret (pe_op op_mod (pe_op op_add (pe_op op_fdiv (pv 3) pe_int) (pe_op op_fdiv (pv 3) pe_int)) (pv 1))))))), ?_⟩
    have far' : n ≤ 1000000 := hn
    refine ⟨_, rfl, h, _, 0, _, rfl, rfl, SqL.of hh, atI_nat (j := 0) rfl, g, 0, rfl, rfl, _, rfl, ite2 (fun e => ?_) (fun e => ?_)⟩
    · refine ⟨_, rfl, h, _, 0, _, rfl, rfl, SqL.of hh, atI_nat (j := 0) rfl, _, rfl, g, many, rfl, rfl, m1, ?_⟩
      refine ⟨_, rfl, h, _, 0, _, rfl, rfl, SqL.of hh, atI_nat (j := 0) rfl, _, rfl, g, many, rfl, rfl, wide30 m1 m2, _, rfl, h, _, 0, 0, rfl, rfl, hh, rfl, ?_⟩
      refine ⟨_, rfl, ?_⟩
      exact q _ _ (Int.emod_nonneg _ (by omega)) (Int.emod_lt_of_pos _ m1) ⟨g / many, m, c, upd_same, Int.ediv_nonneg g0 (by omega), k0, k1, c0, by omega⟩ but_upd
    · refine ⟨_, rfl, h, _, 2, _, rfl, rfl, SqL.of hh, atI_nat (j := 2) rfl, c, 1, rfl, rfl, _, rfl, h, _, 2, 2, rfl, rfl, hh, rfl, ?_⟩
      have h2 : (upd H h (.lst [.int g, .int m, .int (c + 1)])) h = some (.lst [.int g, .int m, .int (c + 1)]) := upd_same
      have s2 := SqL.of (K := K) h2
      refine ⟨_, rfl, h, _, 1, _, rfl, rfl, s2, atI_nat (j := 1) rfl, _, rfl, h, _, 2, _, rfl, rfl, s2, atI_nat (j := 2) rfl, 65537, c + 1, rfl, rfl, .inl (by decide), _, rfl, h, _, 2, _, rfl, rfl, s2, atI_nat (j := 2) rfl, _, c + 1, rfl, rfl, .inr (by omega),
        m, _, rfl, rfl, _, 11, rfl, rfl, _, 48271, rfl, rfl, .inr (by decide), _, 2305843009213693921, rfl, rfl, (by show (0 : Int) < 2305843009213693921; decide), ?_⟩
      generalize (m + 65537 * (c + 1) * (c + 1) + 11) * 48271 = z
      have z0 : 0 ≤ z % 2305843009213693921 := Int.emod_nonneg _ (by decide)
      have z1 : z % 2305843009213693921 < 2305843009213693921 := Int.emod_lt_of_pos _ (by decide)
      refine ⟨_, rfl, _, rfl, _, 1000003, rfl, rfl, (by show (0 : Int) < 1000003; decide), _, rfl, h, _, 2, _, rfl, rfl, s2, atI_nat (j := 2) rfl, 99991, c + 1, rfl, rfl, .inl (by decide), _, _, rfl, rfl, _, _, rfl, rfl, .inl (by omega),
        _, 2305843009213693907, rfl, rfl, (by show (0 : Int) < 2305843009213693907; decide), ?_⟩
      refine ⟨_, rfl, _, 97, rfl, rfl, ⟨by decide, by decide⟩, _, rfl, _, 1000033, rfl, rfl, ⟨by decide, by decide⟩, _, _, rfl, rfl, _, rfl, _, many, rfl, rfl, m1, ?_⟩
      exact q _ _ (Int.emod_nonneg _ (by omega)) (Int.emod_lt_of_pos _ m1) ⟨g, m, c + 1, h2, g0, k0, k1, by omega, by omega⟩ but_upd
theorem ok_pick {f : Addr} {fd : FuncData} (D : Df K mg "_law_pick" ["_law_hand_here", "_law_some_here"] sPick f fd) (T : Txt mg) (cT : Ca P w K mg base 1 "_law_take" ["_law_hand_here", "_law_many"] spTake) : FnOk P w K mg base CX0 2 f fd ["_law_hand_here", "_law_some_here"] spPick := by
  refine D.fn.ok scPick (fun vs H Q E h => ?_) (fun cdv A outer s H vs Q E hr h => ?_)
  · obtain ⟨h, n, s, rfl, hh, hn, q⟩ := h
    rfl
  · obtain ⟨h, n, s, rfl, hh, hn, q⟩ := h
    refine ⟨_, (pss_one (ps_ret (pe_ix ix_seq (pv 1) (pe_ca cT hr (by decide) (by rfl) (pa_cons (pv 0) (pa_cons (pe_callB (cr_alt call_len_seq call_len_str) (by rfl) T.len PySem.boot_len (pa_cons (pv 1) pa_nil)) pa_nil))) (fun _ _ => rfl)))), ?_⟩
    refine ⟨_, rfl, _, rfl, _, rfl, ?_⟩
    rcases q with ⟨l, xs, rfl, hl, nl, ne, few, q⟩ | ⟨x, rfl, pos, few, q⟩
    · have pos : 0 < xs.length := List.length_pos_iff.mpr ne
      refine .inl ⟨l, xs, rfl, .inl (SqL.of hl), h, (xs.length : Int), n, rfl, by omega, lt30 few, hh, hn, fun d H' d0 d1 hh' bt => ?_⟩
      obtain ⟨j, rfl⟩ : ∃ j : Nat, d = (j : Int) := ⟨d.toNat, by omega⟩
      have hj : j < xs.length := by omega
      refine .inl ⟨l, xs, _, xs[j], rfl, rfl, SqL.of (bt _ _ nl hl), atI_nat (List.getElem?_eq_getElem hj), ?_⟩
      exact q _ H' (List.getElem_mem hj) hh' bt
    · have sz : x.length ≤ sizeLine := Nat.le_trans (show x.length ≤ 1000 by omega) (by decide)
      refine .inr ⟨x, rfl, sz, h, (x.length : Int), n, rfl, by omega, lt30 few, hh, hn, fun d H' d0 d1 hh' bt => ?_⟩
      obtain ⟨j, rfl⟩ : ∃ j : Nat, d = (j : Int) := ⟨d.toNat, by omega⟩
      have hj : j < x.cps.toList.length := by
        have : x.length = x.cps.toList.length := by rw [Array.length_toList]; rfl
        omega
      refine .inr (.inr ⟨x, _, x.cps.toList[j], rfl, rfl, sz, atI_nat (List.getElem?_eq_getElem hj), ?_⟩)
      exact q _ H' (List.getElem_mem hj) hh' bt
end
end K57
set_option Elab.async false
set_option linter.all false
set_option maxRecDepth 100000
set_option maxHeartbeats 4000000
set_option pp.maxSteps 400
set_option pp.deepTerms false
namespace K57
open PySem PySem.Spec PyProof.Rows L2
open Xk Az
section
variable {P : Program} {w : World} {K : PySem.W.Frag} {mg : Str → Option Value} {base : Heap}
def spNumbers : Sp := fun vs H Q _ => ∃ (h : Addr) (n many : Int), vs = [.ref h, .int many] ∧ 0 ≤ many ∧ many ≤ 20 ∧ Hand n H h ∧ n + 100 ≤ far ∧
  ∀ L (ns : List Int) H', H' L = some (.lst (ns.map V.int)) → L ≠ h → H L = none → (ns.length : Int) = many → Hand (n + 30) H' h → But h H H' → Q (.ref L) H'
theorem ok_numbers {f : Addr} {fd : FuncData} (D : Df K mg "_law_numbers" ["_law_hand_here", "_law_many"] sNumbers f fd) (T : Txt mg) (cT : Ca P w K mg base 1 "_law_take" ["_law_hand_here", "_law_many"] spTake) (cP : Ca P w K mg base 2 "_law_pick" ["_law_hand_here", "_law_some_here"] spPick) : FnOk P w K mg base CX0 3 f fd ["_law_hand_here", "_law_many"] spNumbers := by
  refine D.fn.ok scNumbers (fun vs H Q E h => ?_) (fun cdv A outer s H vs Q E hr h => ?_)
  · obtain ⟨h, n, many, rfl, m0, m1, hh, hn, q⟩ := h
    rfl
  · obtain ⟨h, n, many, rfl, m0, m1, hh, hn, q⟩ := h
    refine ⟨_, (pss_cons (ps_par (i := 2) (j := 3) (by rfl) scNumbers.nd rfl rfl (by decide) rfl rfl (pa_cons (pe_lst pa_nil) (pa_cons (pe_ca cP hr (by decide) (by rfl) (pa_cons (pv 0) (pa_cons (pe_lst (pa_cons pe_int (pa_cons pe_int (pa_cons pe_int (pa_cons pe_int (pa_cons (pe_op op_pow pe_int pe_int) pa_nil)))))) pa_nil))) pa_nil)) (by rfl))
      (pss_cons (ps_for PassesOwn.never rfl (pi_range1 (by rfl) T.range (pa_cons (pv 1) pa_nil)) (pg_name (i := 4) scNumbers.nd rfl (.inl rfl)) (pss_cons (ps_expr (pe_bm PySem.F.plainAttrs_list PySem.F.slot_list_append PySem.F.type_list_append mt_append (pv 2) (pa_cons (pv 3) pa_nil)))
      (pss_one (ps_set (i := 3) scNumbers.nd rfl (.inl rfl) (pe_op op_add (pe_op op_add (pv 3) pe_int) (pe_ca cP hr (by decide) (by rfl) (pa_cons (pv 0) (pa_cons (pe_lst (pa_cons pe_int (pa_cons pe_int (pa_cons pe_int (pa_cons pe_int (pa_cons (pe_op op_pow pe_int pe_int) pa_nil)))))) pa_nil))))))))
      (pss_one (ps_ret (pv 2))))), ?_⟩
    have fr : n + 100 ≤ 1000000 := hn
    refine ⟨(by show 0 ≤ sizeLine; decide), fun L nL => ?_⟩
    have s0 := same_upd nL (o := .lst [])
    refine ⟨_, rfl, 10, 29, rfl, rfl, ⟨by decide, by decide, by decide⟩, (by show 5 ≤ sizeLine; decide), fun l1 n1 => ?_⟩
    have s1 := same_upd n1 (o := .lst [.int 0, .int 0, .int 1, .int 7, .int (10 ^ (29 : Int).toNat)])
    have Lh := hh.fresh nL
    refine ⟨h, n, _, rfl, (hh.same s0).same s1, by show n ≤ 1000000; omega, .inl ⟨l1, _, rfl, upd_same, (hh.same s0).fresh n1, by simp, by show 5 < 1000; decide, fun v H1 mv h1 b1 => ⟨_, _, rfl, ?_⟩⟩⟩
    obtain ⟨i0, rfl⟩ : ∃ i : Int, v = .int i := by
      simp only [List.mem_cons, List.not_mem_nil, or_false] at mv
      rcases mv with e | e | e | e | e <;> exact ⟨_, e⟩
    have eL : H1 L = some (.lst (([] : List Int).map V.int)) := b1 _ _ Lh (s1 _ _ upd_same)
    have bt1 : But h H H1 := (Same.but (s0.trans s1) h).trans b1
    refine ⟨_, rfl, _, rfl, by omega, by omega, for_range (lo := 0) (n := many.toNat) (fun k σ Hi => ∃ (ns : List Int) (j : Int) (c4 : Option V), σ = [some (.ref h), some (.int many), some (.ref L), some (.int j), c4] ∧ Hi L = some (.lst (ns.map V.int)) ∧ ns.length = k ∧ Hand (n + 1 + k) Hi h ∧ But h H Hi) ?_ ?_ ?_⟩
    · exact ⟨[], i0, none, rfl, eL, rfl, h1.mono (by omega), bt1⟩
    · rintro k σ Hi hk ⟨ns, j, c4, rfl, eLi, lk, hdi, bi⟩
      have k20 : k < 20 := by omega
      refine ⟨_, rfl, .inl ⟨rfl, _, SqL.of eLi⟩, _, rfl, L, _, _, rfl, rfl, eLi, ?_, ?_⟩
      · rw [List.length_map]
        exact Nat.lt_of_le_of_lt (show ns.length ≤ 100 by omega) (by decide)
      have hd2 : Hand (n + 1 + k) (upd Hi L (.lst (ns.map V.int ++ [.int j]))) h := hdi.upd (Ne.symm Lh)
      have e2 : (upd Hi L (.lst (ns.map V.int ++ [.int j]))) L = some (.lst ((ns ++ [j]).map V.int)) := by rw [upd_same, List.map_append]; rfl
      have bi2 : But h H (upd Hi L (.lst (ns.map V.int ++ [.int j]))) := fun b x nb e => by
        rw [upd_ne (ne_of_none e nL)]
        exact bi b x nb e
      refine ⟨_, rfl, j, 1, rfl, rfl, _, rfl, 10, 27, rfl, rfl, ⟨by decide, by decide, by decide⟩, (by show 5 ≤ sizeLine; decide), fun l2 n2 => ?_⟩
      have s2 := same_upd n2 (o := .lst [.int 0, .int 0, .int 1, .int 5, .int (10 ^ (27 : Int).toNat)])
      refine ⟨h, n + 1 + k, _, rfl, hd2.same s2, by show n + 1 + (k : Int) ≤ 1000000; omega, .inl ⟨l2, _, rfl, upd_same, hd2.fresh n2, by simp, by show 5 < 1000; decide, fun v H3 mv h3 b3 => ?_⟩⟩
      obtain ⟨i1, rfl⟩ : ∃ i : Int, v = .int i := by
        simp only [List.mem_cons, List.not_mem_nil, or_false] at mv
        rcases mv with e | e | e | e | e <;> exact ⟨_, e⟩
      refine ⟨_, _, rfl, rfl, ns ++ [j], _, _, rfl, b3 _ _ Lh (s2 _ _ e2), by rw [List.length_append, lk]; rfl, h3.mono (by omega), bi2.trans ((Same.but s2 h).trans b3)⟩
    rintro σ He ⟨ns, j, c4, rfl, eLe, lk, hde, be⟩
    exact ⟨_, rfl, q L ns He eLe Lh nL (by omega) (hde.mono (by omega)) be⟩
end
end K57
set_option Elab.async false
set_option linter.all false
set_option maxRecDepth 100000
set_option maxHeartbeats 4000000
set_option pp.maxSteps 400
set_option pp.deepTerms false
namespace K57
open PySem PySem.Spec PyProof.Rows L2
open Xk Az
section
variable {P : Program} {w : World} {K : PySem.W.Frag} {mg : Str → Option Value} {base : Heap}
theorem dpAll_ints {H : Hp} : ∀ gs : List Int, DpAll K H (gs.map V.int) (gs.map PyData.int)
  | [] => .nil
  | g :: r => .cons (.int g) (dpAll_ints r)
theorem lay_ints : ∀ gs : List Int, PyData.canLayAll0 (gs.map PyData.int) = true
  | [] => by simp [PyData.canLayAll0]
  | g :: r => by simp [PyData.canLayAll0, PyData.canLay0, lay_ints r]
theorem depth_ints : ∀ gs : List Int, PyData.depthAll (gs.map PyData.int) ≤ 1
  | [] => by simp [PyData.depthAll]
  | g :: r => by
    have := depth_ints r
    simp only [List.map_cons, PyData.depthAll, PyData.depth]
    omega
theorem ixN_nat {n j : Nat} (h : j < n) : ixN n (j : Int) = some j := by
  unfold ixN
  rw [if_pos (by omega), if_pos (by omega)]
  simp
theorem shaped_list {ds : List PyData} (q1 : PyData.canLayAll0 ds = true) (q2 : PyData.depthAll ds ≤ 3) : SeqAt.shaped (.list ds) = true := by
  unfold SeqAt.shaped
  have h1 : (PyData.list ds).canLay0 = true := by simp only [PyData.canLay0]; exact q1
  have h2 : (PyData.list ds).depth ≤ 64 := by simp only [PyData.depth]; omega
  rw [h1, decide_eq_true h2]
  rfl
theorem lt30' {i : Int} (h : i < 1000) : i < 10 ^ 30 := Int.lt_trans h (by decide)
/-- held: tuples of numbers -/
inductive Hl (H : Hp) : List V → List (List Int) → Prop
  | nil : Hl H [] []
  | cons {t : Addr} {ns : List Int} {xs : List V} {hs : List (List Int)} (e : H t = some (.tup (ns.map V.int))) (r : Hl H xs hs) : Hl H (.ref t :: xs) (ns :: hs)
theorem Hl.of {H : Hp} : ∀ xs : List V, (∀ v ∈ xs, ∃ t, ∃ ns : List Int, v = .ref t ∧ H t = some (.tup (ns.map V.int))) → ∃ hs, Hl H xs hs
  | [], _ => ⟨[], .nil⟩
  | x :: r, h => by
    obtain ⟨hs, q⟩ := Hl.of r fun v hv => h v (List.mem_cons_of_mem _ hv)
    obtain ⟨t, ns, rfl, e⟩ := h x List.mem_cons_self
    exact ⟨ns :: hs, .cons e q⟩
theorem Hl.len {H : Hp} {xs : List V} {hs : List (List Int)} (h : Hl H xs hs) : xs.length = hs.length := by
  induction h with
  | nil => rfl
  | cons _ _ ih => rw [List.length_cons, List.length_cons, ih]
theorem Hl.map {H H' : Hp} {xs : List V} {hs : List (List Int)} (h : Hl H xs hs) (k : ∀ b ys, H b = some (.tup ys) → H' b = some (.tup ys)) : Hl H' xs hs := by
  induction h with
  | nil => exact .nil
  | cons e _ ih => exact .cons (k _ _ e) ih
theorem Hl.get {H : Hp} {xs : List V} {hs : List (List Int)} (h : Hl H xs hs) {i : Nat} (hi : i < hs.length) : ∃ t, xs[i]? = some (.ref t) ∧ H t = some (.tup ((hs[i]).map V.int)) := by
  induction h generalizing i with
  | nil => simp at hi
  | cons e _ ih =>
    cases i with
    | zero => exact ⟨_, rfl, e⟩
    | succ i => exact ih (by simpa using hi)
/-- lists of numbers, apart from the hand and the list that has them -/
def Li (m : Nat) (h L : Addr) (H : Hp) (v : V) : Prop := ∃ l, ∃ ns : List Int, v = .ref l ∧ l ≠ L ∧ l ≠ h ∧ H l = some (.lst (ns.map V.int)) ∧ ns.length ≤ m
theorem Li.but {m : Nat} {h L : Addr} {H H' : Hp} {v : V} (a : Li m h L H v) (s : But h H H') : Li m h L H' v := by
  obtain ⟨l, ns, e, n1, n2, q, lm⟩ := a
  exact ⟨l, ns, e, n1, n2, s _ _ n2 q, lm⟩
theorem Li.upd {m : Nat} {h L : Addr} {H : Hp} {v : V} {o : HO} (a : Li m h L H v) : Li m h L (L2.upd H L o) v := by
  obtain ⟨l, ns, e, n1, n2, q, lm⟩ := a
  exact ⟨l, ns, e, n1, n2, by rw [upd_ne n1]; exact q, lm⟩
def rTo (K : PySem.W.Frag) : List V → Hp → VK → Prop := fun xs H Q => ∃ p ys, xs = [V.ref p] ∧ ((SqL K H p ys ∧ ∀ (l : Addr), H l = none → Q (V.ref l) (L2.upd H l (HO.tup ys))) ∨ (SqT K H p ys ∧ Q (V.ref p) H))
theorem cut_ints (ns : List Int) (lo hi : Option Int) : cutV (ns.map V.int) lo hi = ((ns.drop (HT.sIx ns.length 0 lo)).take (HT.sIx ns.length ns.length hi - HT.sIx ns.length 0 lo)).map V.int := by
  unfold cutV
  rw [List.length_map, List.map_take, List.map_drop]
theorem cut_len (ns : List Int) (lo hi : Option Int) : ((ns.drop (HT.sIx ns.length 0 lo)).take (HT.sIx ns.length ns.length hi - HT.sIx ns.length 0 lo)).length ≤ ns.length := by
  rw [List.length_take, List.length_drop]
  omega
theorem lists_dp {m : Nat} {h L : Addr} {H : Hp} : ∀ xs : List V, (∀ v ∈ xs, Li m h L H v) → ∃ ds, DpAll K H xs ds ∧ PyData.canLayAll0 ds = true ∧ PyData.depthAll ds ≤ 3
  | [], _ => ⟨[], .nil, by simp [PyData.canLayAll0], by simp [PyData.depthAll]⟩
  | v :: r, q => by
    obtain ⟨ds, q1, q2, q3⟩ := lists_dp r (fun w hw => q w (List.mem_cons_of_mem _ hw))
    obtain ⟨l, ns, rfl, _, _, e, _⟩ := q v List.mem_cons_self
    refine ⟨.list (ns.map PyData.int) :: ds, .cons (.lst (SqL.of e) (dpAll_ints ns)) q1, ?_, ?_⟩
    · simp [PyData.canLayAll0, PyData.canLay0, q2, lay_ints ns]
    · have := depth_ints ns
      simp only [PyData.depthAll, PyData.depth]
      omega
def spCase : Sp := fun vs H Q _ => ∃ (h : Addr) (n md mw : Int), vs = [.ref h, .int md, .int mw] ∧ 0 ≤ md ∧ md ≤ 20 ∧ 0 ≤ mw ∧ mw ≤ 16 ∧ Hand n H h ∧ n + 2000 ≤ far ∧
  ∀ t a b xs hs (ws : List Int) H', H' t = some (.tup [.ref a, .ref b]) → H' a = some (.tup xs) → Hl H' xs hs → hs.length ≤ 20 → H' b = some (.tup (ws.map V.int)) → ws.length ≤ 20 → Hand (n + 1000) H' h → But h H H' → Q (.ref t) H'
theorem ok_case {f : Addr} {fd : FuncData} (D : Df K mg "_law_case" ["_law_hand_here", "_law_most_discs", "_law_most_wishes"] sCase f fd) (T : Txt mg) (cT : Ca P w K mg base 1 "_law_take" ["_law_hand_here", "_law_many"] spTake) (cP : Ca P w K mg base 2 "_law_pick" ["_law_hand_here", "_law_some_here"] spPick) (cNu : Ca P w K mg base 3 "_law_numbers" ["_law_hand_here", "_law_many"] spNumbers) : FnOk P w K mg base CX0 4 f fd ["_law_hand_here", "_law_most_discs", "_law_most_wishes"] spCase := by
  refine D.fn.ok scCase (fun vs H Q E h => ?_) (fun cdv A outer s H vs Q E hr h => ?_)
  · obtain ⟨h, n, md, mw, rfl, d0, d1, w0, w1, hh, hn, q⟩ := h
    rfl
  · obtain ⟨h, n, md, mw, rfl, d0, d1, w0, w1, hh, hn, q⟩ := h
    refine ⟨_, (pss_cons (ps_set (i := 3) scCase.nd rfl (.inl rfl) (pe_ca cNu hr (by decide) (by rfl) (pa_cons (pv 0) (pa_cons (pe_op op_add pe_int (pe_ca cT hr (by decide) (by rfl) (pa_cons (pv 0) (pa_cons (pe_op op_add (pv 2) pe_int) pa_nil)))) pa_nil))))
      (pss_cons (ps_set (i := 4) scCase.nd rfl (.inl rfl) (pe_slice sl_list (pe_lc (own := [("_law_one", 10)]) (g := gName 10) (by rfl) scCase.nd (pi_list (pv 3)) (blkOk_by (own := [("_law_one", 10)]) (N := ["_law_hand_here", "_law_most_discs", "_law_most_wishes", "_law_things", "_law_wishes", "_law_thin", "_law_held", "_law_k", "_law_wish", "_law_spot", "_law_one", "_law_some_here"]) (sc := defScope sCase) (by decide +kernel)) (fun _ _ _ _ _ => pg_name (i := 10) scCase.nd rfl (.inl rfl)) (fun _ _ _ _ _ => (pts_one (pt_cmpR op_gt (pe_ca cT hr (by decide) (by rfl) (pa_cons (pv 0) (pa_cons pe_int pa_nil))) pe_int (nomark _)))) (fun _ _ _ _ _ => pv 10)) po_none (po_some (pv 2))))
      (pss_cons (ps_asg (pe_tup (pa_cons (pe_ca cP hr (by decide) (by rfl) (pa_cons (pv 0) (pa_cons (pe_lst (pa_cons pe_int (pa_cons pe_int (pa_cons pe_int (pa_cons pe_int (pa_cons pe_int pa_nil)))))) pa_nil))) (pa_cons (pe_lst pa_nil) pa_nil))) (pg_tup (by rfl) (pgs_cons (pg_name (i := 5) scCase.nd rfl (.inr rfl)) (pgs_cons (pg_name (i := 6) scCase.nd rfl (.inl rfl)) pgs_nil))))
      (pss_cons (ps_for PassesOwn.never rfl (pi_range1 (by rfl) T.range (pa_cons (pe_ca cT hr (by decide) (by rfl) (pa_cons (pv 0) (pa_cons (pe_op op_add (pv 1) pe_int) pa_nil))) pa_nil)) (pg_name (i := 7) scCase.nd rfl (.inl rfl)) (pss_one (ps_expr (pe_bm PySem.F.plainAttrs_list PySem.F.slot_list_append PySem.F.type_list_append mt_append (pv 6) (pa_cons (pe_lc (own := [("_law_one", 10)]) (g := gName 10) (by rfl) scCase.nd (pi_list (pv 3)) (blkOk_by (own := [("_law_one", 10)]) (N := ["_law_hand_here", "_law_most_discs", "_law_most_wishes", "_law_things", "_law_wishes", "_law_thin", "_law_held", "_law_k", "_law_wish", "_law_spot", "_law_one", "_law_some_here"]) (sc := defScope sCase) (by decide +kernel)) (fun _ _ _ _ _ => pg_name (i := 10) scCase.nd rfl (.inl rfl)) (fun _ _ _ _ _ => (pts_one (pt_cmpR op_eq (pe_ca cT hr (by decide) (by rfl) (pa_cons (pv 0) (pa_cons (pv 5) pa_nil))) pe_int (nomark _)))) (fun _ _ _ _ _ => pv 10)) pa_nil)))))
      (C8.pss_cut (ps_if (PW.pt (pw_and (pt_cmpR (op_neD hr.units) (pv 6) (pe_lst pa_nil) (nomark _)) (pw_and1 (pt_cmpR op_gt (pe_ca cT hr (by decide) (by rfl) (pa_cons (pv 0) (pa_cons pe_int pa_nil))) pe_int (nomark _))))) (pss_one (ps_for PassesOwn.never rfl (pi_list (pv 4)) (pg_name (i := 8) scCase.nd rfl (.inr rfl)) (pss_one (ps_if (pt_not (pt_val (pe_callB (cr_any (by rfl)) (by rfl) T.any (by decide +kernel) (pa_cons (pe_lc (own := [("_law_some_here", 11)]) (g := gName 11) (tt := tYes) (te := tOp (rIn K false) (tVar 8) (tVar 11)) (by rfl) scCase.nd (pi_list (pv 6)) (blkOk_by (own := [("_law_some_here", 11)]) (N := ["_law_hand_here", "_law_most_discs", "_law_most_wishes", "_law_things", "_law_wishes", "_law_thin", "_law_held", "_law_k", "_law_wish", "_law_spot", "_law_one", "_law_some_here"]) (sc := defScope sCase) (by decide +kernel)) (fun _ _ _ _ _ => pg_name (i := 11) scCase.nd rfl (.inl rfl)) (fun _ _ _ _ _ => pts_nil) (fun _ _ _ _ _ => pe_cmpR op_in_seq (pv 8) (pv 11) (by rfl))) pa_nil)))) (pss_cons (ps_set (i := 9) scCase.nd rfl (.inl rfl) (pe_ca cT hr (by decide) (by rfl) (pa_cons (pv 0) (pa_cons (pe_callB call_len_seq (by rfl) T.len PySem.boot_len (pa_cons (pv 6) pa_nil)) pa_nil))))
      (pss_one (ps_asg (pe_callB cr_sortedI (by rfl) T.sorted (by decide +kernel) (pa_cons (pe_op op_cat (pe_ix ix_list (pv 6) (pv 9) (fun _ _ => rfl)) (pe_lst (pa_cons (pv 8) pa_nil))) pa_nil)) (pg_sub (pv 6) (pv 9) set_list)))) pss_nil)))) pss_nil)
      (pss_one (ps_ret (pe_tup (pa_cons (pe_callTy call_tuple_of (by rfl) T.tuple (by decide +kernel) (pa_cons (pe_lc (own := [("_law_some_here", 11)]) (g := gName 11) (tt := tYes) (te := tCB (rTo K) (tCons (tVar 11) tNil)) (by rfl) scCase.nd (pi_list (pv 6)) (blkOk_by (own := [("_law_some_here", 11)]) (N := ["_law_hand_here", "_law_most_discs", "_law_most_wishes", "_law_things", "_law_wishes", "_law_thin", "_law_held", "_law_k", "_law_wish", "_law_spot", "_law_one", "_law_some_here"]) (sc := defScope sCase) (by decide +kernel)) (fun _ _ _ _ _ => pg_name (i := 11) scCase.nd rfl (.inl rfl)) (fun _ _ _ _ _ => pts_nil) (fun _ _ _ _ _ => pe_callTy call_tuple_of (by rfl) T.tuple (by decide +kernel) (pa_cons (pv 11) pa_nil))) pa_nil)) (pa_cons (pe_callTy call_tuple_of (by rfl) T.tuple (by decide +kernel) (pa_cons (pv 4) pa_nil)) pa_nil)))))))))), ?_⟩
    have fr : n + 2000 ≤ 1000000 := hn
    refine ⟨_, rfl, _, rfl, _, rfl, mw, 4, rfl, rfl, h, mw + 4, n, rfl, by omega, lt30' (by omega), hh, by show n ≤ 1000000; omega, fun d H1 e0 e1 h1 b1 => ?_⟩
    refine ⟨1, d, rfl, rfl, h, n + 1, 1 + d, rfl, by omega, by omega, h1, by show n + 1 + 100 ≤ 1000000; omega, fun L ns H2 eL Lh nL ln h2 b2 => ?_⟩
    have bt2 : But h H H2 := b1.trans b2
    have ns20 : ns.length ≤ 20 := by omega
    clear b1 b2 h1
    -- wishes
    have h2' : Hand (n + 31) H2 h := h2.mono (by omega)
    refine ⟨_, rfl, L, rfl, ⟨_, SqL.of eL⟩, fun D nD => ?_⟩
    have Dh := h2'.fresh nD
    refine lc_list (K := K) (a := L) (xs := ns.map V.int) (fun i Hi => ∃ ws : List Int, Hi D = some (.lst (ws.map V.int)) ∧ ws.length ≤ i ∧ Hand (n + 31 + i) Hi h ∧ But h H2 Hi) ⟨[], upd_same, Nat.le_refl _, (h2'.same (same_upd nD)).mono (by omega), Same.but (same_upd nD) h⟩ ?_ ?_ ?_
    · rintro i Hi _ ⟨ws, _, _, _, bi⟩
      exact SqL.of (bi _ _ Lh eL)
    · rintro i x Hi hx ⟨ws, eD, lw, hdi, bi⟩
      rw [List.getElem?_map] at hx
      obtain ⟨g, eg, rfl⟩ := Option.map_eq_some_iff.mp hx
      have il : i < ns.length := (List.getElem?_eq_some_iff.mp eg).1
      refine ⟨rfl, ?_⟩
      refine ⟨_, rfl, h, 5, n + 31 + i, rfl, by decide, by decide, hdi, by show n + 31 + (i : Int) ≤ 1000000; omega, fun d H3 e0 e1 h3 b3 => ⟨d, 0, rfl, rfl, _, rfl, ite2 (fun e => ?_) (fun e => ?_)⟩⟩
      · refine ⟨_, rfl, _, b3 _ _ Dh eD, ?_, ws ++ [g], by rw [upd_same, List.map_append]; rfl, ?_, (h3.upd (Ne.symm Dh)).mono (by omega), fun b x nb e => ?_⟩
        · rw [List.length_map]
          exact Nat.lt_of_le_of_lt (show ws.length ≤ 100 by omega) (by decide)
        · rw [List.length_append]
          exact Nat.add_le_add_right lw 1
        · rw [upd_ne (ne_of_none e nD)]
          exact b3 b x nb (bi b x nb e)
      · exact ⟨ws, b3 _ _ Dh eD, Nat.le_succ_of_le lw, h3.mono (by omega), bi.trans b3⟩
    rintro H3 ⟨ws0, eD, lw, h3, b3⟩
    rw [List.length_map] at lw h3
    refine ⟨_, rfl, mw, rfl, D, _, rfl, SqL.of eD, fun W nW => ?_⟩
    obtain ⟨ws, ews, lws⟩ : ∃ ws : List Int, cutV (ws0.map V.int) none (some mw) = ws.map V.int ∧ ws.length ≤ 20 := ⟨_, cut_ints ws0 none (some mw), Nat.le_trans (cut_len ws0 none (some mw)) (by omega)⟩
    rw [ews]
    have h3' : Hand (n + 60) H3 h := h3.mono (by omega)
    have sW := same_upd nW (o := .lst (ws.map V.int))
    have eW : (upd H3 W (.lst (ws.map V.int))) W = some (.lst (ws.map V.int)) := upd_same
    have eL3 := sW _ _ (b3 _ _ Lh eL)
    have hW := h3'.same sW
    have Wh := h3'.fresh nW
    have btW : But h H (upd H3 W (.lst (ws.map V.int))) := (bt2.trans b3).trans (Same.but sW h)
    generalize upd H3 W (.lst (ws.map V.int)) = H4 at eW eL3 hW btW ⊢
    clear b3 h3 h3' sW eD lw ews nW h2 h2' nD
    -- thin, held
    refine ⟨_, rfl, (by show 5 ≤ sizeLine; decide), fun l1 n1 => ?_⟩
    have s1 := same_upd n1 (o := .lst [.int 2, .int 2, .int 3, .int 4, .int 6])
    refine ⟨h, n + 60, _, rfl, hW.same s1, by show n + 60 ≤ 1000000; omega, .inl ⟨l1, _, rfl, upd_same, hW.fresh n1, by simp, by show 5 < 1000; decide, fun v H5 mv h5 b5 => ?_⟩⟩
    obtain ⟨th, rfl, th1, th2⟩ : ∃ i : Int, v = .int i ∧ 0 < i ∧ i < 1000 := by
      simp only [List.mem_cons, List.not_mem_nil, or_false] at mv
      rcases mv with e | e | e | e | e <;> exact ⟨_, e, by decide, by decide⟩
    refine ⟨(by show 0 ≤ sizeLine; decide), fun HL nHL => ⟨(by show 2 ≤ sizeLine; decide), fun tp ntp => ?_⟩⟩
    have sH := same_upd nHL (o := .lst [])
    have sP := same_upd ntp (o := .tup [.int th, .ref HL])
    have HLh := h5.fresh nHL
    have h6 := (h5.same sH).same sP
    have bt6 := (btW.trans (Same.but s1 h)).trans (b5.trans (Same.but (sH.trans sP) h))
    have eW6 := sP _ _ (sH _ _ (b5 _ _ Wh (s1 _ _ eW)))
    have eL6 := sP _ _ (sH _ _ (b5 _ _ Lh (s1 _ _ eL3)))
    have eH6 : (upd (upd H5 HL (.lst [])) tp (.tup [.int th, .ref HL])) HL = some (.lst []) := sP _ _ upd_same
    have WHL : W ≠ HL := ne_of_none (b5 _ _ Wh (s1 _ _ eW)) nHL
    have LHL : L ≠ HL := ne_of_none (b5 _ _ Lh (s1 _ _ eL3)) nHL
    have nH0 : H HL = none := by
      cases z : H HL with
      | none => rfl
      | some x =>
        have := b5 _ _ HLh (s1 _ _ (btW _ _ HLh z))
        rw [nHL] at this
        cases this
    refine ⟨tp, _, rfl, SqT.of upd_same, rfl, ?_⟩
    generalize upd (upd H5 HL (.lst [])) tp (.tup [.int th, .ref HL]) = H6 at h6 bt6 eW6 eL6 eH6 ⊢
    clear b5 h5 s1 sH sP btW eW eL3 hW eL nHL ntp n1 mv
    refine ⟨_, _, rfl, _, _, rfl, rfl, ?_⟩
    refine ⟨_, rfl, _, rfl, md, 1, rfl, rfl, h, md + 1, n + 61, rfl, by omega, lt30' (by omega), h6.mono (by omega), by show n + 61 ≤ 1000000; omega, fun dk H7 dk0 dk1 h7 b7 => ?_⟩
    refine ⟨_, rfl, by omega, by omega, for_range (lo := 0) (n := dk.toNat) (fun k σ Hi => ∃ (xs : List V) (c7 c8 c9 c10 c11 : Option V), σ = [some (.ref h), some (.int md), some (.int mw), some (.ref L), some (.ref W), some (.int th), some (.ref HL), c7, c8, c9, c10, c11] ∧ Hi HL = some (.lst xs) ∧ xs.length = k ∧ (∀ v ∈ xs, Li 20 h HL Hi v) ∧
        Hi L = some (.lst (ns.map V.int)) ∧ Hi W = some (.lst (ws.map V.int)) ∧ Hand (n + 62 + 30 * k) Hi h ∧ But h H Hi) ?_ ?_ ?_⟩
    · exact ⟨[], _, _, _, _, _, rfl, b7 _ _ HLh eH6, rfl, by simp, b7 _ _ Lh eL6, b7 _ _ Wh eW6, h7.mono (by omega), bt6.trans b7⟩
    · rintro k σ Hi hk ⟨xs, c7, c8, c9, c10, c11, rfl, eHi, lx, cx, eLi, eWi, hdi, bi⟩
      have k20 : k < 20 := by omega
      refine ⟨_, rfl, .inl ⟨rfl, _, SqL.of eHi⟩, _, rfl, L, rfl, ⟨_, SqL.of eLi⟩, fun D nD => ?_⟩
      have Dh := hdi.fresh nD
      refine lc_list (K := K) (a := L) (xs := ns.map V.int) (fun i Hj => ∃ gs : List Int, Hj D = some (.lst (gs.map V.int)) ∧ gs.length ≤ i ∧ Hand (n + 62 + 30 * k + i) Hj h ∧ But h Hi Hj) ⟨[], upd_same, Nat.le_refl _, (hdi.same (same_upd nD)).mono (by omega), Same.but (same_upd nD) h⟩ ?_ ?_ ?_
      · rintro i Hj _ ⟨gs, _, _, _, bj⟩
        exact SqL.of (bj _ _ Lh eLi)
      · rintro i x Hj hx ⟨gs, eD, lg, hdj, bj⟩
        rw [List.getElem?_map] at hx
        obtain ⟨g, eg, rfl⟩ := Option.map_eq_some_iff.mp hx
        have il : i < ns.length := (List.getElem?_eq_some_iff.mp eg).1
        refine ⟨rfl, ?_⟩
        refine ⟨_, rfl, _, rfl, h, th, n + 62 + 30 * k + i, rfl, th1, lt30' th2, hdj, by show n + 62 + 30 * (k : Int) + i ≤ 1000000; omega, fun d H3 e0 e1 h3 b3 => ⟨rfl, _, rfl, ite2 (fun e => ?_) (fun e => ?_)⟩⟩
        · refine ⟨_, rfl, _, b3 _ _ Dh eD, ?_, gs ++ [g], by rw [upd_same, List.map_append]; rfl, ?_, (h3.upd (Ne.symm Dh)).mono (by omega), fun b x nb e => ?_⟩
          · rw [List.length_map]
            exact Nat.lt_of_le_of_lt (show gs.length ≤ 100 by omega) (by decide)
          · rw [List.length_append]
            exact Nat.add_le_add_right lg 1
          · rw [upd_ne (ne_of_none e nD)]
            exact b3 b x nb (bj b x nb e)
        · exact ⟨gs, b3 _ _ Dh eD, Nat.le_succ_of_le lg, h3.mono (by omega), bj.trans b3⟩
      rintro H8 ⟨gs, eD, lg, h8, b8⟩
      rw [List.length_map] at h8
      have DHL : D ≠ HL := Ne.symm (ne_of_none eHi nD)
      refine ⟨HL, _, _, rfl, rfl, b8 _ _ HLh eHi, ?_, ?_⟩
      · rw [lx]
        exact Nat.lt_of_le_of_lt (show k ≤ 100 by omega) (by decide)
      · refine ⟨xs ++ [.ref D], _, _, _, _, _, rfl, upd_same, by rw [List.length_append, lx]; rfl, ?_, by rw [upd_ne LHL]; exact b8 _ _ Lh eLi, by rw [upd_ne WHL]; exact b8 _ _ Wh eWi, (h8.upd (Ne.symm HLh)).mono (by omega), fun b x nb e => ?_⟩
        · intro v hv
          rcases List.mem_append.mp hv with z | z
          · exact ((cx v z).but b8).upd
          · rw [List.mem_singleton.mp z]
            exact ⟨D, gs, rfl, DHL, Dh, by rw [upd_ne DHL]; exact eD, by rw [List.length_map] at lg; omega⟩
        · rw [upd_ne (ne_of_none e nH0)]
          exact b8 b x nb (bi b x nb e)
    rintro σ H9 ⟨xs, c7, c8, c9, c10, c11, rfl, eH9, lx, cx, eL9, eW9, h9, b9⟩
    have lx20 : xs.length ≤ 20 := by omega
    have h9' : Hand (n + 700) H9 h := h9.mono (by omega)
    have flat : ∀ gs : List Int, (gs.map V.int).all flatV = true := fun gs => by
      rw [List.all_eq_true]
      intro v hv
      obtain ⟨g, _, rfl⟩ := List.mem_map.mp hv
      rfl
    clear h9 h7 b7 h6 bt6 eW6 eL6 eH6 bt2
    refine ⟨fun σ Hi => ∃ (ys : List V) (c7 c8 c9 c10 c11 : Option V), σ = [some (.ref h), some (.int md), some (.int mw), some (.ref L), some (.ref W), some (.int th), some (.ref HL), c7, c8, c9, c10, c11] ∧ Hi HL = some (.lst ys) ∧ ys.length ≤ 20 ∧ (∀ v ∈ ys, Li 40 h HL Hi v) ∧
        Hi W = some (.lst (ws.map V.int)) ∧ Hand (n + 800) Hi h ∧ But h H Hi, ?_, ?_⟩
    · have up : ∀ {Hi : Hp} {ys : List V} {m : Nat}, m ≤ 40 → (∀ v ∈ ys, Li m h HL Hi v) → ∀ v ∈ ys, Li 40 h HL Hi v := fun hm q v hv => by
        obtain ⟨l, gs, e, n1, n2, e2, lg⟩ := q v hv
        exact ⟨l, gs, e, n1, n2, e2, Nat.le_trans lg hm⟩
      refine ⟨_, rfl, (by show 0 ≤ sizeLine; decide), fun le nle => ?_⟩
      have se := same_upd nle (o := .lst [])
      have bE : But h H9 (upd H9 le (.lst [])) := Same.but se h
      obtain ⟨ds, q1, q2, q3⟩ := lists_dp (K := K) xs (fun v hv => (cx v hv).but bE)
      refine ⟨.list ds, .list [], .lst (SqL.of (se _ _ eH9)) q1, .lst (SqL.of upd_same) .nil, shaped_list q2 q3, rfl, _, rfl, ite2 (fun e => ?_) (fun e => ?_)⟩
      · have xne : xs ≠ [] := fun z => by
          subst z
          cases q1
          simp [PyData.eqv, PyData.eqvAll] at e
        have xpos : 0 < xs.length := List.length_pos_iff.mpr xne
        refine ⟨_, rfl, h, 4, n + 700, rfl, by decide, by decide, h9'.same se, by show n + 700 ≤ 1000000; omega, fun d Ha d0' d1' ha ba => ⟨d, 0, rfl, rfl, _, rfl, ite2 (fun e2 => ?_) (fun e2 => ?_)⟩⟩
        · have bA : But h H9 Ha := bE.trans ba
          refine ⟨_, rfl, W, rfl, ⟨_, SqL.of (bA _ _ Wh eW9)⟩, ?_⟩
          refine for_list (K := K) (a := W) (xs := ws.map V.int) (fun i σ Hi => ∃ (ys : List V) (c7 c8 c9 c10 c11 : Option V), σ = [some (.ref h), some (.int md), some (.int mw), some (.ref L), some (.ref W), some (.int th), some (.ref HL), c7, c8, c9, c10, c11] ∧ Hi HL = some (.lst ys) ∧ ys.length = xs.length ∧ (∀ v ∈ ys, Li (20 + i) h HL Hi v) ∧
            Hi W = some (.lst (ws.map V.int)) ∧ Hand (n + 701 + i) Hi h ∧ But h H Hi) ?_ ?_ ?_ ?_
          · exact ⟨xs, _, _, _, _, _, rfl, bA _ _ HLh eH9, rfl, fun v hv => (cx v hv).but bA, bA _ _ Wh eW9, ha.mono (by omega), b9.trans bA⟩
          · rintro i σ Hi _ ⟨ys, _, _, _, _, _, _, _, _, _, e, _⟩
            exact SqL.of e
          · rintro i x σ Hi hx ⟨ys, c7, c8, c9, c10, c11, rfl, eHi, ly, cy, eWi, hdi, bi⟩
            rw [List.getElem?_map] at hx
            obtain ⟨g, eg, rfl⟩ := Option.map_eq_some_iff.mp hx
            have il : i < ws.length := (List.getElem?_eq_some_iff.mp eg).1
            refine ⟨_, rfl, HL, rfl, ⟨_, SqL.of eHi⟩, fun D nD => ?_⟩
            refine lc_list (K := K) (a := HL) (xs := ys) (fun j Hj => L2.Same Hi Hj ∧ ∃ bs : List Bool, Hj D = some (.lst (bs.map V.bl)) ∧ bs.length = j) ⟨same_upd nD, [], upd_same, rfl⟩ ?_ ?_ ?_
            · rintro j Hj _ ⟨sj, _⟩
              exact SqL.of (sj _ _ eHi)
            · rintro j v Hj hv ⟨sj, bs, eD, lb⟩
              have jl : j < ys.length := (List.getElem?_eq_some_iff.mp hv).1
              obtain ⟨l, gs, rfl, n1, n2, el, lg⟩ := cy v (List.mem_of_getElem? hv)
              refine ⟨rfl, ?_⟩
              unfold tYes
              refine iteT ⟨_, rfl, _, rfl, l, _, rfl, .inl (SqL.of (sj _ _ el)), rfl, flat gs, ?_⟩
              refine ⟨_, eD, ?_, fun b x e => ?_, bs ++ [inV (.int g) (gs.map V.int)], by rw [upd_same, List.map_append]; rfl, by rw [List.length_append, lb]; rfl⟩
              · rw [List.length_map, lb]
                exact Nat.lt_of_le_of_lt (show j ≤ 100 by omega) (by decide)
              · rw [upd_ne (ne_of_none e nD)]
                exact sj b x e
            rintro Hb ⟨sb, bs, eD, lb⟩
            refine ⟨D, bs, rfl, SqL.of eD, _, rfl, ite2 (fun e3 => ?_) (fun e3 => ?_)⟩
            · refine ⟨_, rfl, _, rfl, HL, ys, rfl, .inl (SqL.of (sb _ _ eHi)), h, (ys.length : Int), n + 701 + i, rfl, by omega, lt30' (by omega), hdi.same sb, by show n + 701 + (i : Int) ≤ 1000000; omega, fun d Hc f0 f1 hc bc => ?_⟩
              have bC : But h Hi Hc := (Same.but sb h).trans bc
              obtain ⟨j, rfl⟩ : ∃ j : Nat, d = (j : Int) := ⟨d.toNat, by omega⟩
              have hj : j < ys.length := by omega
              obtain ⟨l, gs, el', n1, n2, el, lg⟩ := cy ys[j] (List.getElem_mem hj)
              have eHc := bC _ _ HLh eHi
              refine ⟨_, rfl, _, rfl, HL, ys, _, .ref l, rfl, rfl, SqL.of eHc, atI_nat (by rw [List.getElem?_eq_getElem hj, el']), ?_⟩
              refine ⟨_, rfl, (by show 1 ≤ sizeLine; decide), fun lw nlw => ?_⟩
              have slw := same_upd nlw (o := .lst [.int g])
              refine ⟨l, lw, _, _, rfl, rfl, slw _ _ (bC _ _ n2 el), upd_same, ?_, fun lc nlc => ?_⟩
              · rw [List.length_map]
                exact Nat.le_trans (show gs.length + 1 ≤ 100 by omega) (by decide)
              have slc := same_upd nlc (o := .lst (gs.map V.int ++ [.int g]))
              refine ⟨lc, gs ++ [g], rfl, SqL.of (by rw [upd_same, List.map_append]; rfl), fun ns' p perm _ np => ?_⟩
              have sp := same_upd np (o := .lst (ns'.map V.int))
              have sA := (slw.trans slc).trans sp
              have eHp := sA _ _ eHc
              refine ⟨_, rfl, _, rfl, HL, _, _, j, rfl, rfl, eHp, ixN_nat hj, ?_⟩
              have ph := ((hc.same slw).same slc).fresh np
              have pHL : p ≠ HL := Ne.symm (ne_of_none (slc _ _ (slw _ _ eHc)) np)
              have bF : But h Hi (upd (upd (upd Hc lw (.lst [.int g])) lc (.lst (gs.map V.int ++ [.int g]))) p (.lst (ns'.map V.int))) := bC.trans (Same.but sA h)
              refine ⟨_, _, _, _, _, _, rfl, upd_same, by rw [List.length_set]; exact ly, fun v hv => ?_, by rw [upd_ne WHL]; exact bF _ _ Wh eWi, ((hc.same sA).upd (Ne.symm HLh)).mono (by omega), fun b x nb e => ?_⟩
              · rcases List.mem_or_eq_of_mem_set hv with z | z
                · obtain ⟨l2, g2, r1, r2, r3, r4, r5⟩ := ((cy v z).but bF).upd (o := .lst (ys.set j (.ref p)))
                  exact ⟨l2, g2, r1, r2, r3, r4, by omega⟩
                · subst z
                  refine ⟨p, ns', rfl, pHL, ph, by rw [upd_ne pHL, upd_same], ?_⟩
                  rw [perm.length_eq, List.length_append]
                  show gs.length + 1 ≤ _
                  omega
              · rw [upd_ne (ne_of_none e nH0)]
                exact bF b x nb (bi b x nb e)
            · refine ⟨ys, _, _, _, _, _, rfl, sb _ _ eHi, ly, fun v hv => ?_, sb _ _ eWi, (hdi.same sb).mono (by omega), bi.trans (Same.but sb h)⟩
              obtain ⟨l2, g2, r1, r2, r3, r4, r5⟩ := (cy v hv).but (Same.but sb h)
              exact ⟨l2, g2, r1, r2, r3, r4, by omega⟩
          · rintro σ Hz ⟨ys, c7, c8, c9, c10, c11, rfl, eHi, ly, cy, eWi, hdi, bi⟩
            rw [List.length_map] at cy hdi
            exact ⟨ys, _, _, _, _, _, rfl, eHi, by omega, up (by omega) cy, eWi, hdi.mono (by omega), bi⟩
        · have bA : But h H9 Ha := bE.trans ba
          exact ⟨xs, _, _, _, _, _, rfl, bA _ _ HLh eH9, lx20, up (by decide) (fun v hv => (cx v hv).but bA), bA _ _ Wh eW9, ha.mono (by omega), b9.trans bA⟩
      · exact ⟨xs, _, _, _, _, _, rfl, se _ _ eH9, lx20, up (by decide) (fun v hv => (cx v hv).but bE), se _ _ eW9, (h9'.same se).mono (by omega), b9.trans bE⟩
    rintro σ Hi ⟨ys, c7, c8, c9, c10, c11, rfl, eHi, ly, cy, eWi, hdi, bi⟩
    refine ⟨_, rfl, HL, rfl, ⟨_, SqL.of eHi⟩, fun D nD => ?_⟩
    refine lc_list (K := K) (a := HL) (xs := ys) (fun j Hj => L2.Same Hi Hj ∧ ∃ zs : List V, Hj D = some (.lst zs) ∧ zs.length = j ∧ ∀ v ∈ zs, ∃ t, ∃ gs : List Int, v = .ref t ∧ Hj t = some (.tup (gs.map V.int))) ⟨same_upd nD, [], upd_same, rfl, by simp⟩ ?_ ?_ ?_
    · rintro j Hj _ ⟨sj, _⟩
      exact SqL.of (sj _ _ eHi)
    · rintro j v Hj hv ⟨sj, zs, eD, lz, cz⟩
      have jl : j < ys.length := (List.getElem?_eq_some_iff.mp hv).1
      obtain ⟨l, gs, rfl, n1, n2, el, lg⟩ := cy v (List.mem_of_getElem? hv)
      refine ⟨rfl, ?_⟩
      unfold tYes
      refine iteT ⟨_, rfl, l, _, rfl, .inl ⟨SqL.of (sj _ _ el), fun p np => ?_⟩⟩
      have sp := same_upd np (o := .tup (gs.map V.int))
      have pD : p ≠ D := Ne.symm (ne_of_none eD np)
      refine ⟨_, sp _ _ eD, ?_, fun b x e => ?_, zs ++ [.ref p], upd_same, by rw [List.length_append, lz]; rfl, fun v hv => ?_⟩
      · rw [lz]
        exact Nat.lt_of_le_of_lt (show j ≤ 100 by omega) (by decide)
      · rw [upd_ne (ne_of_none e nD)]
        exact sp _ _ (sj b x e)
      · rcases List.mem_append.mp hv with z | z
        · obtain ⟨t, g2, e1, e2⟩ := cz v z
          refine ⟨t, g2, e1, ?_⟩
          rw [upd_ne (fun q => by rw [q, eD] at e2; cases e2)]
          exact sp _ _ e2
        · rw [List.mem_singleton.mp z]
          exact ⟨p, gs, rfl, by rw [upd_ne pD, upd_same]⟩
    rintro Hb ⟨sb, zs, eD, lz, cz⟩
    refine ⟨D, zs, rfl, .inl ⟨SqL.of eD, fun ta nta => ?_⟩⟩
    have s1 := same_upd nta (o := .tup zs)
    refine ⟨_, rfl, W, _, rfl, .inl ⟨SqL.of (s1 _ _ (sb _ _ eWi)), fun tb ntb => ?_⟩⟩
    have s2 := same_upd ntb (o := .tup (ws.map V.int))
    refine ⟨(by show 2 ≤ sizeLine; decide), fun tt ntt => ?_⟩
    have s3 := same_upd ntt (o := .tup [.ref ta, .ref tb])
    have sA := (s1.trans s2).trans s3
    obtain ⟨hs, hl⟩ := Hl.of (H := upd (upd (upd Hb ta (.tup zs)) tb (.tup (ws.map V.int))) tt (.tup [.ref ta, .ref tb])) zs fun v hv => by
      obtain ⟨t, g2, e1, e2⟩ := cz v hv
      exact ⟨t, g2, e1, sA _ _ e2⟩
    have lhs := hl.len
    exact q tt ta tb zs hs ws _ upd_same (s3 _ _ (s2 _ _ upd_same)) hl (by omega) (s3 _ _ upd_same) lws (((hdi.same sb).same sA).mono (by omega)) (bi.trans (Same.but (sb.trans sA) h))
end
end K57
set_option Elab.async false
set_option linter.all false
set_option maxRecDepth 100000
set_option maxHeartbeats 4000000
set_option pp.maxSteps 400
set_option pp.deepTerms false
namespace K57
open PySem PySem.Spec PyProof.Rows L2
open Xk Az
section
variable {P : Program} {w : World} {K : PySem.W.Frag} {mg : Str → Option Value} {base : Heap}
section
variable {X : Cx}
def rSlU : V → Option Int → Option Int → Hp → VK → Prop := fun x lo hi H Q => ∃ a xs, x = .ref a ∧ H a = some (.tup xs) ∧ ∀ p H', L2.Same H H' → H' p = some (.tup (cutV xs lo hi)) → Q (.ref p) H'
theorem sl_tupU : SlR X rSlU := by
  intro pins s σ H x v vl vu lo hi sl Q I rx hs pl pu h
  obtain ⟨a, xs, rfl, e, q⟩ := h
  refine sl_tupA pins s σ H _ v vl vu lo hi sl Q I rx hs pl pu ⟨a, xs, rfl, SqT.of e, fun w => q a H (Same.refl H) ?_, fun _ p np => q p _ (same_upd np) upd_same⟩
  rw [e]
  unfold cutV
  rw [w.1, w.2, List.drop_zero, Nat.sub_zero, List.take_length]
def rCatU : R2 := fun x y H Q => ∃ a b xs ys, x = .ref a ∧ y = .ref b ∧ H a = some (.tup xs) ∧ H b = some (.tup ys) ∧ xs.length + ys.length ≤ sizeLine ∧ ∀ p H', L2.Same H H' → H' p = some (.tup (xs ++ ys)) → Q (.ref p) H'
theorem op_catU : OpR X (binaryOp .Add) rCatU := by
  intro pins s σ H x y v u Q I rx ry h
  obtain ⟨a, b, xs, ys, rfl, rfl, ea, eb, hz, q⟩ := h
  refine op_catA pins s σ H _ _ v u Q I rx ry ⟨a, b, xs, ys, rfl, rfl, SqT.of ea, SqT.of eb, hz, fun z => q b H (Same.refl H) ?_, fun _ z => q a H (Same.refl H) ?_, fun _ _ p np => q p _ (same_upd np) upd_same⟩
  · rw [z]; exact eb
  · rw [z, List.append_nil]; exact ea
end
theorem walk_zipM {a b : Addr} {xs ys : List V} {n : Nat} (l1 : n ≤ xs.length) (hn : n = ys.length) : Walk (RZ.ItzT K a b) n (fun H => SqT K H a xs ∧ SqT K H b ys) (YPair (fun i => xs[i]?) (fun i => ys[i]?)) := by
  refine ⟨fun i H hi s => ?_, fun H s => ⟨xs, ys, s.1, s.2, .inr (by omega)⟩, fun i H v H' hi s y => ?_⟩
  · exact ⟨xs, ys, xs[i]'(by omega), ys[i]'(by omega), s.1, s.2, List.getElem?_eq_getElem (by omega), List.getElem?_eq_getElem (by omega)⟩
  · obtain ⟨T, x, z, h1, h2, h3, h4, h5⟩ := y
    exact ⟨T, x, z, h1, h2, h3, h4 xs s.1, h5 ys s.2⟩
theorem cut1 (xs : List V) : cutV xs (some 1) none = xs.drop 1 := by
  unfold cutV
  have e1 : HT.sIx xs.length 0 (some 1) = min 1 xs.length := HT.sIx_nat xs.length 0 1
  have e2 : HT.sIx xs.length xs.length none = xs.length := rfl
  rw [e1, e2]
  cases xs with
  | nil => rfl
  | cons x r =>
    rw [show min 1 (x :: r).length = 1 by simp]
    exact List.take_of_length_le (by simp)
def bsR (ns : List Int) : List Bool := (List.range (ns.length - 1)).map fun i => decide (ns.getD i 0 < ns.getD (i + 1) 0)
def ris (ns : List Int) : Bool := (bsR ns).all id
theorem bsR_at {ns : List Int} {i : Nat} {x y : Int} (e1 : ns[i]? = some x) (e2 : (ns.drop 1)[i]? = some y) : (bsR ns)[i]? = some (decide (x < y)) := by
  rw [List.getElem?_drop, Nat.add_comm] at e2
  have h2 := (List.getElem?_eq_some_iff.mp e2).1
  unfold bsR
  rw [List.getElem?_map, List.getElem?_range (by omega)]
  simp [List.getD_eq_getElem?_getD, e1, e2]
def spRis : Sp := fun vs H Q _ => ∃ (a : Addr) (ns : List Int), vs = [.ref a] ∧ H a = some (.tup (ns.map V.int)) ∧ ns.length ≤ 1000 ∧ ∀ H', L2.Same H H' → Q (.bl (ris ns)) H'
theorem ok_ris {f : Addr} {fd : FuncData} (D : Df K mg "are_rising" ["things"] sAreRising f fd) (T : Txt mg) : FnOk P w K mg base CX0 1 f fd ["things"] spRis := by
  refine D.fn.ok scAreRising (fun vs H Q E h => ?_) (fun cdv A outer s H vs Q E hr h => ?_)
  · obtain ⟨a, ns, rfl, e, l1000, q⟩ := h
    rfl
  · obtain ⟨a, ns, rfl, e, l1000, q⟩ := h
    refine ⟨_, (pss_one (ps_ret (pe_callB (cr_all (by rfl)) (by rfl) T.all (by decide +kernel) (pa_cons (pe_lc (own := [("one", 1), ("other", 2)]) (g := (gTup K 2 (gCons (gName 1) (gCons (gName 2) gNil)))) (tt := tYes) (by rfl) scAreRising.nd (RZ.pi_zipA (by rfl) T.zip (pa_cons (pv 0) (pa_cons (pe_slice sl_tupU (pv 0) (po_some pe_int) po_none) pa_nil))) (blkOk_by (own := [("one", 1), ("other", 2)]) (N := ["things", "one", "other"]) (sc := defScope sAreRising) (by decide +kernel)) (fun _ _ _ _ _ => pg_tup (by rfl) (pgs_cons (pg_name (i := 1) scAreRising.nd rfl (.inl rfl)) (pgs_cons (pg_name (i := 2) scAreRising.nd rfl (.inl rfl)) pgs_nil))) (fun _ _ _ _ _ => pts_nil) (fun _ _ _ _ _ => pe_cmpR op_lt (pv 1) (pv 2) (nomark _))) pa_nil)))), ?_⟩
    refine ⟨_, rfl, _, rfl, 1, rfl, a, _, rfl, e, fun pz Hz sz ez => ?_⟩
    rw [cut1, ← List.map_drop] at ez
    refine ⟨a, pz, _, _, rfl, .inr ⟨SqT.of (sz _ _ e), SqT.of ez, fun Lz nLz => ?_⟩⟩
    refine lc_it (walk_zipM (K := K) (a := a) (b := pz) (xs := ns.map V.int) (ys := (ns.drop 1).map V.int) (n := ns.length - 1) (by rw [List.length_map]; omega) (by rw [List.length_map, List.length_drop])) (fun i Hi => L2.Same Hz Hi ∧ Hi Lz = some (.lst (((bsR ns).take i).map V.bl))) ⟨same_upd nLz, upd_same⟩ (fun i Hi _ p => ⟨SqT.of (p.1 _ _ (sz _ _ e)), SqT.of (p.1 _ _ ez)⟩) ?_ ?_
    · rintro i v Hi H' hi ⟨sm, hL⟩ ⟨t, x, z, rfl, nt, rfl, ex, ez'⟩
      have sm2 : L2.Same Hz (upd Hi t (.tup [x, z])) := sm.trans (same_upd nt)
      have hL2 : (upd Hi t (.tup [x, z])) Lz = some (.lst (((bsR ns).take i).map V.bl)) := same_upd nt _ _ hL
      replace ex : (ns.map V.int)[i]? = some x := ex
      replace ez' : ((ns.drop 1).map V.int)[i]? = some z := ez'
      rw [List.getElem?_map] at ex ez'
      obtain ⟨p, ep, rfl⟩ := Option.map_eq_some_iff.mp ex
      obtain ⟨r, er, rfl⟩ := Option.map_eq_some_iff.mp ez'
      refine ⟨t, _, rfl, SqT.of upd_same, rfl, _, _, rfl, _, _, rfl, rfl, rfl, ?_⟩
      unfold tYes
      refine iteT ⟨_, rfl, _, rfl, p, r, rfl, rfl, _, hL2, ?_, fun c o e => ?_, ?_⟩
      · rw [List.length_map, List.length_take]
        exact Nat.lt_of_le_of_lt (Nat.le_trans (Nat.min_le_left _ _) (show i ≤ 1000 by omega)) (by decide)
      · rw [upd_ne (ne_of_none e nLz)]
        exact sm2 _ _ e
      · rw [upd_same, List.take_add_one, bsR_at ep er, List.map_append]
        rfl
    · rintro He ⟨sm, hL⟩
      have tk : (bsR ns).take (ns.length - 1) = bsR ns := List.take_of_length_le (by unfold bsR; simp)
      rw [tk] at hL
      refine ⟨Lz, bsR ns, rfl, SqL.of hL, ?_⟩
      exact q He (sz.trans sm)
end
end K57
set_option Elab.async false
set_option linter.all false
set_option maxRecDepth 100000
set_option maxHeartbeats 4000000
set_option pp.maxSteps 400
set_option pp.deepTerms false
namespace K57
open PySem PySem.Spec PyProof.Rows L2
open Xk Az
section
variable {P : Program} {w : World} {K : PySem.W.Frag} {mg : Str → Option Value} {base : Heap}
def num : PyData → Int
  | .int i => i
  | _ => 0
def isTup : PyData → Bool
  | .tuple _ => true
  | _ => false
theorem z_tup : ∀ d : PyData, PySem.W.kitOne K (.type (kindD d)) (.type "tuple") = some (isTup d)
  | .none => kit_ty (a := "NoneType") (b := "tuple") (r := false) (by decide +kernel)
  | .bool _ => kit_ty (a := "bool") (b := "tuple") (r := false) (by decide +kernel)
  | .int _ => kit_ty (a := "int") (b := "tuple") (r := false) (by decide +kernel)
  | .str _ => kit_ty (a := "str") (b := "tuple") (r := false) (by decide +kernel)
  | .list _ => kit_ty (a := "list") (b := "tuple") (r := false) (by decide +kernel)
  | .tuple _ => kit_ty (a := "tuple") (b := "tuple") (r := true) (by decide +kernel)
  | .dict _ => kit_ty (a := "dict") (b := "tuple") (r := false) (by decide +kernel)
def hvL (hs : List (List Int)) (ns : List Int) (g : Int) : List Bool := ns.map fun k => inV (.int g) ((hs.getD k.toNat []).map V.int)
def hvA (hs : List (List Int)) (ns ws : List Int) : List Bool := ws.map fun g => (hvL hs ns g).any id
def hb (hs : List (List Int)) (ws : List Int) (d : PyData) : Bool := match d with
  | .tuple ds => if ds.all (inB 0 ((hs.length : Int) - 1)) = true then ris (ds.map num) && (hvA hs (ds.map num) ws).all id else false
  | _ => false
theorem inB_int {a b : Int} {d : PyData} (h : inB a b d = true) : ∃ i, d = .int i ∧ a ≤ i ∧ i ≤ b := by
  unfold inB at h
  cases d with
  | int i =>
    simp only [wh, Bool.and_eq_true, decide_eq_true_eq] at h
    exact ⟨i, rfl, h.1, h.2⟩
  | _ => cases h
theorem ints_of {H : Hp} {a b : Int} : ∀ {xs : List V} {ds : List PyData}, DzAll K H xs ds → ds.all (inB a b) = true → xs = (ds.map num).map V.int ∧ ∀ k ∈ ds.map num, a ≤ k ∧ k ≤ b
  | [], _, .nil, _ => ⟨rfl, by simp⟩
  | _ :: _, _, .cons (d := d) hd hr, h => by
    rw [List.all_cons, Bool.and_eq_true] at h
    obtain ⟨i, rfl, h1, h2⟩ := inB_int h.1
    obtain ⟨e, q⟩ := ints_of hr h.2
    cases hd
    refine ⟨by rw [List.map_cons, List.map_cons, ← e]; rfl, fun k hk => ?_⟩
    rw [List.map_cons] at hk
    rcases List.mem_cons.mp hk with z | z
    · rw [z]; exact ⟨h1, h2⟩
    · exact q k z
theorem dz_len {H : Hp} : ∀ {xs : List V} {ds : List PyData}, DzAll K H xs ds → xs.length = ds.length
  | [], _, .nil => rfl
  | _ :: _, _, .cons _ hr => by rw [List.length_cons, List.length_cons, dz_len hr]
theorem dz_get {H : Hp} : ∀ {xs : List V} {ds : List PyData} {i : Nat} {v : V}, DzAll K H xs ds → xs[i]? = some v → ∃ d, ds[i]? = some d ∧ Dz K H v d
  | [], _, _, _, .nil, e => by simp at e
  | _ :: _, _, 0, _, .cons hd _, e => by
    cases e
    exact ⟨_, rfl, hd⟩
  | _ :: _, _, i + 1, _, .cons _ hr, e => dz_get (i := i) hr e
def tl (d : PyData) : Prop := ∀ ds, d = .tuple ds → ds.length ≤ 1000
def rLn (K : PySem.W.Frag) : List V → Hp → VK → Prop := fun xs H Q => ∃ p ys, xs = [V.ref p] ∧ (SqL K H p ys ∨ SqT K H p ys) ∧ Q (V.int ys.length) H
theorem flat_ints (gs : List Int) : (gs.map V.int).all flatV = true := by
  rw [List.all_eq_true]
  intro v hv
  obtain ⟨g, _, rfl⟩ := List.mem_map.mp hv
  rfl
def spHeld (K : PySem.W.Frag) : Sp := fun vs H Q _ => ∃ (a b : Addr) (v : V) (d : PyData) (xs : List V) (hs : List (List Int)) (ws : List Int), vs = [.ref a, .ref b, v] ∧ H a = some (.tup xs) ∧ Hl H xs hs ∧ hs.length ≤ 20 ∧ H b = some (.tup (ws.map V.int)) ∧ ws.length ≤ 20 ∧ Dz K H v d ∧ tl d ∧ ∀ H', L2.Same H H' → Q (.bl (hb hs ws d)) H'
theorem ok_held {f : Addr} {fd : FuncData} (D : Df K mg "shows_held" ["held", "wishes", "thing"] sShowsHeld f fd) (T : Txt mg) (cI : Ca P w K mg base 2 "is_within" ["thing", "least", "most"] (spWithin K)) (cR : Ca P w K mg base 1 "are_rising" ["things"] spRis) : FnOk P w K mg base CX0 3 f fd ["held", "wishes", "thing"] (spHeld K) := by
  refine D.fn.ok scShowsHeld (fun vs H Q E h => ?_) (fun cdv A outer s H vs Q E hr h => ?_)
  · obtain ⟨a, b, v, d, xs, hs, ws, rfl, ea, hl, l20, eb, w20, hz, htl, q⟩ := h
    rfl
  · obtain ⟨a, b, v, d, xs, hs, ws, rfl, ea, hl, l20, eb, w20, hz, htl, q⟩ := h
    refine ⟨_, (pss_cons (ps_if (PW.pt (pw_or (pt_not (pt_val (pe_callB call_isi (by rfl) T.isi (by decide +kernel) (pa_cons (pv 2) (pa_cons (pe_bltn (v := .ty "tuple") (by rfl) T.tuple (by decide +kernel) rfl) pa_nil))))) (pw_or1 (pt_not (pt_val (pe_callB (cr_all (by rfl)) (by rfl) T.all (by decide +kernel) (pa_cons (pe_lc (own := [("number", 3)]) (g := gName 3) (tt := tYes) (te := tCall (spWithin K) [] E0 (tCons (tVar 3) (tCons (tC (V.int 0)) (tCons (tOp (rI0 fun i j => V.int (i - j)) (tCB (rLn K) (tCons (tVar 0) tNil)) (tC (V.int 1))) tNil)))) (by rfl) scShowsHeld.nd (pi_tup (pv 2)) (blkOk_by (own := [("number", 3)]) (N := ["held", "wishes", "thing", "number", "disc", "wish"]) (sc := defScope sShowsHeld) (by decide +kernel)) (fun _ _ _ _ _ => pg_name (i := 3) scShowsHeld.nd rfl (.inl rfl)) (fun _ _ _ _ _ => pts_nil) (fun _ _ _ _ _ => pe_ca cI hr (by decide) (by rfl) (pa_cons (pv 3) (pa_cons pe_int (pa_cons (pe_op op_sub (pe_callB call_len_seq (by rfl) T.len PySem.boot_len (pa_cons (pv 0) pa_nil)) pe_int) pa_nil))))) pa_nil))))))) (pss_one (ps_ret pe_bl)) pss_nil)
      (pss_one (ps_ret (pe_and (pe_ca cR hr (by decide) (by rfl) (pa_cons (pv 2) pa_nil)) (pe_one (pe_callB (cr_all (by rfl)) (by rfl) T.all (by decide +kernel) (pa_cons (pe_lc (own := [("wish", 5)]) (g := gName 5) (tt := tYes) (te := tCB (rAny K) (tCons (tLc (iTup K (tVar 2)) (gName 4) tYes (tOp (rIn K false) (tVar 5) (tOp (rIxT K) (tVar 0) (tVar 4))) [4]) tNil)) (by rfl) scShowsHeld.nd (pi_tup (pv 1)) (blkOk_by (own := [("wish", 5)]) (N := ["held", "wishes", "thing", "number", "disc", "wish"]) (sc := defScope sShowsHeld) (by decide +kernel)) (fun _ _ _ _ _ => pg_name (i := 5) scShowsHeld.nd rfl (.inr rfl)) (fun _ _ _ _ _ => pts_nil) (fun _ _ _ _ _ => pe_callB (cr_any (by rfl)) (by rfl) T.any (by decide +kernel) (pa_cons (pe_lc (own := [("disc", 4)]) (g := gName 4) (tt := tYes) (te := tOp (rIn K false) (tVar 5) (tOp (rIxT K) (tVar 0) (tVar 4))) (by rfl) scShowsHeld.nd (pi_tup (pv 2)) (blkOk_by (own := [("disc", 4)]) (N := ["held", "wishes", "thing", "number", "disc", "wish"]) (sc := relS ⟨.function, [(".0", .local), ("wish", .cell), ("any", .globalImplicit), ("held", .free), ("thing", .free)], false, false, []⟩ (defScope sShowsHeld)) (by decide +kernel)) (fun _ _ _ _ _ => pg_name (i := 4) scShowsHeld.nd rfl (.inl rfl)) (fun _ _ _ _ _ => pts_nil) (fun _ _ _ _ _ => pe_cmpR op_in_seq (pv 5) (pe_ix ix_tup (pv 0) (pv 4) (fun _ _ => rfl)) (by rfl))) pa_nil))) pa_nil))))))), ?_⟩
    refine ⟨_, rfl, _, _, _, _, isTup d, rfl, .ty _, hz.ty, z_tup d, _, rfl, ?_⟩
    cases hz with
    | @tup t ys ds et ra =>
      have l1000 := htl _ rfl
      have ly := dz_len ra
      have lh := hl.len
      refine iteF ⟨_, rfl, t, rfl, ⟨_, SqT.of et⟩, fun D nD => ?_⟩
      refine lc_tup (K := K) (a := t) (xs := ys) (fun i Hi => L2.Same H Hi ∧ Hi D = some (.lst (((ds.map (inB 0 ((hs.length : Int) - 1))).take i).map V.bl))) ⟨same_upd nD, upd_same⟩ (fun i Hi _ z => SqT.of (z.1 _ _ et)) ?_ ?_
      · rintro i x Hi hx ⟨sm, eD⟩
        have il : i < ys.length := (List.getElem?_eq_some_iff.mp hx).1
        obtain ⟨di, edi, dzi⟩ := dz_get ra hx
        refine ⟨rfl, ?_⟩
        unfold tYes
        refine iteT ⟨_, rfl, _, rfl, a, xs, rfl, .inr (SqT.of (sm _ _ ea)), _, 1, rfl, rfl, x, di, 0, _, rfl, dzi.same sm, _, eD, ?_, fun c o e => ?_, ?_⟩
        · rw [List.length_map, List.length_take]
          exact Nat.lt_of_le_of_lt (Nat.le_trans (Nat.min_le_left _ _) (show i ≤ 1000 by omega)) (by decide)
        · rw [upd_ne (ne_of_none e nD)]
          exact sm _ _ e
        · rw [upd_same, List.take_add_one, List.getElem?_map, edi, List.map_append, lh]
          rfl
      · rintro H2 ⟨s2, eD⟩
        have tk : (ds.map (inB 0 ((hs.length : Int) - 1))).take ys.length = ds.map (inB 0 ((hs.length : Int) - 1)) := List.take_of_length_le (by rw [List.length_map]; omega)
        rw [tk] at eD
        refine ⟨D, _, rfl, SqL.of eD, _, rfl, ?_⟩
        have ea1 : (ds.map (inB 0 ((hs.length : Int) - 1))).all id = ds.all (inB 0 ((hs.length : Int) - 1)) := by rw [List.all_map]; rfl
        rw [ea1]
        cases c : ds.all (inB 0 ((hs.length : Int) - 1)) with
        | false =>
          have w := q H2 s2
          rw [show hb hs ws (.tuple ds) = false by unfold hb; dsimp only; rw [c]; rfl] at w
          exact iteT w
        | true =>
          obtain ⟨ey, rng⟩ := ints_of ra c
          have hq : hb hs ws (.tuple ds) = (ris (ds.map num) && (hvA hs (ds.map num) ws).all id) := by unfold hb; dsimp only; rw [c]; rfl
          rw [hq] at q
          subst ey
          have ln : (ds.map num).length ≤ 1000 := by rw [List.length_map]; exact l1000
          generalize ds.map num = ns at *
          refine iteF ⟨_, rfl, t, ns, rfl, s2 _ _ et, ln, fun H3 s3' => ⟨_, rfl, ?_⟩⟩
          have s3 := s2.trans s3'
          cases r : ris ns with
          | false =>
            have w := q H3 s3
            rw [r] at w
            exact iteF w
          | true =>
            rw [r] at q
            refine iteT ?_
            refine ⟨_, rfl, b, rfl, ⟨_, SqT.of (s3 _ _ eb)⟩, fun Dw nDw => ?_⟩
            refine lc_tup (K := K) (a := b) (xs := ws.map V.int) (fun i Hi => L2.Same H3 Hi ∧ Hi Dw = some (.lst (((hvA hs ns ws).take i).map V.bl))) ⟨same_upd nDw, upd_same⟩ (fun i Hi _ z => SqT.of (z.1 _ _ (s3 _ _ eb))) ?_ ?_
            · rintro i x Hi hx ⟨sm, eDw⟩
              rw [List.getElem?_map] at hx
              obtain ⟨g, eg, rfl⟩ := Option.map_eq_some_iff.mp hx
              have il : i < ws.length := (List.getElem?_eq_some_iff.mp eg).1
              refine ⟨rfl, ?_⟩
              refine ⟨_, rfl, t, rfl, ⟨_, SqT.of (sm _ _ (s3 _ _ et))⟩, fun Di nDi => ?_⟩
              refine lc_tup (K := K) (a := t) (xs := ns.map V.int) (fun j Hj => L2.Same Hi Hj ∧ Hj Di = some (.lst (((hvL hs ns g).take j).map V.bl))) ⟨same_upd nDi, upd_same⟩ (fun j Hj _ z => SqT.of (z.1 _ _ (sm _ _ (s3 _ _ et)))) ?_ ?_
              · rintro j y Hj hy ⟨sj, eDi⟩
                rw [List.getElem?_map] at hy
                obtain ⟨k, ek, rfl⟩ := Option.map_eq_some_iff.mp hy
                have jl : j < ns.length := (List.getElem?_eq_some_iff.mp ek).1
                have kb := rng k (List.mem_of_getElem? ek)
                obtain ⟨m, rfl⟩ : ∃ m : Nat, k = (m : Int) := ⟨k.toNat, by omega⟩
                have hm : m < hs.length := by omega
                have sA := (s3.trans sm).trans sj
                obtain ⟨tk, etk, eTk⟩ := hl.get hm
                refine ⟨rfl, ?_⟩
                unfold tYes
                refine iteT ⟨_, rfl, _, rfl, _, rfl, a, _, _, .ref tk, rfl, rfl, SqT.of (sA _ _ ea), atI_nat etk, tk, _, rfl, .inr (SqT.of (sA _ _ eTk)), rfl, flat_ints _, _, eDi, ?_, fun c o e => ?_, ?_⟩
                · rw [List.length_map, List.length_take]
                  exact Nat.lt_of_le_of_lt (Nat.le_trans (Nat.min_le_left _ _) (show j ≤ 1000 by omega)) (by decide)
                · rw [upd_ne (ne_of_none e nDi)]
                  exact sj _ _ e
                · rw [upd_same, List.take_add_one]
                  unfold hvL
                  rw [List.getElem?_map, ek, List.map_append]
                  simp [List.getD_eq_getElem?_getD, List.getElem?_eq_getElem hm]
              · rintro He ⟨sj, eDi⟩
                have tk : (hvL hs ns g).take (ns.map V.int).length = hvL hs ns g := List.take_of_length_le (by unfold hvL; simp)
                rw [tk] at eDi
                refine ⟨Di, _, rfl, SqL.of eDi, _, sj _ _ eDw, ?_, fun c o e => ?_, ?_⟩
                · rw [List.length_map, List.length_take]
                  exact Nat.lt_of_le_of_lt (Nat.le_trans (Nat.min_le_left _ _) (show i ≤ 1000 by omega)) (by decide)
                · rw [upd_ne (ne_of_none e nDw)]
                  exact sj _ _ (sm _ _ e)
                · rw [upd_same, List.take_add_one]
                  unfold hvA
                  rw [List.getElem?_map, eg, List.map_append]
                  rfl
            · rintro He ⟨sm, eDw⟩
              have tk : (hvA hs ns ws).take (ws.map V.int).length = hvA hs ns ws := List.take_of_length_le (by unfold hvA; simp)
              rw [tk] at eDw
              refine ⟨Dw, _, rfl, SqL.of eDw, ?_⟩
              exact q He (s3.trans sm)
    | _ => exact iteT (q H (Same.refl H))
end
end K57
set_option Elab.async false
set_option linter.all false
set_option maxRecDepth 100000
set_option maxHeartbeats 4000000
set_option pp.maxSteps 400
set_option pp.deepTerms false
namespace K57
open PySem PySem.Spec PyProof.Rows L2
open Xk Az
section
variable {P : Program} {w : World} {K : PySem.W.Frag} {mg : Str → Option Value} {base : Heap}
theorem ok_due {f : Addr} {fd : FuncData} (D : Df K mg "_law_due" ["_law_held", "_law_wishes", "_law_thing"] sDue f fd) (T : Txt mg) : FnOk P w K mg base CX0 1 f fd ["_law_held", "_law_wishes", "_law_thing"] (spHeld K) := by
  refine D.fn.ok scDue (fun vs H Q E h => ?_) (fun cdv A outer s H vs Q E hr h => ?_)
  · obtain ⟨a, b, v, d, xs, hs, ws, rfl, ea, hl, l20, eb, w20, hz, htl, q⟩ := h
    rfl
  · obtain ⟨a, b, v, d, xs, hs, ws, rfl, ea, hl, l20, eb, w20, hz, htl, q⟩ := h
    refine ⟨_, (pss_cons (ps_if (pt_not (pt_val (pe_callB call_isi (by rfl) T.isi (by decide +kernel) (pa_cons (pv 2) (pa_cons (pe_bltn (v := .ty "tuple") (by rfl) T.tuple (by decide +kernel) rfl) pa_nil))))) (pss_one (ps_ret pe_bl)) pss_nil)
      (pss_cons (ps_if (pt_not (pt_val (pe_callB (cr_all (by rfl)) (by rfl) T.all (by decide +kernel) (pa_cons (pe_lc (own := [("_law_one", 3)]) (g := gName 3) (tt := tYes) (te := tAndV (tCB (rIsi K) (tCons (tVar 3) (tCons (tC (V.ty "int")) tNil))) (tAndV (tNotV (tCB (rIsi K) (tCons (tVar 3) (tCons (tC (V.ty "bool")) tNil)))) (tChain (rI0 fun i j => V.bl (decide (i ≤ j))) (rI0 fun i j => V.bl (decide (i < j))) (tC (V.int 0)) (tVar 3) (tCB (rLn K) (tCons (tVar 0) tNil))))) (by rfl) scDue.nd (pi_tup (pv 2)) (blkOk_by (own := [("_law_one", 3)]) (N := ["_law_held", "_law_wishes", "_law_thing", "_law_one", "_law_other", "_law_k", "_law_wish"]) (sc := defScope sDue) (by decide +kernel)) (fun _ _ _ _ _ => pg_name (i := 3) scDue.nd rfl (.inl rfl)) (fun _ _ _ _ _ => pts_nil) (fun _ _ _ _ _ => pe_and (pe_callB call_isi (by rfl) T.isi (by decide +kernel) (pa_cons (pv 3) (pa_cons (pe_bltn (v := .ty "int") (by rfl) T.int (by decide +kernel) rfl) pa_nil))) (pe_and (pe_not (pe_callB call_isi (by rfl) T.isi (by decide +kernel) (pa_cons (pv 3) (pa_cons (pe_bltn (v := .ty "bool") (by rfl) T.bool (by decide +kernel) rfl) pa_nil)))) (pe_one (pe_chain op_le op_lt pe_int (pv 3) (pe_callB call_len_seq (by rfl) T.len PySem.boot_len (pa_cons (pv 0) pa_nil))))))) pa_nil)))) (pss_one (ps_ret pe_bl)) pss_nil)
      (pss_cons (ps_if (pt_not (pt_val (pe_callB (cr_all (by rfl)) (by rfl) T.all (by decide +kernel) (pa_cons (pe_lc (own := [("_law_one", 3), ("_law_other", 4)]) (g := (gTup K 2 (gCons (gName 3) (gCons (gName 4) gNil)))) (tt := tYes) (by rfl) scDue.nd (RZ.pi_zipA (by rfl) T.zip (pa_cons (pv 2) (pa_cons (pe_slice sl_tupU (pv 2) (po_some pe_int) po_none) pa_nil))) (blkOk_by (own := [("_law_one", 3), ("_law_other", 4)]) (N := ["_law_held", "_law_wishes", "_law_thing", "_law_one", "_law_other", "_law_k", "_law_wish"]) (sc := defScope sDue) (by decide +kernel)) (fun _ _ _ _ _ => pg_tup (by rfl) (pgs_cons (pg_name (i := 3) scDue.nd rfl (.inl rfl)) (pgs_cons (pg_name (i := 4) scDue.nd rfl (.inl rfl)) pgs_nil))) (fun _ _ _ _ _ => pts_nil) (fun _ _ _ _ _ => pe_cmpR op_lt (pv 3) (pv 4) (nomark _))) pa_nil)))) (pss_one (ps_ret pe_bl)) pss_nil)
      (pss_one (ps_ret (pe_callB (cr_all (by rfl)) (by rfl) T.all (by decide +kernel) (pa_cons (pe_lc (own := [("_law_wish", 6)]) (g := gName 6) (tt := tYes) (te := tCB (rAny K) (tCons (tLc (iTup K (tVar 2)) (gName 5) tYes (tOp (rIn K false) (tVar 6) (tOp (rIxT K) (tVar 0) (tVar 5))) [5]) tNil)) (by rfl) scDue.nd (pi_tup (pv 1)) (blkOk_by (own := [("_law_wish", 6)]) (N := ["_law_held", "_law_wishes", "_law_thing", "_law_one", "_law_other", "_law_k", "_law_wish"]) (sc := defScope sDue) (by decide +kernel)) (fun _ _ _ _ _ => pg_name (i := 6) scDue.nd rfl (.inr rfl)) (fun _ _ _ _ _ => pts_nil) (fun _ _ _ _ _ => pe_callB (cr_any (by rfl)) (by rfl) T.any (by decide +kernel) (pa_cons (pe_lc (own := [("_law_k", 5)]) (g := gName 5) (tt := tYes) (te := tOp (rIn K false) (tVar 6) (tOp (rIxT K) (tVar 0) (tVar 5))) (by rfl) scDue.nd (pi_tup (pv 2)) (blkOk_by (own := [("_law_k", 5)]) (N := ["_law_held", "_law_wishes", "_law_thing", "_law_one", "_law_other", "_law_k", "_law_wish"]) (sc := relS ⟨.function, [(".0", .local), ("_law_wish", .cell), ("any", .globalImplicit), ("_law_held", .free), ("_law_thing", .free)], false, false, []⟩ (defScope sDue)) (by decide +kernel)) (fun _ _ _ _ _ => pg_name (i := 5) scDue.nd rfl (.inl rfl)) (fun _ _ _ _ _ => pts_nil) (fun _ _ _ _ _ => pe_cmpR op_in_seq (pv 6) (pe_ix ix_tup (pv 0) (pv 5) (fun _ _ => rfl)) (by rfl))) pa_nil))) pa_nil))))))), ?_⟩
    refine ⟨_, rfl, _, _, _, _, isTup d, rfl, .ty _, hz.ty, z_tup d, _, rfl, ?_⟩
    cases hz with
    | @tup t ys ds et ra =>
      have l1000 := htl _ rfl
      have ly := dz_len ra
      have lh := hl.len
      refine iteF ⟨_, rfl, t, rfl, ⟨_, SqT.of et⟩, fun D nD => ?_⟩
      refine lc_tup (K := K) (a := t) (xs := ys) (fun i Hi => L2.Same H Hi ∧ Hi D = some (.lst (((ds.map (inB 0 ((hs.length : Int) - 1))).take i).map V.bl))) ⟨same_upd nD, upd_same⟩ (fun i Hi _ z => SqT.of (z.1 _ _ et)) ?_ ?_
      · rintro i x Hi hx ⟨sm, eD⟩
        have il : i < ys.length := (List.getElem?_eq_some_iff.mp hx).1
        obtain ⟨di, edi, dzi⟩ := dz_get ra hx
        refine ⟨rfl, ?_⟩
        unfold tYes
        have fin : ∀ k : Bool, k = inB 0 ((hs.length : Int) - 1) di → ∃ acc, Hi D = some (.lst acc) ∧ acc.length < sizeLine ∧ (L2.Same H (upd Hi D (.lst (acc ++ [.bl k]))) ∧ (upd Hi D (.lst (acc ++ [.bl k]))) D = some (.lst (((ds.map (inB 0 ((hs.length : Int) - 1))).take (i + 1)).map V.bl))) := fun k ek => by
          refine ⟨_, eD, ?_, fun c o e => ?_, ?_⟩
          · rw [List.length_map, List.length_take]
            exact Nat.lt_of_le_of_lt (Nat.le_trans (Nat.min_le_left _ _) (show i ≤ 1000 by omega)) (by decide)
          · rw [upd_ne (ne_of_none e nD)]
            exact sm _ _ e
          · rw [upd_same, List.take_add_one, List.getElem?_map, edi, List.map_append, ek]
            rfl
        cases di with
        | int g =>
          have ty : TyX K Hi x (.type "int") := (dzi.same sm).ty
          cases dzi
          refine iteT ⟨_, rfl, _, _, _, _, true, rfl, .ty _, ty, kit_ty (by decide +kernel), true, rfl, iteT ?_⟩
          refine ⟨_, rfl, _, _, _, _, false, rfl, .ty _, ty, kit_ty (by decide +kernel), false, rfl, true, rfl, iteT ⟨_, rfl, 0, g, rfl, rfl, _, rfl, ?_⟩⟩
          have eg : inB 0 ((hs.length : Int) - 1) (.int g) = (decide (0 ≤ g) && decide (g < (hs.length : Int))) := by
            unfold inB
            dsimp only [wh]
            rw [show decide (g ≤ (hs.length : Int) - 1) = decide (g < (hs.length : Int)) from decide_eq_decide.mpr (by omega)]
          cases c0 : decide ((0 : Int) ≤ g) with
          | true =>
            refine iteT ⟨_, rfl, a, xs, rfl, .inr (SqT.of (sm _ _ ea)), g, _, rfl, rfl, fin _ ?_⟩
            rw [eg, c0, lh, Bool.true_and]
          | false =>
            refine iteF (fin _ ?_)
            rw [eg, c0, Bool.false_and]
        | bool k =>
          have ty : TyX K Hi x (.type "bool") := (dzi.same sm).ty
          refine iteT ⟨_, rfl, _, _, _, _, true, rfl, .ty _, ty, kit_ty (by decide +kernel), true, rfl, iteT ?_⟩
          exact ⟨_, rfl, _, _, _, _, true, rfl, .ty _, ty, kit_ty (by decide +kernel), true, rfl, false, rfl, iteF (fin _ rfl)⟩
        | none  =>
          have ty : TyX K Hi x (.type "NoneType") := (dzi.same sm).ty
          exact iteT ⟨_, rfl, _, _, _, _, false, rfl, .ty _, ty, kit_ty (by decide +kernel), false, rfl, iteF (fin _ rfl)⟩
        | str y =>
          have ty : TyX K Hi x (.type "str") := (dzi.same sm).ty
          exact iteT ⟨_, rfl, _, _, _, _, false, rfl, .ty _, ty, kit_ty (by decide +kernel), false, rfl, iteF (fin _ rfl)⟩
        | list es =>
          have ty : TyX K Hi x (.type "list") := (dzi.same sm).ty
          exact iteT ⟨_, rfl, _, _, _, _, false, rfl, .ty _, ty, kit_ty (by decide +kernel), false, rfl, iteF (fin _ rfl)⟩
        | tuple es =>
          have ty : TyX K Hi x (.type "tuple") := (dzi.same sm).ty
          exact iteT ⟨_, rfl, _, _, _, _, false, rfl, .ty _, ty, kit_ty (by decide +kernel), false, rfl, iteF (fin _ rfl)⟩
        | dict es =>
          have ty : TyX K Hi x (.type "dict") := (dzi.same sm).ty
          exact iteT ⟨_, rfl, _, _, _, _, false, rfl, .ty _, ty, kit_ty (by decide +kernel), false, rfl, iteF (fin _ rfl)⟩
      · rintro H2 ⟨s2, eD⟩
        have tk : (ds.map (inB 0 ((hs.length : Int) - 1))).take ys.length = ds.map (inB 0 ((hs.length : Int) - 1)) := List.take_of_length_le (by rw [List.length_map]; omega)
        rw [tk] at eD
        refine ⟨D, _, rfl, SqL.of eD, _, rfl, ?_⟩
        have ea1 : (ds.map (inB 0 ((hs.length : Int) - 1))).all id = ds.all (inB 0 ((hs.length : Int) - 1)) := by rw [List.all_map]; rfl
        rw [ea1]
        cases c : ds.all (inB 0 ((hs.length : Int) - 1)) with
        | false =>
          have w := q H2 s2
          rw [show hb hs ws (.tuple ds) = false by unfold hb; dsimp only; rw [c]; rfl] at w
          exact iteT w
        | true =>
          obtain ⟨ey, rng⟩ := ints_of ra c
          have hq : hb hs ws (.tuple ds) = (ris (ds.map num) && (hvA hs (ds.map num) ws).all id) := by unfold hb; dsimp only; rw [c]; rfl
          rw [hq] at q
          subst ey
          have ln : (ds.map num).length ≤ 1000 := by rw [List.length_map]; exact l1000
          generalize ds.map num = ns at *
          refine iteF ?_
          refine ⟨_, rfl, _, rfl, 1, rfl, t, _, rfl, (s2 _ _ et), fun pz Hz sz ez => ?_⟩
          rw [cut1, ← List.map_drop] at ez
          refine ⟨t, pz, _, _, rfl, .inr ⟨SqT.of (sz _ _ (s2 _ _ et)), SqT.of ez, fun Lz nLz => ?_⟩⟩
          refine lc_it (walk_zipM (K := K) (a := t) (b := pz) (xs := ns.map V.int) (ys := (ns.drop 1).map V.int) (n := ns.length - 1) (by rw [List.length_map]; omega) (by rw [List.length_map, List.length_drop])) (fun i Hi => L2.Same Hz Hi ∧ Hi Lz = some (.lst (((bsR ns).take i).map V.bl))) ⟨same_upd nLz, upd_same⟩ (fun i Hi _ p => ⟨SqT.of (p.1 _ _ (sz _ _ (s2 _ _ et))), SqT.of (p.1 _ _ ez)⟩) ?_ ?_
          · rintro i v Hi H' hi ⟨sm, hL⟩ ⟨t, x, z, rfl, nt, rfl, ex, ez'⟩
            have sm2 : L2.Same Hz (upd Hi t (.tup [x, z])) := sm.trans (same_upd nt)
            have hL2 : (upd Hi t (.tup [x, z])) Lz = some (.lst (((bsR ns).take i).map V.bl)) := same_upd nt _ _ hL
            replace ex : (ns.map V.int)[i]? = some x := ex
            replace ez' : ((ns.drop 1).map V.int)[i]? = some z := ez'
            rw [List.getElem?_map] at ex ez'
            obtain ⟨p, ep, rfl⟩ := Option.map_eq_some_iff.mp ex
            obtain ⟨r, er, rfl⟩ := Option.map_eq_some_iff.mp ez'
            refine ⟨t, _, rfl, SqT.of upd_same, rfl, _, _, rfl, _, _, rfl, rfl, rfl, ?_⟩
            unfold tYes
            refine iteT ⟨_, rfl, _, rfl, p, r, rfl, rfl, _, hL2, ?_, fun c o e => ?_, ?_⟩
            · rw [List.length_map, List.length_take]
              exact Nat.lt_of_le_of_lt (Nat.le_trans (Nat.min_le_left _ _) (show i ≤ 1000 by omega)) (by decide)
            · rw [upd_ne (ne_of_none e nLz)]
              exact sm2 _ _ e
            · rw [upd_same, List.take_add_one, bsR_at ep er, List.map_append]
              rfl
          · rintro He ⟨sm, hL⟩
            have tk : (bsR ns).take (ns.length - 1) = bsR ns := List.take_of_length_le (by unfold bsR; simp)
            rw [tk] at hL
            refine ⟨Lz, bsR ns, rfl, SqL.of hL, ?_⟩
            have s3 := (s2.trans sz).trans sm
            refine ⟨_, rfl, ?_⟩
            have er : (bsR ns).all id = ris ns := rfl
            rw [er]
            cases r : ris ns with
            | false =>
              have w := q He s3
              rw [r] at w
              exact iteT w
            | true =>
              rw [r] at q
              refine iteF ?_
              refine ⟨_, rfl, b, rfl, ⟨_, SqT.of (s3 _ _ eb)⟩, fun Dw nDw => ?_⟩
              refine lc_tup (K := K) (a := b) (xs := ws.map V.int) (fun i Hi => L2.Same He Hi ∧ Hi Dw = some (.lst (((hvA hs ns ws).take i).map V.bl))) ⟨same_upd nDw, upd_same⟩ (fun i Hi _ z => SqT.of (z.1 _ _ (s3 _ _ eb))) ?_ ?_
              · rintro i x Hi hx ⟨sm, eDw⟩
                rw [List.getElem?_map] at hx
                obtain ⟨g, eg, rfl⟩ := Option.map_eq_some_iff.mp hx
                have il : i < ws.length := (List.getElem?_eq_some_iff.mp eg).1
                refine ⟨rfl, ?_⟩
                refine ⟨_, rfl, t, rfl, ⟨_, SqT.of (sm _ _ (s3 _ _ et))⟩, fun Di nDi => ?_⟩
                refine lc_tup (K := K) (a := t) (xs := ns.map V.int) (fun j Hj => L2.Same Hi Hj ∧ Hj Di = some (.lst (((hvL hs ns g).take j).map V.bl))) ⟨same_upd nDi, upd_same⟩ (fun j Hj _ z => SqT.of (z.1 _ _ (sm _ _ (s3 _ _ et)))) ?_ ?_
                · rintro j y Hj hy ⟨sj, eDi⟩
                  rw [List.getElem?_map] at hy
                  obtain ⟨k, ek, rfl⟩ := Option.map_eq_some_iff.mp hy
                  have jl : j < ns.length := (List.getElem?_eq_some_iff.mp ek).1
                  have kb := rng k (List.mem_of_getElem? ek)
                  obtain ⟨m, rfl⟩ : ∃ m : Nat, k = (m : Int) := ⟨k.toNat, by omega⟩
                  have hm : m < hs.length := by omega
                  have sA := (s3.trans sm).trans sj
                  obtain ⟨tk, etk, eTk⟩ := hl.get hm
                  refine ⟨rfl, ?_⟩
                  unfold tYes
                  refine iteT ⟨_, rfl, _, rfl, _, rfl, a, _, _, .ref tk, rfl, rfl, SqT.of (sA _ _ ea), atI_nat etk, tk, _, rfl, .inr (SqT.of (sA _ _ eTk)), rfl, flat_ints _, _, eDi, ?_, fun c o e => ?_, ?_⟩
                  · rw [List.length_map, List.length_take]
                    exact Nat.lt_of_le_of_lt (Nat.le_trans (Nat.min_le_left _ _) (show j ≤ 1000 by omega)) (by decide)
                  · rw [upd_ne (ne_of_none e nDi)]
                    exact sj _ _ e
                  · rw [upd_same, List.take_add_one]
                    unfold hvL
                    rw [List.getElem?_map, ek, List.map_append]
                    simp [List.getD_eq_getElem?_getD, List.getElem?_eq_getElem hm]
                · rintro He ⟨sj, eDi⟩
                  have tk : (hvL hs ns g).take (ns.map V.int).length = hvL hs ns g := List.take_of_length_le (by unfold hvL; simp)
                  rw [tk] at eDi
                  refine ⟨Di, _, rfl, SqL.of eDi, _, sj _ _ eDw, ?_, fun c o e => ?_, ?_⟩
                  · rw [List.length_map, List.length_take]
                    exact Nat.lt_of_le_of_lt (Nat.le_trans (Nat.min_le_left _ _) (show i ≤ 1000 by omega)) (by decide)
                  · rw [upd_ne (ne_of_none e nDw)]
                    exact sj _ _ (sm _ _ e)
                  · rw [upd_same, List.take_add_one]
                    unfold hvA
                    rw [List.getElem?_map, eg, List.map_append]
                    rfl
              · rintro He ⟨sm, eDw⟩
                have tk : (hvA hs ns ws).take (ws.map V.int).length = hvA hs ns ws := List.take_of_length_le (by unfold hvA; simp)
                rw [tk] at eDw
                refine ⟨Dw, _, rfl, SqL.of eDw, ?_⟩
                exact q _ (s3.trans sm)
    | _ => exact iteT (q H (Same.refl H))
end
end K57
set_option Elab.async false
set_option linter.all false
set_option maxRecDepth 100000
set_option maxHeartbeats 4000000
set_option pp.maxSteps 400
set_option pp.deepTerms false
namespace K57
open PySem PySem.Spec PyProof.Rows L2
open Xk Az
section
variable {P : Program} {w : World} {K : PySem.W.Frag} {mg : Str → Option Value} {base : Heap}
section
variable {prog : Program} {w : World} {A : Around} {E : Value → Shared → Prop} {s : Shared}
theorem turnN {sl : Addr} {u : Tok} {n : Nat} {Q : Int × Int × Nat → Shared → Prop} (hs : s.heap.IsSliceOf sl .none .none (.int (-1) u)) (h : Q ((n : Int) - 1, -1, n) s) : wpAny (model prog w) A (Builtin.Slice.sliceApplied (.ref sl) (pure (n : Int))) Q E s := by
  obtain ⟨os, a1, a2, a3⟩ := id hs
  unfold Builtin.Slice.sliceApplied Builtin.Slice.sliceFields
  refine wpAny_bind (wpAny_bind (wpAny_field a1 a3 (x := .none) rfl (wpAny_bind (wpAny_field a1 a3 (x := .none) rfl (wpAny_bind (wpAny_field a1 a3 (x := .int (-1) u) rfl (wpAny_pure ?_)))))))
  refine wpAny_bind (slicePart_int ?_)
  show wpAny _ _ (if ((-1 : Int) == 0) = true then _ else _) _ _ s
  rw [if_neg (by decide)]
  have pl : Builtin.Slice.slicePlaces ((n : Int) - 1) (-1) (-1) = n := by
    unfold Builtin.Slice.slicePlaces
    have h1 : ¬ ((-1 : Int) > 0) := by decide
    simp only [h1, if_false, show (- -1 : Int) = 1 by decide, Int.ediv_one]
    split <;> omega
  refine wpAny_bind (slicePart_none (wpAny_bind (slicePart_none (wpAny_bind (wpAny_pure ?_)))))
  show wpAny _ _ (pure ((n : Int) - 1, (-1 : Int), Builtin.Slice.slicePlaces ((n : Int) - 1) (-1) (-1))) _ _ s
  rw [pl]
  exact wpAny_pure h
theorem fm_congr {α β : Type} {f g : α → Option β} : ∀ l : List α, (∀ m ∈ l, f m = g m) → l.filterMap f = l.filterMap g
  | [], _ => rfl
  | a :: r, h => by
    rw [List.filterMap_cons, List.filterMap_cons, h a List.mem_cons_self, fm_congr r fun m hm => h m (List.mem_cons_of_mem _ hm)]
theorem turn_all (xs : Array Value) : ((List.range xs.size).filterMap fun (m : Nat) => xs[((xs.size : Int) - 1 + (m : Int) * -1).toNat]?).toArray = xs.toList.reverse.toArray := by
  have e : ((List.range xs.size).filterMap fun (m : Nat) => xs[((xs.size : Int) - 1 + (m : Int) * -1).toNat]?) = ((List.range xs.size).map fun k => xs.size - 1 - k).filterMap (xs[·]?) := by
    rw [List.filterMap_map]
    refine fm_congr _ fun m hm => ?_
    have := List.mem_range.mp hm
    show xs[((xs.size : Int) - 1 + (m : Int) * -1).toNat]? = xs[xs.size - 1 - m]?
    congr 1
    omega
  rw [e, PySem.W.krv_range, List.filterMap_reverse, PySem.W.krv_all]
theorem itemN {t sl : Addr} {items : Array Value} {u : Tok} {Q : Value → Shared → Prop} (ht : IsTup s.heap t items) (hs : s.heap.IsSliceOf sl .none .none (.int (-1) u)) (hz : items.size ≤ sizeLine)
    (h : Q (.ref s.heap.objs.size) { s with heap := s.heap.push { cls := .type "tuple", data := .seq items.toList.reverse.toArray } }) : wpAny (model prog w) A (getItem (.ref t) (.ref sl)) Q E s := by
  have fits : sizeOk (.seq items.toList.reverse.toArray) := by
    show items.toList.reverse.toArray.size ≤ sizeLine
    rw [List.size_toArray, List.length_reverse, Array.length_toList]
    exact hz
  obtain ⟨os, a1, a2, a3⟩ := id hs
  have ty : s.TypeIs (.ref sl) "slice" := ⟨os, a1, a2⟩
  unfold getItem; try with_reducible refine wpAny_holding ?_
  (first | refine wpAny_bind (wpAny_pure ?_) | skip); refine wpAny_bind (wpAny_sequenceKey ht.typeIs (by decide) ?_)
  refine wpAny_bind (wpAny_callSpecial?_slot (name := Str.ofString "__getitem__") ht.typeIs PyProof.Rows.slot_tuple_getitem (wpAny_call_entry PyProof.Rows.slot_tuple_getitem ht.typeIs entry_tuple_getitem ?_ (args_tuple_getitem _ _)))
  show wpAny _ _ (Builtin.Tuple.tupleItemsOf (.ref t) >>= _) _ _ s; refine wpAny_bind (tupleItemsOf_ ht ?_)
  refine wpAny_bind (wpAny_typeOf ty ?_); rw [if_pos (by decide)]
  refine wpAny_bind (turnN hs ?_)
  show wpAny _ _ (if (((items.size : Int) - 1) == 0 && (-1 : Int) == 1 && (items.size == items.size)) = true then _ else _) _ _ s
  rw [if_neg (by simp), turn_all]
  (first
    | exact wpAny_bind (m := Builtin.Tuple.tupleExact _) (wpAny_newObj_type (wpAny_pure ⟨_, rfl, wpAny_pure h⟩) fits)
    | exact wpAny_bind (m := Builtin.Tuple.tupleExact _) (wpAny_newObj_type (wpAny_bind (wpAny_pure (wpAny_pure ⟨_, rfl, wpAny_pure h⟩))) fits)
    | exact wpAny_bind (wpAny_bind (m := Builtin.Tuple.tupleExact _) (wpAny_newObj_type (wpAny_pure (wpAny_pure ⟨_, rfl, wpAny_pure h⟩)) fits)))
end
section
variable {X : Cx}
def tRevN (K : PySem.W.Frag) (te : TE) : TE := fun σ H Q => te σ H fun x H1 => ∃ (a : Addr) (xs : List V), x = .ref a ∧ H1 a = some (.tup xs) ∧ ∀ p H', L2.Same H1 H' → H' p = some (.tup xs.reverse) → Q (.ref p) H'
theorem pe_revN {e : Expr} {te : TE} {k : Nat} {p1 p2 p3 pos : Pos} (he : PE X e te) : PE X (.Subscript e (.Slice none none (some (.UnaryOp .USub (.Constant (.int 1) k p1) p2)) p3) pos) (tRevN X.K te) := by
  refine ⟨fun pins s σ H Q I h => Subscript_ (thn (he.run pins s σ H _ I h) fun v s1 ⟨x, H1, I1, r1, a, xs, ex, hx, q⟩ => ?_)⟩
  subst ex; cases r1
  have hst : PO X (some (.UnaryOp .USub (.Constant (.int 1) k p1) p2)) (tPart (tUn (rU fun i => .int (-i)) (tC (.int 1)))) := po_some (pe_un un_neg pe_int)
  refine wpAny_Slice (thn (po_none.run pins s1 σ H1 (fun o G => o = none ∧ G = H1) I1 ⟨rfl, rfl⟩) fun vl s2 ⟨l, G, I2, pl, el, e2⟩ => ?_)
  subst el e2
  refine thn (po_none.run pins s2 σ G (fun o G2 => o = none ∧ G2 = G) I2 ⟨rfl, rfl⟩) fun vu s3 ⟨u, G2, I3, pu, eu, e3⟩ => ?_
  subst eu e3
  refine thn (hst.run pins s3 σ G2 (fun o G3 => o = some (-1) ∧ G3 = G2) I3 ⟨1, rfl, -1, rfl, rfl, rfl⟩) fun vs s4 ⟨o, G3, I4, ps, eo, e4⟩ => ?_
  subst eo e4
  cases pl; cases pu
  cases ps with
  | int _ tk =>
  have I5 : Inv X pins σ G3 { s4 with heap := s4.heap.push { cls := .type "slice", data := .fields #[.none, .none, .int (-1) tk] } } := I4.kept (t' := s4.toks) fun b ob q => Heap.get?_push_of_some _ q
  obtain ⟨its, r, ht, hz⟩ := I5.tuple (SqT.of hx)
  have hlen := r.length
  show wpAny (model X.prog X.w) X.A (subscriptTail e (.Slice none none (some (.UnaryOp .USub (.Constant (.int 1) k p1) p2)) p3) (.ref a) (.ref s4.heap.objs.size)) (EP X pins σ Q) X.xe { s4 with heap := s4.heap.push { cls := .type "slice", data := .fields #[.none, .none, .int (-1) tk] } }
  refine tail_any (ops := [.ref a, .ref s4.heap.objs.size]) ht.typeIs PyProof.Rows.slot_tuple_getitem.lookup ?_ (by with_unfolding_all rfl)
  refine itemN ht (Heap.IsSliceOf.new _ _ _ _) (by rw [List.size_toArray]; omega) ?_
  have nw := I5.hok.fresh (Nat.le_refl _)
  refine ⟨.ref _, _, I5.laid (t' := s4.toks) (o := .tup xs.reverse) (fun b ob q => Heap.get?_push_of_some _ q) (Nat.le_refl _) ?_, rfl, q _ _ (same_upd nw) upd_same⟩
  exact ⟨by rw [List.length_reverse]; exact hz, _, r.reverse, IsTup.new _ _⟩
/-- a list of a tuple's things, new -/
theorem cr_listT : CallR X (.type "list") (fun xs H Q => ∃ p ys, xs = [.ref p] ∧ SqT X.K H p ys ∧ ∀ l, H l = none → l ≠ sysModules → Q (.ref l) (upd H l (.lst ys))) := by
  intro pins s σ H xs us Q I r h
  obtain ⟨p, ys, rfl, hq, q⟩ := h
  obtain ⟨u, rfl, rx⟩ := vals1 r; cases rx
  obtain ⟨its, r', ⟨o, ho, hc, n, hd⟩, hz⟩ := I.tuple hq
  have hlen := r'.length
  exact call_list_seq p (.inr rfl) ho hc hd (fun h' c' kp e => ⟨.ref s.heap.objs.size, _, I.laid (t' := s.toks) kp (Nat.le_refl _) (show ObjOk X.prog X.w _ h' _ (.lst ys) from ⟨hz, its, c', r', e⟩), rfl, q _ (I.hok.fresh (Nat.le_refl _)) (Nat.ne_of_gt I.big)⟩) (by simp only [List.size_toArray]; omega)
end
theorem lg {i : Int} (h0 : -(10 ^ 31) < i) (h1 : i < 10 ^ 31) : i.natAbs.log2 < 1920 := by
  have h2 : i.natAbs < 2 ^ 110 := by
    have : (10 : Int) ^ 31 < 2 ^ 110 := by decide
    omega
  exact Nat.lt_of_lt_of_le (PySem.Flt.log2_lt_of (by decide) h2) (by decide)
theorem big39 : (10 : Int) ^ 30 < 10 ^ 39 := by decide
theorem tx_le {i : Int} (h0 : -(10 ^ 30) ≤ i) (h1 : i ≤ 10 ^ 30) : (Str.ofString (toString i)).length ≤ 40 := by
  have b := big39
  cases i with
  | ofNat m =>
    have c : (Int.ofNat m) = (m : Int) := rfl
    exact Nat.le_trans (toString_length_le (v := (m : Int)) (by omega) (k := 39) (by decide) (by omega)) (by decide)
  | negSucc m =>
    have c : Int.negSucc m = -((m : Int) + 1) := rfl
    have z := toString_length_le (v := ((m + 1 : Nat) : Int)) (by omega) (k := 39) (by decide) (by omega)
    rw [PySem.ofString_length] at z ⊢
    have z2 : (toString (m + 1)).length ≤ 39 := z
    show ("-" ++ toString (m + 1)).length ≤ 40
    rw [String.length_append]
    have : "-".length = 1 := rfl
    omega
/-- a thing whose tuples, texts and numbers are not too great, k deep in tuples -/
def Fn (n : Nat) : Nat → PyData → Prop
  | 0, d => match d with
    | .int i => i.natAbs ≤ n
    | .str x => x.length ≤ n
    | .tuple _ => False
    | _ => True
  | k + 1, d => match d with
    | .int i => i.natAbs ≤ n
    | .str x => x.length ≤ n
    | .tuple ds => ds.length ≤ n ∧ ∀ e ∈ ds, Fn n k e
    | _ => True
theorem Fn.mono {n n' : Nat} (hn : n ≤ n') : ∀ {k k' : Nat} {d : PyData}, k ≤ k' → Fn n k d → Fn n' k' d
  | 0, 0, d, _, h => by
    cases d with
    | int i => exact Nat.le_trans h hn
    | str x => exact Nat.le_trans h hn
    | tuple ds => exact h.elim
    | _ => trivial
  | 0, k' + 1, d, _, h => by
    cases d with
    | int i => exact Nat.le_trans h hn
    | str x => exact Nat.le_trans h hn
    | tuple ds => exact h.elim
    | _ => trivial
  | k + 1, 0, d, hk, h => by omega
  | k + 1, k' + 1, d, hk, h => by
    cases d with
    | int i => exact Nat.le_trans h hn
    | str x => exact Nat.le_trans h hn
    | tuple ds => exact ⟨Nat.le_trans h.1 hn, fun e he => Fn.mono hn (by omega) (h.2 e he)⟩
    | _ => trivial
def Gd (K : PySem.W.Frag) (H : Hp) (n k : Nat) (v : V) : Prop := ∃ d, Dz K H v d ∧ Fn n k d
theorem Gd.mono {H : Hp} {n n' k k' : Nat} {v : V} (h : Gd K H n k v) (hn : n ≤ n') (hk : k ≤ k') : Gd K H n' k' v := by
  obtain ⟨d, z, q⟩ := h
  exact ⟨d, z, q.mono hn hk⟩
theorem Gd.same {H H' : Hp} {n k : Nat} {v : V} (h : Gd K H n k v) (s : L2.Same H H') : Gd K H' n k v := by
  obtain ⟨d, z, q⟩ := h
  exact ⟨d, z.same s, q⟩
theorem gd_int {H : Hp} {n k : Nat} {i : Int} (h : i.natAbs ≤ n) : Gd K H n k (.int i) := ⟨_, .int i, by cases k <;> exact h⟩
theorem gd_str {H : Hp} {n k : Nat} {x : Str} (h : x.length ≤ n) : Gd K H n k (.str x) := ⟨_, .str x, by cases k <;> exact h⟩
theorem gd_bl {H : Hp} {n k : Nat} (b : Bool) : Gd K H n k (.bl b) := ⟨_, .bl b, by cases k <;> trivial⟩
theorem gd_non {H : Hp} {n k : Nat} : Gd K H n k .non := ⟨_, .non, by cases k <;> trivial⟩
theorem gd_all {H : Hp} {n k : Nat} : ∀ zs : List V, (∀ z ∈ zs, Gd K H n k z) → ∃ ds, DzAll K H zs ds ∧ ds.length = zs.length ∧ ∀ e ∈ ds, Fn n k e
  | [], _ => ⟨[], .nil, rfl, by simp⟩
  | z :: r, h => by
    obtain ⟨ds, q1, q2, q3⟩ := gd_all r fun x hx => h x (List.mem_cons_of_mem _ hx)
    obtain ⟨d, z1, z2⟩ := h z List.mem_cons_self
    refine ⟨d :: ds, .cons z1 q1, by rw [List.length_cons, List.length_cons, q2], fun e he => ?_⟩
    rcases List.mem_cons.mp he with w | w
    · rw [w]; exact z2
    · exact q3 e w
theorem gd_tup {H : Hp} {h p : Addr} {n k : Nat} {zs : List V} (ph : p ≠ h) (e : H p = some (.tup zs)) (l : zs.length ≤ n) (q : ∀ z ∈ zs, Gd K (del H h) n k z) : Gd K (del H h) n (k + 1) (.ref p) := by
  obtain ⟨ds, q1, q2, q3⟩ := gd_all zs q
  exact ⟨.tuple ds, .tup (off_at ph e) q1, by rw [q2]; exact l, q3⟩
theorem gd_lst {H : Hp} {h p : Addr} {n k m j : Nat} {zs : List V} (ph : p ≠ h) (ps : p ≠ sysModules) (e : H p = some (.lst zs)) (q : ∀ z ∈ zs, Gd K (del H h) m j z) : Gd K (del H h) n k (.ref p) := by
  obtain ⟨ds, q1, q2, q3⟩ := gd_all zs q
  exact ⟨.list ds, .lst (off_at ph e) ps q1, by cases k <;> trivial⟩
theorem cut_mem {xs : List V} {lo hi : Option Int} {z : V} (h : z ∈ cutV xs lo hi) : z ∈ xs := List.mem_of_mem_drop (List.mem_of_mem_take h)
theorem dz_all {H : Hp} : ∀ {xs : List V} {ds : List PyData} {v : V}, DzAll K H xs ds → v ∈ xs → ∃ d ∈ ds, Dz K H v d
  | [], _, _, .nil, m => by cases m
  | _ :: _, _, v, .cons (d := d) hd hr, m => by
    rcases List.mem_cons.mp m with z | z
    · rw [z]; exact ⟨d, List.mem_cons_self, hd⟩
    · obtain ⟨e, h1, h2⟩ := dz_all hr z
      exact ⟨e, List.mem_cons_of_mem _ h1, h2⟩
def spSome : Sp := fun vs H Q _ => ∃ (h : Addr) (n many : Int), vs = [.ref h, .int many] ∧ 0 ≤ many ∧ many ≤ 20 ∧ Hand n H h ∧ n + 100 ≤ far ∧
  ∀ t (ns : List Int) H', H' t = some (.tup (ns.map V.int)) → (∀ x ∈ ns, 0 ≤ x ∧ x ≤ 20) → ns.length ≤ 20 → Hand (n + 30) H' h → But h H H' → Q (.ref t) H'
def spOdd (K : PySem.W.Frag) : Sp := fun vs H Q _ => ∃ (h : Addr) (m : Int) (v : V) (n k : Nat), vs = [.ref h, v] ∧ Gd K (del H h) n k v ∧ n ≤ 10000 ∧ Hand m H h ∧ m + 100 ≤ far ∧
  ∀ v' H', Gd K (del H' h) (3 * n + 50) (k + 2) v' → Hand (m + 10) H' h → But h H H' → Q v' H'
theorem ok_some {f : Addr} {fd : FuncData} (D : Df K mg "_law_some" ["_law_hand_here", "_law_many"] sSome f fd) (T : Txt mg) (cT : Ca P w K mg base 1 "_law_take" ["_law_hand_here", "_law_many"] spTake) : FnOk P w K mg base CX0 2 f fd ["_law_hand_here", "_law_many"] spSome := by
  refine D.fn.ok scSome (fun vs H Q E h => ?_) (fun cdv A outer s H vs Q E hr h => ?_)
  · obtain ⟨h, n, many, rfl, m0, m1, hh, hn, q⟩ := h
    rfl
  · obtain ⟨h, n, many, rfl, m0, m1, hh, hn, q⟩ := h
    refine ⟨_, (pss_one (ps_ret (pe_callTy call_tuple_of (by rfl) T.tuple (by decide +kernel) (pa_cons (pe_lc (own := [("_law_k", 2)]) (g := gName 2) (by rfl) scSome.nd (pi_range1 (by rfl) T.range (pa_cons (pv 1) pa_nil)) (blkOk_by (own := [("_law_k", 2)]) (N := ["_law_hand_here", "_law_many", "_law_k"]) (sc := defScope sSome) (by decide +kernel)) (fun _ _ _ _ _ => pg_name (i := 2) scSome.nd rfl (.inl rfl)) (fun _ _ _ _ _ => (pts_one (pt_cmpR op_gt (pe_ca cT hr (by decide) (by rfl) (pa_cons (pv 0) (pa_cons pe_int pa_nil))) pe_int (nomark _)))) (fun _ _ _ _ _ => pv 2)) pa_nil)))), ?_⟩
    have fr : n + 100 ≤ 1000000 := hn
    refine ⟨_, rfl, _, rfl, by omega, by omega, fun D nD => ?_⟩
    have Dh := hh.fresh nD
    refine lc_range (lo := 0) (fun i Hi => ∃ ws : List Int, Hi D = some (.lst (ws.map V.int)) ∧ ws.length ≤ i ∧ (∀ x ∈ ws, 0 ≤ x ∧ x ≤ 20) ∧ Hand (n + i) Hi h ∧ But h H Hi) ⟨[], upd_same, Nat.le_refl _, by simp, (hh.same (same_upd nD)).mono (by omega), Same.but (same_upd nD) h⟩ ?_ ?_
    · rintro i Hi hi ⟨ws, eD, lw, cw, hdi, bi⟩
      have i20 : i < many.toNat := hi
      refine ⟨rfl, ?_⟩
      refine ⟨_, rfl, h, 3, n + i, rfl, by decide, by decide, hdi, by show n + (i : Int) ≤ 1000000; omega, fun d H3 e0 e1 h3 b3 => ⟨d, 0, rfl, rfl, _, rfl, ite2 (fun e => ?_) (fun e => ?_)⟩⟩
      · refine ⟨_, rfl, _, b3 _ _ Dh eD, ?_, ws ++ [0 + (i : Int)], by rw [upd_same, List.map_append]; rfl, ?_, ?_, (h3.upd (Ne.symm Dh)).mono (by omega), fun b x nb e => ?_⟩
        · rw [List.length_map]
          exact Nat.lt_of_le_of_lt (show ws.length ≤ 100 by omega) (by decide)
        · rw [List.length_append]
          exact Nat.add_le_add_right lw 1
        · intro x hx
          rcases List.mem_append.mp hx with z | z
          · exact cw x z
          · rw [List.mem_singleton.mp z]
            omega
        · rw [upd_ne (ne_of_none e nD)]
          exact b3 b x nb (bi b x nb e)
      · exact ⟨ws, b3 _ _ Dh eD, Nat.le_succ_of_le lw, cw, h3.mono (by omega), bi.trans b3⟩
    rintro H3 ⟨ws, eD, lw, cw, h3, b3⟩
    have lw' : ws.length ≤ many.toNat := lw
    have h3' : Hand (n + ((many.toNat : Nat) : Int)) H3 h := h3
    refine ⟨D, _, rfl, .inl ⟨SqL.of eD, fun t nt => ?_⟩⟩
    exact q t ws _ upd_same cw (by omega) ((h3'.same (same_upd nt)).mono (by omega)) (b3.trans (Same.but (same_upd nt) h))
end
end K57
set_option Elab.async false
set_option linter.all false
set_option maxRecDepth 100000
set_option maxHeartbeats 4000000
set_option pp.maxSteps 400
set_option pp.deepTerms false
namespace K57
open PySem PySem.Spec PyProof.Rows L2
open Xk Az
section
variable {P : Program} {w : World} {K : PySem.W.Frag} {mg : Str → Option Value} {base : Heap}
theorem len_cps (x : Str) : x.length = x.cps.toList.length := by
  rw [Array.length_toList]
  rfl
theorem cutS_le (x : Str) (lo hi : Option Int) : (cutS x lo hi).length ≤ x.length := by
  rw [len_cps, len_cps x]
  unfold cutS
  simp only [List.length_take, List.length_drop]
  omega
theorem lt30b {i : Int} (h : i < 100000) : i < 10 ^ 30 := Int.lt_trans h (by decide)
theorem ok_odd {f : Addr} {fd : FuncData} (D : Df K mg "_law_odd" ["_law_hand_here", "_law_thing"] sOdd f fd) (T : Txt mg) (cT : Ca P w K mg base 1 "_law_take" ["_law_hand_here", "_law_many"] spTake) (cP : Ca P w K mg base 2 "_law_pick" ["_law_hand_here", "_law_some_here"] spPick) : FnOk P w K mg base CX0 3 f fd ["_law_hand_here", "_law_thing"] (spOdd K) := by
  refine D.fn.ok scOdd (fun vs H Q E h => ?_) (fun cdv A outer s H vs Q E hr h => ?_)
  · obtain ⟨h, m, v, n, k, rfl, gd, n1, hh, hm, q⟩ := h
    rfl
  · obtain ⟨h, m, v, n, k, rfl, gd, n1, hh, hm, q⟩ := h
    refine ⟨_, (pss_cons (ps_if (pt_val (pe_callB call_isi (by rfl) T.isi (by decide +kernel) (pa_cons (pv 1) (pa_cons (pe_bltn (v := .ty "tuple") (by rfl) T.tuple (by decide +kernel) rfl) pa_nil)))) (pss_cons (ps_set (i := 2) scOdd.nd rfl (.inl rfl) (pe_ca cT hr (by decide) (by rfl) (pa_cons (pv 0) (pa_cons (pe_op op_add (pe_callB call_len_seq (by rfl) T.len PySem.boot_len (pa_cons (pv 1) pa_nil)) pe_int) pa_nil))))
      (pss_cons (ps_set (i := 3) scOdd.nd rfl (.inl rfl) (pe_lst (pa_cons (pe_op op_catU (pe_slice sl_tupU (pv 1) po_none (po_some (pv 2))) (pe_slice sl_tupU (pv 1) (po_some (pe_op op_add (pv 2) pe_int)) po_none)) (pa_cons (pe_op op_catU (pe_slice sl_tupU (pv 1) po_none (po_some (pe_op op_add (pv 2) pe_int))) (pe_slice sl_tupU (pv 1) (po_some (pv 2)) po_none)) (pa_cons (pe_revN (pv 1)) (pa_cons (pe_callTy cr_listT (by rfl) T.list (by decide +kernel) (pa_cons (pv 1) pa_nil)) (pa_cons (pe_tup pa_nil) pa_nil)))))))
      (pss_one (ps_ret (pe_ca cP hr (by decide) (by rfl) (pa_cons (pv 0) (pa_cons (pe_op op_cat (pv 3) (pe_lst (pa_cons (pe_op op_catU (pe_slice sl_tupU (pv 1) (po_some (pv 2)) po_none) (pe_slice sl_tupU (pv 1) po_none (po_some (pv 2)))) (pa_cons (pe_op op_catU (pv 1) (pe_tup (pa_cons pe_non pa_nil))) (pa_cons (pe_op op_catU (pv 1) (pe_tup (pa_cons (pe_tup pa_nil) pa_nil))) (pa_cons (pe_tup (pa_cons (pv 1) pa_nil)) (pa_cons (pe_slice sl_tupU (pv 1) po_none (po_some pe_int)) pa_nil))))))) pa_nil))))))) pss_nil)
      (pss_cons (ps_if (pt_val (pe_callB call_isi (by rfl) T.isi (by decide +kernel) (pa_cons (pv 1) (pa_cons (pe_bltn (v := .ty "str") (by rfl) T.str (by decide +kernel) rfl) pa_nil)))) (pss_cons (ps_par (i := 2) (j := 4) (by rfl) scOdd.nd rfl rfl (by decide) rfl rfl (pa_cons (pe_ca cT hr (by decide) (by rfl) (pa_cons (pv 0) (pa_cons (pe_op op_add (pe_callB call_len_str (by rfl) T.len PySem.boot_len (pa_cons (pv 1) pa_nil)) pe_int) pa_nil))) (pa_cons pe_str pa_nil)) (by rfl))
      (pss_cons (ps_set (i := 5) scOdd.nd rfl (.inl rfl) (pe_ca cP hr (by decide) (by rfl) (pa_cons (pv 0) (pa_cons (pv 4) pa_nil))))
      (pss_cons (ps_set (i := 3) scOdd.nd rfl (.inl rfl) (pe_lst (pa_cons (pe_op op_add_str (pe_op op_add_str (pe_slice sl_str (pv 1) po_none (po_some (pv 2))) (pv 5)) (pe_slice sl_str (pv 1) (po_some (pe_op op_add (pv 2) pe_int)) po_none)) (pa_cons (pe_op op_add_str (pe_op op_add_str (pe_slice sl_str (pv 1) po_none (po_some (pv 2))) (pv 5)) (pe_slice sl_str (pv 1) (po_some (pv 2)) po_none)) (pa_cons (pe_slice sl_str (pv 1) po_none (po_some (pv 2))) (pa_cons (pe_slice sl_str (pv 1) (po_some (pv 2)) po_none) pa_nil))))))
      (pss_one (ps_ret (pe_ca cP hr (by decide) (by rfl) (pa_cons (pv 0) (pa_cons (pe_op op_cat (pv 3) (pe_lst (pa_cons (pe_op op_add_str (pv 1) pe_str) (pa_cons (pe_m0 F.slot_str_upper F.type_str_upper mt_upper (pv 1)) (pa_cons pe_non (pa_cons pe_int (pa_cons (pe_tup (pa_cons (pv 1) pa_nil)) pa_nil))))))) pa_nil)))))))) pss_nil)
      (pss_cons (ps_if (PW.pt (pw_or (pt_cmpR op_isN (pv 1) pe_non (nomark _)) (pw_or1 (pt_not (pt_val (pe_callB call_isi (by rfl) T.isi (by decide +kernel) (pa_cons (pv 1) (pa_cons (pe_bltn (v := .ty "int") (by rfl) T.int (by decide +kernel) rfl) pa_nil)))))))) (pss_one (ps_ret (pe_ca cP hr (by decide) (by rfl) (pa_cons (pv 0) (pa_cons (pe_lst (pa_cons pe_int (pa_cons (pe_tup pa_nil) (pa_cons pe_bl (pa_cons pe_str (pa_cons pe_non (pa_cons (pe_lstZ (pa_cons (pv 1) pa_nil)) pa_nil))))))) pa_nil))))) pss_nil)
      (pss_cons (ps_set (i := 6) scOdd.nd rfl (.inl rfl) (pe_callTy call_int1 (by rfl) T.int (by decide +kernel) (pa_cons (pv 1) pa_nil)))
      (pss_cons (ps_set (i := 3) scOdd.nd rfl (.inl rfl) (pe_lst (pa_cons (pe_op op_add (pv 6) pe_int) (pa_cons (pe_op op_sub (pv 6) pe_int) (pa_cons (pe_op op_sub pe_int (pv 6)) (pa_cons pe_int (pa_cons (pe_cmpR op_eq (pv 6) pe_int (nomark _)) (pa_cons (pe_cmpR op_ne (pv 6) pe_int (nomark _)) (pa_cons pe_non (pa_cons (pe_callTy call_str_int (by rfl) T.str (by decide +kernel) (pa_cons (pv 6) pa_nil)) (pa_cons (pe_tup (pa_cons (pv 6) pa_nil)) pa_nil)))))))))))
      (pss_one (ps_ret (pe_ca cP hr (by decide) (by rfl) (pa_cons (pv 0) (pa_cons (pe_op op_cat (pv 3) (pe_lst (pa_cons (pe_op op_add (pv 6) pe_int) (pa_cons (pe_op op_mul (pv 6) pe_int) pa_nil)))) pa_nil)))))))))), ?_⟩
    have fr : m + 100 ≤ 1000000 := hm
    obtain ⟨d, dz, fn⟩ := id gd
    have offall : L2.Same (del H h) H := off_all
    refine ⟨_, rfl, _, _, _, _, isTup d, rfl, .ty _, (dz.same offall).ty, z_tup d, _, rfl, ?_⟩
    cases dz with
    | @tup t xs ds et' ra =>
      cases k with
      | zero => exact fn.elim
      | succ k =>
        obtain ⟨fl, fe⟩ := fn
        have et : H t = some (.tup xs) := off_all _ _ et'
        have th : t ≠ h := hh.ne_tup (K := K) et
        have lx : xs.length ≤ 10000 := by rw [dz_len ra]; omega
        have lxn : xs.length ≤ n := by rw [dz_len ra]; exact fl
        have el : ∀ x ∈ xs, Gd K (del H h) n k x := fun x hx => by
          obtain ⟨e, he, hz⟩ := dz_all ra hx
          exact ⟨e, hz, fe e he⟩
        have cl : ∀ a b : Option Int, (cutV xs a b).length ≤ xs.length := fun a b => cutV_length xs a b
        have cl' : ∀ a b : Option Int, (cutV xs a b).length ≤ 10000 := fun a b => Nat.le_trans (cl a b) lx
        have fits : ∀ {ys zs : List V}, ys.length ≤ 10000 → zs.length ≤ 10000 → ys.length + zs.length ≤ sizeLine := fun {ys zs} h1 h2 => Nat.le_trans (show ys.length + zs.length ≤ 20000 by omega) (by decide)
        refine iteT ⟨_, rfl, _, rfl, t, xs, rfl, .inr (SqT.of et), _, 1, rfl, rfl, h, (xs.length : Int) + 1, m, rfl, by omega, lt30b (by omega), hh, by show m ≤ 1000000; omega, fun c H1 c0 c1 h1 b1 => ?_⟩
        have et1 := b1 _ _ th et
        refine ⟨_, rfl, _, rfl, c, rfl, t, xs, rfl, et1, fun p1 G2 s3 e4 => ?_⟩
        refine ⟨_, rfl, _, rfl, c, 1, rfl, rfl, _, rfl, t, xs, rfl, (s3 _ _ et1), fun p5 G6 s7 e8 => ?_⟩
        refine ⟨p1, p5, _, _, rfl, rfl, (s7 _ _ e4), e8, fits (cl' none (some c)) (cl' (some (c + 1)) none), fun p9 G10 s11 e12 => ?_⟩
        refine ⟨_, rfl, _, rfl, c, 1, rfl, rfl, _, rfl, t, xs, rfl, (s11 _ _ (s7 _ _ (s3 _ _ et1))), fun p13 G14 s15 e16 => ?_⟩
        refine ⟨_, rfl, _, rfl, c, rfl, t, xs, rfl, (s15 _ _ (s11 _ _ (s7 _ _ (s3 _ _ et1)))), fun p17 G18 s19 e20 => ?_⟩
        refine ⟨p13, p17, _, _, rfl, rfl, (s19 _ _ e16), e20, fits (cl' none (some (c + 1))) (cl' (some c) none), fun p21 G22 s23 e24 => ?_⟩
        refine ⟨_, rfl, t, xs, rfl, (s23 _ _ (s19 _ _ (s15 _ _ (s11 _ _ (s7 _ _ (s3 _ _ et1)))))), fun p25 G26 s27 e28 => ?_⟩
        refine ⟨_, rfl, t, xs, rfl, SqT.of (s27 _ _ (s23 _ _ (s19 _ _ (s15 _ _ (s11 _ _ (s7 _ _ (s3 _ _ et1))))))), fun p29 n30 ne4 => ?_⟩
        have q4h : p29 ≠ h := (h1.same ((((((s3.trans s7).trans s11).trans s15).trans s19).trans s23).trans s27)).fresh n30
        have s31 := same_upd n30 (o := .lst xs)
        have e32 : (upd G26 p29 (.lst xs)) p29 = some (.lst xs) := upd_same
        generalize upd G26 p29 (.lst xs) = G33 at s31 e32 ⊢
        refine ⟨(by show 0 ≤ sizeLine; decide), fun p34 n35 => ?_⟩
        have s36 := same_upd n35 (o := .tup [])
        have e37 : (upd G33 p34 (.tup [])) p34 = some (.tup []) := upd_same
        generalize upd G33 p34 (.tup []) = G38 at s36 e37 ⊢
        refine ⟨(by show 5 ≤ sizeLine; decide), fun p39 n40 => ?_⟩
        have s41 := same_upd n40 (o := .lst [.ref p9, .ref p21, .ref p25, .ref p29, .ref p34])
        have e42 : (upd G38 p39 (.lst [.ref p9, .ref p21, .ref p25, .ref p29, .ref p34])) p39 = some (.lst [.ref p9, .ref p21, .ref p25, .ref p29, .ref p34]) := upd_same
        generalize upd G38 p39 (.lst [.ref p9, .ref p21, .ref p25, .ref p29, .ref p34]) = G43 at s41 e42 ⊢
        refine ⟨_, rfl, _, rfl, ?_⟩
        refine ⟨_, rfl, _, rfl, c, rfl, t, xs, rfl, (s41 _ _ (s36 _ _ (s31 _ _ (s27 _ _ (s23 _ _ (s19 _ _ (s15 _ _ (s11 _ _ (s7 _ _ (s3 _ _ et1)))))))))), fun p44 G45 s46 e47 => ?_⟩
        refine ⟨_, rfl, _, rfl, c, rfl, t, xs, rfl, (s46 _ _ (s41 _ _ (s36 _ _ (s31 _ _ (s27 _ _ (s23 _ _ (s19 _ _ (s15 _ _ (s11 _ _ (s7 _ _ (s3 _ _ et1))))))))))), fun p48 G49 s50 e51 => ?_⟩
        refine ⟨p44, p48, _, _, rfl, rfl, (s50 _ _ e47), e51, fits (cl' (some c) none) (cl' none (some c)), fun p52 G53 s54 e55 => ?_⟩
        refine ⟨_, rfl, ?_⟩
        refine ⟨(by show 1 ≤ sizeLine; decide), fun p56 n57 => ?_⟩
        have s58 := same_upd n57 (o := .tup [.non])
        have e59 : (upd G53 p56 (.tup [.non])) p56 = some (.tup [.non]) := upd_same
        generalize upd G53 p56 (.tup [.non]) = G60 at s58 e59 ⊢
        refine ⟨t, p56, _, _, rfl, rfl, (s58 _ _ (s54 _ _ (s50 _ _ (s46 _ _ (s41 _ _ (s36 _ _ (s31 _ _ (s27 _ _ (s23 _ _ (s19 _ _ (s15 _ _ (s11 _ _ (s7 _ _ (s3 _ _ et1)))))))))))))), e59, fits lx (by show 1 ≤ 10000; decide), fun p61 G62 s63 e64 => ?_⟩
        refine ⟨_, rfl, ?_⟩
        refine ⟨(by show 0 ≤ sizeLine; decide), fun p65 n66 => ?_⟩
        have s67 := same_upd n66 (o := .tup [])
        have e68 : (upd G62 p65 (.tup [])) p65 = some (.tup []) := upd_same
        generalize upd G62 p65 (.tup []) = G69 at s67 e68 ⊢
        refine ⟨(by show 1 ≤ sizeLine; decide), fun p70 n71 => ?_⟩
        have s72 := same_upd n71 (o := .tup [.ref p65])
        have e73 : (upd G69 p70 (.tup [.ref p65])) p70 = some (.tup [.ref p65]) := upd_same
        generalize upd G69 p70 (.tup [.ref p65]) = G74 at s72 e73 ⊢
        refine ⟨t, p70, _, _, rfl, rfl, (s72 _ _ (s67 _ _ (s63 _ _ (s58 _ _ (s54 _ _ (s50 _ _ (s46 _ _ (s41 _ _ (s36 _ _ (s31 _ _ (s27 _ _ (s23 _ _ (s19 _ _ (s15 _ _ (s11 _ _ (s7 _ _ (s3 _ _ et1))))))))))))))))), e73, fits lx (by show 1 ≤ 10000; decide), fun p75 G76 s77 e78 => ?_⟩
        refine ⟨_, rfl, (by show 1 ≤ sizeLine; decide), fun p79 n80 => ?_⟩
        have s81 := same_upd n80 (o := .tup [.ref t])
        have e82 : (upd G76 p79 (.tup [.ref t])) p79 = some (.tup [.ref t]) := upd_same
        generalize upd G76 p79 (.tup [.ref t]) = G83 at s81 e82 ⊢
        refine ⟨_, rfl, 1, rfl, t, xs, rfl, (s81 _ _ (s77 _ _ (s72 _ _ (s67 _ _ (s63 _ _ (s58 _ _ (s54 _ _ (s50 _ _ (s46 _ _ (s41 _ _ (s36 _ _ (s31 _ _ (s27 _ _ (s23 _ _ (s19 _ _ (s15 _ _ (s11 _ _ (s7 _ _ (s3 _ _ et1))))))))))))))))))), fun p84 G85 s86 e87 => ?_⟩
        refine ⟨(by show 5 ≤ sizeLine; decide), fun p88 n89 => ?_⟩
        have s90 := same_upd n89 (o := .lst [.ref p52, .ref p61, .ref p75, .ref p79, .ref p84])
        have e91 : (upd G85 p88 (.lst [.ref p52, .ref p61, .ref p75, .ref p79, .ref p84])) p88 = some (.lst [.ref p52, .ref p61, .ref p75, .ref p79, .ref p84]) := upd_same
        generalize upd G85 p88 (.lst [.ref p52, .ref p61, .ref p75, .ref p79, .ref p84]) = G92 at s90 e91 ⊢
        refine ⟨p39, p88, _, _, rfl, rfl, (s90 _ _ (s86 _ _ (s81 _ _ (s77 _ _ (s72 _ _ (s67 _ _ (s63 _ _ (s58 _ _ (s54 _ _ (s50 _ _ (s46 _ _ e42))))))))))), e91, (by show 5 + 5 ≤ sizeLine; decide), fun p93 n94 => ?_⟩
        have s95 := same_upd n94 (o := .lst [.ref p9, .ref p21, .ref p25, .ref p29, .ref p34, .ref p52, .ref p61, .ref p75, .ref p79, .ref p84])
        have hL := (h1.same ((((((((((((((((((((s3.trans s7).trans s11).trans s15).trans s19).trans s23).trans s27).trans s31).trans s36).trans s41).trans s46).trans s50).trans s54).trans s58).trans s63).trans s67).trans s72).trans s77).trans s81).trans s86).trans s90))
        have LCh := hL.fresh n94
        refine ⟨h, m + 1, _, rfl, hL.same s95, by show m + 1 ≤ 1000000; omega, .inl ⟨p93, _, rfl, upd_same, LCh, by simp, by show 10 < 1000; decide, fun v2 Hf mv hf bf => ?_⟩⟩
        have b1f : But h H1 Hf := (Same.but (((((((((((((((((((((s3.trans s7).trans s11).trans s15).trans s19).trans s23).trans s27).trans s31).trans s36).trans s41).trans s46).trans s50).trans s54).trans s58).trans s63).trans s67).trans s72).trans s77).trans s81).trans s86).trans s90).trans s95) h).trans bf
        have elf : ∀ x ∈ xs, Gd K (del Hf h) (3 * n + 50) k x := fun x hx => ((el x hx).same (off_but (b1.trans b1f))).mono (by omega) (Nat.le_refl _)
        have up : ∀ {p : Addr} {zs : List V}, Hf p = some (.tup zs) → zs.length ≤ 3 * n + 50 → (∀ z ∈ zs, z ∈ xs) → Gd K (del Hf h) (3 * n + 50) (k + 1 + 2) (.ref p) := fun {p zs} e l sub => (gd_tup (hf.ne_tup (K := K) e) e l fun z hz => elf z (sub z hz)).mono (Nat.le_refl _) (by omega)
        have hL' := hL.same s95
        have fin : Gd K (del Hf h) (3 * n + 50) (k + 1 + 2) v2 := by
          simp only [List.cons_append, List.nil_append, List.mem_cons, List.not_mem_nil, or_false] at mv
          rcases mv with e | e | e | e | e | e | e | e | e | e
          · subst e
            exact up (bf _ _ (hL'.ne_tup (K := K) (s95 _ _ (s90 _ _ (s86 _ _ (s81 _ _ (s77 _ _ (s72 _ _ (s67 _ _ (s63 _ _ (s58 _ _ (s54 _ _ (s50 _ _ (s46 _ _ (s41 _ _ (s36 _ _ (s31 _ _ (s27 _ _ (s23 _ _ (s19 _ _ (s15 _ _ e12)))))))))))))))))))) (s95 _ _ (s90 _ _ (s86 _ _ (s81 _ _ (s77 _ _ (s72 _ _ (s67 _ _ (s63 _ _ (s58 _ _ (s54 _ _ (s50 _ _ (s46 _ _ (s41 _ _ (s36 _ _ (s31 _ _ (s27 _ _ (s23 _ _ (s19 _ _ (s15 _ _ e12)))))))))))))))))))) (by rw [List.length_append]; have := cl none (some c); have := cl (some (c + 1)) none; omega) (fun z hz => (List.mem_append.mp hz).elim cut_mem cut_mem)
          · subst e
            exact up (bf _ _ (hL'.ne_tup (K := K) (s95 _ _ (s90 _ _ (s86 _ _ (s81 _ _ (s77 _ _ (s72 _ _ (s67 _ _ (s63 _ _ (s58 _ _ (s54 _ _ (s50 _ _ (s46 _ _ (s41 _ _ (s36 _ _ (s31 _ _ (s27 _ _ e24))))))))))))))))) (s95 _ _ (s90 _ _ (s86 _ _ (s81 _ _ (s77 _ _ (s72 _ _ (s67 _ _ (s63 _ _ (s58 _ _ (s54 _ _ (s50 _ _ (s46 _ _ (s41 _ _ (s36 _ _ (s31 _ _ (s27 _ _ e24))))))))))))))))) (by rw [List.length_append]; have := cl none (some (c + 1)); have := cl (some c) none; omega) (fun z hz => (List.mem_append.mp hz).elim cut_mem cut_mem)
          · subst e
            exact up (bf _ _ (hL'.ne_tup (K := K) (s95 _ _ (s90 _ _ (s86 _ _ (s81 _ _ (s77 _ _ (s72 _ _ (s67 _ _ (s63 _ _ (s58 _ _ (s54 _ _ (s50 _ _ (s46 _ _ (s41 _ _ (s36 _ _ (s31 _ _ e28)))))))))))))))) (s95 _ _ (s90 _ _ (s86 _ _ (s81 _ _ (s77 _ _ (s72 _ _ (s67 _ _ (s63 _ _ (s58 _ _ (s54 _ _ (s50 _ _ (s46 _ _ (s41 _ _ (s36 _ _ (s31 _ _ e28)))))))))))))))) (by rw [List.length_reverse]; omega) (fun z hz => List.mem_reverse.mp hz)
          · subst e
            exact gd_lst (j := k) (m := 3 * n + 50) q4h ne4 (bf _ _ q4h (s95 _ _ (s90 _ _ (s86 _ _ (s81 _ _ (s77 _ _ (s72 _ _ (s67 _ _ (s63 _ _ (s58 _ _ (s54 _ _ (s50 _ _ (s46 _ _ (s41 _ _ (s36 _ _ e32))))))))))))))) elf
          · subst e
            exact up (bf _ _ (hL'.ne_tup (K := K) (s95 _ _ (s90 _ _ (s86 _ _ (s81 _ _ (s77 _ _ (s72 _ _ (s67 _ _ (s63 _ _ (s58 _ _ (s54 _ _ (s50 _ _ (s46 _ _ (s41 _ _ e37)))))))))))))) (s95 _ _ (s90 _ _ (s86 _ _ (s81 _ _ (s77 _ _ (s72 _ _ (s67 _ _ (s63 _ _ (s58 _ _ (s54 _ _ (s50 _ _ (s46 _ _ (s41 _ _ e37)))))))))))))) (by simp) (fun z hz => by cases hz)
          · subst e
            exact up (bf _ _ (hL'.ne_tup (K := K) (s95 _ _ (s90 _ _ (s86 _ _ (s81 _ _ (s77 _ _ (s72 _ _ (s67 _ _ (s63 _ _ (s58 _ _ e55)))))))))) (s95 _ _ (s90 _ _ (s86 _ _ (s81 _ _ (s77 _ _ (s72 _ _ (s67 _ _ (s63 _ _ (s58 _ _ e55)))))))))) (by rw [List.length_append]; have := cl (some c) none; have := cl none (some c); omega) (fun z hz => (List.mem_append.mp hz).elim cut_mem cut_mem)
          · subst e
            refine (gd_tup (k := k) (hf.ne_tup (K := K) (bf _ _ (hL'.ne_tup (K := K) (s95 _ _ (s90 _ _ (s86 _ _ (s81 _ _ (s77 _ _ (s72 _ _ (s67 _ _ e64)))))))) (s95 _ _ (s90 _ _ (s86 _ _ (s81 _ _ (s77 _ _ (s72 _ _ (s67 _ _ e64))))))))) (bf _ _ (hL'.ne_tup (K := K) (s95 _ _ (s90 _ _ (s86 _ _ (s81 _ _ (s77 _ _ (s72 _ _ (s67 _ _ e64)))))))) (s95 _ _ (s90 _ _ (s86 _ _ (s81 _ _ (s77 _ _ (s72 _ _ (s67 _ _ e64)))))))) (by rw [List.length_append]; show xs.length + 1 ≤ _; omega) fun z hz => ?_).mono (Nat.le_refl _) (by omega)
            rcases List.mem_append.mp hz with w | w
            · exact elf z w
            · rw [List.mem_singleton.mp w]; exact gd_non
          · subst e
            refine (gd_tup (k := k + 1) (hf.ne_tup (K := K) (bf _ _ (hL'.ne_tup (K := K) (s95 _ _ (s90 _ _ (s86 _ _ (s81 _ _ e78))))) (s95 _ _ (s90 _ _ (s86 _ _ (s81 _ _ e78)))))) (bf _ _ (hL'.ne_tup (K := K) (s95 _ _ (s90 _ _ (s86 _ _ (s81 _ _ e78))))) (s95 _ _ (s90 _ _ (s86 _ _ (s81 _ _ e78))))) (by rw [List.length_append]; show xs.length + 1 ≤ _; omega) fun z hz => ?_).mono (Nat.le_refl _) (by omega)
            rcases List.mem_append.mp hz with w | w
            · exact (elf z w).mono (Nat.le_refl _) (by omega)
            · rw [List.mem_singleton.mp w]; exact gd_tup (hf.ne_tup (K := K) (bf _ _ (hL'.ne_tup (K := K) (s95 _ _ (s90 _ _ (s86 _ _ (s81 _ _ (s77 _ _ (s72 _ _ e68))))))) (s95 _ _ (s90 _ _ (s86 _ _ (s81 _ _ (s77 _ _ (s72 _ _ e68)))))))) (bf _ _ (hL'.ne_tup (K := K) (s95 _ _ (s90 _ _ (s86 _ _ (s81 _ _ (s77 _ _ (s72 _ _ e68))))))) (s95 _ _ (s90 _ _ (s86 _ _ (s81 _ _ (s77 _ _ (s72 _ _ e68))))))) (by simp) (fun z hz => by cases hz)
          · subst e
            refine (gd_tup (k := k + 1) (n := 3 * n + 50) (hf.ne_tup (K := K) (bf _ _ (hL'.ne_tup (K := K) (s95 _ _ (s90 _ _ (s86 _ _ e82)))) (s95 _ _ (s90 _ _ (s86 _ _ e82))))) (bf _ _ (hL'.ne_tup (K := K) (s95 _ _ (s90 _ _ (s86 _ _ e82)))) (s95 _ _ (s90 _ _ (s86 _ _ e82)))) (by rw [List.length_singleton]; omega) fun z hz => ?_).mono (Nat.le_refl _) (by omega)
            rw [List.mem_singleton.mp hz]
            exact (gd_tup (hf.ne_tup (K := K) (bf _ _ (hL'.ne_tup (K := K) (s95 _ _ (s90 _ _ (s86 _ _ (s81 _ _ (s77 _ _ (s72 _ _ (s67 _ _ (s63 _ _ (s58 _ _ (s54 _ _ (s50 _ _ (s46 _ _ (s41 _ _ (s36 _ _ (s31 _ _ (s27 _ _ (s23 _ _ (s19 _ _ (s15 _ _ (s11 _ _ (s7 _ _ (s3 _ _ et1))))))))))))))))))))))) (s95 _ _ (s90 _ _ (s86 _ _ (s81 _ _ (s77 _ _ (s72 _ _ (s67 _ _ (s63 _ _ (s58 _ _ (s54 _ _ (s50 _ _ (s46 _ _ (s41 _ _ (s36 _ _ (s31 _ _ (s27 _ _ (s23 _ _ (s19 _ _ (s15 _ _ (s11 _ _ (s7 _ _ (s3 _ _ et1)))))))))))))))))))))))) (bf _ _ (hL'.ne_tup (K := K) (s95 _ _ (s90 _ _ (s86 _ _ (s81 _ _ (s77 _ _ (s72 _ _ (s67 _ _ (s63 _ _ (s58 _ _ (s54 _ _ (s50 _ _ (s46 _ _ (s41 _ _ (s36 _ _ (s31 _ _ (s27 _ _ (s23 _ _ (s19 _ _ (s15 _ _ (s11 _ _ (s7 _ _ (s3 _ _ et1))))))))))))))))))))))) (s95 _ _ (s90 _ _ (s86 _ _ (s81 _ _ (s77 _ _ (s72 _ _ (s67 _ _ (s63 _ _ (s58 _ _ (s54 _ _ (s50 _ _ (s46 _ _ (s41 _ _ (s36 _ _ (s31 _ _ (s27 _ _ (s23 _ _ (s19 _ _ (s15 _ _ (s11 _ _ (s7 _ _ (s3 _ _ et1))))))))))))))))))))))) (by omega) elf)
          · subst e
            exact up (bf _ _ (hL'.ne_tup (K := K) (s95 _ _ (s90 _ _ e87))) (s95 _ _ (s90 _ _ e87))) (by have := cl none (some 1); omega) (fun z hz => cut_mem hz)
        exact q v2 Hf fin (hf.mono (by omega)) (b1.trans b1f)
    | str x =>
      have lx : x.length ≤ n := by cases k <;> exact fn
      have ty : TyX K H (.str x) (.type "str") := (Dz.str x : Dz K H (.str x) (.str x)).ty
      have cl : ∀ a b : Option Int, (cutS x a b).length ≤ x.length := fun a b => cutS_le x a b
      have fx : x.length ≤ sizeLine := Nat.le_trans (show x.length ≤ 10000 by omega) (by decide)
      have f2 : ∀ {p q : Nat}, p ≤ 30100 → q ≤ 30100 → p + q ≤ sizeLine := fun h1 h2 => Nat.le_trans (Nat.add_le_add h1 h2) (by decide)
      have l1 : ∀ a b, (cutS x a b).length ≤ 30100 := fun a b => Nat.le_trans (cl a b) (by omega)
      refine iteF ⟨_, rfl, _, _, _, _, true, rfl, .ty _, ty, kit_ty (by decide +kernel), true, rfl, iteT ?_⟩
      refine ⟨_, rfl, _, rfl, x, rfl, fx, _, 1, rfl, rfl, h, (x.length : Int) + 1, m, rfl, by omega, lt30b (by omega), hh, by show m ≤ 1000000; omega, fun c H1 c0 c1 h1 b1 => ⟨_, _, rfl, ?_⟩⟩
      refine ⟨_, rfl, _, rfl, h, m + 1, _, rfl, h1, by show m + 1 ≤ 1000000; omega, .inr ⟨_, rfl, by decide +kernel, by decide +kernel, fun cc H2 mc h2 b2 => ?_⟩⟩
      have o1 : (⟨#[cc]⟩ : Str).length = 1 := rfl
      have lcz : ∀ a b, (cutS x a b ++ (⟨#[cc]⟩ : Str)).length ≤ 30100 := fun a b => by
        rw [strLen_append, o1]
        have := cl a b
        omega
      refine ⟨_, rfl, _, rfl, c, rfl, x, rfl, fx, _, rfl, _, _, rfl, rfl, f2 (l1 _ _) (by rw [o1]; decide), _, rfl, _, rfl, c, 1, rfl, rfl, _, rfl, x, rfl, fx, _, _, rfl, rfl, f2 (lcz _ _) (l1 _ _), ?_⟩
      refine ⟨_, rfl, _, rfl, c, rfl, x, rfl, fx, _, rfl, _, _, rfl, rfl, f2 (l1 _ _) (by rw [o1]; decide), _, rfl, _, rfl, c, rfl, x, rfl, fx, _, _, rfl, rfl, f2 (lcz _ _) (l1 _ _), ?_⟩
      refine ⟨_, rfl, _, rfl, c, rfl, x, rfl, fx, ?_⟩
      refine ⟨_, rfl, _, rfl, c, rfl, x, rfl, fx, (by show 4 ≤ sizeLine; decide), fun L nL => ?_⟩
      have sL := same_upd nL (o := .lst [.str (cutS x none (some c) ++ (⟨#[cc]⟩ : Str) ++ cutS x (some (c + 1)) none), .str (cutS x none (some c) ++ (⟨#[cc]⟩ : Str) ++ cutS x (some c) none), .str (cutS x none (some c)), .str (cutS x (some c) none)])
      have eL : (upd H2 L (.lst [.str (cutS x none (some c) ++ (⟨#[cc]⟩ : Str) ++ cutS x (some (c + 1)) none), .str (cutS x none (some c) ++ (⟨#[cc]⟩ : Str) ++ cutS x (some c) none), .str (cutS x none (some c)), .str (cutS x (some c) none)])) L = _ := upd_same
      generalize upd H2 L _ = H3 at sL eL ⊢
      have al : ("abcdefghijkl" : Str).length = 12 := by decide +kernel
      refine ⟨_, rfl, _, rfl, _, rfl, x, _, rfl, rfl, f2 (by omega) (by rw [al]; decide), _, rfl, ⟨x, rfl⟩, x, rfl, rfl, by omega, _, rfl, (by show 1 ≤ sizeLine; decide), fun p np => ?_⟩
      have sp := same_upd np (o := .tup [.str x])
      have ep : (upd H3 p (.tup [.str x])) p = some (.tup [.str x]) := upd_same
      generalize upd H3 p (.tup [.str x]) = H4 at sp ep ⊢
      refine ⟨(by show 5 ≤ sizeLine; decide), fun L2' nL2 => ?_⟩
      have s5 := same_upd nL2 (o := .lst [.str (x ++ "abcdefghijkl"), .str (Txt.upper x), .non, .int 0, .ref p])
      refine ⟨L, L2', _, _, rfl, rfl, s5 _ _ (sp _ _ eL), upd_same, (by show 4 + 5 ≤ sizeLine; decide), fun LC nLC => ?_⟩
      have hL := ((h2.same sL).same sp).same s5
      have s6 := same_upd nLC (o := .lst ([.str (cutS x none (some c) ++ (⟨#[cc]⟩ : Str) ++ cutS x (some (c + 1)) none), .str (cutS x none (some c) ++ (⟨#[cc]⟩ : Str) ++ cutS x (some c) none), .str (cutS x none (some c)), .str (cutS x (some c) none)] ++ [.str (x ++ "abcdefghijkl"), .str (Txt.upper x), .non, .int 0, .ref p]))
      refine ⟨h, m + 1 + 1, _, rfl, hL.same s6, by show m + 1 + 1 ≤ 1000000; omega, .inl ⟨LC, _, rfl, upd_same, hL.fresh nLC, by simp, by show 9 < 1000; decide, fun v2 Hf mv hf bf => ?_⟩⟩
      have bt : But h H Hf := b1.trans (b2.trans ((Same.but (((sL.trans sp).trans s5).trans s6) h).trans bf))
      have ph : p ≠ h := (hL.same s6).ne_tup (K := K) (s6 _ _ (s5 _ _ ep))
      have epf := bf _ _ ph (s6 _ _ (s5 _ _ ep))
      have fin : Gd K (del Hf h) (3 * n + 50) (k + 2) v2 := by
        have lu := PyProof.Rows.len_upper x
        simp only [List.cons_append, List.nil_append, List.mem_cons, List.not_mem_nil, or_false] at mv
        rcases mv with e | e | e | e | e | e | e | e | e
        · subst e
          refine gd_str ?_
          rw [strLen_append, strLen_append, o1]
          have := cl none (some c)
          have := cl (some (c + 1)) none
          omega
        · subst e
          refine gd_str ?_
          rw [strLen_append, strLen_append, o1]
          have := cl none (some c)
          have := cl (some c) none
          omega
        · subst e
          exact gd_str (by have := cl none (some c); omega)
        · subst e
          exact gd_str (by have := cl (some c) none; omega)
        · subst e
          exact gd_str (by rw [strLen_append, al]; omega)
        · subst e
          exact gd_str (by omega)
        · subst e
          exact gd_non
        · subst e
          exact gd_int (by simp)
        · subst e
          exact gd_tup (k := k + 1) ph epf (by rw [List.length_singleton]; omega) fun z hz => by
            rw [List.mem_singleton.mp hz]
            exact gd_str (by omega)
      exact q v2 Hf fin (hf.mono (by omega)) bt
    | int i0 =>
      have ib0 : i0.natAbs ≤ n := by cases k <;> exact fn
      have ib : (i0.natAbs : Int) ≤ n + 1 := by omega
      have ty : TyX K H (.int i0) (.type "int") := ((.int i0 : Dz K (del H h) (.int i0) _).same offall).ty
      refine iteF ⟨_, rfl, _, _, _, _, false, rfl, .ty _, ty, kit_ty (by decide +kernel), false, rfl, iteF ?_⟩
      refine ⟨_, rfl, rfl, false, rfl, iteF ⟨_, rfl, _, _, _, _, true, rfl, .ty _, ty, kit_ty (by decide +kernel), true, rfl, ?_⟩⟩
      refine ⟨_, rfl, .inl ⟨i0, rfl, ?_⟩⟩
      generalize ei : (i0) = i at ib ⊢
      refine ⟨_, rfl, i, 1, rfl, rfl, _, rfl, i, 1, rfl, rfl, _, rfl, 0, i, rfl, rfl, _, rfl, rfl, _, rfl, rfl, _, rfl, i, rfl, lg (by omega) (by omega), _, rfl, (by show 1 ≤ sizeLine; decide), fun p np => ?_⟩
      have sp := same_upd np (o := .tup [.int i])
      have ep : (upd H p (.tup [.int i])) p = some (.tup [.int i]) := upd_same
      generalize upd H p (.tup [.int i]) = H1 at sp ep ⊢
      refine ⟨(by show 9 ≤ sizeLine; decide), fun L nL => ?_⟩
      have sL := same_upd nL (o := .lst [.int (i + 1), .int (i - 1), .int (0 - i), .int 0, .bl (decide (V.int i = V.int 1)), .bl (!decide (V.int i = V.int 1)), .non, .str (toString i), .ref p])
      refine ⟨_, rfl, _, rfl, _, rfl, i, 30, rfl, rfl, _, rfl, i, 2, rfl, rfl, .inr (by decide), (by show 2 ≤ sizeLine; decide), fun L2' nL2 => ?_⟩
      have s5 := same_upd nL2 (o := .lst [.int (i + 30), .int (i * 2)])
      refine ⟨L, L2', _, _, rfl, rfl, s5 _ _ upd_same, upd_same, (by show 9 + 2 ≤ sizeLine; decide), fun LC nLC => ?_⟩
      have hL := ((hh.same sp).same sL).same s5
      have s6 := same_upd nLC (o := .lst ([.int (i + 1), .int (i - 1), .int (0 - i), .int 0, .bl (decide (V.int i = V.int 1)), .bl (!decide (V.int i = V.int 1)), .non, .str (toString i), .ref p] ++ [.int (i + 30), .int (i * 2)]))
      refine ⟨h, m, _, rfl, hL.same s6, by show m ≤ 1000000; omega, .inl ⟨LC, _, rfl, upd_same, hL.fresh nLC, by simp, by show 11 < 1000; decide, fun v2 Hf mv hf bf => ?_⟩⟩
      have bt : But h H Hf := (Same.but (((sp.trans sL).trans s5).trans s6) h).trans bf
      have ph : p ≠ h := (hL.same s6).ne_tup (K := K) (s6 _ _ (s5 _ _ (sL _ _ ep)))
      have epf := bf _ _ ph (s6 _ _ (s5 _ _ (sL _ _ ep)))
      have lt := tx_le (i := i) (by omega) (by omega)
      have fin : Gd K (del Hf h) (3 * n + 50) (k + 2) v2 := by
        simp only [List.cons_append, List.nil_append, List.mem_cons, List.not_mem_nil, or_false] at mv
        rcases mv with e | e | e | e | e | e | e | e | e | e | e
        · subst e; exact gd_int (by omega)
        · subst e; exact gd_int (by omega)
        · subst e; exact gd_int (by omega)
        · subst e; exact gd_int (by simp)
        · subst e; exact gd_bl _
        · subst e; exact gd_bl _
        · subst e; exact gd_non
        · subst e
          exact gd_str (Nat.le_trans lt (by omega))
        · subst e
          exact gd_tup (k := k + 1) ph epf (by rw [List.length_singleton]; omega) fun z hz => by
            rw [List.mem_singleton.mp hz]
            exact gd_int (by omega)
        · subst e; exact gd_int (by omega)
        · subst e; exact gd_int (by omega)
      exact q v2 Hf fin (hf.mono (by omega)) bt
    | bl b0 =>
      have ib : ((if b0 = true then (1 : Int) else 0).natAbs : Int) ≤ n + 1 := by cases b0 <;> simp <;> omega
      have ty : TyX K H (.bl b0) (.type "bool") := ((.bl b0 : Dz K (del H h) (.bl b0) _).same offall).ty
      refine iteF ⟨_, rfl, _, _, _, _, false, rfl, .ty _, ty, kit_ty (by decide +kernel), false, rfl, iteF ?_⟩
      refine ⟨_, rfl, rfl, false, rfl, iteF ⟨_, rfl, _, _, _, _, true, rfl, .ty _, ty, kit_ty (by decide +kernel), true, rfl, ?_⟩⟩
      refine ⟨_, rfl, .inr ⟨b0, rfl, ?_⟩⟩
      generalize ei : (if b0 = true then (1 : Int) else 0) = i at ib ⊢
      refine ⟨_, rfl, i, 1, rfl, rfl, _, rfl, i, 1, rfl, rfl, _, rfl, 0, i, rfl, rfl, _, rfl, rfl, _, rfl, rfl, _, rfl, i, rfl, lg (by omega) (by omega), _, rfl, (by show 1 ≤ sizeLine; decide), fun p np => ?_⟩
      have sp := same_upd np (o := .tup [.int i])
      have ep : (upd H p (.tup [.int i])) p = some (.tup [.int i]) := upd_same
      generalize upd H p (.tup [.int i]) = H1 at sp ep ⊢
      refine ⟨(by show 9 ≤ sizeLine; decide), fun L nL => ?_⟩
      have sL := same_upd nL (o := .lst [.int (i + 1), .int (i - 1), .int (0 - i), .int 0, .bl (decide (V.int i = V.int 1)), .bl (!decide (V.int i = V.int 1)), .non, .str (toString i), .ref p])
      refine ⟨_, rfl, _, rfl, _, rfl, i, 30, rfl, rfl, _, rfl, i, 2, rfl, rfl, .inr (by decide), (by show 2 ≤ sizeLine; decide), fun L2' nL2 => ?_⟩
      have s5 := same_upd nL2 (o := .lst [.int (i + 30), .int (i * 2)])
      refine ⟨L, L2', _, _, rfl, rfl, s5 _ _ upd_same, upd_same, (by show 9 + 2 ≤ sizeLine; decide), fun LC nLC => ?_⟩
      have hL := ((hh.same sp).same sL).same s5
      have s6 := same_upd nLC (o := .lst ([.int (i + 1), .int (i - 1), .int (0 - i), .int 0, .bl (decide (V.int i = V.int 1)), .bl (!decide (V.int i = V.int 1)), .non, .str (toString i), .ref p] ++ [.int (i + 30), .int (i * 2)]))
      refine ⟨h, m, _, rfl, hL.same s6, by show m ≤ 1000000; omega, .inl ⟨LC, _, rfl, upd_same, hL.fresh nLC, by simp, by show 11 < 1000; decide, fun v2 Hf mv hf bf => ?_⟩⟩
      have bt : But h H Hf := (Same.but (((sp.trans sL).trans s5).trans s6) h).trans bf
      have ph : p ≠ h := (hL.same s6).ne_tup (K := K) (s6 _ _ (s5 _ _ (sL _ _ ep)))
      have epf := bf _ _ ph (s6 _ _ (s5 _ _ (sL _ _ ep)))
      have lt := tx_le (i := i) (by omega) (by omega)
      have fin : Gd K (del Hf h) (3 * n + 50) (k + 2) v2 := by
        simp only [List.cons_append, List.nil_append, List.mem_cons, List.not_mem_nil, or_false] at mv
        rcases mv with e | e | e | e | e | e | e | e | e | e | e
        · subst e; exact gd_int (by omega)
        · subst e; exact gd_int (by omega)
        · subst e; exact gd_int (by omega)
        · subst e; exact gd_int (by simp)
        · subst e; exact gd_bl _
        · subst e; exact gd_bl _
        · subst e; exact gd_non
        · subst e
          exact gd_str (Nat.le_trans lt (by omega))
        · subst e
          exact gd_tup (k := k + 1) ph epf (by rw [List.length_singleton]; omega) fun z hz => by
            rw [List.mem_singleton.mp hz]
            exact gd_int (by omega)
        · subst e; exact gd_int (by omega)
        · subst e; exact gd_int (by omega)
      exact q v2 Hf fin (hf.mono (by omega)) bt
    | non =>
      have ty : TyX K H .non (.type "NoneType") := ((.non : Dz K (del H h) .non _).same offall).ty
      refine iteF ⟨_, rfl, _, _, _, _, false, rfl, .ty _, ty, kit_ty (by decide +kernel), false, rfl, iteF ?_⟩
      refine ⟨_, rfl, rfl, true, rfl, iteT ?_⟩
      refine ⟨_, rfl, (by show 0 ≤ sizeLine; decide), fun p np => ?_⟩
      have sp := same_upd np (o := .tup [])
      have ep : (upd H p (.tup [])) p = some (.tup []) := upd_same
      generalize upd H p (.tup []) = H1 at sp ep ⊢
      refine ⟨_, rfl, (by show 1 ≤ sizeLine; decide), fun l nl nel => ?_⟩
      have sl := same_upd nl (o := .lst [.non])
      have el : (upd H1 l (.lst [.non])) l = some (.lst [.non]) := upd_same
      have lh := (hh.same sp).fresh nl
      generalize upd H1 l (.lst [.non]) = H2 at sl el ⊢
      refine ⟨(by show 6 ≤ sizeLine; decide), fun LC nLC => ?_⟩
      have hL := (hh.same sp).same sl
      have s6 := same_upd nLC (o := .lst [.int 0, .ref p, .bl false, .str "", .non, .ref l])
      refine ⟨h, m, _, rfl, hL.same s6, by show m ≤ 1000000; omega, .inl ⟨LC, _, rfl, upd_same, hL.fresh nLC, by simp, by show 6 < 1000; decide, fun v2 Hf mv hf bf => ?_⟩⟩
      have bt : But h H Hf := (Same.but ((sp.trans sl).trans s6) h).trans bf
      have ph : p ≠ h := (hL.same s6).ne_tup (K := K) (s6 _ _ (sl _ _ ep))
      have epf := bf _ _ ph (s6 _ _ (sl _ _ ep))
      have elf := bf _ _ lh (s6 _ _ el)
      have fin : Gd K (del Hf h) (3 * n + 50) (k + 2) v2 := by
        simp only [List.mem_cons, List.not_mem_nil, or_false] at mv
        rcases mv with e | e | e | e | e | e
        · subst e; exact gd_int (by simp)
        · subst e; exact gd_tup (k := k + 1) ph epf (by simp) fun z hz => by cases hz
        · subst e; exact gd_bl false
        · subst e; exact gd_str (by rw [show ("" : Str).length = 0 from rfl]; omega)
        · subst e; exact gd_non
        · subst e
          exact gd_lst (m := n) (j := k) lh nel elf fun z hz => by
            rw [List.mem_singleton.mp hz]
            exact gd.same (off_but bt)
      exact q v2 Hf fin (hf.mono (by omega)) bt
    | @lst t xs ds et' ne0 ra =>
      have ty : TyX K H (.ref t) (.type "list") := ((.lst et' ne0 ra : Dz K (del H h) (.ref t) _).same offall).ty
      refine iteF ⟨_, rfl, _, _, _, _, false, rfl, .ty _, ty, kit_ty (by decide +kernel), false, rfl, iteF ?_⟩
      refine ⟨_, rfl, rfl, false, rfl, iteF ⟨_, rfl, _, _, _, _, false, rfl, .ty _, ty, kit_ty (by decide +kernel), false, rfl, ?_⟩⟩
      refine ⟨_, rfl, (by show 0 ≤ sizeLine; decide), fun p np => ?_⟩
      have sp := same_upd np (o := .tup [])
      have ep : (upd H p (.tup [])) p = some (.tup []) := upd_same
      generalize upd H p (.tup []) = H1 at sp ep ⊢
      refine ⟨_, rfl, (by show 1 ≤ sizeLine; decide), fun l nl nel => ?_⟩
      have sl := same_upd nl (o := .lst [(.ref t)])
      have el : (upd H1 l (.lst [(.ref t)])) l = some (.lst [(.ref t)]) := upd_same
      have lh := (hh.same sp).fresh nl
      generalize upd H1 l (.lst [(.ref t)]) = H2 at sl el ⊢
      refine ⟨(by show 6 ≤ sizeLine; decide), fun LC nLC => ?_⟩
      have hL := (hh.same sp).same sl
      have s6 := same_upd nLC (o := .lst [.int 0, .ref p, .bl false, .str "", .non, .ref l])
      refine ⟨h, m, _, rfl, hL.same s6, by show m ≤ 1000000; omega, .inl ⟨LC, _, rfl, upd_same, hL.fresh nLC, by simp, by show 6 < 1000; decide, fun v2 Hf mv hf bf => ?_⟩⟩
      have bt : But h H Hf := (Same.but ((sp.trans sl).trans s6) h).trans bf
      have ph : p ≠ h := (hL.same s6).ne_tup (K := K) (s6 _ _ (sl _ _ ep))
      have epf := bf _ _ ph (s6 _ _ (sl _ _ ep))
      have elf := bf _ _ lh (s6 _ _ el)
      have fin : Gd K (del Hf h) (3 * n + 50) (k + 2) v2 := by
        simp only [List.mem_cons, List.not_mem_nil, or_false] at mv
        rcases mv with e | e | e | e | e | e
        · subst e; exact gd_int (by simp)
        · subst e; exact gd_tup (k := k + 1) ph epf (by simp) fun z hz => by cases hz
        · subst e; exact gd_bl false
        · subst e; exact gd_str (by rw [show ("" : Str).length = 0 from rfl]; omega)
        · subst e; exact gd_non
        · subst e
          exact gd_lst (m := n) (j := k) lh nel elf fun z hz => by
            rw [List.mem_singleton.mp hz]
            exact gd.same (off_but bt)
      exact q v2 Hf fin (hf.mono (by omega)) bt
    | @dct t xs ds et' ra =>
      have ty : TyX K H (.ref t) (.type "dict") := ((.dct et' ra : Dz K (del H h) (.ref t) _).same offall).ty
      refine iteF ⟨_, rfl, _, _, _, _, false, rfl, .ty _, ty, kit_ty (by decide +kernel), false, rfl, iteF ?_⟩
      refine ⟨_, rfl, rfl, false, rfl, iteF ⟨_, rfl, _, _, _, _, false, rfl, .ty _, ty, kit_ty (by decide +kernel), false, rfl, ?_⟩⟩
      refine ⟨_, rfl, (by show 0 ≤ sizeLine; decide), fun p np => ?_⟩
      have sp := same_upd np (o := .tup [])
      have ep : (upd H p (.tup [])) p = some (.tup []) := upd_same
      generalize upd H p (.tup []) = H1 at sp ep ⊢
      refine ⟨_, rfl, (by show 1 ≤ sizeLine; decide), fun l nl nel => ?_⟩
      have sl := same_upd nl (o := .lst [(.ref t)])
      have el : (upd H1 l (.lst [(.ref t)])) l = some (.lst [(.ref t)]) := upd_same
      have lh := (hh.same sp).fresh nl
      generalize upd H1 l (.lst [(.ref t)]) = H2 at sl el ⊢
      refine ⟨(by show 6 ≤ sizeLine; decide), fun LC nLC => ?_⟩
      have hL := (hh.same sp).same sl
      have s6 := same_upd nLC (o := .lst [.int 0, .ref p, .bl false, .str "", .non, .ref l])
      refine ⟨h, m, _, rfl, hL.same s6, by show m ≤ 1000000; omega, .inl ⟨LC, _, rfl, upd_same, hL.fresh nLC, by simp, by show 6 < 1000; decide, fun v2 Hf mv hf bf => ?_⟩⟩
      have bt : But h H Hf := (Same.but ((sp.trans sl).trans s6) h).trans bf
      have ph : p ≠ h := (hL.same s6).ne_tup (K := K) (s6 _ _ (sl _ _ ep))
      have epf := bf _ _ ph (s6 _ _ (sl _ _ ep))
      have elf := bf _ _ lh (s6 _ _ el)
      have fin : Gd K (del Hf h) (3 * n + 50) (k + 2) v2 := by
        simp only [List.mem_cons, List.not_mem_nil, or_false] at mv
        rcases mv with e | e | e | e | e | e
        · subst e; exact gd_int (by simp)
        · subst e; exact gd_tup (k := k + 1) ph epf (by simp) fun z hz => by cases hz
        · subst e; exact gd_bl false
        · subst e; exact gd_str (by rw [show ("" : Str).length = 0 from rfl]; omega)
        · subst e; exact gd_non
        · subst e
          exact gd_lst (m := n) (j := k) lh nel elf fun z hz => by
            rw [List.mem_singleton.mp hz]
            exact gd.same (off_but bt)
      exact q v2 Hf fin (hf.mono (by omega)) bt
end
end K57
set_option Elab.async false
set_option linter.all false
set_option maxRecDepth 100000
set_option maxHeartbeats 4000000
set_option pp.maxSteps 400
set_option pp.deepTerms false
namespace K57
open PySem PySem.Spec PyProof.Rows L2
open Xk Az
section
variable {P : Program} {w : World} {K : PySem.W.Frag} {mg : Str → Option Value} {base : Heap}
section
variable {X : Cx}
theorem op_neT0 (hu : X.A.units + 64 < cLine) : OpR X (compareOp .NotEq) (fun x y H Q => ∃ a b xs, x = .ref a ∧ y = .ref b ∧ H a = some (.tup xs) ∧ H b = some (.tup []) ∧ Q (.bl (!xs.isEmpty)) H) := by
  intro pins s σ H x y v u Q I rx ry h
  obtain ⟨a, b, xs, rfl, rfl, ea, eb, q⟩ := h
  cases rx; cases ry
  obtain ⟨its, r1, ⟨o1, g1, c1, n1, d1⟩, _⟩ := I.tuple (SqT.of ea)
  obtain ⟨its2, r2, ⟨o2, g2, c2, n2, d2⟩, _⟩ := I.tuple (SqT.of eb)
  cases r2
  have l := r1.length
  have k : (!((List.range (min its.toArray.size ([] : List Value).toArray.size)).all (fun _ => true) && its.toArray.size == ([] : List Value).toArray.size)) = !xs.isEmpty := by
    cases xs with
    | nil =>
      cases r1
      rfl
    | cons z zs =>
      cases r1 with
      | cons _ _ => simp
  have w := PySem.SeqAt.RcNeAt.tuples (A := X.A) (s := s) (l := a) (b := b) (items := its.toArray) (items2 := ([] : List Value).toArray) (e := fun _ => true) ⟨o1, g1, c1, n1, d1⟩ ⟨o2, g2, c2, n2, d2⟩ (Nat.lt_of_le_of_lt (Nat.le_add_right _ 64) hu) (fun j h1 h2 => absurd h2 (by simp))
  rw [k] at w
  exact w X.prog X.w _ _ ⟨.bl _, H, I, rfl, q⟩
end
def spBent (K : PySem.W.Frag) (k : Nat) : Sp := fun vs H Q _ => ∃ (h : Addr) (m : Int) (v : V) (n : Nat), vs = [.ref h, v] ∧ Gd K (del H h) n k v ∧ n ≤ 10000 ∧ Hand m H h ∧ m + 200 * (k + 1) ≤ far ∧
  ∀ v' H', Gd K (del H' h) (3 * n + 50) (k + 2) v' → Hand (m + 20 * (k + 1)) H' h → But h H H' → Q v' H'
def spBelow (K : PySem.W.Frag) : Nat → Sp
  | 0 => fun _ _ _ _ => False
  | k + 1 => spBent K k
theorem ok_bentS {f : Addr} {fd : FuncData} {k : Nat} (D : Df K mg "_law_bent" ["_law_hand_here", "_law_thing"] sBent f fd) (T : Txt mg) (cT : Ca P w K mg base 1 "_law_take" ["_law_hand_here", "_law_many"] spTake) (cO : Ca P w K mg base 3 "_law_odd" ["_law_hand_here", "_law_thing"] (spOdd K)) (cB : Ca P w K mg base (k + 3) "_law_bent" ["_law_hand_here", "_law_thing"] (spBelow K k)) : FnOk P w K mg base CX0 (k + 4) f fd ["_law_hand_here", "_law_thing"] (spBent K k) := by
  refine D.fn.ok scBent (fun vs H Q E h => ?_) (fun cdv A outer s H vs Q E hr h => ?_)
  · obtain ⟨h, m, v, n, rfl, gd, n1, hh, hm, q⟩ := h
    rfl
  · obtain ⟨h, m, v, n, rfl, gd, n1, hh, hm, q⟩ := h
    refine ⟨_, (pss_cons (ps_if (PW.pt (pw_and (pt_val (pe_callB call_isi (by rfl) T.isi (by decide +kernel) (pa_cons (pv 1) (pa_cons (pe_bltn (v := .ty "tuple") (by rfl) T.tuple (by decide +kernel) rfl) pa_nil)))) (pw_and (pt_cmpR (op_neT0 hr.units) (pv 1) (pe_tup pa_nil) (nomark _)) (pw_and1 (pt_cmpR op_gt (pe_ca cT hr (by omega) (by rfl) (pa_cons (pv 0) (pa_cons pe_int pa_nil))) pe_int (nomark _)))))) (pss_cons (ps_set (i := 2) scBent.nd rfl (.inl rfl) (pe_ca cT hr (by omega) (by rfl) (pa_cons (pv 0) (pa_cons (pe_callB call_len_seq (by rfl) T.len PySem.boot_len (pa_cons (pv 1) pa_nil)) pa_nil))))
      (pss_one (ps_ret (pe_op op_catU (pe_op op_catU (pe_slice sl_tupU (pv 1) po_none (po_some (pv 2))) (pe_tup (pa_cons (pe_ca cB hr (by omega) (by rfl) (pa_cons (pv 0) (pa_cons (pe_ix ix_tup (pv 1) (pv 2) (fun _ _ => rfl)) pa_nil))) pa_nil))) (pe_slice sl_tupU (pv 1) (po_some (pe_op op_add (pv 2) pe_int)) po_none))))) pss_nil)
      (pss_one (ps_ret (pe_ca cO hr (by omega) (by rfl) (pa_cons (pv 0) (pa_cons (pv 1) pa_nil)))))), ?_⟩
    have fr : m + 200 * ((k : Int) + 1) ≤ 1000000 := hm
    obtain ⟨d, dz, fn⟩ := id gd
    have offall : L2.Same (del H h) H := off_all
    have odd : ∀ (H1 : Hp) (m1 : Int), But h H H1 → Hand m1 H1 h → m ≤ m1 → m1 ≤ m + 2 → spOdd K [.ref h, v] H1 Q E0 := fun H1 m1 b1 h1 l1 l2 =>
      ⟨h, m1, v, n, k, rfl, gd.same (off_but b1), n1, h1, by show m1 + 100 ≤ 1000000; omega, fun v' H' g1 g2 g3 => q v' H' g1 (g2.mono (by omega)) (b1.trans g3)⟩
    refine ⟨_, rfl, _, _, _, _, isTup d, rfl, .ty _, (dz.same offall).ty, z_tup d, _, rfl, ?_⟩
    cases dz with
    | @tup t xs ds et' ra =>
      cases k with
      | zero => exact fn.elim
      | succ k =>
        obtain ⟨fl, fe⟩ := fn
        have et : H t = some (.tup xs) := off_all _ _ et'
        have th : t ≠ h := hh.ne_tup (K := K) et
        have lxn : xs.length ≤ n := by rw [dz_len ra]; exact fl
        have el : ∀ x ∈ xs, Gd K (del H h) n k x := fun x hx => by
          obtain ⟨e, he, hz⟩ := dz_all ra hx
          exact ⟨e, hz, fe e he⟩
        refine iteT ⟨_, rfl, (by show 0 ≤ sizeLine; decide), fun z nz => ?_⟩
        have sz := same_upd nz (o := .tup [])
        refine ⟨t, z, xs, rfl, rfl, sz _ _ et, upd_same, _, rfl, ite2 (fun e => ?_) (fun e => ?_)⟩
        · have xpos : 0 < xs.length := by
            cases xs with
            | nil => cases e
            | cons _ _ => simp
          refine ⟨_, rfl, h, 4, m, rfl, by decide, by decide, hh.same sz, by show m ≤ 1000000; omega, fun d1 H1 d0 d2 h1 b1 => ⟨d1, 0, rfl, rfl, _, rfl, ite2 (fun e2 => ?_) (fun e2 => ?_)⟩⟩
          · have b1' : But h H H1 := (Same.but sz h).trans b1
            have et1 := b1' _ _ th et
            refine ⟨_, rfl, _, rfl, t, xs, rfl, .inr (SqT.of et1), h, (xs.length : Int), m + 1, rfl, by omega, lt30b (by omega), h1, by show m + 1 ≤ 1000000; omega, fun c H2 c0 c1 h2 b2 => ?_⟩
            have et2 := b2 _ _ th et1
            refine ⟨_, rfl, _, rfl, c, rfl, t, xs, rfl, et2, fun p1 H3 s3 e3 => ?_⟩
            obtain ⟨j, rfl⟩ : ∃ j : Nat, c = (j : Int) := ⟨c.toNat, by omega⟩
            have hj : j < xs.length := by omega
            have b3 : But h H H3 := (b1'.trans b2).trans (Same.but s3 h)
            have h3 := h2.same s3
            refine ⟨_, rfl, _, rfl, _, rfl, t, xs, _, xs[j], rfl, rfl, SqT.of (s3 _ _ et2), atI_nat (List.getElem?_eq_getElem hj), ?_⟩
            have cl : ∀ a b : Option Int, (cutV xs a b).length ≤ xs.length := fun a b => cutV_length xs a b
            have fits : ∀ {ys zs : List V}, ys.length ≤ 10010 → zs.length ≤ 10010 → ys.length + zs.length ≤ sizeLine := fun {ys zs} h1 h2 => Nat.le_trans (show ys.length + zs.length ≤ 20020 by omega) (by decide)
            refine ⟨h, m + 1 + 1, xs[j], n, rfl, (el _ (List.getElem_mem hj)).same (off_but b3), n1, h3, by show m + 1 + 1 + 200 * ((k : Int) + 1) ≤ 1000000; omega, fun v1 H4 g4 h4 b4 => ?_⟩
            refine ⟨(by show 1 ≤ sizeLine; decide), fun p2 np2 => ?_⟩
            have p1h := h3.ne_tup (K := K) e3
            have s5 := same_upd np2 (o := .tup [v1])
            refine ⟨p1, p2, _, _, rfl, rfl, s5 _ _ (b4 _ _ p1h e3), upd_same, fits (by have := cl none (some (j : Int)); omega) (by show 1 ≤ 10010; decide), fun p3 H6 s6 e6 => ?_⟩
            have et6 := s6 _ _ (s5 _ _ (b4 _ _ th (s3 _ _ et2)))
            refine ⟨_, rfl, _, rfl, (j : Int), 1, rfl, rfl, _, rfl, t, xs, rfl, et6, fun p4 H7 s7 e7 => ?_⟩
            refine ⟨p3, p4, _, _, rfl, rfl, s7 _ _ e6, e7, fits (by rw [List.length_append]; have := cl none (some (j : Int)); show (cutV xs none (some (j : Int))).length + 1 ≤ 10010; omega) (by have := cl (some ((j : Int) + 1)) none; omega), fun p5 H8 s8 e8 => ?_⟩
            have sA := ((s5.trans s6).trans s7).trans s8
            have h8 := h4.same sA
            have b8 : But h H H8 := b3.trans (b4.trans (Same.but sA h))
            refine q (.ref p5) H8 ((gd_tup (k := k + 2) (h8.ne_tup (K := K) e8) e8 ?_ fun x hx => ?_).mono (Nat.le_refl _) (by omega)) (h8.mono ?_) b8
            · rw [List.length_append, List.length_append]
              have := cl none (some (j : Int))
              have := cl (some ((j : Int) + 1)) none
              show _ + 1 + _ ≤ _
              omega
            · have old : x ∈ xs → Gd K (del H8 h) (3 * n + 50) (k + 2) x := fun mx => ((el x mx).same (off_but b8)).mono (by omega) (by omega)
              rcases List.mem_append.mp hx with w | w
              · rcases List.mem_append.mp w with w | w
                · exact old (cut_mem w)
                · rw [List.mem_singleton.mp w]
                  exact g4.same (off_but (Same.but sA h))
              · exact old (cut_mem w)
            · show m + 1 + 1 + 20 * ((k : Int) + 1) ≤ m + 20 * (((k + 1 : Nat) : Int) + 1)
              omega
          · exact ⟨_, rfl, _, rfl, odd H1 (m + 1) ((Same.but sz h).trans b1) h1 (by omega) (by omega)⟩
        · exact ⟨_, rfl, _, rfl, odd _ m (Same.but sz h) (hh.same sz) (Int.le_refl _) (by omega)⟩
    | _ => exact iteF ⟨_, rfl, _, rfl, odd H m (But.refl h H) hh (Int.le_refl _) (by omega)⟩
theorem fn_no {f : Addr} {fd : FuncData} {k : Nat} (D : Df K mg "_law_bent" ["_law_hand_here", "_law_thing"] sBent f fd) : Ca P w K mg base k "_law_bent" ["_law_hand_here", "_law_thing"] (spBelow K 0) :=
  ⟨f, fd, ⟨fun _ _ _ _ h => h.elim, fun _ _ _ _ _ _ _ _ _ _ _ _ _ h => h.elim⟩, D.mgf, D.fn.kp, D.bd⟩
end
end K57
set_option Elab.async false
set_option linter.all false
set_option maxRecDepth 100000
set_option maxHeartbeats 4000000
set_option pp.maxSteps 400
set_option pp.deepTerms false
namespace K57
open PySem PySem.Spec PyProof.Rows L2
open Xk Az
section
variable {P : Program} {w : World} {K : PySem.W.Frag} {mg : Str → Option Value} {base : Heap}
def spLaw (K : PySem.W.Frag) : Sp := fun vs H Q _ => ∃ (a : Addr) (ns : List Int), vs = [.ref a] ∧ SqL K H a (ns.map V.int) ∧ ns.length ≤ 63 ∧ ∀ H', Q (.bl true) H'
theorem fn_tl {n k : Nat} {d : PyData} (h : Fn n k d) (hn : n ≤ 1000) : tl d := fun ds e => by
  subst e
  cases k with
  | zero => exact h.elim
  | succ k => exact Nat.le_trans h.1 hn
theorem ok_law {f : Addr} {fd : FuncData} (D : Df K mg "law" ["_law_script"] sLaw f fd) (T : Txt mg) (cH : Ca P w K mg base 1 "_law_hand" ["_law_script", "_law_k"] (spHand K)) (cP : Ca P w K mg base 2 "_law_pick" ["_law_hand_here", "_law_some_here"] spPick) (cC : Ca P w K mg base 4 "_law_case" ["_law_hand_here", "_law_most_discs", "_law_most_wishes"] spCase) (cSo : Ca P w K mg base 2 "_law_some" ["_law_hand_here", "_law_many"] spSome) (cB1 : Ca P w K mg base 5 "_law_bent" ["_law_hand_here", "_law_thing"] (spBent K 1)) (cB3 : Ca P w K mg base 7 "_law_bent" ["_law_hand_here", "_law_thing"] (spBent K 3)) (cHd : Ca P w K mg base 3 "shows_held" ["held", "wishes", "thing"] (spHeld K)) (cDu : Ca P w K mg base 1 "_law_due" ["_law_held", "_law_wishes", "_law_thing"] (spHeld K)) : FnOk P w K mg base CX0 8 f fd ["_law_script"] (spLaw K) := by
  refine D.fn.ok scLaw (fun vs H Q E h => ?_) (fun cdv A outer s H vs Q E hr h => ?_)
  · obtain ⟨a, ns, rfl, hS, hlen, q⟩ := h
    rfl
  · obtain ⟨a, ns, rfl, hS, hlen, q⟩ := h
    refine ⟨_, (pss_cons (ps_for PassesOwn.never rfl (pi_range1 (by rfl) T.range (pa_cons (pe_callB (call_max2 (by rfl)) (by rfl) T.max (by decide +kernel) (pa_cons pe_int (pa_cons (pe_callB (call_min2 (by rfl)) (by rfl) T.min (by decide +kernel) (pa_cons pe_int (pa_cons (pe_callB call_len_seq (by rfl) T.len PySem.boot_len (pa_cons (pv 0) pa_nil)) pa_nil))) pa_nil))) pa_nil)) (pg_name (i := 1) scLaw.nd rfl (.inl rfl)) (pss_cons (ps_set (i := 2) scLaw.nd rfl (.inl rfl) (pe_ca cH hr (by decide) (by rfl) (pa_cons (pv 0) (pa_cons (pv 1) pa_nil))))
      (pss_cons (ps_asg (pe_ca cC hr (by decide) (by rfl) (pa_cons (pv 2) (pa_cons pe_int (pa_cons pe_int pa_nil)))) (pg_tup (by rfl) (pgs_cons (pg_name (i := 3) scLaw.nd rfl (.inl rfl)) (pgs_cons (pg_name (i := 4) scLaw.nd rfl (.inl rfl)) pgs_nil))))
      (pss_cons (ps_set (i := 5) scLaw.nd rfl (.inl rfl) (pe_tupRg (by rfl) (by rfl) T.tuple (prg_1 (by rfl) T.range (pe_callB call_len_seq (by rfl) T.len PySem.boot_len (pa_cons (pv 3) pa_nil)))))
      (pss_cons (ps_set (i := 6) scLaw.nd rfl (.inl rfl) (pe_lst (pa_cons (pv 5) (pa_cons (pe_tup pa_nil) (pa_cons (pe_ca cSo hr (by decide) (by rfl) (pa_cons (pv 2) (pa_cons (pe_callB call_len_seq (by rfl) T.len PySem.boot_len (pa_cons (pv 3) pa_nil)) pa_nil))) (pa_cons (pe_callTy cr_listT (by rfl) T.list (by decide +kernel) (pa_cons (pv 5) pa_nil)) (pa_cons pe_non (pa_cons pe_bl (pa_cons pe_str (pa_cons pe_int (pa_cons pe_dnewK (pa_cons (pe_tup (pa_cons (pv 5) pa_nil)) pa_nil))))))))))))
      (pss_cons (ps_expr (pe_bm PySem.F.plainAttrs_list PySem.F.slot_list_append PySem.F.type_list_append mt_append (pv 6) (pa_cons (pe_op op_catU (pv 5) (pe_tup (pa_cons (pe_callB call_len_seq (by rfl) T.len PySem.boot_len (pa_cons (pv 3) pa_nil)) pa_nil))) pa_nil)))
      (pss_cons (ps_for PassesOwn.never rfl (pi_range1 (by rfl) T.range (pa_cons pe_int pa_nil)) (pg_name (i := 7) scLaw.nd rfl (.inl rfl)) (pss_cons (ps_set (i := 8) scLaw.nd rfl (.inl rfl) (pe_ca cB1 hr (by decide) (by rfl) (pa_cons (pv 2) (pa_cons (pe_ca cP hr (by decide) (by rfl) (pa_cons (pv 2) (pa_cons (pe_lst (pa_cons (pv 5) (pa_cons (pe_ca cSo hr (by decide) (by rfl) (pa_cons (pv 2) (pa_cons (pe_callB call_len_seq (by rfl) T.len PySem.boot_len (pa_cons (pv 3) pa_nil)) pa_nil))) pa_nil))) pa_nil))) pa_nil))))
      (pss_one (ps_set (i := 6) scLaw.nd rfl (.inl rfl) (pe_op op_cat (pv 6) (pe_lst (pa_cons (pv 8) (pa_cons (pe_ca cB3 hr (by decide) (by rfl) (pa_cons (pv 2) (pa_cons (pv 8) pa_nil))) pa_nil))))))))
      (pss_one (ps_for PassesOwn.never rfl (pi_list (pv 6)) (pg_name (i := 9) scLaw.nd rfl (.inl rfl)) (pss_cons (ps_set (i := 10) scLaw.nd rfl (.inl rfl) (pe_ca cHd hr (by decide) (by rfl) (pa_cons (pv 3) (pa_cons (pv 4) (pa_cons (pv 9) pa_nil)))))
      (pss_one (ps_if (PW.pt (pw_or (pt_not (pt_val (pe_callB call_isi (by rfl) T.isi (by decide +kernel) (pa_cons (pv 10) (pa_cons (pe_bltn (v := .ty "bool") (by rfl) T.bool (by decide +kernel) rfl) pa_nil))))) (pw_or1 (pt_cmpR op_ne (pv 10) (pe_ca cDu hr (by decide) (by rfl) (pa_cons (pv 3) (pa_cons (pv 4) (pa_cons (pv 9) pa_nil)))) (nomark _))))) (pss_one (ps_ret pe_bl)) pss_nil))))))))))))
      (pss_one (ps_ret pe_bl))), ?_⟩
    refine ⟨_, rfl, a, _, rfl, .inl hS, 4, _, rfl, 1, _, rfl, _, rfl, ?_, ?_, for_range (lo := 0) (fun k σ Hi => ∃ c1 c2 c3 c4 c5 c6 c7 c8 c9 c10 : Option V, σ = [some (.ref a), c1, c2, c3, c4, c5, c6, c7, c8, c9, c10] ∧ L2.Same H Hi) ?_ ?_ ?_⟩
    · rw [List.length_map]; split <;> (try split) <;> omega
    · rw [List.length_map]; split <;> (try split) <;> omega
    · exact ⟨_, _, _, _, _, _, _, _, _, _, rfl, Same.refl H⟩
    · rintro kk σ Hi hk ⟨c1, c2, c3, c4, c5, c6, c7, c8, c9, c10, rfl, sm⟩
      refine ⟨_, rfl, _, rfl, a, 0 + (kk : Int), ns, rfl, by omega, sm.seq hS, fun h g m nh g0 m0 m1 => ?_⟩
      have sh := same_upd nh (o := .lst [.int g, .int m, .int 0])
      have hh : Hand 0 (upd Hi h (.lst [.int g, .int m, .int 0])) h := ⟨g, m, 0, upd_same, g0, m0, m1, Int.le_refl _, Int.le_refl _⟩
      have bh : But h Hi (upd Hi h (.lst [.int g, .int m, .int 0])) := Same.but sh h
      have back : ∀ {Hz : Hp}, But h Hi Hz → L2.Same H Hz := fun {Hz} b y o e => by
        have e2 := sm _ _ e
        exact b y o (ne_of_none e2 nh) e2
      refine ⟨_, rfl, h, 0, 12, 8, rfl, by decide, by decide, by decide, by decide, hh, by show (0 : Int) + 2000 ≤ 1000000; decide, fun t ta tb xs hs ws H2 et ea hl l20 eb w20 h2 b2' => ⟨t, _, rfl, SqT.of et, rfl, _, _, rfl, _, _, rfl, rfl, ?_⟩⟩
      have b2 := bh.trans b2'
      have tah := h2.ne_tup (K := K) ea
      have tbh := h2.ne_tup (K := K) eb
      have lh := hl.len
      clear b2' bh hh sh et
      refine ⟨_, rfl, ta, xs, rfl, .inr (SqT.of ea), _, rfl, RgOk.of_le (by decide) (by omega) (by decide) (by omega), fun w nw => ?_⟩
      have sw := same_upd nw (o := .tup (rgV 0 (xs.length : Int)))
      have ew : (upd H2 w (.tup (rgV 0 (xs.length : Int)))) w = some (.tup (rgV 0 (xs.length : Int))) := upd_same
      have lw : (rgV 0 (xs.length : Int)).length ≤ 20 := by rw [rgV_length]; omega
      have gw : ∀ (G : Hp) (v : V), v ∈ rgV 0 (xs.length : Int) → Gd K G 20 0 v := fun G v hv => by
        unfold rgV at hv
        obtain ⟨i, hi, rfl⟩ := List.mem_map.mp hv
        have := List.mem_range.mp hi
        exact gd_int (by omega)
      generalize upd H2 w (.tup (rgV 0 (xs.length : Int))) = H3 at sw ew ⊢
      have h3 := h2.same sw
      have b3 : But h Hi H3 := b2.trans (Same.but sw h)
      have ea3 := sw _ _ ea
      have eb3 := sw _ _ eb
      have hl3 : Hl H3 xs hs := hl.map fun b ys e => sw _ _ e
      have wh := h3.ne_tup (K := K) ew
      clear sw nw b2 h2 ea eb hl
      -- things
      refine ⟨_, rfl, (by show 0 ≤ sizeLine; decide), fun z0 nz0 => ?_⟩
      have s4 := same_upd nz0 (o := .tup [])
      have ez0 : (upd H3 z0 (.tup [])) z0 = some (.tup []) := upd_same
      generalize upd H3 z0 (.tup []) = H4 at s4 ez0 ⊢
      have h4 := h3.same s4
      refine ⟨_, rfl, _, rfl, ta, xs, rfl, .inr (SqT.of (s4 _ _ ea3)), h, 1000, (xs.length : Int), rfl, by omega, by omega, h4, by show (1000 : Int) + 100 ≤ 1000000; decide, fun t5 n5 H5 e5 g5 l5 h5 b5 => ?_⟩
      have z0h := h4.ne_tup (K := K) ez0
      refine ⟨_, rfl, w, _, rfl, SqT.of (b5 _ _ wh (s4 _ _ ew)), fun l6 nl6 ne6 => ?_⟩
      have s6 := same_upd nl6 (o := .lst (rgV 0 (xs.length : Int)))
      have el6 : (upd H5 l6 (.lst (rgV 0 (xs.length : Int)))) l6 = some (.lst (rgV 0 (xs.length : Int))) := upd_same
      have l6h := h5.fresh nl6
      generalize upd H5 l6 (.lst (rgV 0 (xs.length : Int))) = H6 at s6 el6 ⊢
      intro p7 n7
      have s7 := same_upd n7 (o := .dK [])
      have e7 : (upd H6 p7 (.dK [])) p7 = some (.dK []) := upd_same
      have p7h := (h5.same s6).fresh n7
      generalize upd H6 p7 (.dK []) = H7 at s7 e7 ⊢
      refine ⟨_, rfl, (by show 1 ≤ sizeLine; decide), fun p8 n8 => ?_⟩
      have s8 := same_upd n8 (o := .tup [.ref w])
      have e8 : (upd H7 p8 (.tup [.ref w])) p8 = some (.tup [.ref w]) := upd_same
      generalize upd H7 p8 (.tup [.ref w]) = H8 at s8 e8 ⊢
      have h8 := ((h5.same s6).same s7).same s8
      have p8h := h8.ne_tup (K := K) e8
      have b8 : But h H3 H8 := ((Same.but s4 h).trans b5).trans (Same.but ((s6.trans s7).trans s8) h)
      have t5h := h5.ne_tup (K := K) e5
      have ew8 := b8 _ _ wh ew
      have gW : ∀ {G : Hp}, G w = some (.tup (rgV 0 (xs.length : Int))) → Gd K (del G h) 20 1 (.ref w) := fun {G} e => gd_tup wh e lw fun v hv => gw _ v hv
      have g8 : ∀ v ∈ [V.ref w, .ref z0, .ref t5, .ref l6, .non, .bl true, .str "0", .int 0, .ref p7, .ref p8], Gd K (del H8 h) 380 5 v := fun v hv => by
        simp only [List.mem_cons, List.not_mem_nil, or_false] at hv
        rcases hv with e | e | e | e | e | e | e | e | e | e
        · subst e; exact (gW ew8).mono (by decide) (by decide)
        · subst e; exact (gd_tup (n := 20) (k := 0) z0h (s8 _ _ (s7 _ _ (s6 _ _ (b5 _ _ z0h ez0)))) (by simp) fun v hv => by cases hv).mono (by decide) (by decide)
        · subst e
          refine (gd_tup (n := 20) (k := 0) t5h (s8 _ _ (s7 _ _ (s6 _ _ e5))) (by rw [List.length_map]; exact l5) fun v hv => ?_).mono (by decide) (by decide)
          obtain ⟨i, hi, rfl⟩ := List.mem_map.mp hv
          have := g5 i hi
          exact gd_int (by omega)
        · subst e; exact gd_lst (m := 20) (j := 0) l6h ne6 (s8 _ _ (s7 _ _ el6)) fun v hv => gw _ v hv
        · subst e; exact gd_non
        · subst e; exact gd_bl true
        · subst e; exact gd_str (by decide +kernel)
        · subst e; exact gd_int (by decide)
        · subst e; exact ⟨_, .dct (off_at p7h (s8 _ _ e7)) .nil, trivial⟩
        · subst e
          refine (gd_tup (n := 20) (k := 1) p8h e8 (by show 1 ≤ 20; decide) fun v hv => ?_).mono (by decide) (by decide)
          rw [List.mem_singleton.mp hv]
          exact gW ew8
      have ea8 := b8 _ _ tah ea3
      have eb8 := b8 _ _ tbh eb3
      have hl8 : Hl H8 xs hs := hl3.map fun b ys e => b8 _ _ (h3.ne_tup (K := K) e) e
      have b8' : But h Hi H8 := b3.trans b8
      clear s4 s6 s7 s8 e7 e8 el6 e5 ez0 b5 n8 n7 nl6 nz0 ne6 b8 b3 h3 h4 ew ea3 eb3 hl3
      refine ⟨(by show 10 ≤ sizeLine; decide), fun L nL => ?_⟩
      have sL := same_upd nL (o := .lst [.ref w, .ref z0, .ref t5, .ref l6, .non, .bl true, .str "0", .int 0, .ref p7, .ref p8])
      have eL : (upd H8 L (.lst [.ref w, .ref z0, .ref t5, .ref l6, .non, .bl true, .str "0", .int 0, .ref p7, .ref p8])) L = _ := upd_same
      have Lh := h8.fresh nL
      -- one more
      refine ⟨_, rfl, .inl ⟨rfl, _, SqL.of eL⟩, _, rfl, _, rfl, ta, xs, rfl, .inr (SqT.of (sL _ _ ea8)), (by show 1 ≤ sizeLine; decide), fun p9 n9 => ?_⟩
      have s9 := same_upd n9 (o := .tup [.int (xs.length : Int)])
      refine ⟨w, p9, _, _, rfl, rfl, s9 _ _ (sL _ _ ew8), upd_same, Nat.le_trans (show (rgV 0 (xs.length : Int)).length + 1 ≤ 100 by omega) (by decide), fun p10 H10 s10 e10 => ?_⟩
      have eL10 := s10 _ _ (s9 _ _ eL)
      refine ⟨L, _, _, rfl, rfl, eL10, (by show 10 < sizeLine; decide), ?_⟩
      have sA : L2.Same H8 (upd H10 L (.lst ([.ref w, .ref z0, .ref t5, .ref l6, .non, .bl true, .str "0", .int 0, .ref p7, .ref p8] ++ [.ref p10]))) := fun y o e => by
        rw [upd_ne (ne_of_none e nL)]
        exact s10 _ _ (s9 _ _ (sL _ _ e))
      have p10L : p10 ≠ L := fun z => by rw [z, eL10] at e10; cases e10
      have h11 : Hand 1030 (upd H10 L (.lst ([.ref w, .ref z0, .ref t5, .ref l6, .non, .bl true, .str "0", .int 0, .ref p7, .ref p8] ++ [.ref p10]))) h := (((h8.same sL).same s9).same s10).upd (Ne.symm Lh)
      have e11 : (upd H10 L (.lst ([.ref w, .ref z0, .ref t5, .ref l6, .non, .bl true, .str "0", .int 0, .ref p7, .ref p8] ++ [.ref p10]))) L = some (.lst ([.ref w, .ref z0, .ref t5, .ref l6, .non, .bl true, .str "0", .int 0, .ref p7, .ref p8] ++ [.ref p10])) := upd_same
      have e10' : (upd H10 L (.lst ([.ref w, .ref z0, .ref t5, .ref l6, .non, .bl true, .str "0", .int 0, .ref p7, .ref p8] ++ [.ref p10]))) p10 = some (.tup (rgV 0 (xs.length : Int) ++ [.int (xs.length : Int)])) := by rw [upd_ne p10L]; exact e10
      generalize upd H10 L (.lst ([.ref w, .ref z0, .ref t5, .ref l6, .non, .bl true, .str "0", .int 0, .ref p7, .ref p8] ++ [.ref p10])) = H11 at sA h11 e11 e10' ⊢
      have g11 : ∀ v ∈ ([V.ref w, .ref z0, .ref t5, .ref l6, .non, .bl true, .str "0", .int 0, .ref p7, .ref p8] ++ [V.ref p10]), Gd K (del H11 h) 380 5 v := fun v hv => by
        rcases List.mem_append.mp hv with z | z
        · exact (g8 v z).same (off_but (Same.but sA h))
        · rw [List.mem_singleton.mp z]
          refine (gd_tup (n := 30) (k := 0) (h11.ne_tup (K := K) e10') e10' (by rw [List.length_append]; show _ + 1 ≤ 30; omega) fun v hv => ?_).mono (by decide) (by decide)
          rcases List.mem_append.mp hv with y | y
          · exact (gw _ v y).mono (by decide) (by decide)
          · rw [List.mem_singleton.mp y]
            exact gd_int (by omega)
      have ea11 := sA _ _ ea8
      have eb11 := sA _ _ eb8
      have ew11 := sA _ _ ew8
      have hl11 : Hl H11 xs hs := hl8.map fun b ys e => sA _ _ e
      have b11 : But h Hi H11 := b8'.trans (Same.but sA h)
      have l11 : ([V.ref w, .ref z0, .ref t5, .ref l6, .non, .bl true, .str "0", .int 0, .ref p7, .ref p8] ++ [V.ref p10]).length = 11 := rfl
      generalize ([V.ref w, .ref z0, .ref t5, .ref l6, .non, .bl true, .str "0", .int 0, .ref p7, .ref p8] ++ [V.ref p10]) = T0 at e11 g11 l11
      clear sA g8 ea8 eb8 ew8 hl8 b8' s10 s9 sL eL eL10 e10 e10' h8
      refine ⟨_, rfl, by decide, by decide, for_range (lo := 0) (n := 5) (fun k σ Hj => ∃ (Lt : Addr) (T : List V) (c7 c8 c9 c10 : Option V), σ = [some (.ref a), some (.int (0 + (kk : Int))), some (.ref h), some (.ref ta), some (.ref tb), some (.ref w), some (.ref Lt), c7, c8, c9, c10] ∧ Hj Lt = some (.lst T) ∧ Lt ≠ h ∧ T.length = 11 + 2 * k ∧ (∀ v ∈ T, Gd K (del Hj h) 380 5 v) ∧ Hand (1030 + 300 * k) Hj h ∧ But h H11 Hj) ?_ ?_ ?_⟩
      · exact ⟨L, T0, _, _, _, _, rfl, e11, Lh, l11, g11, h11, But.refl h H11⟩
      · rintro k σ Hj hk5 ⟨Lt, T, c7, c8, c9, c10, rfl, eT, Lth, lT, gT, hdj, bj⟩
        have k5 : k < 5 := hk5
        have eaj := bj _ _ tah ea11
        have ewj := bj _ _ wh ew11
        refine ⟨_, rfl, _, rfl, _, rfl, _, rfl, _, rfl, ta, xs, rfl, .inr (SqT.of eaj), h, 1030 + 300 * k, (xs.length : Int), rfl, by omega, by omega, hdj, by show (1030 : Int) + 300 * k + 100 ≤ 1000000; omega, fun t3 n3 Ha e3 g3 l3 ha ba => ?_⟩
        refine ⟨(by show 2 ≤ sizeLine; decide), fun l nl => ?_⟩
        have sl := same_upd nl (o := .lst [.ref w, .ref t3])
        have t3h := ha.ne_tup (K := K) e3
        refine ⟨h, 1030 + 300 * k + 30, _, rfl, ha.same sl, by show (1030 : Int) + 300 * k + 30 ≤ 1000000; omega, .inl ⟨l, _, rfl, upd_same, ha.fresh nl, by simp, by show 2 < 1000; decide, fun v Hb mv hb bb => ?_⟩⟩
        have bjb : But h Hj Hb := (ba.trans (Same.but sl h)).trans bb
        have gv : Gd K (del Hb h) 20 1 v := by
          simp only [List.mem_cons, List.not_mem_nil, or_false] at mv
          rcases mv with e | e
          · subst e; exact gW (bjb _ _ wh ewj)
          · subst e
            refine gd_tup (n := 20) (k := 0) t3h (bb _ _ t3h (sl _ _ e3)) (by rw [List.length_map]; exact l3) fun v hv => ?_
            obtain ⟨i, hi, rfl⟩ := List.mem_map.mp hv
            have := g3 i hi
            exact gd_int (by omega)
        refine ⟨h, 1030 + 300 * k + 30 + 1, v, 20, rfl, gv, by decide, hb, by show (1030 : Int) + 300 * k + 30 + 1 + 200 * (((1 : Nat) : Int) + 1) ≤ 1000000; omega, fun v1 Hc g1 hc bc => ?_⟩
        refine ⟨_, rfl, _, rfl, _, rfl, _, rfl, h, 1030 + 300 * k + 30 + 1 + 20 * (((1 : Nat) : Int) + 1), v1, 110, rfl, g1, by decide, hc, by show (1030 : Int) + 300 * k + 30 + 1 + 20 * (((1 : Nat) : Int) + 1) + 200 * (((3 : Nat) : Int) + 1) ≤ 1000000; omega, fun v2 Hd g2 hd' bd => ?_⟩
        refine ⟨(by show 2 ≤ sizeLine; decide), fun l2 nl2 => ?_⟩
        have sl2 := same_upd nl2 (o := .lst [v1, v2])
        have bjd : But h Hj Hd := (bjb.trans bc).trans bd
        refine ⟨Lt, l2, T, _, rfl, rfl, sl2 _ _ (bjd _ _ Lth eT), upd_same, Nat.le_trans (show T.length + 2 ≤ 100 by omega) (by decide), fun l4 nl4 => ?_⟩
        have sl4 := same_upd nl4 (o := .lst (T ++ [v1, v2]))
        have sF := sl2.trans sl4
        have bF : But h Hj (upd (upd Hd l2 (.lst [v1, v2])) l4 (.lst (T ++ [v1, v2]))) := bjd.trans (Same.but sF h)
        refine ⟨l4, T ++ [v1, v2], _, _, _, _, rfl, upd_same, (hd'.same sl2).fresh nl4, by rw [List.length_append, lT]; rfl, fun v hv => ?_, (hd'.same sF).mono (by omega), bj.trans bF⟩
        rcases List.mem_append.mp hv with z | z
        · exact (gT v z).same (off_but bF)
        · simp only [List.mem_cons, List.not_mem_nil, or_false] at z
          rcases z with z | z
          · rw [z]; exact (g1.same (off_but (bd.trans (Same.but sF h)))).mono (by decide) (by decide)
          · rw [z]; exact g2.same (off_but (Same.but sF h))
      · rintro σ Hj ⟨Lt, T, c7, c8, c9, c10, rfl, eT, Lth, lT, gT, hdj, bj⟩
        have eaj := bj _ _ tah ea11
        have ebj := bj _ _ tbh eb11
        have hlj : Hl Hj xs hs := hl11.map fun b ys e => bj _ _ (h11.ne_tup (K := K) e) e
        refine ⟨_, rfl, Lt, rfl, ⟨_, SqL.of eT⟩, ?_⟩
        refine for_list (K := K) (a := Lt) (xs := T) (fun j σ Hm => ∃ c9 c10 : Option V, σ = [some (.ref a), some (.int (0 + (kk : Int))), some (.ref h), some (.ref ta), some (.ref tb), some (.ref w), some (.ref Lt), c7, c8, c9, c10] ∧ L2.Same Hj Hm) ?_ ?_ ?_ ?_
        · exact ⟨_, _, rfl, Same.refl Hj⟩
        · rintro j σ Hm _ ⟨_, _, _, e⟩
          exact SqL.of (e _ _ eT)
        · rintro j v σ Hm hv ⟨c9, c10, rfl, smm⟩
          obtain ⟨d, dz', fn⟩ := gT v (List.mem_of_getElem? hv)
          have dz : Dz K Hm v d := (dz'.same off_all).same smm
          have tld : tl d := fn_tl fn (by decide)
          have hlm : Hl Hm xs hs := hlj.map fun b ys e => smm _ _ e
          refine ⟨_, rfl, _, rfl, _, rfl, ta, tb, v, d, xs, hs, ws, rfl, smm _ _ eaj, hlm, l20, smm _ _ ebj, w20, dz, tld, fun Hn sn => ?_⟩
          have tyb : TyX K Hn (.bl (hb hs ws d)) (.type "bool") := (Dz.bl (hb hs ws d)).ty
          have ne1 : (!decide (V.bl (hb hs ws d) = V.bl (hb hs ws d))) = false := by simp
          refine ⟨_, rfl, _, _, _, _, true, rfl, .ty _, tyb, kit_ty (by decide +kernel), true, rfl, iteF ?_⟩
          refine ⟨_, rfl, _, rfl, _, rfl, _, rfl, ta, tb, v, d, xs, hs, ws, rfl, sn _ _ (smm _ _ eaj), hlm.map (fun b ys e => sn _ _ e), l20, sn _ _ (smm _ _ ebj), w20, dz.same sn, tld, fun Ho so => ⟨rfl, _, rfl, ?_⟩⟩
          rw [ne1]
          exact iteF ⟨_, _, rfl, (smm.trans sn).trans so⟩
        · rintro σ He ⟨c9, c10, rfl, sme⟩
          exact ⟨_, _, _, _, _, _, _, _, _, _, rfl, back ((b11.trans bj).trans (Same.but sme h))⟩
    · rintro σ He ⟨c1, c2, c3, c4, c5, c6, c7, c8, c9, c10, rfl, sm⟩
      exact q He
end
end K57
set_option Elab.async false
set_option linter.all false
set_option maxRecDepth 100000
set_option maxHeartbeats 4000000
set_option pp.maxSteps 400
set_option pp.deepTerms false
namespace K57
open PySem PySem.Spec PyProof.Rows L2
open Xk Az
theorem all_mk {l : PySem.W.OpenLaw} {w : World} {K : PySem.W.Frag} {h : Heap} {mg : Str → Option Value} {fa f0 f1 f2 f3 f4 f5 f6 f7 f8 f9 f10 f11 f12 f13 : Addr}
    {od0 an0 od1 an1 od2 an2 od3 an3 od4 an4 od5 an5 od6 an6 od7 an7 od8 an8 od9 an9 od10 an10 od11 an11 od12 an12 od13 an13 : Option Addr}
    {sl0 sl1 sl2 sl3 sl4 sl5 sl6 sl7 sl8 sl9 sl10 sl11 sl12 sl13 : Array (Option Value)}
    {oc0 kV0 dc0 pm0 cd0 ct0 oc1 kV1 dc1 pm1 cd1 ct1 oc2 kV2 dc2 pm2 cd2 ct2 oc3 kV3 dc3 pm3 cd3 ct3 oc4 kV4 dc4 pm4 cd4 ct4 oc5 kV5 dc5 pm5 cd5 ct5 oc6 kV6 dc6 pm6 cd6 ct6 oc7 kV7 dc7 pm7 cd7 ct7 oc8 kV8 dc8 pm8 cd8 ct8 oc9 kV9 dc9 pm9 cd9 ct9 oc10 kV10 dc10 pm10 cd10 ct10 oc11 kV11 dc11 pm11 cd11 ct11 oc12 kV12 dc12 pm12 cd12 ct12 oc13 kV13 dc13 pm13 cd13 ct13 : Value}
    (X : K.In h) (G : h.Ns mainGlobals mg) (hfa : mg "law" = some (.ref fa))
    (a0 : PySem.W.nsIn K mainGlobals "is_whole" = some (some (.ref f0)))
    (l0 : K.lookup f0 = some ⟨oc0, od0, .func (PySem.W.fnOf "is_whole" "is_whole" (defArgs sIsWhole) (defBody sIsWhole) (defScope sIsWhole) .none kV0 dc0 pm0 an0 cd0 ct0), sl0⟩)
    (c0 : PySem.W.codeIn K cd0 "is_whole" = true)
    (k0 : PySem.W.keepIn K (.ref f0) = true)
    (a1 : PySem.W.nsIn K mainGlobals "is_within" = some (some (.ref f1)))
    (l1 : K.lookup f1 = some ⟨oc1, od1, .func (PySem.W.fnOf "is_within" "is_within" (defArgs sIsWithin) (defBody sIsWithin) (defScope sIsWithin) .none kV1 dc1 pm1 an1 cd1 ct1), sl1⟩)
    (c1 : PySem.W.codeIn K cd1 "is_within" = true)
    (k1 : PySem.W.keepIn K (.ref f1) = true)
    (a2 : PySem.W.nsIn K mainGlobals "are_rising" = some (some (.ref f2)))
    (l2 : K.lookup f2 = some ⟨oc2, od2, .func (PySem.W.fnOf "are_rising" "are_rising" (defArgs sAreRising) (defBody sAreRising) (defScope sAreRising) .none kV2 dc2 pm2 an2 cd2 ct2), sl2⟩)
    (c2 : PySem.W.codeIn K cd2 "are_rising" = true)
    (k2 : PySem.W.keepIn K (.ref f2) = true)
    (a3 : PySem.W.nsIn K mainGlobals "shows_held" = some (some (.ref f3)))
    (l3 : K.lookup f3 = some ⟨oc3, od3, .func (PySem.W.fnOf "shows_held" "shows_held" (defArgs sShowsHeld) (defBody sShowsHeld) (defScope sShowsHeld) .none kV3 dc3 pm3 an3 cd3 ct3), sl3⟩)
    (c3 : PySem.W.codeIn K cd3 "shows_held" = true)
    (k3 : PySem.W.keepIn K (.ref f3) = true)
    (a4 : PySem.W.nsIn K mainGlobals "_law_hand" = some (some (.ref f4)))
    (l4 : K.lookup f4 = some ⟨oc4, od4, .func (PySem.W.fnOf "_law_hand" "_law_hand" (defArgs sHand) (defBody sHand) (defScope sHand) .none kV4 dc4 pm4 an4 cd4 ct4), sl4⟩)
    (c4 : PySem.W.codeIn K cd4 "_law_hand" = true)
    (k4 : PySem.W.keepIn K (.ref f4) = true)
    (a5 : PySem.W.nsIn K mainGlobals "_law_take" = some (some (.ref f5)))
    (l5 : K.lookup f5 = some ⟨oc5, od5, .func (PySem.W.fnOf "_law_take" "_law_take" (defArgs sTake) (defBody sTake) (defScope sTake) .none kV5 dc5 pm5 an5 cd5 ct5), sl5⟩)
    (c5 : PySem.W.codeIn K cd5 "_law_take" = true)
    (k5 : PySem.W.keepIn K (.ref f5) = true)
    (a6 : PySem.W.nsIn K mainGlobals "_law_pick" = some (some (.ref f6)))
    (l6 : K.lookup f6 = some ⟨oc6, od6, .func (PySem.W.fnOf "_law_pick" "_law_pick" (defArgs sPick) (defBody sPick) (defScope sPick) .none kV6 dc6 pm6 an6 cd6 ct6), sl6⟩)
    (c6 : PySem.W.codeIn K cd6 "_law_pick" = true)
    (k6 : PySem.W.keepIn K (.ref f6) = true)
    (a7 : PySem.W.nsIn K mainGlobals "_law_numbers" = some (some (.ref f7)))
    (l7 : K.lookup f7 = some ⟨oc7, od7, .func (PySem.W.fnOf "_law_numbers" "_law_numbers" (defArgs sNumbers) (defBody sNumbers) (defScope sNumbers) .none kV7 dc7 pm7 an7 cd7 ct7), sl7⟩)
    (c7 : PySem.W.codeIn K cd7 "_law_numbers" = true)
    (k7 : PySem.W.keepIn K (.ref f7) = true)
    (a8 : PySem.W.nsIn K mainGlobals "_law_case" = some (some (.ref f8)))
    (l8 : K.lookup f8 = some ⟨oc8, od8, .func (PySem.W.fnOf "_law_case" "_law_case" (defArgs sCase) (defBody sCase) (defScope sCase) .none kV8 dc8 pm8 an8 cd8 ct8), sl8⟩)
    (c8 : PySem.W.codeIn K cd8 "_law_case" = true)
    (k8 : PySem.W.keepIn K (.ref f8) = true)
    (a9 : PySem.W.nsIn K mainGlobals "_law_odd" = some (some (.ref f9)))
    (l9 : K.lookup f9 = some ⟨oc9, od9, .func (PySem.W.fnOf "_law_odd" "_law_odd" (defArgs sOdd) (defBody sOdd) (defScope sOdd) .none kV9 dc9 pm9 an9 cd9 ct9), sl9⟩)
    (c9 : PySem.W.codeIn K cd9 "_law_odd" = true)
    (k9 : PySem.W.keepIn K (.ref f9) = true)
    (a10 : PySem.W.nsIn K mainGlobals "_law_bent" = some (some (.ref f10)))
    (l10 : K.lookup f10 = some ⟨oc10, od10, .func (PySem.W.fnOf "_law_bent" "_law_bent" (defArgs sBent) (defBody sBent) (defScope sBent) .none kV10 dc10 pm10 an10 cd10 ct10), sl10⟩)
    (c10 : PySem.W.codeIn K cd10 "_law_bent" = true)
    (k10 : PySem.W.keepIn K (.ref f10) = true)
    (a11 : PySem.W.nsIn K mainGlobals "_law_due" = some (some (.ref f11)))
    (l11 : K.lookup f11 = some ⟨oc11, od11, .func (PySem.W.fnOf "_law_due" "_law_due" (defArgs sDue) (defBody sDue) (defScope sDue) .none kV11 dc11 pm11 an11 cd11 ct11), sl11⟩)
    (c11 : PySem.W.codeIn K cd11 "_law_due" = true)
    (k11 : PySem.W.keepIn K (.ref f11) = true)
    (a12 : PySem.W.nsIn K mainGlobals "_law_some" = some (some (.ref f12)))
    (l12 : K.lookup f12 = some ⟨oc12, od12, .func (PySem.W.fnOf "_law_some" "_law_some" (defArgs sSome) (defBody sSome) (defScope sSome) .none kV12 dc12 pm12 an12 cd12 ct12), sl12⟩)
    (c12 : PySem.W.codeIn K cd12 "_law_some" = true)
    (k12 : PySem.W.keepIn K (.ref f12) = true)
    (a13 : PySem.W.nsIn K mainGlobals "law" = some (some (.ref f13)))
    (l13 : K.lookup f13 = some ⟨oc13, od13, .func (PySem.W.fnOf "law" "law" (defArgs sLaw) (defBody sLaw) (defScope sLaw) .none kV13 dc13 pm13 an13 cd13 ct13), sl13⟩)
    (c13 : PySem.W.codeIn K cd13 "law" = true)
    (k13 : PySem.W.keepIn K (.ref f13) = true)
    (z_isinstance : PySem.W.nsIn K mainGlobals "isinstance" = some none)
    (z_int : PySem.W.nsIn K mainGlobals "int" = some none)
    (z_bool : PySem.W.nsIn K mainGlobals "bool" = some none)
    (z_str : PySem.W.nsIn K mainGlobals "str" = some none)
    (z_tuple : PySem.W.nsIn K mainGlobals "tuple" = some none)
    (z_list : PySem.W.nsIn K mainGlobals "list" = some none)
    (z_len : PySem.W.nsIn K mainGlobals "len" = some none)
    (z_all : PySem.W.nsIn K mainGlobals "all" = some none)
    (z_any : PySem.W.nsIn K mainGlobals "any" = some none)
    (z_zip : PySem.W.nsIn K mainGlobals "zip" = some none)
    (z_range : PySem.W.nsIn K mainGlobals "range" = some none)
    (z_max : PySem.W.nsIn K mainGlobals "max" = some none)
    (z_min : PySem.W.nsIn K mainGlobals "min" = some none)
    (z_sorted : PySem.W.nsIn K mainGlobals "sorted" = some none)
    : ∃ fd : FuncData, (∀ (s : Shared) (v : Value), BindsTo s fd ⟨[v], []⟩ [("_law_script", v)]) ∧
      ∀ base : Heap, K.In base → base.Ns mainGlobals mg → FnOk l.prog w K mg base CX0 8 fa fd ["_law_script"] (spLaw K) := by
  have e := hfa.symm.trans (PySem.W.mg_of X G a13)
  cases e
  have F0 := fun_mk (st := sIsWhole) l0 c0 k0
  have D0 : Df K mg "is_whole" ["thing"] sIsWhole f0 _ := ⟨F0, PySem.W.mg_of X G a0, F0.binds (ps := ["thing"]) fun _ _ _ _ _ _ us hl => match us, hl with | [_], _ => rfl⟩
  have F1 := fun_mk (st := sIsWithin) l1 c1 k1
  have D1 : Df K mg "is_within" ["thing", "least", "most"] sIsWithin f1 _ := ⟨F1, PySem.W.mg_of X G a1, F1.binds (ps := ["thing", "least", "most"]) fun _ _ _ _ _ _ us hl => match us, hl with | [_, _, _], _ => rfl⟩
  have F2 := fun_mk (st := sAreRising) l2 c2 k2
  have D2 : Df K mg "are_rising" ["things"] sAreRising f2 _ := ⟨F2, PySem.W.mg_of X G a2, F2.binds (ps := ["things"]) fun _ _ _ _ _ _ us hl => match us, hl with | [_], _ => rfl⟩
  have F3 := fun_mk (st := sShowsHeld) l3 c3 k3
  have D3 : Df K mg "shows_held" ["held", "wishes", "thing"] sShowsHeld f3 _ := ⟨F3, PySem.W.mg_of X G a3, F3.binds (ps := ["held", "wishes", "thing"]) fun _ _ _ _ _ _ us hl => match us, hl with | [_, _, _], _ => rfl⟩
  have F4 := fun_mk (st := sHand) l4 c4 k4
  have D4 : Df K mg "_law_hand" ["_law_script", "_law_k"] sHand f4 _ := ⟨F4, PySem.W.mg_of X G a4, F4.binds (ps := ["_law_script", "_law_k"]) fun _ _ _ _ _ _ us hl => match us, hl with | [_, _], _ => rfl⟩
  have F5 := fun_mk (st := sTake) l5 c5 k5
  have D5 : Df K mg "_law_take" ["_law_hand_here", "_law_many"] sTake f5 _ := ⟨F5, PySem.W.mg_of X G a5, F5.binds (ps := ["_law_hand_here", "_law_many"]) fun _ _ _ _ _ _ us hl => match us, hl with | [_, _], _ => rfl⟩
  have F6 := fun_mk (st := sPick) l6 c6 k6
  have D6 : Df K mg "_law_pick" ["_law_hand_here", "_law_some_here"] sPick f6 _ := ⟨F6, PySem.W.mg_of X G a6, F6.binds (ps := ["_law_hand_here", "_law_some_here"]) fun _ _ _ _ _ _ us hl => match us, hl with | [_, _], _ => rfl⟩
  have F7 := fun_mk (st := sNumbers) l7 c7 k7
  have D7 : Df K mg "_law_numbers" ["_law_hand_here", "_law_many"] sNumbers f7 _ := ⟨F7, PySem.W.mg_of X G a7, F7.binds (ps := ["_law_hand_here", "_law_many"]) fun _ _ _ _ _ _ us hl => match us, hl with | [_, _], _ => rfl⟩
  have F8 := fun_mk (st := sCase) l8 c8 k8
  have D8 : Df K mg "_law_case" ["_law_hand_here", "_law_most_discs", "_law_most_wishes"] sCase f8 _ := ⟨F8, PySem.W.mg_of X G a8, F8.binds (ps := ["_law_hand_here", "_law_most_discs", "_law_most_wishes"]) fun _ _ _ _ _ _ us hl => match us, hl with | [_, _, _], _ => rfl⟩
  have F9 := fun_mk (st := sOdd) l9 c9 k9
  have D9 : Df K mg "_law_odd" ["_law_hand_here", "_law_thing"] sOdd f9 _ := ⟨F9, PySem.W.mg_of X G a9, F9.binds (ps := ["_law_hand_here", "_law_thing"]) fun _ _ _ _ _ _ us hl => match us, hl with | [_, _], _ => rfl⟩
  have F10 := fun_mk (st := sBent) l10 c10 k10
  have D10 : Df K mg "_law_bent" ["_law_hand_here", "_law_thing"] sBent f10 _ := ⟨F10, PySem.W.mg_of X G a10, F10.binds (ps := ["_law_hand_here", "_law_thing"]) fun _ _ _ _ _ _ us hl => match us, hl with | [_, _], _ => rfl⟩
  have F11 := fun_mk (st := sDue) l11 c11 k11
  have D11 : Df K mg "_law_due" ["_law_held", "_law_wishes", "_law_thing"] sDue f11 _ := ⟨F11, PySem.W.mg_of X G a11, F11.binds (ps := ["_law_held", "_law_wishes", "_law_thing"]) fun _ _ _ _ _ _ us hl => match us, hl with | [_, _, _], _ => rfl⟩
  have F12 := fun_mk (st := sSome) l12 c12 k12
  have D12 : Df K mg "_law_some" ["_law_hand_here", "_law_many"] sSome f12 _ := ⟨F12, PySem.W.mg_of X G a12, F12.binds (ps := ["_law_hand_here", "_law_many"]) fun _ _ _ _ _ _ us hl => match us, hl with | [_, _], _ => rfl⟩
  have F13 := fun_mk (st := sLaw) l13 c13 k13
  have D13 : Df K mg "law" ["_law_script"] sLaw fa _ := ⟨F13, PySem.W.mg_of X G a13, F13.binds (ps := ["_law_script"]) fun _ _ _ _ _ _ us hl => match us, hl with | [_], _ => rfl⟩
  have T : Txt mg := ⟨PySem.W.mg_none_of X G z_isinstance,
    PySem.W.mg_none_of X G z_int,
    PySem.W.mg_none_of X G z_bool,
    PySem.W.mg_none_of X G z_str,
    PySem.W.mg_none_of X G z_tuple,
    PySem.W.mg_none_of X G z_list,
    PySem.W.mg_none_of X G z_len,
    PySem.W.mg_none_of X G z_all,
    PySem.W.mg_none_of X G z_any,
    PySem.W.mg_none_of X G z_zip,
    PySem.W.mg_none_of X G z_range,
    PySem.W.mg_none_of X G z_max,
    PySem.W.mg_none_of X G z_min,
    PySem.W.mg_none_of X G z_sorted⟩
  refine ⟨PySem.W.fnOf "law" "law" (defArgs sLaw) (defBody sLaw) (defScope sLaw) .none kV13 dc13 pm13 an13 cd13 ct13, fun s v => .of_eq rfl, fun base kb gb => ?g⟩
  case g =>
    have cW := D0.ca (ok_whole (P := l.prog) (w := w) (base := base) D0 T)
    have cI := D1.ca (ok_within D1 cW)
    have cR := D2.ca (ok_ris (P := l.prog) (w := w) (base := base) D2 T)
    have cHd := D3.ca (ok_held D3 T cI cR)
    have cH := D4.ca (ok_hand (P := l.prog) (w := w) (base := base) D4 T)
    have cT := D5.ca (ok_take (P := l.prog) (w := w) (base := base) D5)
    have cP := D6.ca (ok_pick D6 T cT)
    have cNu := D7.ca (ok_numbers D7 T cT cP)
    have cC := D8.ca (ok_case D8 T cT cP cNu)
    have cO := D9.ca (ok_odd D9 T cT cP)
    have cB0 := D10.ca (ok_bentS (k := 0) D10 T cT cO (fn_no D10))
    have cB1 := D10.ca (ok_bentS (k := 1) D10 T cT cO cB0)
    have cB2 := D10.ca (ok_bentS (k := 2) D10 T cT cO cB1)
    have cB3 := D10.ca (ok_bentS (k := 3) D10 T cT cO cB2)
    have cDu := D11.ca (ok_due (P := l.prog) (w := w) (base := base) D11 T)
    have cSo := D12.ca (ok_some D12 T cT)
    exact ok_law D13 T cH cP cC cSo cB1 cB3 cHd cDu
end K57
open PySem PySem.W PyProof.Rows L2
set_option maxRecDepth 100000 in
set_option maxHeartbeats 0 in
theorem PySem.Challenge.cw_takesworks_k57_discs_that_hold_all_holds : PySem.Challenge.rw_takesworks_k57_discs_that_hold_all.Holds := by
  w_on; o_law; k_head; (case hw => w_witness2)
  k_fill
  refine walk_of (l := PySem.Challenge.rw_takesworks_k57_discs_that_hold_all) (n := 63) (k := 8) (x := "_law_script") (CX := fun _ => CX0) (sp := fun w => K57.spLaw _) rfl (by decide) rfl ⟨rfl, by decide, by decide⟩ (fun w h Y => PySem.W.kIn_of Y) ?F
    (fun w H a ns hl _ hS => ⟨a, ns, rfl, hS, hl, fun _ => rfl⟩) (fun _ _ _ _ _ z => z)
  case F =>
    intro w mg fa h KX G hmg
    refine' K57.all_mk KX G hmg ?a0 ?l0 ?c0 ?k0 ?a1 ?l1 ?c1 ?k1 ?a2 ?l2 ?c2 ?k2 ?a3 ?l3 ?c3 ?k3 ?a4 ?l4 ?c4 ?k4 ?a5 ?l5 ?c5 ?k5 ?a6 ?l6 ?c6 ?k6 ?a7 ?l7 ?c7 ?k7 ?a8 ?l8 ?c8 ?k8 ?a9 ?l9 ?c9 ?k9 ?a10 ?l10 ?c10 ?k10 ?a11 ?l11 ?c11 ?k11 ?a12 ?l12 ?c12 ?k12 ?a13 ?l13 ?c13 ?k13 ?z_isinstance ?z_int ?z_bool ?z_str ?z_tuple ?z_list ?z_len ?z_all ?z_any ?z_zip ?z_range ?z_max ?z_min ?z_sorted
    (case a0 => k_is)
    (case l0 => k_is)
    (case c0 => k_is)
    (case k0 => k_is)
    (case a1 => k_is)
    (case l1 => k_is)
    (case c1 => k_is)
    (case k1 => k_is)
    (case a2 => k_is)
    (case l2 => k_is)
    (case c2 => k_is)
    (case k2 => k_is)
    (case a3 => k_is)
    (case l3 => k_is)
    (case c3 => k_is)
    (case k3 => k_is)
    (case a4 => k_is)
    (case l4 => k_is)
    (case c4 => k_is)
    (case k4 => k_is)
    (case a5 => k_is)
    (case l5 => k_is)
    (case c5 => k_is)
    (case k5 => k_is)
    (case a6 => k_is)
    (case l6 => k_is)
    (case c6 => k_is)
    (case k6 => k_is)
    (case a7 => k_is)
    (case l7 => k_is)
    (case c7 => k_is)
    (case k7 => k_is)
    (case a8 => k_is)
    (case l8 => k_is)
    (case c8 => k_is)
    (case k8 => k_is)
    (case a9 => k_is)
    (case l9 => k_is)
    (case c9 => k_is)
    (case k9 => k_is)
    (case a10 => k_is)
    (case l10 => k_is)
    (case c10 => k_is)
    (case k10 => k_is)
    (case a11 => k_is)
    (case l11 => k_is)
    (case c11 => k_is)
    (case k11 => k_is)
    (case a12 => k_is)
    (case l12 => k_is)
    (case c12 => k_is)
    (case k12 => k_is)
    (case a13 => k_is)
    (case l13 => k_is)
    (case c13 => k_is)
    (case k13 => k_is)
    (case z_isinstance => k_is)
    (case z_int => k_is)
    (case z_bool => k_is)
    (case z_str => k_is)
    (case z_tuple => k_is)
    (case z_list => k_is)
    (case z_len => k_is)
    (case z_all => k_is)
    (case z_any => k_is)
    (case z_zip => k_is)
    (case z_range => k_is)
    (case z_max => k_is)
    (case z_min => k_is)
    (case z_sorted => k_is)
