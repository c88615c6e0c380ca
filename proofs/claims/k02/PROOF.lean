import PyProof.Rows.All
import Wide.All
import OpenK.AllK
import Wide.FinOn
import HandS.ForMost
import HandS.ForExc
import HandS.Wide
import HandS.Flow
import HandS.IsInst
import HandS.Codes
import HandS.ExcInit
import HandS.ExcField
import HandS.ExcIs
import HandS.CallSlots
import HandS.Defaults
import HandS.MakeKw
import HandS.MakeKwOnly
import KE.KExcIs
import KE.KTryMore
import HandS.RaiseMore
import HandS.FStrTup
import PyProof.ReprRoads
import PyProof.StrLawsRepr
import HandS.TupLe
import HandS.Zip
import HandS.Walk
import PySem.Challenge.RW_takesworks_k02_days_refused
set_option Elab.async false
set_option linter.all false
set_option maxRecDepth 100000
set_option maxHeartbeats 4000000
set_option pp.maxSteps 400
set_option pp.deepTerms false
/-! A caught exception that is kept: tracked as an object of its own, with its class and its dict. -/
namespace Xk
open PySem PySem.Spec PyProof.Rows L2
/-- at a: an exception of the class cls, its dict at d (if it has one) -/
def ExK (cls : Value) (d : Option Addr) (a : Addr) : HO := .ext fun h => ∃ oe : Obj, h.get? a = some oe ∧ Zc cls d oe ∧ ∃ vs, oe.data = .fields vs
theorem exK_ok {P : Program} {w : World} {H : Hp} {h : Heap} {a : Addr} {cls : Value} {d : Option Addr} {oe : Obj} {vs : Array Value}
    (e : h.get? a = some oe) (z : Zc cls d oe) (hd : oe.data = .fields vs) : ObjOk P w H h a (ExK cls d a) :=
  ⟨⟨oe, e, z, vs, hd⟩, ⟨oe, e⟩, fun _ _ y k => by
    obtain ⟨o, q, r⟩ := y
    exact ⟨o, k o q, r⟩⟩
theorem exK_at {P : Program} {w : World} {H : Hp} {h : Heap} {a : Addr} {cls : Value} {d : Option Addr} (hok : HOk P w H h) (e : H a = some (ExK cls d a)) :
    ∃ oe : Obj, h.get? a = some oe ∧ Zc cls d oe ∧ ∃ vs, oe.data = .fields vs := by
  have z : ObjOk P w H h a (.ext fun h => ∃ oe : Obj, h.get? a = some oe ∧ Zc cls d oe ∧ ∃ vs, oe.data = .fields vs) := hok a _ e
  exact z.1
section
variable {X : Cx} {pins : List (Addr × Obj)} {σ : L2.St} {H : Hp} {s : Shared}
/-- an object that came during the call, untracked as yet, is tracked from here on -/
theorem track {a : Addr} {o : HO} (I : Inv X pins σ H s) (h0 : X.s_0.heap.get? a = none) (na : H a = none) (nL : a ≠ X.env.locals)
    (nC : ∀ x c, X.env.cells.lookup x = some c → c ≠ a) (nP : ∀ p ∈ X.pn ++ pins, p.1 ≠ a) (new : ObjOk X.prog X.w (upd H a o) s.heap a o) : Inv X pins σ (upd H a o) s := by
  have n0 : ∀ {b : Addr} {u : Obj}, X.s_0.heap.get? b = some u → b ≠ a := fun {b u} e z => by
    rw [z, h0] at e
    cases e
  refine ⟨I.ok, I.os, I.bare, ⟨I.base.keep, I.base.slot, fun b u e n hx => ?_, I.base.there, fun b xs e => ?_, fun b u v e => ?_, fun b ps e => ?_⟩, I.loc, I.cell, ?_, fun x c e => ?_, fun p hp => ?_, fun b u e => ?_, I.len⟩
  · rw [upd_ne (n0 e)]
    exact I.base.free b u e n hx
  · have q := I.base.tups b xs e
    rw [upd_ne (ne_of_none q na)]
    exact q
  · have q := I.base.frzs b u v e
    rw [upd_ne (ne_of_none q na)]
    exact q
  · obtain ⟨m, q⟩ := I.base.tbls b ps e
    exact ⟨m, by rw [upd_ne (ne_of_none q na)]; exact q⟩
  · rw [upd_ne (Ne.symm nL)]
    exact I.free
  · rw [upd_ne (nC x c e)]
    exact I.freeC x c e
  · obtain ⟨e1, e2, e3⟩ := I.pin p hp
    exact ⟨e1, by rw [upd_ne (nP p hp)]; exact e2, e3⟩
  · by_cases hb : b = a
    · subst hb
      rw [upd_same] at e
      cases e
      exact new
    · rw [upd_ne hb] at e
      refine (I.hok b u e).stay (fun _ _ _ q => q) (fun c q => ?_) fun c xs q => ?_
      · rw [upd_ne (ne_of_none q na)]
        exact q
      · rw [upd_ne (ne_of_none q na)]
        exact q
end
theorem flying_kept {B h h' : Heap} {l : List Env} {a : Addr} {Z : Obj → Prop} (f : HandSPX.FlyingZ B l a Z h) (k : ∀ b o, h.get? b = some o → h'.get? b = some o) : HandSPX.FlyingZ B l a Z h' := by
  obtain ⟨f1, f2, f3, oe, vs, T, oT, ts, t1, t2, t3, t4, t5, t6, t7, t8, t9⟩ := f
  exact ⟨fun b o e => k b o (f1 b o e), f2, f3.of_keeps fun b o e _ => ⟨o, k b o e, rfl⟩, oe, vs, T, oT, ts, k _ _ t1, t2, t3, t4, t5, t6, k _ _ t7, t8, t9⟩
/-- what the clause 'except (A, B, C) as n' wishes of an exception of the body: slot i is n's; the exception is tracked -/
def wKeep (K : PySem.W.Frag) (cs : List Value) (i : Nat) (ts : Addr → TS) (Wout : WX) (D : Ends) : WX := fun cls d σ H =>
  ∃ b, PySem.W.exmAny K cls cs = some b ∧
    (b = true → ∀ a, H a = none → ts a { nx := fun σ' H' => D.nx (σ'.set i none) H', rt := D.rt, bk := fun σ' H' => D.bk (σ'.set i none) H', ct := fun σ' H' => D.ct (σ'.set i none) H' } (σ.set i (some (.ref a))) (upd H a (ExK cls d a))) ∧
    (b = false → Wout cls d σ H)
/-- a module's own class by its name -/
structure Nm (X : Cx) (x : Str) (C : Addr) : Prop where
  gl : Gl X x
  db : (x == ("__debug__" : Str)) = false
  mg : X.mg x = some (.ref C)
section
variable {X : Cx} {x1 x2 x3 n : Str} {C1 C2 C3 : Addr} {i : Nat} {body suite : List Stmt} {b₀ : Stmt} {p1 p2 p3 tp pos pos' : Pos} {tb : WX → TS} {ts : Addr → TS} {Wout : WX} {cx}
theorem ps_try_keep (hs : X.stack = X.env :: X.outer) (hf : X.env.frame = some X.env.locals) (hex : X.ex = []) (hN : X.N.Nodup) (hi : X.N[i]? = some n) (hln : X.env.kindOf n = some .local)
    (n1 : Nm X x1 C1) (n2 : Nm X x2 C2) (n3 : Nm X x3 C3) (tk : Takes X Wout)
    (hb : ∀ (W : WX) (pn : List (Addr × Obj)) (xe : Value → Shared → Prop), Takes (X.tr pn xe) W → PassesOwn (model X.prog X.w) X.A X.env xe → PSs (X.tr pn xe) body (tb W))
    (hsu : ∀ (a : Addr) (pn : List (Addr × Obj)), PSs (X.suite a pn) (b₀ :: suite) (ts a)) :
    PS X (.Try body [.ExceptHandler (some (.Tuple [.Name x1 p1, .Name x2 p2, .Name x3 p3] cx tp)) (some n) (b₀ :: suite) pos'] [] [] pos) (fun D σ H => tb (wKeep X.K [.ref C1, .ref C2, .ref C3] i ts Wout D) D σ H) := by
  refine ⟨fun pins s σ H D I h => ?_⟩
  have ok := I.ok
  have frs2 : X.A.frames = some (X.env :: X.outer) := by rw [ok.frames, hs]
  refine wpAny_Try_except ?_
  refine wpAny_mono ((hb (wKeep X.K [.ref C1, .ref C2, .ref C3] i ts Wout D) (X.pn ++ pins)
    (fun e s₁ => wpAny (model X.prog X.w) X.A (noteFrame e X.env) (fun _ s₂ => wpAny (model X.prog X.w) X.A (setFlight e none) (fun _ s₃ => wpAny (model X.prog X.w) X.A
      (handleBy e X.env [.ExceptHandler (some (.Tuple [.Name x1 p1, .Name x2 p2, .Name x3 p3] cx tp)) (some n) (b₀ :: suite) pos']) (SP X pins D) X.xe s₃) X.xe s₂) X.xe s₁)
    (fun u s' air => ?_) PassesOwn.looking).run [] s σ H D (I.toTry _) h) (fun f s1 hsp => ?_) (fun e s1 he => he)
  · obtain ⟨a, B, sI, pins', σ', H', cls, d, rfl, J', nb, up, sky, na, os, ag, b, hb1, hyes, hno⟩ := air
    have J : Inv X pins σ' H' sI := J'.ofTry ok
    have sky2 : Sky B (X.env :: X.outer) a (Zc cls d) X.env.locals s'.heap := by
      rw [← hs]
      exact sky
    refine Sky.land Zc.steady frs2 hf sky2 fun h3 fl3 up3 => ?_
    obtain ⟨oe3, vs3, he3, hz3, hd3⟩ := fl3.there
    have nfr : a ∉ frs (X.env :: X.outer) := fun hm => by
      obtain ⟨_, o', e', hnf⟩ := fl3.2.2.1.mem hm
      rw [he3] at e'
      cases e'
      exact hnf _ hd3
    have nL : a ≠ X.env.locals := fun z => nfr (List.mem_filterMap.mpr ⟨X.env, List.mem_cons_self, by rw [hf, z]⟩)
    have nF : a ∉ X.fs := fun hm => by
      obtain ⟨e, he, q⟩ := List.mem_filterMap.mp hm
      exact nfr (List.mem_filterMap.mpr ⟨e, List.mem_cons_of_mem _ he, q⟩)
    -- it was not there when the call began
    have aI : sI.heap.get? a = none := by
      cases e : sI.heap.get? a with
      | none => rfl
      | some o =>
        have z := nb a o e (by rw [hs]; exact nfr)
        rw [fl3.2.1] at z
        cases z
    have a0 : X.s_0.heap.get? a = none := by
      cases e : X.s_0.heap.get? a with
      | none => rfl
      | some o =>
        obtain ⟨o', z⟩ := J.base.there a o e (by rw [hex]; exact fun z => nomatch z)
        rw [aI] at z
        cases z
    have nP : ∀ p ∈ X.pn ++ pins, p.1 ≠ a := fun p hp z => by
      have q := (J.pin p hp).1
      rw [z, aI] at q
      cases q
    have trk : ∀ {h4 : Heap} {s4 : Shared}, s4.heap = h4 → HandSPX.FlyingZ B (X.env :: X.outer) a (Zc cls d) h4 → Inv X pins σ' H' s4 → Inv X pins σ' (upd H' a (ExK cls d a)) s4 := fun {h4 s4} e4 fl4 J4 => by
      subst e4
      obtain ⟨oe4, vs4, he4, hz4, hd4⟩ := fl4.there
      refine track J4 a0 na nL (fun x c e z => ?_) nP (exK_ok he4 hz4 hd4)
      obtain ⟨v, o, eo, ed⟩ := J4.cell x c e
      rw [z, he4] at eo
      cases eo
      rw [hd4] at ed
      cases ed
    have J3 : Inv X pins σ' H' { s' with heap := h3 } := J.landed nb fl3.1 (up.trans up3) os ag
    have S3 : Inv (X.suite a (X.pn ++ pins)) [] σ' H' { s' with heap := h3 } :=
      ⟨J3.ok.suite _ _, J3.os, J3.bare, J3.base, J3.loc, J3.cell, J3.free, J3.freeC, fun p hp => J3.pin p (by rw [List.append_nil] at hp; exact hp), J3.hok, J3.len⟩
    refine wpAny_handleBy_cons (codeAny_handlers_test ?_) (by intro q; cases q)
    have own : ∀ {x : Str} {C : Addr} {p : Pos} {Q : Value → Shared → Prop} {E : Value → Shared → Prop}, Nm X x C → Q (.ref C) { s' with heap := h3 } →
        wpAny (model X.prog X.w) (X.A.mark (some (.ref a))) (eval (.Name x p) X.env) Q E { s' with heap := h3 } := fun {x C p Q E} z q => ld_glob (X := X.suite a (X.pn ++ pins)) S3 z.gl z.mg q z.db
    have tup : ∀ {Q : Value → Shared → Prop} {E : Value → Shared → Prop}, Q (.ref h3.objs.size) { s' with heap := h3.push { cls := .type "tuple", data := .seq [Value.ref C1, .ref C2, .ref C3].toArray } } →
        wpAny (model X.prog X.w) (X.A.mark (some (.ref a))) (eval (.Tuple [.Name x1 p1, .Name x2 p2, .Name x3 p3] cx tp) X.env) Q E { s' with heap := h3 } := fun {Q E} q => by
      refine wpAny_Tuple_spliced ?_
      show wpAny _ _ (spliced ((false, eval (.Name x1 p1) X.env) :: (false, eval (.Name x2 p2) X.env) :: (false, eval (.Name x3 p3) X.env) :: [])) _ _ _
      exact Calls.spliced_cons (own n1 (Calls.spliced_cons (own n2 (Calls.spliced_cons (own n3 (Calls.spliced_nil ⟨by show 3 ≤ sizeLine; decide, q⟩))))))
    refine tup ?_
    have k4 : ∀ b o, h3.get? b = some o → (h3.push { cls := .type "tuple", data := .seq [Value.ref C1, .ref C2, .ref C3].toArray }).get? b = some o := fun b o e => Heap.get?_push_of_some _ e
    have t4 := Heap.get?_push_size h3 (o := { cls := .type "tuple", data := .seq [Value.ref C1, .ref C2, .ref C3].toArray }) rfl
    generalize h3.push { cls := .type "tuple", data := .seq [Value.ref C1, .ref C2, .ref C3].toArray } = h4 at k4 t4 ⊢
    have fl4 := flying_kept fl3 k4
    have J4 : Inv X pins σ' H' { s' with heap := h4 } := J3.kept k4
    have LT : PySem.W.Looks (model X.prog X.w) h4 (typeOf (.ref a)) cls := fun A Q E s k q => wpAny_typeOf_ref (k _ _ (k4 _ _ he3)) (by rw [hz3.1]; exact q)
    refine (PySem.W.exm_tup3 (M := model X.prog X.w) J4.kIn LT t4 hb1).here ?_
    cases b with
    | true =>
      refine codeAny_handlers_suite_as ?_
      refine HandSPX.lands_againZ fl4 fun h5 fl5 up5 => ?_
      have J5 : Inv X pins σ' H' { s' with heap := h5 } := J.landed nb fl5.1 ((up.trans up3).trans ((Heap.UpToSlots.of_keeps k4).trans up5)) os ag
      have T5 := trk rfl fl5 J5
      have S5 : Inv (X.suite a (X.pn ++ pins)) [] σ' (upd H' a (ExK cls d a)) { s' with heap := h5 } :=
        ⟨T5.ok.suite _ _, T5.os, T5.bare, T5.base, T5.loc, T5.cell, T5.free, T5.freeC, fun p hp => T5.pin p (by rw [List.append_nil] at hp; exact hp), T5.hok, T5.len⟩
      refine store_ok (X := X.suite a (X.pn ++ pins)) (v := .ref a) S5 hN hi (.inl hln) rfl (fun s6 S6 => ?_) (.inr hln)
      refine wpAny_mono ((hsu a (X.pn ++ pins)).run [] s6 _ _ _ S6 (hyes rfl a na)) (fun f s7 hsp => ?_) (fun _ _ z => False.elim z)
      have back : ∀ {σ7 : L2.St} {H7 : Hp}, Inv (X.suite a (X.pn ++ pins)) [] σ7 H7 s7 → Inv X pins σ7 H7 s7 := fun {σ7 H7} S7 =>
        ⟨ok, S7.os, S7.bare, S7.base, S7.loc, S7.cell, S7.free, S7.freeC, fun p hp => S7.pin p (by rw [List.append_nil]; exact hp), S7.hok, S7.len⟩
      cases f with
      | next =>
        obtain ⟨σ7, H7, S7, q7⟩ := hsp
        exact gone_ok (back S7) hN hi hln fun s8 J8 => ⟨_, _, J8, q7⟩
      | brk =>
        obtain ⟨σ7, H7, S7, q7⟩ := hsp
        exact gone_ok (back S7) hN hi hln fun s8 J8 => ⟨_, _, J8, q7⟩
      | cont =>
        obtain ⟨σ7, H7, S7, q7⟩ := hsp
        exact gone_ok (back S7) hN hi hln fun s8 J8 => ⟨_, _, J8, q7⟩
      | ret u =>
        obtain ⟨v7, σ7, H7, S7, r7, q7⟩ := hsp
        exact gone_ok (back S7) hN hi hln fun s8 J8 => ⟨_, _, _, J8, r7, q7⟩
    | false =>
      refine wpAny_handleBy_nil ?_
      obtain ⟨k1, k2, k3, oe, vs, T, oT, ts', he, hz, hd, h1, hr⟩ := id fl4
      unfold PySem.passOn
      refine wpAny_bind (wpAny_field he hd h1 ?_)
      rw [if_neg (by simp : ¬ ((Value.ref T == Value.none) = true))]
      have fin : wpAny (model X.prog X.w) X.A (setFlight (.ref a) X.env.frame) (fun _ s5 => wpAny (model X.prog X.w) X.A (throw (.ref a) : Sem Flow) (SP X pins D) X.xe s5) X.xe { s' with heap := h4 } := by
        rw [hf]
        refine HandSPX.setFlight_upZ fl4 fun h5 hh5 up5 => wpAny_throw (tk _ _ ?_)
        exact ⟨a, B, sI, pins, σ', H', cls, d, rfl, J, nb, (up.trans up3).trans ((Heap.UpToSlots.of_keeps k4).trans up5), .inr (.inr (by rw [hs]; exact hh5)), na, os, ag, hno rfl⟩
      first
        | exact wpAny_bind (wpAny_pure (wpAny_bind fin))
        | exact wpAny_bind fin
  · cases f with
    | next =>
      obtain ⟨σ', H', J', q⟩ := hsp
      exact wpAny_execs_nil ⟨σ', H', J'.ofTry ok, q⟩
    | brk =>
      obtain ⟨σ', H', J', q⟩ := hsp
      exact ⟨σ', H', J'.ofTry ok, q⟩
    | cont =>
      obtain ⟨σ', H', J', q⟩ := hsp
      exact ⟨σ', H', J'.ofTry ok, q⟩
    | ret u =>
      obtain ⟨v, σ', H', J', r, q⟩ := hsp
      exact ⟨v, σ', H', J'.ofTry ok, r, q⟩
end
end Xk
set_option Elab.async false
set_option linter.all false
set_option maxRecDepth 100000
set_option maxHeartbeats 4000000
set_option pp.maxSteps 400
set_option pp.deepTerms false
namespace Xk
open PySem PySem.Spec PyProof.Rows L2
/-- what an own exception class says, so that its kept instances are read and asked -/
structure XcC (K : PySem.W.Frag) (C : Addr) : Prop where
  cl : (PySem.W.clsIn K C).isSome = true
  ga : PySem.W.findIn K (.ref C) "__getattribute__" = some (some (.builtin "BaseException.__getattribute__"))
  gg : PySem.W.findIn K (.ref C) "__getattr__" = some none
  sb : PySem.W.subIn K (.ref C) (.type "BaseException") = some true
  hd : PySem.W.hasDictIn K C = true
  ha : PySem.W.findIn K (.ref C) "__class__" = some (some (.builtin "object.__class__"))
  hn : PySem.W.specialIn K (.builtin "object.__class__") "__get__" = some (some (.builtin "getset_descriptor.__get__"))
  ht : PySem.W.takesIn K (.builtin "object.__class__") = some true
  hm : PySem.W.mroIn K C (.type "object") = some true
/-- a kept exception of the class at C with the fields fs -/
def Kept (H : Hp) (a C : Addr) (fs : List (Str × V)) : Prop := ∃ d, H a = some (ExK (.ref C) (some d) a) ∧ H d = some (.xd fs)
theorem Kept.same {H H' : Hp} {a C : Addr} {fs : List (Str × V)} (k : Kept H a C fs) (s : L2.Same H H') : Kept H' a C fs := by
  obtain ⟨d, e1, e2⟩ := k
  exact ⟨d, s _ _ e1, s _ _ e2⟩
section
variable {X : Cx} {pins : List (Addr × Obj)} {σ : L2.St} {H : Hp} {s : Shared}
theorem Kept.inst {a C : Addr} {fs : List (Str × V)} (I : Inv X pins σ H s) (k : Kept H a C fs) :
    ∃ (oe od : Obj) (mA : Str → Option Value), PySem.W.InstAt s.heap a oe C (some od) ∧ (∀ n, PySem.W.lookIn n od = some (mA n)) ∧ ∀ f, RelO (fs.lookup f) (mA f) := by
  obtain ⟨d, e1, e2⟩ := k
  obtain ⟨oe, he, hz, vs, hv⟩ := exK_at I.hok e1
  have hx : ObjOk X.prog X.w H s.heap d (.xd fs) := I.hok d _ e2
  obtain ⟨mA, hns, hr⟩ := hx
  obtain ⟨od, ho, hl⟩ := lookIn_ns hns
  refine ⟨oe, od, mA, ⟨he, hz.1, by unfold PySem.W.notCls; rw [hv] <;> rfl, by rw [hz.2]; exact ho⟩, hl, hr⟩
end
/-- e.f of a kept exception -/
def tKf (C : Addr) (f : Str) (te : TE) : TE := fun σ H Q => te σ H fun x H1 => ∃ (a : Addr) (fs : List (Str × V)) (v : V), x = .ref a ∧ Kept H1 a C fs ∧ fs.lookup f = some v ∧ Q v H1
theorem pe_kf {X : Cx} {C : Addr} {e : Expr} {te : TE} {pos : Pos} {n : Str} (T : XcC X.K C) (hno : PySem.W.findIn X.K (.ref C) n = some none) (he : PE X e te)
    (hb : attributeBase e n X.env (eval e X.env) = eval e X.env := by rfl) : PE X (.Attribute e n pos) (tKf C n te) := by
  refine ⟨fun pins s σ H Q I h => attr_of hb (thn (he.run pins s σ H _ I h) fun u s1 z => ?_)⟩
  obtain ⟨x, H1, I1, rx, a, fs, v, ex, k, l, q⟩ := z
  subst ex
  obtain rfl : u = Value.ref a := rx
  obtain ⟨oe, od, mA, J, hl, hr⟩ := k.inst I1
  obtain ⟨y, hy, ry⟩ := RelO.some_of (v := v) (o := mA n) (by rw [← l]; exact hr n)
  exact HandSPX.exc_get I1.kIn J T.ga T.gg T.sb (PySem.W.findObj_own T.hd hno rfl (by rw [hl, hy])) (handed_of ry) ⟨v, H1, I1.tok _, ry, q⟩
/-- isinstance(e, c), isinstance(e, (c1, ..)) of a kept exception -/
def rIsK (K : PySem.W.Frag) (C : Addr) : List V → Hp → VK → Prop := fun xs H Q => ∃ (a : Addr) (fs : List (Str × V)) (c : V) (u : Value) (b : Bool), xs = [.ref a, c] ∧ Kept H a C fs ∧ ClsV c u ∧ PySem.W.kitOne K (.ref C) u = some b ∧ Q (.bl b) H
def rIsKT (K : PySem.W.Frag) (C : Addr) : List V → Hp → VK → Prop := fun xs H Q => ∃ (a tp : Addr) (fs : List (Str × V)) (cs : List V) (us : List Value) (b : Bool), xs = [.ref a, .ref tp] ∧ Kept H a C fs ∧
  H tp = some (.tup cs) ∧ Paired ClsV cs us ∧ PySem.W.kitAny K (.ref C) us = some b ∧ Q (.bl b) H
theorem call_isK {X : Cx} {C : Addr} (T : XcC X.K C) : CallR X (.builtin "isinstance") (rIsK X.K C) := by
  intro pins s σ H xs us Q I r h
  obtain ⟨a, fs, c, u, b, rfl, k, hc, e, q⟩ := h
  obtain ⟨u1, u2, rfl, r1, r2⟩ := vals2 r
  have e2 := hc.eq r2
  subst e2
  cases (show u1 = Value.ref a from r1)
  obtain ⟨oe, od, mA, J, _, _⟩ := k.inst I
  exact PySem.W.kia_one (PySem.W.kitx_exc (ox := oe) (od := some od) T.cl T.ga T.gg T.sb T.ha T.hn T.ht T.hm) I.kIn J e (fun z => nomatch z) fun tk => ⟨.bl b, H, I.tok tk, rfl, q⟩
theorem call_isKT {X : Cx} {C : Addr} (T : XcC X.K C) : CallR X (.builtin "isinstance") (rIsKT X.K C) := by
  intro pins s σ H xs us Q I r h
  obtain ⟨a, tp, fs, cs, ws, b, rfl, k, hT, hc, e, q⟩ := h
  obtain ⟨u1, u2, rfl, r1, r2⟩ := vals2 r
  cases (show u1 = Value.ref a from r1)
  cases (show u2 = Value.ref tp from r2)
  obtain ⟨oe, od, mA, J, _, _⟩ := k.inst I
  have ht : ObjOk X.prog X.w H s.heap tp (.tup cs) := I.hok tp _ hT
  obtain ⟨_, its, rv, o, h1, h2, n, h3⟩ := ht
  have e3 := ClsV.all hc rv
  subst e3
  obtain ⟨oc, od2, dt, sl⟩ := o
  simp only at h2 h3
  subst h2 h3
  exact PySem.W.kia_tup (PySem.W.kitx_exc (ox := oe) (od := some od) T.cl T.ga T.gg T.sb T.ha T.hn T.ht T.hm) I.kIn J h1 e (fun z => nomatch z) fun tk => ⟨.bl b, H, I.tok tk, rfl, q⟩
/-! ### B.__init__(self, ..), B an own class over ValueError without own __init__ -/
structure BiC (K : PySem.W.Frag) (B : Addr) : Prop where
  rd : PySem.W.readsIn K B (.type "type") = true
  sp : PySem.W.specialIn K (.ref B) "__getattribute__" = some (some (.builtin "type.__getattribute__"))
  fi : PySem.W.findCls K (.ref B) (.type "type") "__init__" = some (.val (.builtin "ValueError.__init__"))
theorem pe_binit {X : Cx} {B : Addr} {x : Str} {e : Expr} {es : List Expr} {ta : TA} {p1 p2 pos : Pos} {pl : Sem Bool} (T : BiC X.K B) (gl : Gl X x) (mg : X.mg x = some (.ref B)) (ha : PA X (e :: es) ta) (hdb : (x == ("__debug__" : Str)) = false := by decide)
    (hc : eval (.Call (.Attribute (.Name x p1) "__init__" p2) (e :: es) [] pos) X.env = (do
      let ov ← eval (.Name x p1) X.env
      standAt p2.atName
      let (f, first) ← holding [ov] (getMethod ov "__init__" pl)
      callWith pos f first (backTo pos (starEach (e :: es) X.env)) (backToKw pos (keywordEach [] X.env))) := by rfl)
    (he : starEach (e :: es) X.env = (false, eval e X.env) :: starEach es X.env := by rfl) (hpl : (backTo pos (starEach es X.env)).any (·.1) = false := by rfl) :
    PE X (.Call (.Attribute (.Name x p1) "__init__" p2) (e :: es) [] pos) (tVeI X.K ta) := by
  refine ⟨fun pins s σ H Q I h => PySem.W.methodCall_KW (ld_glob I gl mg ?_ hdb) hc⟩
  refine PySem.W.method_cls I.kIn T.sp (PySem.W.cls_value I.kIn T.rd T.fi (by decide +kernel) ?_)
  show wpAny _ _ (callWith pos (Value.builtin "ValueError.__init__") [] (backTo pos (starEach (e :: es) X.env)) []) _ _ _
  refine PyProof.Rows.callWith_method1 (thn (ha.run pos pins _ σ H _ (I.tok _) h) fun us s1 z => ?_) he hpl
  obtain ⟨vs, H1, I1, r1, a, C, ws, ev, hl, Tx, ea, q⟩ := z
  subst ev
  cases r1 with
  | @cons _ u0 _ ur ra rw' =>
    obtain rfl : u0 = Value.ref a := ra
    refine oinit_ok Tx I1 ea ?_ fun s' J => ⟨.non, H1, J, rfl, q⟩
    rw [← Paired.length rw', sizeLine_eq]
    omega
/-! ### calls in a try's body: what is raised is wished for at the slots -/
section
variable {X : Cx} {CX : CXT} {k n : Nat} {f C : Addr} {fd : FuncData} {ps ks : List Str} {sp : Sp} {dvs : List V} {ds : List Value} {E : L2.St → XK} {x : Str} {p pos : Pos} {e : Expr} {es : List Expr} {kws : List Keyword} {t tk : TA}
  {g : List Value → List Value → List Value} {gV : List V → List V → List V}
def tMakeS (C : Addr) (sp : Sp) (dvs : List V) (E : L2.St → XK) (t : TA) : TE := fun σ H Q => t σ H fun vs H1 => ∀ x dx, H1 x = none → H1 dx = none → dx ≠ x →
  sp (.ref x :: (vs ++ dvs)) (upd (upd H1 dx (.own x)) x (.ins C dx [])) (fun v H2 => v = .non ∧ Q (.ref x) H2) (E σ)
theorem pe_makeS (M : Mk X.K C f) (F : FnOk X.prog X.w X.K X.mg X.base CX k f fd ps sp) (room : Room (k + 1) X.A) (gl : Gl X x) (mg : X.mg x = some (.ref C)) (bd : Binds X.K fd ps ds) (rd : Vals dvs ds) (px : ∀ σ, PassesAt CX X σ (E σ))
    (ha : PA X (e :: es) t) (hdb : (x == ("__debug__" : Str)) = false := by decide) (he : starEach (e :: es) X.env = (false, eval e X.env) :: starEach es X.env := by rfl) (hpl : (backTo pos (starEach es X.env)).any (·.1) = false := by rfl) :
    PE X (.Call (.Name x p) (e :: es) [] pos) (tMakeS C sp dvs E t) := by
  refine ⟨fun pins s σ H Q I h => wpAny_Call_Name_kw (ld_glob I gl mg ?_ hdb)⟩
  refine PySem.W.callWith_K (h₀ := X.base) I.ok.mod.kin M.kp (thn (ha.run pos pins s σ H _ I h) fun us s1 z => ?_) he hpl
  obtain ⟨vs, H1, I1, r, q⟩ := z
  refine ⟨I1.kIn, ?_⟩
  have q1 := q (s1.heap.objs.size + 1) s1.heap.objs.size (I1.hok.fresh (Nat.le_succ _)) (I1.hok.fresh (Nat.le_refl _)) (Nat.ne_of_lt (Nat.lt_succ_self _))
  have I2 := Inv.made (C := C) I1
  have r2 : Vals (V.ref (s1.heap.objs.size + 1) :: (vs ++ dvs)) (Value.ref (s1.heap.objs.size + 1) :: (us ++ ds)) := .cons rfl (r.append rd)
  have many : (Value.ref (s1.heap.objs.size + 1) :: us ++ ds).length = ps.length := (r2.length.symm.trans (F.len _ _ _ _ q1))
  refine wpAny_call (make_map (f := f) I1.kIn M.makes M.init (beq_iff_eq.mp M.fn) (codeAny_mono (F.run _ X.stack _ _ ⟨Value.ref (s1.heap.objs.size + 1) :: us, []⟩ (Value.ref (s1.heap.objs.size + 1) :: (us ++ ds)) _ _ (E σ)
    (room.make C us []) (I2.env0.make C us []) (bd _ (Value.ref (s1.heap.objs.size + 1) :: us) I2.kIn many) r2 q1) fun r s' z => ?_))
  cases r with
  | error e => exact px σ pins _ _ e s' I2 z
  | ok fl =>
    cases fl with
    | ret u =>
      obtain ⟨v, H', I3, rv, ev, q3⟩ := I2.after z
      subst ev
      exact ⟨rv, ⟨V.ref (s1.heap.objs.size + 1), H', I3, rfl, q3⟩⟩
    | next => exact False.elim z
    | brk => exact False.elim z
    | cont => exact False.elim z
def tMakeKS (C : Addr) (m : Nat) (sp : Sp) (gV : List V → List V → List V) (E : L2.St → XK) (tk : TA) : TE := fun σ H Q => tk σ H fun zs H2 => zs.length = m ∧
  ∀ x dx, H2 x = none → H2 dx = none → dx ≠ x → sp (gV [.ref x] zs) (upd (upd H2 dx (.own x)) x (.ins C dx [])) (fun v H3 => v = .non ∧ Q (.ref x) H3) (E σ)
theorem pe_makeKS (M : Mk X.K C f) (F : FnOk X.prog X.w X.K X.mg X.base CX k f fd ps sp) (room : Room (k + 1) X.A) (gl : Gl X x) (mg : X.mg x = some (.ref C)) (kb : KBn X.K fd ps 1 ks g gV) (px : ∀ σ, PassesAt CX X σ (E σ)) (pk : PK X kws tk)
    (hall : (backToKw pos (keywordEach kws X.env)).all (·.1.isSome) = true := by rfl) (hks : (backToKw pos (keywordEach kws X.env)).filterMap (·.1) = ks := by rfl) (hdb : (x == ("__debug__" : Str)) = false := by decide)
    (hpl : ((backTo pos (starEach [] X.env)).any (·.1) || (backToKw pos (keywordEach kws X.env)).any (·.1.isNone)) = false := by rfl) :
    PE X (.Call (.Name x p) [] kws pos) (tMakeKS C ks.length sp gV E tk) := by
  refine ⟨fun pins s σ H Q I h => wpAny_Call_Name_kw (ld_glob I gl mg ?_ hdb)⟩
  refine PySem.W.callWith_KW0 (h₀ := X.base) I.ok.mod.kin M.kp hall (thn (pk.run pos pins s σ H _ I h) fun ws s1 z => ?_) hpl
  obtain ⟨zs, H1, I1, rz, l2, q⟩ := z
  refine ⟨I1.kIn, ?_⟩
  rw [hks]
  have q1 := q (s1.heap.objs.size + 1) s1.heap.objs.size (I1.hok.fresh (Nat.le_succ _)) (I1.hok.fresh (Nat.le_refl _)) (Nat.ne_of_lt (Nat.lt_succ_self _))
  have I2 := Inv.made (C := C) I1
  have r1 : Vals [V.ref (s1.heap.objs.size + 1)] [Value.ref (s1.heap.objs.size + 1)] := .cons rfl .nil
  have r2 := kb.rel r1 rz
  refine wpAny_call (make_map (f := f) I1.kIn M.makes M.init (beq_iff_eq.mp M.fn) (codeAny_mono (F.run _ X.stack _ _ ⟨[Value.ref (s1.heap.objs.size + 1)], ks.zip ws⟩ (g [Value.ref (s1.heap.objs.size + 1)] ws) _ _ (E σ)
    (room.make C [] (ks.zip ws)) (I2.env0.make C [] (ks.zip ws)) (kb.to _ [Value.ref (s1.heap.objs.size + 1)] ws I2.kIn rfl (rz.length.symm.trans l2)) r2 q1) fun r s' z => ?_))
  cases r with
  | error e => exact px σ pins _ _ e s' I2 z
  | ok fl =>
    cases fl with
    | ret u =>
      obtain ⟨v, H', I3, rv, ev, q3⟩ := I2.after z
      subst ev
      exact ⟨rv, ⟨V.ref (s1.heap.objs.size + 1), H', I3, rfl, q3⟩⟩
    | next => exact False.elim z
    | brk => exact False.elim z
    | cont => exact False.elim z
def tCallKS (m : Nat) (sp : Sp) (gV : List V → List V → List V) (E : L2.St → XK) (tk : TA) : TE := fun σ H Q => tk σ H fun zs H2 => zs.length = m ∧ sp (gV [] zs) H2 Q (E σ)
theorem pe_callKS (F : FnOk X.prog X.w X.K X.mg X.base CX k f fd ps sp) (room : Room k X.A) (gl : Gl X x) (mg : X.mg x = some (.ref f)) (kp : PySem.W.keepIn X.K (.ref f) = true) (kb : KBn X.K fd ps 0 ks g gV) (px : ∀ σ, PassesAt CX X σ (E σ)) (pk : PK X kws tk)
    (hall : (backToKw pos (keywordEach kws X.env)).all (·.1.isSome) = true := by rfl) (hks : (backToKw pos (keywordEach kws X.env)).filterMap (·.1) = ks := by rfl) (hdb : (x == ("__debug__" : Str)) = false := by decide)
    (hpl : ((backTo pos (starEach [] X.env)).any (·.1) || (backToKw pos (keywordEach kws X.env)).any (·.1.isNone)) = false := by rfl) :
    PE X (.Call (.Name x p) [] kws pos) (tCallKS ks.length sp gV E tk) := by
  refine ⟨fun pins s σ H Q I h => wpAny_Call_Name_kw (ld_glob I gl mg ?_ hdb)⟩
  refine PySem.W.callWith_KW0 (h₀ := X.base) I.ok.mod.kin kp hall (thn (pk.run pos pins s σ H _ I h) fun ws s1 z => ?_) hpl
  obtain ⟨zs, H1, I1, rz, l2, q⟩ := z
  refine ⟨I1.kIn, ?_⟩
  rw [hks]
  have rn : Vals [] [] := .nil
  have r2 := kb.rel rn rz
  refine wpAny_call (codeAny_mono (F.run X.A X.stack s1 H1 ⟨[], ks.zip ws⟩ (g [] ws) (gV [] zs) Q (E σ) room I1.env0 (kb.to s1 [] ws I1.kIn rfl (rz.length.symm.trans l2)) r2 q) fun r s' z => ?_)
  cases r with
  | error e => exact px σ pins _ _ e s' I1 z
  | ok fl =>
    cases fl with
    | ret u => exact I1.after z
    | next => exact False.elim z
    | brk => exact False.elim z
    | cont => exact False.elim z
end
end Xk
set_option Elab.async false
set_option linter.all false
set_option maxRecDepth 100000
set_option maxHeartbeats 4000000
set_option pp.maxSteps 400
set_option pp.deepTerms false
/-! Things of any kind: texts, numbers, truths, None, and lists, tuples, dicts of these, at any depth. -/
namespace Az
open PySem PySem.Spec PyProof.Rows L2
def keyD : Key → PyData
  | .inl i => .int i
  | .inr x => .str x
mutual
inductive Dz (K : PySem.W.Frag) (H : Hp) : V → PyData → Prop
  | non : Dz K H .non .none
  | bl (b : Bool) : Dz K H (.bl b) (.bool b)
  | int (i : Int) : Dz K H (.int i) (.int i)
  | str (x : Str) : Dz K H (.str x) (.str x)
  | lst {a : Addr} {xs : List V} {ds : List PyData} : H a = some (.lst xs) → a ≠ sysModules → DzAll K H xs ds → Dz K H (.ref a) (.list ds)
  | tup {a : Addr} {xs : List V} {ds : List PyData} : H a = some (.tup xs) → DzAll K H xs ds → Dz K H (.ref a) (.tuple ds)
  | dct {a : Addr} {kvs : List (Key × V)} {ds : List (PyData × PyData)} : H a = some (.dK kvs) → DzKv K H kvs ds → Dz K H (.ref a) (.dict ds)
inductive DzAll (K : PySem.W.Frag) (H : Hp) : List V → List PyData → Prop
  | nil : DzAll K H [] []
  | cons {v : V} {vs : List V} {d : PyData} {ds : List PyData} : Dz K H v d → DzAll K H vs ds → DzAll K H (v :: vs) (d :: ds)
inductive DzKv (K : PySem.W.Frag) (H : Hp) : List (Key × V) → List (PyData × PyData) → Prop
  | nil : DzKv K H [] []
  | cons {k : Key} {v : V} {kvs : List (Key × V)} {d : PyData} {ds : List (PyData × PyData)} : Dz K H v d → DzKv K H kvs ds → DzKv K H ((k, v) :: kvs) ((keyD k, d) :: ds)
end
section
variable {K : PySem.W.Frag} {H H' : Hp}
mutual
/-- what is read of a thing stays while its objects do -/
theorem Dz.keep (s : ∀ b o, H b = some o → (∀ x, o ≠ .own x) → H' b = some o) : ∀ {v : V} {d : PyData}, Dz K H v d → Dz K H' v d
  | _, _, .non => .non
  | _, _, .bl b => .bl b
  | _, _, .int i => .int i
  | _, _, .str x => .str x
  | _, _, .lst e n r => .lst (s _ _ e (fun _ z => by cases z)) n (DzAll.keep s r)
  | _, _, .tup e r => .tup (s _ _ e (fun _ z => by cases z)) (DzAll.keep s r)
  | _, _, .dct e r => .dct (s _ _ e (fun _ z => by cases z)) (DzKv.keep s r)
theorem DzAll.keep (s : ∀ b o, H b = some o → (∀ x, o ≠ .own x) → H' b = some o) : ∀ {v : List V} {d : List PyData}, DzAll K H v d → DzAll K H' v d
  | _, _, .nil => .nil
  | _, _, .cons h r => .cons (Dz.keep s h) (DzAll.keep s r)
theorem DzKv.keep (s : ∀ b o, H b = some o → (∀ x, o ≠ .own x) → H' b = some o) : ∀ {v : List (Key × V)} {d : List (PyData × PyData)}, DzKv K H v d → DzKv K H' v d
  | _, _, .nil => .nil
  | _, _, .cons h r => .cons (Dz.keep s h) (DzKv.keep s r)
end
theorem Dz.same {v : V} {d : PyData} (h : Dz K H v d) (s : L2.Same H H') : Dz K H' v d := h.keep fun b o e _ => s b o e
theorem DzAll.same {v : List V} {d : List PyData} (h : DzAll K H v d) (s : L2.Same H H') : DzAll K H' v d := h.keep fun b o e _ => s b o e
/-- the kind of a thing -/
def kindD : PyData → String
  | .none => "NoneType"
  | .bool _ => "bool"
  | .int _ => "int"
  | .str _ => "str"
  | .list _ => "list"
  | .tuple _ => "tuple"
  | .dict _ => "dict"
theorem Dz.ty {v : V} {d : PyData} (h : Dz K H v d) : TyX K H v (.type (kindD d)) := by
  cases h with
  | non => exact .base .non
  | bl b => exact .base (.bl b)
  | int i => exact .base (.int i)
  | str x => exact .base (.str x)
  | lst e _ _ => exact .base (.lst e)
  | tup e _ => exact .base (.tup e)
  | dct e _ => exact .base (.dK e)
end
section
variable {X : Cx} {pins : List (Addr × Obj)} {σ : L2.St} {H : Hp} {s : Shared}
theorem pairs_keys {P : Program} {w : World} : ∀ {es : List DictEntry} {vs : List (Key × Value)}, PySem.Pairs (mixKind P w) es vs → ∃ as, ReadsAll s.heap (es.map (·.key)) (vs.map fun p => keyD p.1) as ∧ as = []
  | _, _, .nil => ⟨[], .nil, rfl⟩
  | e :: es, (k, u) :: vs, .cons h1 h2 r => by
    obtain ⟨as, q, rfl⟩ := pairs_keys r
    rcases keyIs_shape (show keyIs k e.key = true from h1) with ⟨i, t, rfl, ek⟩ | ⟨x, t, rfl, ek⟩
    · refine ⟨[] ++ [], .cons ?_ q, rfl⟩
      show Reads s.heap e.key (.int i) []
      rw [ek]
      exact .int i t
    · refine ⟨[] ++ [], .cons ?_ q, rfl⟩
      show Reads s.heap e.key (.str x) []
      rw [ek]
      exact .str x t
theorem pairs_vals {P : Program} {w : World} : ∀ {es : List DictEntry} {vs : List (Key × Value)}, PySem.Pairs (mixKind P w) es vs → es.map (·.val) = vs.map (·.2)
  | _, _, .nil => rfl
  | e :: es, (k, u) :: vs, .cons h1 h2 r => by
    rw [List.map_cons, List.map_cons, pairs_vals r, h2]
mutual
theorem Dz.reads (I : Inv X pins σ H s) : ∀ (d : PyData) (v : V) (u : Value), Dz X.K H v d → RelV v u → ∃ as, Reads s.heap u d as ∧ sysModules ∉ as
  | .none, _, _, h, r => by
    cases h
    cases r
    exact ⟨[], .none, by simp⟩
  | .bool b, _, _, h, r => by
    cases h
    cases r
    exact ⟨[], .bool b, by simp⟩
  | .int i, _, _, h, r => by
    cases h
    obtain ⟨t, rfl⟩ := r
    exact ⟨[], .int i t, by simp⟩
  | .str x, _, _, h, r => by
    cases h
    obtain ⟨t, rfl⟩ := r
    exact ⟨[], .str x t, by simp⟩
  | .list ds, _, _, h, r => by
    cases h with
    | @lst a xs _ e ne ha =>
      cases r
      have ok : ObjOk X.prog X.w H s.heap a (.lst xs) := I.hok a _ e
      obtain ⟨_, its, n, rv, eh⟩ := ok
      obtain ⟨as, q, na⟩ := DzAll.reads I ds xs its ha rv
      refine ⟨a :: as, .list eh rfl rfl (by simpa using q), fun m => ?_⟩
      rcases List.mem_cons.mp m with z | z
      · exact ne z.symm
      · exact na z
  | .tuple ds, _, _, h, r => by
    cases h with
    | @tup a xs _ e ha =>
      cases r
      have ok : ObjOk X.prog X.w H s.heap a (.tup xs) := I.hok a _ e
      obtain ⟨_, its, rv, o, eh, ec, n, ed⟩ := ok
      obtain ⟨as, q, na⟩ := DzAll.reads I ds xs its ha rv
      exact ⟨as, .tuple eh ec ed (by simpa using q), na⟩
  | .dict ds, _, _, h, r => by
    cases h with
    | @dct a kvs _ e ha =>
      cases r
      obtain ⟨_, ne, vs, rel, o, es, ep, eh, ex, ed, _, pr, _⟩ := dk_of I.hok e
      obtain ⟨as, q1, rfl⟩ := pairs_keys (s := s) pr
      obtain ⟨bs, q2, nb⟩ := DzKv.reads I ds kvs vs ha rel
      have hk : (vs.map fun p => keyD p.1) = ds.map (·.1) := DzKv.keys ha rel
      rw [hk] at q1
      refine ⟨a :: [] ++ bs, .dict eh ex.1 ed q1 (by rw [pairs_vals pr]; exact q2), fun m => ?_⟩
      rcases List.mem_cons.mp m with z | z
      · rw [← z] at ne
        simp at ne
      · exact nb z
theorem DzAll.reads (I : Inv X pins σ H s) : ∀ (ds : List PyData) (vs : List V) (us : List Value), DzAll X.K H vs ds → Vals vs us → ∃ as, ReadsAll s.heap us ds as ∧ sysModules ∉ as
  | [], _, _, h, r => by
    cases h
    cases r
    exact ⟨[], .nil, by simp⟩
  | d :: ds, _, _, h, r => by
    cases h with
    | cons h1 h2 =>
      cases r with
      | cons r1 r2 =>
        obtain ⟨as, q1, n1⟩ := Dz.reads I d _ _ h1 r1
        obtain ⟨bs, q2, n2⟩ := DzAll.reads I ds _ _ h2 r2
        exact ⟨as ++ bs, .cons q1 q2, fun m => (List.mem_append.mp m).elim n1 n2⟩
theorem DzKv.reads (I : Inv X pins σ H s) : ∀ (ds : List (PyData × PyData)) (kvs : List (Key × V)) (vs : List (Key × Value)), DzKv X.K H kvs ds → KV kvs vs → ∃ as, ReadsAll s.heap (vs.map (·.2)) (ds.map (·.2)) as ∧ sysModules ∉ as
  | [], _, _, h, r => by
    cases h
    cases r
    exact ⟨[], .nil, by simp⟩
  | (_, d) :: ds, _, _, h, r => by
    cases h with
    | cons h1 h2 =>
      cases r with
      | cons r1 r2 =>
        obtain ⟨as, q1, n1⟩ := Dz.reads I d _ _ h1 r1.2
        obtain ⟨bs, q2, n2⟩ := DzKv.reads I ds _ _ h2 r2
        exact ⟨as ++ bs, .cons q1 q2, fun m => (List.mem_append.mp m).elim n1 n2⟩
theorem DzKv.keys {K : PySem.W.Frag} : ∀ {ds : List (PyData × PyData)} {kvs : List (Key × V)} {vs : List (Key × Value)}, DzKv K H kvs ds → KV kvs vs → (vs.map fun p => keyD p.1) = ds.map (·.1)
  | [], _, _, h, r => by
    cases h
    cases r
    rfl
  | (_, d) :: ds, _, _, h, r => by
    cases h with
    | cons h1 h2 =>
      cases r with
      | cons r1 r2 =>
        rw [List.map_cons, List.map_cons, DzKv.keys h2 r2, ← r1.1]
end
/-- repr of a thing -/
def rReprZ (K : PySem.W.Frag) : List V → Hp → VK → Prop := fun xs H Q => ∃ (v : V) (d : PyData), xs = [v] ∧ Dz K H v d ∧ d.showable = true ∧ d.depth ≤ 60 ∧ d.shown.length ≤ sizeLine ∧ Q (.str d.shown) H
theorem cr_reprZ {k : Nat} (quiet : X.A.guards = some []) (room : Room k X.A) : CallR X (.builtin "repr") (rReprZ X.K) := by
  intro pins s σ H xs us Q I r h
  obtain ⟨v, d, rfl, hd, hs, hp, hz, q⟩ := h
  obtain ⟨u, rfl, rx⟩ := vals1 r
  have hu := room.units
  cases hd with
  | non =>
    cases rx
    exact PySem.P.repr_of_none ⟨.str _, H, I.tok _, ⟨_, rfl⟩, q⟩
  | bl b =>
    cases rx
    exact PySem.P.repr_of_bool ⟨.str _, H, I.tok _, ⟨_, rfl⟩, q⟩
  | int i =>
    obtain ⟨t, rfl⟩ := rx
    exact PySem.P.repr_of_int (by simpa [PyData.showable] using hs) ⟨.str _, H, I.tok _, ⟨_, rfl⟩, q⟩
  | str x =>
    obtain ⟨t, rfl⟩ := rx
    exact PySem.P.repr_of_str ⟨.str _, H, I.tok _, ⟨_, rfl⟩, q⟩ hz
  | lst e n ha =>
    obtain ⟨as, rd, na⟩ := Dz.reads I _ _ u (.lst e n ha) rx
    cases rx
    exact repr_of_reads' rd hs (fun _ => na) quiet (by omega) (fun _ _ z => z) (fun h' u tk kept => ⟨.str _, H, I.kept kept, ⟨u, rfl⟩, q⟩) hz
  | tup e ha =>
    obtain ⟨as, rd, na⟩ := Dz.reads I _ _ u (.tup e ha) rx
    cases rx
    exact repr_of_reads' rd hs (fun _ => na) quiet (by omega) (fun _ _ z => z) (fun h' u tk kept => ⟨.str _, H, I.kept kept, ⟨u, rfl⟩, q⟩) hz
  | dct e ha =>
    obtain ⟨as, rd, na⟩ := Dz.reads I _ _ u (.dct e ha) rx
    cases rx
    exact repr_of_reads' rd hs (fun _ => na) quiet (by omega) (fun _ _ z => z) (fun h' u tk kept => ⟨.str _, H, I.kept kept, ⟨u, rfl⟩, q⟩) hz
/-- a list of written items: new, and no table of modules -/
def tLstZ (t : TA) : TE := fun σ H Q => t σ H fun xs H1 => xs.length ≤ sizeLine ∧ ∀ p, H1 p = none → p ≠ sysModules → Q (.ref p) (upd H1 p (.lst xs))
theorem pe_lstZ {es : List Expr} {t : TA} {pos : Pos} (h : PA X es t) : PE X (.List es pos) (tLstZ t) := by
  refine ⟨fun pins s σ H Q I hq => wpAny_List_spliced (thn (h.run pos pins s σ H _ I hq) fun us s1 z => ?_)⟩
  obtain ⟨xs, H1, I1, r, z, q⟩ := z
  refine ⟨by rw [← r.length]; exact z, ?_⟩
  have new : H1 s1.heap.objs.size = none := I1.hok.fresh (Nat.le_refl _)
  refine ⟨.ref s1.heap.objs.size, upd H1 s1.heap.objs.size (.lst xs), I1.laid (t' := s1.toks) (fun b u e => Heap.get?_push_of_some _ e) (Nat.le_refl _) ?_, rfl, q _ new (Nat.ne_of_gt I1.big)⟩
  exact ⟨z, us, 0, r, Heap.get?_push_size _ rfl⟩
end
end Az
namespace Az
open PySem PySem.Spec PyProof.Rows L2
/-- a thing that is shown in n signs at most, at most k deep -/
structure Nice (d : PyData) (k n : Nat) : Prop where
  sh : d.showable = true
  dp : d.depth ≤ k
  sz : d.shown.length ≤ n
theorem Nice.mono {d : PyData} {k k' n n' : Nat} (h : Nice d k n) (hk : k ≤ k') (hn : n ≤ n') : Nice d k' n' := ⟨h.sh, Nat.le_trans h.dp hk, Nat.le_trans h.sz hn⟩
theorem nice_int {i : Int} {n : Nat} (h : i.natAbs.log2 < 1920) (hn : (Str.ofString (toString i)).length ≤ n) : Nice (.int i) 0 n :=
  ⟨by simpa [PyData.showable] using h, by simp [PyData.depth], by simpa [PyData.shown] using hn⟩
theorem nice_none : Nice .none 0 4 := ⟨by simp [PyData.showable], by simp [PyData.depth], by simp only [PyData.shown]; decide +kernel⟩
theorem nice_bool (b : Bool) : Nice (.bool b) 0 5 := ⟨by simp [PyData.showable], by simp [PyData.depth], by simp only [PyData.shown]; cases b <;> decide +kernel⟩
theorem nice_str {x : Str} {n : Nat} (h : (reprText x).length ≤ n) : Nice (.str x) 0 n := ⟨by simp [PyData.showable], by simp [PyData.depth], by simpa [PyData.shown] using h⟩
theorem list_le : ∀ ts : List Str, (listText ts).length ≤ piled ts + 2
  | [] => by decide +kernel
  | t :: ts => by
    have e : (textFrom 0 "[" (t :: ts)).length = 1 + t.length + piled ts := by
      show (textFrom 1 (("[" : Str) ++ ((if 0 > 0 then ", " else "" : String) : Str) ++ t) ts).length = _
      rw [textFrom_length_pos ts 1 _ (by decide), strLen_append, strLen_append]
      rfl
    unfold listText
    rw [strLen_append, e, piled_cons]
    show 1 + t.length + piled ts + 1 ≤ _
    omega
theorem dict_le (ps : List Str) : (dictText ps).length ≤ piled ps + 2 := by
  unfold dictText
  rw [strLen_append, strLen_append]
  show 1 + (Str.join ", " ps).length + 1 ≤ _
  cases ps with
  | nil => decide
  | cons p r =>
    have := join_length_add (p :: r) (by simp)
    omega
theorem nice_tup1 {d : PyData} {k n : Nat} (h : Nice d k n) : Nice (.tuple [d]) (k + 1) (n + 4) := by
  refine ⟨by simp [PyData.showable, PyData.showableAll, h.sh], ?_, ?_⟩
  · simp only [PyData.depth, PyData.depthAll]
    have := h.dp
    omega
  · simp only [PyData.shown, PyData.shownAll]
    have a := fmt_text [d.shown]
    simp only [piled_cons, piled_nil] at a
    have := h.sz
    omega
theorem nice_lst1 {d : PyData} {k n : Nat} (h : Nice d k n) : Nice (.list [d]) (k + 1) (n + 4) := by
  refine ⟨by simp [PyData.showable, PyData.showableAll, h.sh], ?_, ?_⟩
  · simp only [PyData.depth, PyData.depthAll]
    have := h.dp
    omega
  · simp only [PyData.shown, PyData.shownAll]
    have a := list_le [d.shown]
    simp only [piled_cons, piled_nil] at a
    have := h.sz
    omega
theorem nice_dct1 {d : PyData} {k n m : Nat} {x : Str} (hx : (reprText x).length ≤ m) (h : Nice d k n) : Nice (.dict [(.str x, d)]) (k + 1) (n + m + 6) := by
  refine ⟨by simp [PyData.showable, PyData.showableKv, h.sh], ?_, ?_⟩
  · simp only [PyData.depth, PyData.depthKv]
    have := h.dp
    omega
  · simp only [PyData.shown, PyData.shownKv]
    have a := dict_le [reprText x ++ ": " ++ d.shown]
    simp only [piled_cons, piled_nil, strLen_append] at a
    have c : ((": " : Str)).length = 2 := by decide +kernel
    have := h.sz
    omega
theorem nice_tup0 : Nice (.tuple []) 1 2 := ⟨by simp [PyData.showable, PyData.showableAll], by simp [PyData.depth, PyData.depthAll], by simp only [PyData.shown, PyData.shownAll]; decide +kernel⟩
theorem nice_lst0 : Nice (.list []) 1 2 := ⟨by simp [PyData.showable, PyData.showableAll], by simp [PyData.depth, PyData.depthAll], by simp only [PyData.shown, PyData.shownAll]; decide +kernel⟩
theorem nice_dct0 : Nice (.dict []) 1 2 := ⟨by simp [PyData.showable, PyData.showableKv], by simp [PyData.depth, PyData.depthKv], by simp only [PyData.shown, PyData.shownKv]; decide +kernel⟩
end Az
set_option Elab.async false
set_option linter.all false
set_option maxRecDepth 100000
set_option maxHeartbeats 4000000
set_option pp.maxSteps 400
set_option pp.deepTerms false
namespace Az
open PySem PySem.Spec PyProof.Rows L2
/-! ### texts of signs that have a number of eight places -/
def Asc (x : Str) : Prop := ∀ c ∈ x.cps.toList, c < 16 ^ 8
theorem asc_str (s : String) : Asc (Str.ofString s) := fun c hc => by
  rw [Str.ofString_eq_toList] at hc
  simp only [List.mem_map] at hc
  obtain ⟨k, _, rfl⟩ := hc
  exact Nat.lt_of_lt_of_le (UInt32.toNat_lt k.val) (by decide)
theorem Asc.app {x y : Str} (h1 : Asc x) (h2 : Asc y) : Asc (x ++ y) := fun c hc => by
  rw [Str.cps_append, Array.toList_append, List.mem_append] at hc
  exact hc.elim (h1 c) (h2 c)
theorem asc_hex (l : List Char) (n : Nat) : ∀ c ∈ List.replicate n 48 ++ l.map Char.toNat, c < 16 ^ 8 := fun c hc => by
  rcases List.mem_append.mp hc with h | h
  · rw [(List.mem_replicate.mp h).2]
    decide
  · obtain ⟨k, _, rfl⟩ := List.mem_map.mp h
    exact Nat.lt_of_lt_of_le (UInt32.toNat_lt k.val) (by decide)
theorem asc_char {q c : Nat} (hc : c < 16 ^ 8) : ∀ d ∈ Builtin.Str.reprChar q c, d < 16 ^ 8 := fun d hd => by
  unfold Builtin.Str.reprChar at hd
  dsimp only at hd
  have two : ∀ a : Nat, a < 16 ^ 8 → d ∈ [92, a] → d < 16 ^ 8 := fun a ha h => by
    simp only [List.mem_cons, List.not_mem_nil, or_false] at h
    rcases h with h | h
    · rw [h]; decide
    · rw [h]; exact ha
  have app : ∀ (a : Nat) (l : List Nat), a < 16 ^ 8 → (∀ c ∈ l, c < 16 ^ 8) → d ∈ [92, a] ++ l → d < 16 ^ 8 := fun a l ha hl h => (List.mem_append.mp h).elim (two a ha) (hl d)
  split at hd
  · exact two c hc hd
  · split at hd
    · exact two 110 (by decide) hd
    · split at hd
      · exact two 114 (by decide) hd
      · split at hd
        · exact two 116 (by decide) hd
        · split at hd
          · simp only [List.mem_cons, List.not_mem_nil, or_false] at hd
            rw [hd]
            exact hc
          · split at hd
            · exact app 120 _ (by decide) (asc_hex _ _) hd
            · split at hd
              · exact app 117 _ (by decide) (asc_hex _ _) hd
              · exact app 85 _ (by decide) (asc_hex _ _) hd
theorem asc_fold {q : Nat} : ∀ (l : List Nat) (acc : Array Nat), (∀ c ∈ l, c < 16 ^ 8) → (∀ c ∈ acc.toList, c < 16 ^ 8) → ∀ c ∈ (l.foldl (fun out c => out ++ (Builtin.Str.reprChar q c).toArray) acc).toList, c < 16 ^ 8
  | [], acc, _, h => h
  | k :: r, acc, hl, ha => by
    rw [List.foldl_cons]
    refine asc_fold r _ (fun c hc => hl c (List.mem_cons_of_mem _ hc)) fun c hc => ?_
    rw [Array.toList_append, List.mem_append] at hc
    exact hc.elim (ha c) fun h => asc_char (hl k List.mem_cons_self) c (by simpa using h)
theorem asc_quote (x : Str) : reprQuote x < 16 ^ 8 := by
  unfold reprQuote
  split <;> decide
theorem asc_repr {x : Str} (h : Asc x) : Asc (reprText x) := fun c hc => by
  unfold reprText at hc
  rw [Array.toList_push, List.mem_append, ← Array.foldl_toList] at hc
  rcases hc with hc | hc
  · refine asc_fold x.cps.toList #[reprQuote x] h (fun d hd => ?_) c hc
    have z : d = reprQuote x := by simpa using hd
    rw [z]
    exact asc_quote x
  · have z : c = reprQuote x := by simpa using hc
    rw [z]
    exact asc_quote x
theorem asc_join : ∀ ts : List Str, (∀ t ∈ ts, Asc t) → Asc (Str.join ", " ts)
  | [], _ => fun c hc => by
    have z : c ∈ (Str.empty).cps.toList := hc
    simp [Str.empty] at z
  | [x], h => h x List.mem_cons_self
  | x :: y :: r, h => ((h x List.mem_cons_self).app (asc_str ", ")).app (asc_join (y :: r) fun t ht => h t (List.mem_cons_of_mem _ ht))
theorem asc_from : ∀ (ts : List Str) (k : Nat) (acc : Str), Asc acc → (∀ t ∈ ts, Asc t) → Asc (textFrom k acc ts)
  | [], _, _, h, _ => h
  | t :: ts, k, acc, h, ht => by
    unfold textFrom
    exact asc_from ts (k + 1) _ ((h.app (asc_str _)).app (ht t List.mem_cons_self)) fun u hu => ht u (List.mem_cons_of_mem _ hu)
mutual
/-- all texts within a thing -/
def ascD : PyData → Prop
  | .none | .bool _ | .int _ => True
  | .str x => Asc x
  | .list xs | .tuple xs => ascAll xs
  | .dict kvs => ascKv kvs
def ascAll : List PyData → Prop
  | [] => True
  | x :: xs => ascD x ∧ ascAll xs
def ascKv : List (PyData × PyData) → Prop
  | [] => True
  | (k, v) :: r => ascD k ∧ ascD v ∧ ascKv r
end
mutual
theorem asc_shown : ∀ d : PyData, ascD d → Asc d.shown
  | .none, _ => asc_str "None"
  | .bool b, _ => by
    simp only [PyData.shown]
    cases b
    · exact asc_str "False"
    · exact asc_str "True"
  | .int i, _ => asc_str (toString i)
  | .str x, h => asc_repr (by simpa [ascD] using h)
  | .list xs, h => by
    simp only [PyData.shown]
    exact (asc_from _ _ _ (asc_str "[") (asc_shownAll xs (by simpa [ascD] using h))).app (asc_str "]")
  | .tuple xs, h => by
    simp only [PyData.shown]
    exact ((asc_str "(").app (asc_join _ (asc_shownAll xs (by simpa [ascD] using h)))).app (asc_str _)
  | .dict kvs, h => by
    simp only [PyData.shown]
    exact ((asc_str "{").app (asc_join _ (asc_shownKv kvs (by simpa [ascD] using h)))).app (asc_str "}")
theorem asc_shownAll : ∀ xs : List PyData, ascAll xs → ∀ t ∈ PyData.shownAll xs, Asc t
  | [], _, t, ht => by
    simp [PyData.shownAll] at ht
  | x :: xs, h, t, ht => by
    have h' : ascD x ∧ ascAll xs := by simpa [ascAll] using h
    simp only [PyData.shownAll, List.mem_cons] at ht
    rcases ht with e | e
    · rw [e]
      exact asc_shown x h'.1
    · exact asc_shownAll xs h'.2 t e
theorem asc_shownKv : ∀ xs : List (PyData × PyData), ascKv xs → ∀ t ∈ PyData.shownKv xs, Asc t
  | [], _, t, ht => by
    simp [PyData.shownKv] at ht
  | (k, v) :: xs, h, t, ht => by
    have h' : ascD k ∧ ascD v ∧ ascKv xs := by simpa [ascKv] using h
    simp only [PyData.shownKv, List.mem_cons] at ht
    rcases ht with e | e
    · rw [e]
      exact ((asc_shown k h'.1).app (asc_str ": ")).app (asc_shown v h'.2.1)
    · exact asc_shownKv xs h'.2.2 t e
end
/-- str of a thing -/
def strD : PyData → Str
  | .str x => x
  | d => d.shown
theorem strD_asc {d : PyData} (h : ascD d) : Asc (strD d) := by
  cases d with
  | str x => simpa [strD, ascD] using h
  | _ => exact asc_shown _ h
theorem len_repr (x : Str) : x.length ≤ (reprText x).length := by
  have grow : ∀ (q : Nat) (l : List Nat) (acc : Array Nat), acc.size + l.length ≤ (l.foldl (fun out c => out ++ (Builtin.Str.reprChar q c).toArray) acc).size := fun q l => by
    induction l with
    | nil => intro acc; simp
    | cons k r ih =>
      intro acc
      have h := ih (acc ++ (Builtin.Str.reprChar q k).toArray)
      have one : 1 ≤ (Builtin.Str.reprChar q k).length := by
        unfold Builtin.Str.reprChar
        dsimp only
        repeat' split
        all_goals simp
        all_goals omega
      rw [List.foldl_cons]
      simp only [Array.size_append, List.size_toArray] at h
      simp only [List.length_cons]
      omega
  have h := grow (reprQuote x) x.cps.toList #[reprQuote x]
  unfold reprText
  show x.length ≤ ((x.cps.foldl (fun out c => out ++ (Builtin.Str.reprChar (reprQuote x) c).toArray) #[reprQuote x]).push (reprQuote x)).size
  rw [Array.size_push, ← Array.foldl_toList]
  have e : x.cps.toList.length = x.length := by simp [Str.length]
  omega
theorem strD_len {d : PyData} : (strD d).length ≤ d.shown.length := by
  cases d with
  | str x =>
    simp only [strD, PyData.shown]
    exact len_repr x
  | _ => exact Nat.le_refl _
section
variable {X : Cx}
def rStrZ (K : PySem.W.Frag) : List V → Hp → VK → Prop := fun xs H Q => ∃ (v : V) (d : PyData), xs = [v] ∧ Dz K H v d ∧ d.showable = true ∧ d.depth ≤ 60 ∧ d.shown.length ≤ sizeLine ∧ Q (.str (strD d)) H
theorem cr_strZ {k : Nat} (quiet : X.A.guards = some []) (room : Room k X.A) : CallR X (.type "str") (rStrZ X.K) := by
  intro pins s σ H xs us Q I r h
  obtain ⟨v, d, rfl, hd, hs, hp, hz, q⟩ := h
  obtain ⟨u, rfl, rx⟩ := vals1 r
  have hu := room.un
  cases hd with
  | non =>
    cases rx
    exact PySem.P.str_of_none ⟨.str _, H, I.tok _, ⟨_, rfl⟩, q⟩
  | bl b =>
    cases rx
    exact PySem.P.str_of_bool ⟨.str _, H, I.tok _, ⟨_, rfl⟩, q⟩
  | int i =>
    obtain ⟨t, rfl⟩ := rx
    exact PySem.P.str_of_int (by simpa [PyData.showable] using hs) ⟨.str _, H, I.tok _, ⟨_, rfl⟩, q⟩
  | str x =>
    obtain ⟨t, rfl⟩ := rx
    exact PySem.P.str_of_str ⟨.str _, H, I, ⟨_, rfl⟩, q⟩
  | lst e n ha =>
    obtain ⟨as, rd, na⟩ := Dz.reads I _ _ u (.lst e n ha) rx
    cases rx
    exact str_of_reads rd hs (fun _ => na) quiet (by omega) (fun _ _ z => z) (fun h' u tk kept => ⟨.str _, H, I.kept kept, ⟨u, rfl⟩, q⟩) hz
  | tup e ha =>
    obtain ⟨as, rd, na⟩ := Dz.reads I _ _ u (.tup e ha) rx
    cases rx
    exact str_of_reads rd hs (fun _ => na) quiet (by omega) (fun _ _ z => z) (fun h' u tk kept => ⟨.str _, H, I.kept kept, ⟨u, rfl⟩, q⟩) hz
  | dct e ha =>
    obtain ⟨as, rd, na⟩ := Dz.reads I _ _ u (.dct e ha) rx
    cases rx
    exact str_of_reads rd hs (fun _ => na) quiet (by omega) (fun _ _ z => z) (fun h' u tk kept => ⟨.str _, H, I.kept kept, ⟨u, rfl⟩, q⟩) hz
end
end Az
set_option Elab.async false
set_option linter.all false
set_option maxRecDepth 100000
set_option maxHeartbeats 4000000
namespace K2
open PySem PySem.Spec PyProof.Rows L2
/-! ## defs that show things: promises where no showing is under way -/
structure Gn (P : Program) (w : World) (K : PySem.W.Frag) (mg : Str → Option Value) (base : Heap) (k : Nat) (f : Addr) (fd : FuncData) (ps : List Str) (sp : Sp) : Prop where
  many : ∀ vs H Q E, sp vs H Q E → vs.length = ps.length
  go : ∀ (A : Around) (outer : List Env) (s : Shared) (H : Hp) (args : Args) (us : List Value) (vs : List V) (Q : VK) (E : XK), A.guards = some [] → Room k A →
    Env0 P w K mg base A outer s H → BindsTo s fd args (ps.zip us) → Vals vs us → sp vs H Q E → codeAny (model P w) A (.call (.ref f) args) (CR CX0 outer P w H s Q E) s
section
variable {P : Program} {w : World} {K : PySem.W.Frag} {mg : Str → Option Value} {base : Heap}
theorem gn_body {x qual : Str} {st : Stmt} {f : Addr} {fd : FuncData} {N ps : List Str} {k : Nat} {sp : Sp} (F : Fun K x qual st f fd) (S : FnScope N ps (defScope st))
    (many : ∀ vs H Q E, sp vs H Q E → vs.length = ps.length)
    (body : ∀ (cdv : Value) (A : Around) (outer : List Env) (s : Shared) (H : Hp) (vs : List V) (Q : VK) (E : XK), A.guards = some [] →
      Room k (A.deeper (envOfC qual (defScope st) s.heap.objs.size f cdv)) → sp vs H Q E →
      ∃ t, PSs (cxOf CX0 P w K mg base N qual (defScope st) f cdv A outer s H E).nox (defBody st) t ∧ t { nx := fun _ H' => Q .non H', rt := Q } (start N vs) H) :
    Gn P w K mg base (k + 1) f fd ps sp := by
  obtain ⟨oc, od, kV, doc, pm, an, cdv, ct, osl, rfl, lk, hcd⟩ := F.ex
  refine ⟨many, fun A outer s H args us vs Q E hg room en bd rv hsp => ?_⟩
  have kin : K.In s.heap := en.mod.kin.keeps fun b o q => (en.bs b o q).1
  refine Att.call_fn kin (en.mod.nolimit.keeps fun b o q => (en.bs b o q).1) lk hcd room.depth bd ?_ (fun s1 inc => ?_) S.co S.gen S.kind
  · refine List.all_eq_true.mpr fun y hy => ?_
    rcases S.par y.1 (List.of_mem_zip (a := y.1) (b := y.2) hy).1 with q | q
    · rw [q]; rfl
    · rw [q]; rfl
  · obtain ⟨t, ht, hq⟩ := body cdv A outer s H vs Q E hg (room.deeper _) hsp
    have I := inv_start (CX := CX0) (E := E) S room.hd en (many _ _ _ _ hsp) rv inc
    refine wpAny_mono (ht.nox.run [] s1 _ H _ I hq) (fun fl s' hs => ?_) fun _ _ z => z
    cases fl with
    | ret u =>
      obtain ⟨v, _, H', J, r, q⟩ := hs
      exact ⟨v, H', J.os, J.bare, J.base, J.hok, r, q⟩
    | next =>
      obtain ⟨_, H', J, q⟩ := hs
      exact ⟨.non, H', J.os, J.bare, J.base, J.hok, rfl, q⟩
    | brk =>
      obtain ⟨_, _, _, z⟩ := hs
      exact False.elim z
    | cont =>
      obtain ⟨_, _, _, z⟩ := hs
      exact False.elim z
end
section
variable {X : Cx} {k : Nat} {f : Addr} {fd : FuncData} {ps : List Str} {sp : Sp} {x : Str} {p pos : Pos} {e : Expr} {es : List Expr} {t : TA}
theorem pe_gn (F : Gn X.prog X.w X.K X.mg X.base k f fd ps sp) (quiet : X.A.guards = some []) (room : Room k X.A) (gl : Gl X x) (mgf : X.mg x = some (.ref f))
    (kp : PySem.W.keepIn X.K (.ref f) = true) (bd : Binds X.K fd ps []) (ha : PA X (e :: es) t) (hdb : (x == ("__debug__" : Str)) = false := by decide)
    (he : starEach (e :: es) X.env = (false, eval e X.env) :: starEach es X.env := by rfl) (hpl : (backTo pos (starEach es X.env)).any (·.1) = false := by rfl) :
    PE X (.Call (.Name x p) (e :: es) [] pos) (tCall sp [] E0 t) := by
  refine ⟨fun pins s σ H Q I h => wpAny_Call_Name_kw (ld_glob I gl mgf ?_ hdb)⟩
  refine PySem.W.callWith_K (h₀ := X.base) I.ok.mod.kin kp ?_ he hpl
  refine thn (ha.run pos pins s σ H _ I h) fun us s1 z => ?_
  obtain ⟨vs, H1, I1, rv, q⟩ := z
  have q' : sp vs H1 Q E0 := by
    have z := q
    rw [List.append_nil] at z
    exact z
  have many : us.length = ps.length := rv.length.symm.trans (F.many _ _ _ _ q')
  have b1 := bd s1 us I1.kIn (by rw [List.append_nil]; exact many)
  rw [List.append_nil] at b1
  refine ⟨I1.kIn, wpAny_call (codeAny_mono (F.go X.A X.stack s1 H1 ⟨us, []⟩ us vs Q E0 quiet room I1.env0 b1 rv q') fun r s' hr => ?_)⟩
  cases r with
  | error z => exact False.elim hr
  | ok fl =>
    cases fl with
    | ret u => exact I1.after hr
    | next => exact False.elim hr
    | brk => exact False.elim hr
    | cont => exact False.elim hr
/-- repr of data at any depth -/
theorem cr_reprD (quiet : X.A.guards = some []) (room : Room k X.A) : CallR X (.builtin "repr") (fun xs H Q => ∃ (a : Addr) (d : PyData), xs = [.ref a] ∧ Dp X.K H (.ref a) d ∧ d.showable = true ∧ d.hasDict = false ∧
    d.depth ≤ 50 ∧ d.shown.length ≤ sizeLine ∧ Q (.str d.shown) H) := by
  intro pins s σ H xs us Q I r h
  obtain ⟨a, d, rfl, hd, hs, hn, hp, hz, q⟩ := h
  obtain ⟨u, rfl, rx⟩ := vals1 r
  obtain ⟨as, rd⟩ := Dp.reads I d _ u hd rx
  cases rx
  have hu := room.units
  exact repr_of_reads' rd hs (fun z => absurd (hn.symm.trans z) Bool.false_ne_true) quiet (by omega) (fun _ _ z => z) (fun h' u tk kept => ⟨.str d.shown, H, I.kept kept, ⟨u, rfl⟩, q⟩) hz
theorem cr_repr_bl : CallR X (.builtin "repr") (fun xs H Q => ∃ b : Bool, xs = [.bl b] ∧ Q (.str (if b then "True" else "False")) H) := by
  intro pins s σ H xs us Q I r h
  obtain ⟨b, rfl, q⟩ := h
  obtain ⟨u, rfl, rx⟩ := vals1 r
  cases rx
  exact PySem.P.repr_of_bool ⟨.str _, H, I.tok _, ⟨_, rfl⟩, q⟩
end
end K2
set_option Elab.async false
set_option linter.all false
set_option maxRecDepth 100000
set_option maxHeartbeats 4000000
namespace K2
open PySem PySem.Spec PyProof.Rows L2
theorem law_go {P : Program} {w : World} {K : PySem.W.Frag} {mg mb : Str → Option Value} {k : Nat} {fa a : Addr} {fd : FuncData} {x : Str} {sp : Sp} {z : Shared} {vs : List Value} {ns : List Int}
    (kin : K.In z.heap) (nsG : z.heap.Ns mainGlobals mg) (nsB : z.heap.Ns builtinsNs mb) (same : ∀ y : Str, y ≠ "__name__" → mb y = bootBuiltins y) (lim : z.heap.NoLimit) (dig : z.heap.NoDigits) (no : z.gens = #[])
    (at_ : z.heap.get? a = some { cls := .type "list", data := .seq vs.toArray }) (intsA : IntsAre vs ns) (many : ns.length ≤ sizeLine) (room : Room k callerA)
    (F : ∀ base : Heap, K.In base → base.Ns mainGlobals mg → base.NoDigits → Gn P w K mg base k fa fd [x] sp) (bind : ∀ (s : Shared) (u : Value), BindsTo s fd ⟨[u], []⟩ [(x, u)])
    (hsp : ∀ H : Hp, SqL K H a (ns.map V.int) → sp [.ref a] H (fun v _ => v = .bl true) fun _ _ _ => False) :
    codeAny (model P w) callerA (.call (.ref fa) ⟨[.ref a], []⟩) (fun r s' => r = .ok (.ret (.bool true)) ∧ OldK z.heap s'.heap ∧ s'.os = z.os ∧ AllBare s'.gens) z := by
  have rv : Vals (ns.map V.int) vs := vals_ints intsA
  have sz : (ns.map V.int).length ≤ sizeLine := by rw [List.length_map]; exact many
  -- what is tracked: the script, unless it is the module's own
  let u : HO := .frz { cls := .type "list", data := .seq vs.toArray } (.lst (ns.map V.int))
  let H : Hp := fun b => if b = a ∧ K.lookup a = none then some u else none
  have only : ∀ b o, H b = some o → b = a ∧ K.lookup a = none ∧ o = u := fun b o e => by
    by_cases c : b = a ∧ K.lookup a = none
    · have e2 : H b = some u := if_pos c
      rw [e2] at e
      exact ⟨c.1, c.2, (Option.some.inj e).symm⟩
    · have e2 : H b = none := if_neg c
      rw [e2] at e
      cases e
  have sq : SqL K H a (ns.map V.int) := by
    cases hk : K.lookup a with
    | none => exact .inl (.inr ⟨_, if_pos ⟨rfl, hk⟩⟩)
    | some o =>
      have e := kin a o hk
      rw [at_] at e
      cases e
      exact .inr ⟨_, vs.toArray, _, hk, rfl, rfl, rfl, by rw [List.size_toArray, ← rv.length]; exact sz, by simpa using rv⟩
  have hok : HOk P w H z.heap := fun b o e => by
    obtain ⟨rfl, _, rfl⟩ := only b o e
    exact ⟨at_, sz, vs, _, rv, at_⟩
  have dictFree : ∀ {b : Addr} {o : Obj} {es : Array DictEntry} {ep : Nat}, z.heap.get? b = some o → o.data = .dict es ep → H b = none := fun {b o es ep} e d => by
    cases q : H b with
    | none => rfl
    | some v =>
      obtain ⟨rfl, _, _⟩ := only b v q
      rw [at_] at e
      cases e
      cases (show Data.seq vs.toArray _ = Data.dict es ep from d)
  have nsK : ∀ {b : Addr} {m : Str → Option Value}, z.heap.Ns b m → (hidT z.heap H).Ns b m := fun {b m} q => by
    obtain ⟨o, es, ep, e, d, r⟩ := q
    exact ⟨o, es, ep, hidT_get e (dictFree e d), d, r⟩
  have kb : K.In (hidT z.heap H) := fun b o e => by
    refine hidT_get (kin b o e) ?_
    cases q : H b with
    | none => rfl
    | some v =>
      obtain ⟨rfl, n, _⟩ := only b v q
      rw [n] at e
      cases e
  have limB : (hidT z.heap H).NoLimit := by
    obtain ⟨mc, h1, h2⟩ := lim
    exact ⟨mc, nsK h1, h2⟩
  have digB : (hidT z.heap H).NoDigits := by
    obtain ⟨mc, h1, h2⟩ := dig
    exact ⟨mc, nsK h1, h2⟩
  have en : Env0 P w K mg (hidT z.heap H) callerA [] z H :=
    ⟨rfl, ⟨kb, nsK nsG, ⟨mb, nsK nsB, same⟩, limB⟩, fun _ _ e => of_hidT e, Nat.le_of_eq (hidT_size _ _), trivial, (fun b hb => absurd (show b ∈ ([] : List Addr) from hb) List.not_mem_nil), hok, .of_eq no⟩
  refine codeAny_mono ((F _ kb (nsK nsG) digB).go callerA [] z H ⟨[.ref a], []⟩ [.ref a] [.ref a] _ _ rfl room en (bind z (.ref a)) (.cons rfl .nil) (hsp H sq)) fun r s' h => ?_
  match r, h with
  | .error e, h => exact False.elim h
  | .ok .next, h => exact False.elim h
  | .ok .brk, h => exact False.elim h
  | .ok .cont, h => exact False.elim h
  | .ok (.ret y), h =>
    obtain ⟨v, H', os, bare, un, hok', r', q⟩ := h
    obtain rfl : v = .bl true := q
    obtain rfl : y = Value.bool true := r'
    refine ⟨rfl, OldK.of_keep fun b o e => ?_, os, bare⟩
    cases q : H b with
    | none => exact un.keep b o e q (fun y => by cases y) (fun y => by cases y)
    | some v =>
      obtain ⟨rfl, _, rfl⟩ := only b v q
      have e2 := (hok' _ _ (un.frzs _ _ _ q)).1
      rw [at_] at e
      cases e
      exact e2
theorem walk_go {l : PySem.W.OpenLaw} {n k : Nat} {q : Program} {loose : List Str} {XP : (Str → Option Value) → Heap → Prop} {YP : World → Heap → Prop} {d : DefRec} {K : Params → PySem.W.Frag} {sp : PySem.W.Frag → Sp} {x : Str}
    (most : l.most = some n) (small : n ≤ sizeLine) (nodef : d.params.defaults = []) (room : Room k callerA) (hY : ∀ (w : World) (h : Heap), YP w h → (K w.params).In h)
    (F : ∀ (w : World) (mg : Str → Option Value) (fa : Addr) (h : Heap), (K w.params).In h → h.Ns mainGlobals mg → mg d.name = some (.ref fa) →
      ∃ fd : FuncData, (∀ (s : Shared) (u : Value), BindsTo s fd ⟨[u], []⟩ [(x, u)]) ∧ ∀ base : Heap, (K w.params).In base → base.Ns mainGlobals mg → base.NoDigits →
        Gn l.prog w (K w.params) mg base k fa fd [x] (sp (K w.params)))
    (hsp : ∀ (K : PySem.W.Frag) (H : Hp) (a : Addr) (ns : List Int), ns.length ≤ n → SqL K H a (ns.map V.int) → sp K [.ref a] H (fun v _ => v = .bl true) fun _ _ _ => False) :
    PySem.W.WalkO q loose XP YP l.row.toRowW d [] (fun f vs => PySem.call f vs) := by
  refine Att.attach_call most nodef fun w s₀ s₁ mg mb fa o pm cd doc a vs ns G Y _ _ _ hmg hobj hints hlen hg => ?_
  have kin := hY w _ Y
  obtain ⟨fd, hb, hF⟩ := F w mg fa _ kin G.T.g hmg
  exact law_go kin G.T.g G.T.b G.T.builtins G.T.nolimit G.T.nodigits hg hobj hints (Nat.le_trans hlen small) room hF hb fun H hS => hsp _ H a ns hlen hS
end K2
set_option Elab.async false
set_option linter.all false
set_option maxRecDepth 100000
set_option maxHeartbeats 4000000
set_option pp.maxSteps 400
set_option pp.deepTerms false
namespace K2
open PySem PySem.Spec PyProof.Rows L2
open Xk Az
def top (i : Nat) : Stmt := PySem.Challenge.pw_takesworks_k02_days_refused.main.body.getD i (.Pass ⟨0, 0, 0, 0⟩)
abbrev sNoDayInit : Stmt := inClass (top 4) 0
abbrev sIsWhole : Stmt := top 19
abbrev sIsWithin : Stmt := top 20
abbrev sIsLeap : Stmt := top 26
abbrev sDaysIn : Stmt := top 27
abbrev sMakesDay : Stmt := top 28
abbrev sDayInit : Stmt := inClass (top 29) 0
abbrev sHand : Stmt := top 31
abbrev sTake : Stmt := top 32
abbrev sPick : Stmt := top 33
abbrev sLast : Stmt := top 34
abbrev sParts : Stmt := top 35
abbrev sWhole : Stmt := top 36
abbrev sGood : Stmt := top 37
abbrev sOdd : Stmt := top 38
abbrev sSpoilt : Stmt := top 39
abbrev sAlone : Stmt := top 40
abbrev sCaught : Stmt := top 41
abbrev sRight : Stmt := top 42
abbrev sLaw : Stmt := top 43
theorem scNoDayInit : FnScope ["self", "year", "month", "day"] ["self", "year", "month", "day"] (defScope sNoDayInit) := ⟨rfl, rfl, rfl, by decide +kernel, rfl, by decide +kernel, by decide +kernel⟩
theorem scIsWhole : FnScope ["thing"] ["thing"] (defScope sIsWhole) := ⟨rfl, rfl, rfl, by decide +kernel, rfl, by decide +kernel, by decide +kernel⟩
theorem scIsWithin : FnScope ["thing", "least", "most"] ["thing", "least", "most"] (defScope sIsWithin) := ⟨rfl, rfl, rfl, by decide +kernel, rfl, by decide +kernel, by decide +kernel⟩
theorem scIsLeap : FnScope ["year"] ["year"] (defScope sIsLeap) := ⟨rfl, rfl, rfl, by decide +kernel, rfl, by decide +kernel, by decide +kernel⟩
theorem scDaysIn : FnScope ["year", "month"] ["year", "month"] (defScope sDaysIn) := ⟨rfl, rfl, rfl, by decide +kernel, rfl, by decide +kernel, by decide +kernel⟩
theorem scMakesDay : FnScope ["year", "month", "day"] ["year", "month", "day"] (defScope sMakesDay) := ⟨rfl, rfl, rfl, by decide +kernel, rfl, by decide +kernel, by decide +kernel⟩
theorem scDayInit : FnScope ["self", "year", "month", "day"] ["self", "year", "month", "day"] (defScope sDayInit) := ⟨rfl, rfl, rfl, by decide +kernel, rfl, by decide +kernel, by decide +kernel⟩
theorem scHand : FnScope ["_law_script", "_law_k", "_law_cell", "_law_great"] ["_law_script", "_law_k"] (defScope sHand) := ⟨rfl, rfl, rfl, by decide +kernel, rfl, by decide +kernel, by decide +kernel⟩
theorem scTake : FnScope ["_law_hand_here", "_law_many", "_law_digit", "_law_mixed"] ["_law_hand_here", "_law_many"] (defScope sTake) := ⟨rfl, rfl, rfl, by decide +kernel, rfl, by decide +kernel, by decide +kernel⟩
theorem scPick : FnScope ["_law_hand_here", "_law_some"] ["_law_hand_here", "_law_some"] (defScope sPick) := ⟨rfl, rfl, rfl, by decide +kernel, rfl, by decide +kernel, by decide +kernel⟩
theorem scLast : FnScope ["_law_y", "_law_m", "_law_fourth", "_law_hundredth"] ["_law_y", "_law_m"] (defScope sLast) := ⟨rfl, rfl, rfl, by decide +kernel, rfl, by decide +kernel, by decide +kernel⟩
theorem scParts : FnScope ["_law_hand_here", "_law_some", "_law_y", "_law_tells", "_law_m", "_law_last_here", "_law_d"] ["_law_hand_here"] (defScope sParts) := ⟨rfl, rfl, rfl, by decide +kernel, rfl, by decide +kernel, by decide +kernel⟩
theorem scWhole : FnScope ["_law_thing"] ["_law_thing"] (defScope sWhole) := ⟨rfl, rfl, rfl, by decide +kernel, rfl, by decide +kernel, by decide +kernel⟩
theorem scGood : FnScope ["_law_y", "_law_m", "_law_d"] ["_law_y", "_law_m", "_law_d"] (defScope sGood) := ⟨rfl, rfl, rfl, by decide +kernel, rfl, by decide +kernel, by decide +kernel⟩
theorem scOdd : FnScope ["_law_hand_here", "_law_part", "_law_deep", "_law_turn", "_law_some"] ["_law_hand_here", "_law_part"] (defScope sOdd) := ⟨rfl, rfl, rfl, by decide +kernel, rfl, by decide +kernel, by decide +kernel⟩
theorem scSpoilt : FnScope ["_law_hand_here", "_law_parts_here", "_law_some", "_law_turn", "_law_at"] ["_law_hand_here", "_law_parts_here"] (defScope sSpoilt) := ⟨rfl, rfl, rfl, by decide +kernel, rfl, by decide +kernel, by decide +kernel⟩
theorem scAlone : FnScope ["_law_e"] ["_law_e"] (defScope sAlone) := ⟨rfl, rfl, rfl, by decide +kernel, rfl, by decide +kernel, by decide +kernel⟩
theorem scCaught : FnScope ["_law_way", "_law_y", "_law_m", "_law_d", "_law_caught_here", "_law_e"] ["_law_way", "_law_y", "_law_m", "_law_d"] (defScope sCaught) := ⟨rfl, rfl, rfl, by decide +kernel, rfl, by decide +kernel, by decide +kernel⟩
theorem scRight : FnScope ["_law_hand_here", "_law_turn", "_law_y", "_law_m", "_law_d", "_law_caught_here", "_law_told"] ["_law_hand_here"] (defScope sRight) := ⟨rfl, rfl, rfl, by decide +kernel, rfl, by decide +kernel, by decide +kernel⟩
theorem scLaw : FnScope ["_law_script", "_law_k"] ["_law_script"] (defScope sLaw) := ⟨rfl, rfl, rfl, by decide +kernel, rfl, by decide +kernel, by decide +kernel⟩
/-! ## the mathematics -/
def leap (y : Int) : Bool := decide (y % 4 = 0) && (decide (y % 100 ≠ 0) || decide (y % 400 = 0))
def lastDay (y m : Int) : Int := if m = 4 ∨ m = 6 ∨ m = 9 ∨ m = 11 then 30 else if m ≠ 2 then 31 else if leap y = true then 29 else 28
theorem lastDay_ge (y m : Int) : 28 ≤ lastDay y m ∧ lastDay y m ≤ 31 := by
  unfold lastDay
  split
  · omega
  · split
    · omega
    · split <;> omega
/-- the parts of a day -/
def Good (y : Int) (m d : Option Int) : Prop := 1 ≤ y ∧ y ≤ 9999 ∧ match m with
  | none => d = none
  | some i => 1 ≤ i ∧ i ≤ 12 ∧ match d with
    | none => True
    | some j => 1 ≤ j ∧ j ≤ lastDay y i
def oV : Option Int → V
  | none => .non
  | some i => .int i
def oD : Option Int → PyData
  | none => .none
  | some i => .int i
/-- two parts alike, or one not told -/
def uoa : Option Int → Option Int → Bool
  | some i, some j => decide (i = j)
  | _, _ => true
def mayB (y : Int) (m d : Option Int) (y' : Int) (m' d' : Option Int) : Bool := decide (y = y') && uoa m m' && uoa d d'
theorem uoa_comm (a b : Option Int) : uoa a b = uoa b a := by
  cases a <;> cases b <;> simp [uoa, eq_comm]
theorem mayB_comm (y : Int) (m d : Option Int) (y' : Int) (m' d' : Option Int) : mayB y m d y' m' d' = mayB y' m' d' y m d := by
  unfold mayB
  rw [uoa_comm m, uoa_comm d]
  simp [eq_comm]
theorem uoa_self (a : Option Int) : uoa a a = true := by cases a <;> simp [uoa]
theorem uoa_some (a : Option Int) (i : Int) : uoa a (some (a.getD i)) = true := by cases a <;> simp [uoa]
/-! ## objects -/
/-- all that was tracked stands but for the hand -/
def But (h : Addr) (H H' : Hp) : Prop := ∀ b o, b ≠ h → H b = some o → H' b = some o
theorem But.refl (h : Addr) (H : Hp) : But h H H := fun _ _ _ e => e
theorem But.trans {h : Addr} {H H1 H2 : Hp} (p : But h H H1) (q : But h H1 H2) : But h H H2 := fun b o n e => q b o n (p b o n e)
theorem Same.but {H H' : Hp} (s : Same H H') (h : Addr) : But h H H' := fun b o _ e => s b o e
theorem But.seqT {K : PySem.W.Frag} {h : Addr} {H H' : Hp} (s : But h H H') {t : Addr} {xs : List V} (n : t ≠ h) (q : SqT K H t xs) : SqT K H' t xs := by
  rcases q with (q | ⟨o, q⟩) | q
  · exact .inl (.inl (s _ _ n q))
  · exact .inl (.inr ⟨o, s _ _ n q⟩)
  · exact .inr q
theorem But.seqL {K : PySem.W.Frag} {h : Addr} {H H' : Hp} (s : But h H H') {t : Addr} {xs : List V} (n : t ≠ h) (q : SqL K H t xs) : SqL K H' t xs := by
  rcases q with (q | ⟨o, q⟩) | q
  · exact .inl (.inl (s _ _ n q))
  · exact .inl (.inr ⟨o, s _ _ n q⟩)
  · exact .inr q
theorem Same.seqT {K : PySem.W.Frag} {H H' : Hp} (s : Same H H') {t : Addr} {xs : List V} (q : SqT K H t xs) : SqT K H' t xs := by
  rcases q with (q | ⟨o, q⟩) | q
  · exact .inl (.inl (s _ _ q))
  · exact .inl (.inr ⟨o, s _ _ q⟩)
  · exact .inr q
theorem same_upd {H : Hp} {p : Addr} {o : HO} (h : H p = none) : Same H (upd H p o) := fun b x e => by
  rw [upd_ne (ne_of_none e h)]
  exact e
theorem but_upd {H : Hp} {p : Addr} {o : HO} : But p H (upd H p o) := fun b x n e => by
  rw [upd_ne n]
  exact e
/-- the hand: what is left of the cell, what it is mixed of, how often it was asked -/
def Hand (n : Int) (H : Hp) (a : Addr) : Prop := ∃ g m c : Int, H a = some (.lst [.int g, .int m, .int c]) ∧ 0 ≤ g ∧ 0 ≤ m ∧ m < 2305843009213693951 ∧ 0 ≤ c ∧ c ≤ n
theorem Hand.mono {n n' : Int} {H : Hp} {a : Addr} (h : Hand n H a) (l : n ≤ n') : Hand n' H a := by
  obtain ⟨g, m, c, e, h1, h2, h3, h4, h5⟩ := h
  exact ⟨g, m, c, e, h1, h2, h3, h4, Int.le_trans h5 l⟩
theorem Hand.same {n : Int} {H H' : Hp} {a : Addr} (h : Hand n H a) (s : Same H H') : Hand n H' a := by
  obtain ⟨g, m, c, e, r⟩ := h
  exact ⟨g, m, c, s _ _ e, r⟩
theorem Hand.at_ {n : Int} {H : Hp} {a : Addr} (h : Hand n H a) : ∃ xs, H a = some (.lst xs) := by
  obtain ⟨g, m, c, e, r⟩ := h
  exact ⟨_, e⟩
theorem Hand.ne_tup {K : PySem.W.Frag} {n : Int} {H : Hp} {a t : Addr} {xs : List V} (h : Hand n H a) (e : H t = some (.tup xs)) : t ≠ a := by
  obtain ⟨ys, e2⟩ := h.at_
  exact ne_of e e2 (by intro z; cases z)
theorem But.free {h l : Addr} {H H' : Hp} (b : But h H H') (ne : l ≠ h) (e : H' l = none) : H l = none := by
  cases q : H l with
  | none => rfl
  | some o =>
    rw [b l o ne q] at e
    cases e
theorem Hand.fresh {n : Int} {H : Hp} {a l : Addr} (h : Hand n H a) (e : H l = none) : l ≠ a := by
  obtain ⟨xs, q⟩ := h.at_
  exact (ne_of_none q e).symm
/-- an exception's making ends so -/
theorem made_x {H H2 : Hp} {a d : Addr} {o : HO} (na : H a = none) (ne : d ≠ a) (off : ∀ b, b ≠ a → b ≠ d → H2 b = H b) : upd (del H2 a) d o = upd H d o := by
  funext b
  by_cases hd : b = d
  · rw [hd, upd_same, upd_same]
  · rw [upd_ne hd, upd_ne hd]
    by_cases ha : b = a
    · rw [ha, del_same, na]
    · rw [del_ne ha, off b ha hd]
section
variable {X : Cx}
theorem cr_alt {f : Value} {r1 r2 : List V → Hp → VK → Prop} (h1 : CallR X f r1) (h2 : CallR X f r2) : CallR X f (fun xs H Q => r1 xs H Q ∨ r2 xs H Q) :=
  fun pins s σ H xs us Q I r h => h.elim (h1 pins s σ H xs us Q I r) (h2 pins s σ H xs us Q I r)
end
theorem off_all {h : Addr} {H : Hp} : L2.Same (del H h) H := fun b o e => by
  by_cases z : b = h
  · rw [z, del_same] at e
    cases e
  · rw [del_ne z] at e
    exact e
theorem off_but {h : Addr} {H H' : Hp} (s : But h H H') : L2.Same (del H h) (del H' h) := fun b o e => by
  by_cases z : b = h
  · rw [z, del_same] at e
    cases e
  · rw [del_ne z] at e
    rw [del_ne z]
    exact s b o z e
theorem off_at {h p : Addr} {H : Hp} {o : HO} (ne : p ≠ h) (e : H p = some o) : del H h p = some o := by rw [del_ne ne, e]
theorem dInt (i j : Int) : decide (V.int i = V.int j) = decide (i = j) := decide_eq_decide.mpr ⟨fun z => V.int.inj z, fun z => by rw [z]⟩
theorem fitN {n : Nat} (h : n ≤ 100000) : n ≤ sizeLine := Nat.le_trans h (by decide)
theorem lg {i : Int} (h0 : -(10 ^ 31) < i) (h1 : i < 10 ^ 31) : i.natAbs.log2 < 1920 := by
  have h2 : i.natAbs < 2 ^ 110 := by
    have : (10 : Int) ^ 31 < 2 ^ 110 := by decide
    omega
  exact Nat.lt_of_lt_of_le (PySem.Flt.log2_lt_of (by decide) h2) (by decide)
theorem big39 : (10 : Int) ^ 30 < 10 ^ 39 := by decide
theorem tx_le {i : Int} (h0 : -(10 ^ 30) ≤ i) (h1 : i ≤ 10 ^ 30) : (Str.ofString (toString i)).length ≤ 40 := by
  have b := big39
  cases i with
  | ofNat m =>
    have c : (Int.ofNat m) = (m : Int) := rfl
    exact Nat.le_trans (toString_length_le (v := (m : Int)) (by omega) (k := 39) (by decide) (by omega)) (by decide)
  | negSucc m =>
    have c : Int.negSucc m = -((m : Int) + 1) := rfl
    have z := toString_length_le (v := ((m + 1 : Nat) : Int)) (by omega) (k := 39) (by decide) (by omega)
    rw [PySem.ofString_length] at z ⊢
    have z2 : (toString (m + 1)).length ≤ 39 := z
    show ("-" ++ toString (m + 1)).length ≤ 40
    rw [String.length_append]
    have : "-".length = 1 := rfl
    omega
/-! ## parts that make a day -/
def isI : V → Bool
  | .int _ => true
  | _ => false
def wiV (v : V) (a b : Int) : Bool := match v with
  | .int i => decide (a ≤ i) && decide (i ≤ b)
  | _ => false
def goodV (y m d : V) : Bool := match y with
  | .int i => wiV y 1 9999 && (if m = .non then decide (d = .non) else match m with
    | .int j => wiV m 1 12 && (if d = .non then true else wiV d 1 (lastDay i j))
    | _ => false)
  | _ => false
theorem good_no {y m d : V} (h : wiV y 1 9999 = false) : goodV y m d = false := by
  cases y with
  | int i =>
    show (wiV (.int i) 1 9999 && _) = false
    rw [h, Bool.false_and]
  | _ => rfl
theorem good_non {i : Int} {d : V} (h : wiV (.int i) 1 9999 = true) : goodV (.int i) .non d = decide (d = .non) := by
  show (wiV (.int i) 1 9999 && (if V.non = V.non then decide (d = .non) else _)) = _
  rw [h, Bool.true_and, if_pos rfl]
theorem good_m {i : Int} {m d : V} (h : wiV (.int i) 1 9999 = true) (n : m ≠ .non) (h2 : wiV m 1 12 = false) : goodV (.int i) m d = false := by
  unfold goodV
  dsimp only
  rw [if_neg n]
  cases m with
  | int j =>
    dsimp only
    rw [h2, Bool.false_and, Bool.and_false]
  | _ => exact Bool.and_false _
theorem good_d {i j : Int} {d : V} (h : wiV (.int i) 1 9999 = true) (h2 : wiV (.int j) 1 12 = true) : goodV (.int i) (.int j) d = (if d = .non then true else wiV d 1 (lastDay i j)) := by
  show (wiV (.int i) 1 9999 && (if V.int j = V.non then decide (d = .non) else (wiV (.int j) 1 12 && (if d = .non then true else wiV d 1 (lastDay i j))))) = _
  rw [if_neg (by intro z; cases z), h, h2, Bool.true_and, Bool.true_and]
theorem wiV_int {v : V} {a b : Int} (h : wiV v a b = true) : ∃ i, v = .int i ∧ a ≤ i ∧ i ≤ b := by
  cases v with
  | int i =>
    have h' : (decide (a ≤ i) && decide (i ≤ b)) = true := h
    rw [Bool.and_eq_true] at h'
    exact ⟨i, rfl, of_decide_eq_true h'.1, of_decide_eq_true h'.2⟩
  | _ => cases h
end K2
set_option Elab.async false
set_option linter.all false
set_option maxRecDepth 100000
set_option maxHeartbeats 4000000
set_option pp.maxSteps 400
set_option pp.deepTerms false
namespace K2
open PySem PySem.Spec PyProof.Rows L2
open Xk Az
section
variable {P : Program} {w : World} {K : PySem.W.Frag} {mg : Str → Option Value} {base : Heap} {C : Addr}
/-- a def that may be called by its name -/
structure Ca (P : Program) (w : World) (K : PySem.W.Frag) (mg : Str → Option Value) (base : Heap) (k : Nat) (x : Str) (ps : List Str) (sp : Sp) : Prop where
  ex : ∃ (f : Addr) (fd : FuncData), FnOk P w K mg base CX0 k f fd ps sp ∧ mg x = some (.ref f) ∧ PySem.W.keepIn K (.ref f) = true ∧ Binds K fd ps []
/-- a def of the text, as the head finds it -/
structure Df (K : PySem.W.Frag) (mg : Str → Option Value) (x : Str) (ps : List Str) (st : Stmt) (f : Addr) (fd : FuncData) : Prop where
  fn : Fun K x x st f fd
  mgf : mg x = some (.ref f)
  bd : Binds K fd ps []
theorem Df.ca {k : Nat} {x : Str} {ps : List Str} {st : Stmt} {f : Addr} {fd : FuncData} {sp : Sp} (d : Df K mg x ps st f fd)
    (h : FnOk P w K mg base CX0 k f fd ps sp) : Ca P w K mg base k x ps sp := ⟨f, fd, h, d.mgf, d.fn.kp, d.bd⟩
section
variable {X : Cx} {k j : Nat} {x : Str} {ps : List Str} {sp : Sp} {p pos : Pos} {e : Expr} {es : List Expr} {t : TA}
theorem pe_ca (c : Ca X.prog X.w X.K X.mg X.base k x ps sp) (hr : Room j X.A) (hk : k ≤ j) (hg : Gl X x) (ha : PA X (e :: es) t) (hdb : (x == ("__debug__" : Str)) = false := by decide)
    (he : starEach (e :: es) X.env = (false, eval e X.env) :: starEach es X.env := by rfl) (hpl : (backTo pos (starEach es X.env)).any (·.1) = false := by rfl) :
    PE X (.Call (.Name x p) (e :: es) [] pos) (tCall sp [] E0 t) := by
  obtain ⟨f, fd, F, hm, kp, b⟩ := c.ex
  exact pe_call F (hr.mono hk) hg hm kp b .nil pass0 ha hdb he hpl
end
/-- the refusals: where their classes stand -/
structure Ex where
  NotSuch : Addr
  Lost : Addr
  Taken : Addr
  NoCustom : Addr
  NoDay : Addr
  NoDisc : Addr
  NoEntry : Addr
  NoKey : Addr
  NoLength : Addr
  NoLine : Addr
  NoName : Addr
  NoNumber : Addr
  NoPath : Addr
  NoText : Addr
  Same : Addr
  Struck : Addr
  Twice : Addr
/-- what the top has left, besides the defs -/
structure Txt (K : PySem.W.Frag) (mg : Str → Option Value) (C : Addr) (e : Ex) : Prop where
  cl : Cls K C
  nY : NoAttr K C "year"
  nM : NoAttr K C "month"
  nD : NoAttr K C "day"
  mgC : mg "Day" = some (.ref C)
  yr : ∃ t, mg "LAST_YEAR" = some (.int 9999 t)
  mo : ∃ t, mg "MONTHS" = some (.int 12 t)
  fe : ∃ t, mg "FEBRUARY" = some (.int 2 t)
  md : ∃ a, mg "MONTH_DAYS" = some (.ref a) ∧ ∀ H, SqT K H a ([31, 28, 31, 30, 31, 30, 31, 31, 30, 31, 30, 31].map V.int)
  mNotSuch : mg "NotSuch" = some (.ref e.NotSuch)
  mLost : mg "Lost" = some (.ref e.Lost)
  mTaken : mg "Taken" = some (.ref e.Taken)
  mNoCustom : mg "NoCustom" = some (.ref e.NoCustom)
  mNoDay : mg "NoDay" = some (.ref e.NoDay)
  mNoDisc : mg "NoDisc" = some (.ref e.NoDisc)
  mNoEntry : mg "NoEntry" = some (.ref e.NoEntry)
  mNoKey : mg "NoKey" = some (.ref e.NoKey)
  mNoLength : mg "NoLength" = some (.ref e.NoLength)
  mNoLine : mg "NoLine" = some (.ref e.NoLine)
  mNoName : mg "NoName" = some (.ref e.NoName)
  mNoNumber : mg "NoNumber" = some (.ref e.NoNumber)
  mNoPath : mg "NoPath" = some (.ref e.NoPath)
  mNoText : mg "NoText" = some (.ref e.NoText)
  mSame : mg "Same" = some (.ref e.Same)
  mStruck : mg "Struck" = some (.ref e.Struck)
  mTwice : mg "Twice" = some (.ref e.Twice)
  isi : mg "isinstance" = none
  int : mg "int" = none
  bool : mg "bool" = none
  len : mg "len" = none
  abs : mg "abs" = none
  max : mg "max" = none
  min : mg "min" = none
  all : mg "all" = none
  range : mg "range" = none
  repr : mg "repr" = none
  str : mg "str" = none
  list : mg "list" = none
  ValueError : mg "ValueError" = none
  oex : OexC K e.NoDay
  xc : XcC K e.NoDay
  bi : BiC K e.NotSuch
  fY : PySem.W.findIn K (.ref e.NoDay) "year" = some none
  fM : PySem.W.findIn K (.ref e.NoDay) "month" = some none
  fD : PySem.W.findIn K (.ref e.NoDay) "day" = some none
  exm : PySem.W.exmAny K (.ref e.NoDay) [.ref e.NotSuch, .ref e.Lost, .ref e.Taken] = some true
  kit1 : PySem.W.kitAny K (.ref e.NoDay) [.ref e.Lost, .ref e.Taken, .ref e.NoCustom, .ref e.NoDisc, .ref e.NoEntry, .ref e.NoKey, .ref e.NoLength, .ref e.NoLine] = some false
  kit2 : PySem.W.kitAny K (.ref e.NoDay) [.ref e.NoName, .ref e.NoNumber, .ref e.NoPath, .ref e.NoText, .ref e.Same, .ref e.Struck, .ref e.Twice] = some false
  kit3 : PySem.W.kitOne K (.ref e.NoDay) (.ref e.NoDay) = some true
  kit4 : PySem.W.kitOne K (.ref e.NoDay) (.ref e.NotSuch) = some true
  kit5 : PySem.W.kitOne K (.ref e.NoDay) (.type "ValueError") = some true
/-! ## promises of the program's defs -/
def spWhole (K : PySem.W.Frag) : Sp := fun vs H Q _ => ∃ (v : V) (d : PyData), vs = [v] ∧ Dz K H v d ∧ Q (.bl (isI v)) H
def spWithin (K : PySem.W.Frag) : Sp := fun vs H Q _ => ∃ (v : V) (d : PyData) (a b : Int), vs = [v, .int a, .int b] ∧ Dz K H v d ∧ Q (.bl (wiV v a b)) H
def spLeap : Sp := fun vs H Q _ => ∃ y : Int, vs = [.int y] ∧ Q (.bl (leap y)) H
def spDaysIn : Sp := fun vs H Q _ => ∃ y m : Int, vs = [.int y, .int m] ∧ 1 ≤ m ∧ m ≤ 12 ∧ Q (.int (lastDay y m)) H
def spMakes (K : PySem.W.Frag) : Sp := fun vs H Q _ => ∃ (y m d : V) (dy dm dd : PyData), vs = [y, m, d] ∧ Dz K H y dy ∧ Dz K H m dm ∧ Dz K H d dd ∧ Q (.bl (goodV y m d)) H
def spND (e : Ex) : Sp := fun vs H Q _ => ∃ (a : Addr) (y m d : V), vs = [.ref a, y, m, d] ∧ H a = some (exo a e.NoDay none) ∧
  ∀ p H', H p = none → p ≠ a → H' a = some (exo a e.NoDay (some p)) → H' p = some (exd p [("day", d), ("month", m), ("year", y)]) → (∀ b, b ≠ a → b ≠ p → H' b = H b) → Q .non H'
/-- what is raised: NoDay with these values -/
def Rz (e : Ex) (H : Hp) (y m d : V) (E : XK) : Prop := ∀ (p : Addr) (H' : Hp), L2.Same H H' → H' p = some (.xd [("day", d), ("month", m), ("year", y)]) → E (.ref e.NoDay) (some p) H'
def spInit (K : PySem.W.Frag) (C : Addr) (e : Ex) : Sp := fun vs H Q E => ∃ (x dx : Addr) (y m d : V) (dy dm dd : PyData), vs = [.ref x, y, m, d] ∧ H x = some (.ins C dx []) ∧ Dz K H y dy ∧ Dz K H m dm ∧ Dz K H d dd ∧
  (goodV y m d = true → ∀ H' : Hp, (∀ b o, H b = some o → b ≠ x → H' b = some o) → Q .non H') ∧ (goodV y m d = false → Rz e H y m d E)
theorem ok_whole {f : Addr} {fd : FuncData} {e : Ex} (D : Df K mg "is_whole" ["thing"] sIsWhole f fd) (T : Txt K mg C e) : FnOk P w K mg base CX0 1 f fd ["thing"] (spWhole K) := by
  refine D.fn.ok scIsWhole (fun vs H Q E h => ?_) (fun cdv A outer s H vs Q E hr h => ?_)
  · obtain ⟨v, d, rfl, h, q⟩ := h
    rfl
  · obtain ⟨v, d, rfl, h, q⟩ := h
    refine ⟨_, (pss_one (ps_ret (pe_and (pe_callB call_isi (by rfl) T.isi (by decide +kernel) (pa_cons (pv 0) (pa_cons (pe_bltn (v := .ty "int") (by rfl) T.int (by decide +kernel) rfl) pa_nil))) (pe_one (pe_not (pe_callB call_isi (by rfl) T.isi (by decide +kernel) (pa_cons (pv 0) (pa_cons (pe_bltn (v := .ty "bool") (by rfl) T.bool (by decide +kernel) rfl) pa_nil)))))))), ?_⟩
    cases h with
    | int i =>
      refine ⟨_, rfl, _, _, _, _, true, rfl, .ty _, (.base (.int i)), kit_ty (by decide +kernel), true, rfl, iteT ?_⟩
      exact ⟨_, rfl, _, _, _, _, false, rfl, .ty _, (.base (.int i)), kit_ty (by decide +kernel), false, rfl, q⟩
    | bl b =>
      refine ⟨_, rfl, _, _, _, _, true, rfl, .ty _, (.base (.bl b)), kit_ty (by decide +kernel), true, rfl, iteT ?_⟩
      exact ⟨_, rfl, _, _, _, _, true, rfl, .ty _, (.base (.bl b)), kit_ty (by decide +kernel), true, rfl, q⟩
    | non => exact ⟨_, rfl, _, _, _, _, false, rfl, .ty _, (.base .non : TyX K H .non (.type "NoneType")), kit_ty (by decide +kernel), false, rfl, iteF q⟩
    | str x => exact ⟨_, rfl, _, _, _, _, false, rfl, .ty _, (.base (.str x) : TyX K H (.str x) (.type "str")), kit_ty (by decide +kernel), false, rfl, iteF q⟩
    | lst e _ _ => exact ⟨_, rfl, _, _, _, _, false, rfl, .ty _, (.base (.lst e)), kit_ty (by decide +kernel), false, rfl, iteF q⟩
    | tup e _ => exact ⟨_, rfl, _, _, _, _, false, rfl, .ty _, (.base (.tup e)), kit_ty (by decide +kernel), false, rfl, iteF q⟩
    | dct e _ => exact ⟨_, rfl, _, _, _, _, false, rfl, .ty _, (.base (.dK e)), kit_ty (by decide +kernel), false, rfl, iteF q⟩
theorem ok_within {f : Addr} {fd : FuncData} (D : Df K mg "is_within" ["thing", "least", "most"] sIsWithin f fd) (cW : Ca P w K mg base 1 "is_whole" ["thing"] (spWhole K)) : FnOk P w K mg base CX0 2 f fd ["thing", "least", "most"] (spWithin K) := by
  refine D.fn.ok scIsWithin (fun vs H Q E h => ?_) (fun cdv A outer s H vs Q E hr h => ?_)
  · obtain ⟨v, d, a, b, rfl, h, q⟩ := h
    rfl
  · obtain ⟨v, d, a, b, rfl, h, q⟩ := h
    refine ⟨_, (pss_one (ps_ret (pe_and (pe_ca cW hr (by decide) (by rfl) (pa_cons (pv 0) pa_nil)) (pe_one (pe_chain op_le op_le (pv 1) (pv 0) (pv 2)))))), ?_⟩
    refine ⟨_, rfl, v, d, rfl, h, _, rfl, ?_⟩
    cases v with
    | int i =>
      refine iteT ⟨_, rfl, _, rfl, a, i, rfl, rfl, _, rfl, ?_⟩
      have q' : Q (.bl (decide (a ≤ i) && decide (i ≤ b))) H := q
      cases e : decide (a ≤ i) with
      | true =>
        rw [e, Bool.true_and] at q'
        exact iteT ⟨_, rfl, i, b, rfl, rfl, q'⟩
      | false =>
        rw [e, Bool.false_and] at q'
        exact iteF q'
    | _ => exact iteF q
theorem ok_leap {f : Addr} {fd : FuncData} (D : Df K mg "is_leap" ["year"] sIsLeap f fd) : FnOk P w K mg base CX0 1 f fd ["year"] spLeap := by
  refine D.fn.ok scIsLeap (fun vs H Q E h => ?_) (fun cdv A outer s H vs Q E hr h => ?_)
  · obtain ⟨y, rfl, _⟩ := h
    rfl
  · obtain ⟨y, rfl, q⟩ := h
    refine ⟨_, pss_one (ps_ret (pe_and (pe_cmpR op_eq (pe_op op_mod (pv 0) pe_int) pe_int (nomark _))
      (pe_one (pe_or (pe_cmpR op_ne (pe_op op_mod (pv 0) pe_int) pe_int (nomark _)) (pe_one (pe_cmpR op_eq (pe_op op_mod (pv 0) pe_int) pe_int (nomark _))))))), ?_⟩
    have e4 : decide (V.int (y % 4) = V.int 0) = decide (y % 4 = 0) := decide_eq_decide.mpr ⟨fun z => V.int.inj z, fun z => by rw [z]⟩
    have e1 : decide (V.int (y % 100) = V.int 0) = decide (y % 100 = 0) := decide_eq_decide.mpr ⟨fun z => V.int.inj z, fun z => by rw [z]⟩
    have e0 : decide (V.int (y % 400) = V.int 0) = decide (y % 400 = 0) := decide_eq_decide.mpr ⟨fun z => V.int.inj z, fun z => by rw [z]⟩
    refine ⟨_, rfl, y, 4, rfl, rfl, (by show (0 : Int) < 4; decide), rfl, _, rfl, ?_⟩
    rw [e4]
    refine ite2 (fun c4 => ?_) (fun c4 => ?_)
    · refine ⟨_, rfl, y, 100, rfl, rfl, (by show (0 : Int) < 100; decide), rfl, _, rfl, ?_⟩
      rw [e1]
      refine ite2 (fun c1 => ?_) (fun c1 => ?_)
      · have z : leap y = true := by
          have a := of_decide_eq_true c4
          have b : ¬ y % 100 = 0 := by simpa using c1
          unfold leap
          simp [a, b]
        rw [z] at q
        exact q
      · refine ⟨_, rfl, y, 400, rfl, rfl, (by show (0 : Int) < 400; decide), rfl, ?_⟩
        rw [e0]
        have z : leap y = decide (y % 400 = 0) := by
          have a := of_decide_eq_true c4
          have b : y % 100 = 0 := by simpa using c1
          unfold leap
          simp [a, b]
        rw [z] at q
        exact q
    · have z : leap y = false := by
        have a : ¬ y % 4 = 0 := by simpa using c4
        unfold leap
        simp [a]
      rw [z] at q
      exact q
theorem month_at (y m : Int) (h1 : 1 ≤ m) (h2 : m ≤ 12) (n : ¬ (m = 2 ∧ leap y = true)) :
    atI ([31, 28, 31, 30, 31, 30, 31, 31, 30, 31, 30, 31].map V.int) (m - 1) = some (.int (lastDay y m)) := by
  obtain ⟨j, rfl⟩ : ∃ j : Nat, m = (j : Int) + 1 := ⟨(m - 1).toNat, by omega⟩
  have hj : j < 12 := by omega
  rw [show (j : Int) + 1 - 1 = (j : Int) by omega]
  refine atI_nat ?_
  match j, hj with
  | 0, _ => simp [lastDay]
  | 1, _ =>
    have l : ¬ leap y = true := fun z => n ⟨by decide, z⟩
    simp [lastDay, l]
  | 2, _ => simp [lastDay]
  | 3, _ => simp [lastDay]
  | 4, _ => simp [lastDay]
  | 5, _ => simp [lastDay]
  | 6, _ => simp [lastDay]
  | 7, _ => simp [lastDay]
  | 8, _ => simp [lastDay]
  | 9, _ => simp [lastDay]
  | 10, _ => simp [lastDay]
  | 11, _ => simp [lastDay]
theorem ok_daysIn {f : Addr} {fd : FuncData} {e : Ex} (D : Df K mg "days_in" ["year", "month"] sDaysIn f fd) (T : Txt K mg C e) (cL : Ca P w K mg base 1 "is_leap" ["year"] spLeap) :
    FnOk P w K mg base CX0 2 f fd ["year", "month"] spDaysIn := by
  obtain ⟨tF, gF⟩ := T.fe
  obtain ⟨aM, gM, sM⟩ := T.md
  refine D.fn.ok scDaysIn (fun vs H Q E h => ?_) (fun cdv A outer s H vs Q E hr h => ?_)
  · obtain ⟨y, m, rfl, _⟩ := h
    rfl
  · obtain ⟨y, m, rfl, h1, h2, q⟩ := h
    refine ⟨_, pss_cons (ps_if (PW.pt (pw_and (pt_cmpR op_eq (pv 1) (pe_glob (v := .int 2) (by rfl) gF ⟨_, rfl⟩) (nomark _)) (pw_and1 (pt_val (pe_ca cL hr (by decide) (by rfl) (pa_cons (pv 0) pa_nil))))))
      (pss_one (ps_ret pe_int)) pss_nil)
      (pss_one (ps_ret (pe_ix ix_tup (pe_glob (v := .ref aM) (by rfl) gM rfl) (pe_op op_sub (pv 1) pe_int) (fun _ _ => rfl)))), ?_⟩
    refine ⟨_, rfl, rfl, _, rfl, ?_⟩
    rw [dInt]
    refine ite2 (fun c => ?_) (fun c => ?_)
    · have em : m = 2 := of_decide_eq_true c
      refine ⟨_, rfl, y, rfl, _, rfl, ?_⟩
      cases l : leap y with
      | true =>
        have z : lastDay y m = 29 := by
          rw [em]
          simp [lastDay, l]
        rw [z] at q
        exact iteT q
      | false => exact iteF ⟨_, rfl, m, 1, rfl, rfl, aM, _, m - 1, _, rfl, rfl, sM H, month_at y m h1 h2 (fun z => by rw [l] at z; cases z.2), q⟩
    · exact iteF ⟨_, rfl, m, 1, rfl, rfl, aM, _, m - 1, _, rfl, rfl, sM H, month_at y m h1 h2 (fun z => c (decide_eq_true z.1)), q⟩
theorem ok_makes {f : Addr} {fd : FuncData} {e : Ex} (D : Df K mg "makes_day" ["year", "month", "day"] sMakesDay f fd) (T : Txt K mg C e) (cI : Ca P w K mg base 2 "is_within" ["thing", "least", "most"] (spWithin K)) (cD : Ca P w K mg base 2 "days_in" ["year", "month"] spDaysIn) : FnOk P w K mg base CX0 3 f fd ["year", "month", "day"] (spMakes K) := by
  obtain ⟨tY, gY⟩ := T.yr
  obtain ⟨tM, gM⟩ := T.mo
  refine D.fn.ok scMakesDay (fun vs H Q E h => ?_) (fun cdv A outer s H vs Q E hr h => ?_)
  · obtain ⟨y, m, d, dy, dm, dd, rfl, hy, hm, hd, q⟩ := h
    rfl
  · obtain ⟨y, m, d, dy, dm, dd, rfl, hy, hm, hd, q⟩ := h
    refine ⟨_, (pss_cons (ps_if (pt_not (pt_val (pe_ca cI hr (by decide) (by rfl) (pa_cons (pv 0) (pa_cons pe_int (pa_cons (pe_glob (v := .int 9999) (by rfl) gY ⟨_, rfl⟩) pa_nil)))))) (pss_one (ps_ret pe_bl)) pss_nil)
      (pss_cons (ps_if (pt_cmpR op_isN (pv 1) pe_non (nomark _)) (pss_one (ps_ret (pe_cmpR op_isN (pv 2) pe_non (nomark _)))) pss_nil)
      (pss_cons (ps_if (pt_not (pt_val (pe_ca cI hr (by decide) (by rfl) (pa_cons (pv 1) (pa_cons pe_int (pa_cons (pe_glob (v := .int 12) (by rfl) gM ⟨_, rfl⟩) pa_nil)))))) (pss_one (ps_ret pe_bl)) pss_nil)
      (pss_one (ps_ret (pe_or (pe_cmpR op_isN (pv 2) pe_non (nomark _)) (pe_one (pe_ca cI hr (by decide) (by rfl) (pa_cons (pv 2) (pa_cons pe_int (pa_cons (pe_ca cD hr (by decide) (by rfl) (pa_cons (pv 0) (pa_cons (pv 1) pa_nil))) pa_nil))))))))))), ?_⟩
    refine ⟨_, rfl, y, dy, 1, 9999, rfl, hy, _, rfl, ?_⟩
    cases cy : wiV y 1 9999 with
    | false =>
      rw [good_no cy] at q
      exact iteT q
    | true =>
      obtain ⟨i, rfl, _, _⟩ := wiV_int cy
      refine iteF ⟨_, rfl, rfl, _, rfl, ?_⟩
      refine ite2 (fun c => ?_) (fun c => ?_)
      · have em : m = .non := of_decide_eq_true c
        subst em
        rw [good_non cy] at q
        exact ⟨_, rfl, rfl, q⟩
      · have nm : m ≠ .non := fun z => c (decide_eq_true z)
        refine ⟨_, rfl, m, dm, 1, 12, rfl, hm, _, rfl, ?_⟩
        cases cm : wiV m 1 12 with
        | false =>
          rw [good_m cy nm cm] at q
          exact iteT q
        | true =>
          obtain ⟨j, rfl, j1, j2⟩ := wiV_int cm
          rw [good_d cy cm] at q
          refine iteF ⟨_, rfl, rfl, _, rfl, ?_⟩
          refine ite2 (fun c => ?_) (fun c => ?_)
          · rw [if_pos (of_decide_eq_true c)] at q
            exact q
          · rw [if_neg (fun z => c (decide_eq_true z))] at q
            exact ⟨_, rfl, _, rfl, _, rfl, i, j, rfl, j1, j2, d, dd, 1, lastDay i j, rfl, hd, q⟩
end
end K2
set_option Elab.async false
set_option linter.all false
set_option maxRecDepth 100000
set_option maxHeartbeats 4000000
set_option pp.maxSteps 400
set_option pp.deepTerms false
namespace K2
open PySem PySem.Spec PyProof.Rows L2
open Xk Az
section
variable {P : Program} {w : World} {K : PySem.W.Frag} {mg : Str → Option Value} {base : Heap} {C : Addr}
theorem ok_nd {f : Addr} {fd : FuncData} {e : Ex} (F : Fun K "__init__" "NoDay.__init__" sNoDayInit f fd) (T : Txt K mg C e) : FnOk P w K mg base CX0 1 f fd ["self", "year", "month", "day"] (spND e) := by
  refine F.ok scNoDayInit (fun vs H Q E h => ?_) (fun cdv A outer s H vs Q E hr h => ?_)
  · obtain ⟨a, y, m, d, rfl, ha, q⟩ := h
    rfl
  · obtain ⟨a, y, m, d, rfl, ha, q⟩ := h
    refine ⟨_, (pss_cons (ps_expr (pe_binit T.bi (by rfl) T.mNotSuch (pa_cons (pv 0) (pa_cons pe_str pa_nil))))
      (pss_cons (ps_ost (pv 0) (pv 1))
      (pss_cons (ps_ost (pv 0) (pv 2))
      (pss_one (ps_ost (pv 0) (pv 3)))))), ?_⟩
    refine ⟨_, rfl, a, e.NoDay, [.str "no such day"], rfl, (by show 1 ≤ 1000; decide), T.oex, ha, ?_⟩
    refine ⟨_, rfl, _, rfl, a, e.NoDay, rfl, T.oex, T.fY, .inl ⟨ha, fun p np ne => ?_⟩⟩
    have e1 : (upd (upd H p (exd p [("year", y)])) a (exo a e.NoDay (some p))) p = some (exd p [("year", y)]) := by rw [upd_ne ne, upd_same]
    refine ⟨_, rfl, _, rfl, a, e.NoDay, rfl, T.oex, T.fM, .inr ⟨p, _, upd_same, e1, (by show 1 ≤ 900; decide), ?_⟩⟩
    have e2 : ∀ {o : HO}, (upd (upd (upd H p (exd p [("year", y)])) a (exo a e.NoDay (some p))) p o) a = some (exo a e.NoDay (some p)) := fun {o} => by rw [upd_ne (Ne.symm ne), upd_same]
    refine ⟨_, rfl, _, rfl, a, e.NoDay, rfl, T.oex, T.fD, .inr ⟨p, _, e2, upd_same, (by show 2 ≤ 900; decide), ?_⟩⟩
    refine q p _ np ne (by rw [upd_ne (Ne.symm ne)]; exact e2) upd_same fun b hb hp => ?_
    rw [upd_ne hp, upd_ne hp, upd_ne hb, upd_ne hp]
/-- what raising NoDay asks -/
structure Nd (P : Program) (w : World) (K : PySem.W.Frag) (mg : Str → Option Value) (base : Heap) (e : Ex) (f : Addr) (fd : FuncData) : Prop where
  ok : FnOk P w K mg base CX0 1 f fd ["self", "year", "month", "day"] (spND e)
  at_ : PySem.W.findIn K (.ref e.NoDay) "__init__" = some (some (.ref f))
  ty : PySem.W.typeIn K (.ref f) = some (.type "function")
  bd : Binds K fd ["self", "year", "month", "day"] []
theorem raised {e : Ex} {H : Hp} {y m d : V} {E : XK} (q : Rz e H y m d E) : ∀ a, H a = none → spND e [.ref a, y, m, d] (upd H a (exo a e.NoDay none))
    (fun z H2 => z = .non ∧ ∃ (p : Addr) (fs : List (Str × V)), H2 a = some (exo a e.NoDay (some p)) ∧ H2 p = some (exd p fs) ∧ H p = none ∧ E (.ref e.NoDay) (some p) (upd (del H2 a) p (.xd fs))) E0 := fun a na => by
  refine ⟨a, y, m, d, rfl, upd_same, fun p H' np ne e1 e2 off => ⟨rfl, p, _, e1, e2, ?_, ?_⟩⟩
  · rw [upd_ne ne] at np
    exact np
  · rw [upd_ne ne] at np
    rw [made_x na ne (fun b hb hp => by rw [off b hb hp, upd_ne hb])]
    exact q p _ (same_upd np) upd_same
abbrev psD : List Str := ["self", "year", "month", "day"]
theorem ok_init {f : Addr} {fd : FuncData} {e : Ex} {fN : Addr} {fdN : FuncData} (F : FunD K "__init__" "Day.__init__" (defArgs sDayInit) (defBody sDayInit) (defScope sDayInit) [.non, .non] [] f fd) (T : Txt K mg C e) (N : Nd P w K mg base e fN fdN) (cM : Ca P w K mg base 3 "makes_day" ["year", "month", "day"] (spMakes K)) : FnOk P w K mg base (L2.CX P w) 4 f fd ["self", "year", "month", "day"] (spInit K C e) := by
  refine F.ok (CX := L2.CX P w) scDayInit (fun vs H Q E h => ?_) (fun cdv A outer s H vs Q E hr h => ?_)
  · obtain ⟨x, dx, y, m, d, dy, dm, dd, rfl, hx, hy, hm, hd, q1, q2⟩ := h
    rfl
  · obtain ⟨x, dx, y, m, d, dy, dm, dd, rfl, hx, hy, hm, hd, q1, q2⟩ := h
    refine ⟨_, (pss_cons (ps_if (pt_not (pt_val (pe_ca cM hr (by decide) (by rfl) (pa_cons (pv 1) (pa_cons (pv 2) (pa_cons (pv 3) pa_nil)))))) (pss_one (ps_raise rfl (takes_of rfl rfl rfl rfl) (pmk_oex T.oex N.at_ N.ty N.ok (hr.mono (by decide)) N.bd .nil pass0 (by rfl) T.mNoDay (pa_cons (pv 1) (pa_cons (pv 2) (pa_cons (pv 3) pa_nil)))))) pss_nil)
      (pss_cons (ps_fld (pv 0) (pv 1) rfl)
      (pss_cons (ps_fld (pv 0) (pv 2) rfl)
      (pss_one (ps_fld (pv 0) (pv 3) rfl))))), ?_⟩
    refine ⟨_, rfl, _, rfl, _, rfl, y, m, d, dy, dm, dd, rfl, hy, hm, hd, _, rfl, ?_⟩
    cases c : goodV y m d with
    | true =>
      refine iteF ⟨_, rfl, _, rfl, x, C, dx, [], rfl, hx, T.cl, T.nY, (by decide), ?_⟩
      refine ⟨_, rfl, _, rfl, x, C, dx, _, rfl, upd_same, T.cl, T.nM, (by show 1 < 1000; decide), ?_⟩
      refine ⟨_, rfl, _, rfl, x, C, dx, _, rfl, upd_same, T.cl, T.nD, ?_, ?_⟩
      · show (putF "month" m [(("year" : Str), y)]).length < 1000
        unfold putF
        split <;> simp [putF]
      · rw [upd_upd, upd_upd]
        exact q1 c _ fun b o e n => by rw [upd_ne n]; exact e
    | false => exact iteT ⟨_, rfl, _, rfl, _, rfl, (by show 3 ≤ 1000; decide), raised (q2 c)⟩
def gC {α : Type} (us ws : List α) : List α := us ++ (match ws with | [d, m, y] => [y, m, d] | _ => [])
theorem gC_rel {vs zs : List V} {us ws : List Value} (r : Vals vs us) (z : Vals zs ws) : Vals (gC vs zs) (gC us ws) := by
  refine Vals.append r ?_
  match zs, ws, z with
  | [], _, .nil => exact .nil
  | [_], _, .cons _ .nil => exact .nil
  | [_, _], _, .cons _ (.cons _ .nil) => exact .nil
  | [_, _, _], _, .cons a (.cons b (.cons c .nil)) => exact .cons c (.cons b (.cons a .nil))
  | _ :: _ :: _ :: _ :: _, _, .cons _ (.cons _ (.cons _ (.cons _ _))) => exact .nil
/-- a Day is made -/
structure Dm (P : Program) (w : World) (K : PySem.W.Frag) (mg : Str → Option Value) (base : Heap) (C : Addr) (e : Ex) (f : Addr) (fd : FuncData) : Prop where
  mm : Mk K C f
  ok : FnOk P w K mg base (L2.CX P w) 4 f fd psD (spInit K C e)
  b4 : Binds K fd psD []
  k1 : KBn K fd psD 1 ["day", "month", "year"] (fun us ws => gC us ws) (fun vs zs => gC vs zs)
theorem dm_mk {e : Ex} {f : Addr} {fd : FuncData} (F : FunD K "__init__" "Day.__init__" (defArgs sDayInit) (defBody sDayInit) (defScope sDayInit) [.non, .non] [] f fd) (mk : Mk K C f)
    (ok : FnOk P w K mg base (L2.CX P w) 4 f fd psD (spInit K C e)) : Dm P w K mg base C e f fd := by
  refine ⟨mk, ok, ?_, ?_⟩
  · obtain ⟨ds, r, b⟩ := F.binds1 (ps := psD) 4 2 (by simp) rfl fun T kV doc pm an cdv ct us its h1 h2 => by
      match us, its, h1, h2 with
      | [_, _, _, _], [_, _], _, _ => exact ⟨_, rfl, rfl⟩
    cases r
    exact b
  · obtain ⟨its, z⟩ := F.kbindsD (ps := psD) 1 ["day", "month", "year"] (fun us _ ws => gC us ws) (by simp) (fun r _ t => gC_rel r t) fun T kV doc pm an cdv ct us its ws h1 h2 h3 => by
      match us, its, ws, h1, h2, h3 with
      | [_], [_, _], [_, _, _], _, _, _ => exact ⟨_, rfl, rfl⟩
    exact z
end
end K2
set_option Elab.async false
set_option linter.all false
set_option maxRecDepth 100000
set_option maxHeartbeats 4000000
set_option pp.maxSteps 400
set_option pp.deepTerms false
namespace K2
open PySem PySem.Spec PyProof.Rows L2
open Xk Az
section
variable {P : Program} {w : World} {K : PySem.W.Frag} {mg : Str → Option Value} {base : Heap} {C : Addr}
abbrev far : Int := 1000000
def spHand (K : PySem.W.Frag) : Sp := fun vs H Q _ => ∃ (a : Addr) (k : Int) (ns : List Int), vs = [.ref a, .int k] ∧ 0 ≤ k ∧ SqL K H a (ns.map V.int) ∧
  ∀ p g m, H p = none → 0 ≤ g → 0 ≤ m → m < 2305843009213693951 → Q (.ref p) (upd H p (.lst [.int g, .int m, .int 0]))
def spTake : Sp := fun vs H Q _ => ∃ (h : Addr) (many n : Int), vs = [.ref h, .int many] ∧ 0 < many ∧ many < 10 ^ 30 ∧ Hand n H h ∧ n ≤ far ∧
  ∀ d H', 0 ≤ d → d < many → Hand (n + 1) H' h → But h H H' → Q (.int d) H'
def spPick : Sp := fun vs H Q _ => ∃ (h l : Addr) (xs : List V) (n : Int), vs = [.ref h, .ref l] ∧ H l = some (.lst xs) ∧ l ≠ h ∧ xs ≠ [] ∧ xs.length < 1000 ∧ Hand n H h ∧ n ≤ far ∧
  ∀ v H', v ∈ xs → Hand (n + 1) H' h → But h H H' → Q v H'
def spLast : Sp := fun vs H Q _ => ∃ y m : Int, vs = [.int y, .int m] ∧ ∀ H', Same H H' → Q (.int (lastDay y m)) H'
theorem wide30 {g many : Int} (m1 : 0 < many) (m2 : many < 10 ^ 30) : CDivW g many := by
  have h : (10 : Int) ^ 30 < 2 ^ 110 := by decide
  exact wide_div (b := 110) m1 (by omega) (by decide) (by decide)
theorem b01 (b : Bool) : -(2 ^ 64) < (if b = true then (1 : Int) else 0) ∧ (if b = true then (1 : Int) else 0) < 2 ^ 64 := by cases b <;> decide
theorem b0 (b : Bool) : 0 ≤ (if b = true then (1 : Int) else 0) := by cases b <;> decide
theorem ok_hand {f : Addr} {fd : FuncData} {e : Ex} (D : Df K mg "_law_hand" ["_law_script", "_law_k"] sHand f fd) (T : Txt K mg C e) : FnOk P w K mg base CX0 1 f fd ["_law_script", "_law_k"] (spHand K) := by
  refine D.fn.ok scHand (fun vs H Q E h => ?_) (fun cdv A outer s H vs Q E hr h => ?_)
  · obtain ⟨a, k, ns, rfl, _⟩ := h
    rfl
  · obtain ⟨a, k, ns, rfl, hk, hS, q⟩ := h
    refine ⟨_, pss_cons (ps_set (i := 2) scHand.nd rfl (.inl rfl) (pe_ifExp (pt_cmpR op_lt (pv 1) (pe_callB call_len_seq (by rfl) T.len PySem.boot_len (pa_cons (pv 0) pa_nil)) (nomark _)) (pe_ix ix_list (pv 0) (pv 1) (fun _ _ => rfl)) pe_int))
      (pss_cons (ps_set (i := 3) scHand.nd rfl (.inl rfl) (pe_op op_mul (pe_op op_mod (pe_callB call_abs (by rfl) T.abs (by decide +kernel) (pa_cons (pv 2) pa_nil)) (pe_op op_mulW (pe_op op_pow pe_int pe_int) (pe_op op_pow pe_int pe_int)))
        (pe_callTy call_int1 (by rfl) T.int (by decide +kernel) (pa_cons (pe_cmpR op_ge (pe_callB call_abs (by rfl) T.abs (by decide +kernel) (pa_cons (pv 2) pa_nil)) (pe_op op_pow pe_int pe_int) (nomark _)) pa_nil))))
      (pss_one (ps_ret (pe_lst (pa_cons (pv 3) (pa_cons (pe_op op_mod (pe_op op_add (pe_op op_add (pe_op op_mod (pv 2) pe_int) (pe_op op_mul pe_int (pv 1))) pe_int) pe_int) (pa_cons pe_int pa_nil))))))), ?_⟩
    refine ⟨_, rfl, _, rfl, a, _, rfl, .inl hS, k, _, rfl, rfl, _, rfl, ?_⟩
    refine ite2 (fun e => ?_) (fun e => ?_)
    · have hlt : k < ((ns.map V.int).length : Int) := of_decide_eq_true e
      rw [List.length_map] at hlt
      obtain ⟨j, rfl⟩ : ∃ j : Nat, k = (j : Int) := ⟨k.toNat, by omega⟩
      have hj : j < ns.length := by omega
      have hat : atI (ns.map V.int) ((j : Nat) : Int) = some (.int ns[j]) := atI_nat (by rw [List.getElem?_map, List.getElem?_eq_getElem hj]; rfl)
      refine ⟨_, rfl, _, rfl, a, _, _, _, rfl, rfl, hS, hat, ?_⟩
      refine ⟨_, rfl, ns[j], rfl, 10, 60, rfl, rfl, ⟨by decide, by decide, by decide⟩, 10, 60, rfl, rfl, ⟨by decide, by decide, by decide⟩, _, _, rfl, rfl, ?_, _, _, rfl, rfl, ?_, ?_⟩
      · exact wide_mul (a := 300) (b := 300) (by decide +kernel) (by decide +kernel) (by decide) (by decide) (by decide)
      · show (0 : Int) < 10 ^ (60 : Int).toNat * 10 ^ (60 : Int).toNat
        decide +kernel
      · refine ⟨_, rfl, ns[j], rfl, 10, 18, rfl, rfl, ⟨by decide, by decide, by decide⟩, _, _, rfl, rfl, .inr ⟨_, rfl, _, _, rfl, rfl, .inr ?_, ?_⟩⟩
        · exact b01 _
        · refine ⟨_, rfl, _, rfl, ns[j], 2305843009213693951, rfl, rfl, (by show (0 : Int) < 2305843009213693951; decide), _, rfl, 7919, _, rfl, rfl, .inl (by decide), _, _, rfl, rfl, _, _, rfl, rfl, _, _, rfl, rfl, (by show (0 : Int) < 2305843009213693951; decide), (by show 3 ≤ sizeLine; decide), fun p np => ?_⟩
          refine q p _ _ np ?_ (Int.emod_nonneg _ (by decide)) (Int.emod_lt_of_pos _ (by decide))
          refine Int.mul_nonneg (Int.emod_nonneg _ (by decide +kernel)) ?_
          exact b0 _
    · refine ⟨_, rfl, 0, rfl, 10, 60, rfl, rfl, ⟨by decide, by decide, by decide⟩, 10, 60, rfl, rfl, ⟨by decide, by decide, by decide⟩, _, _, rfl, rfl, ?_, _, _, rfl, rfl, ?_, ?_⟩
      · exact wide_mul (a := 300) (b := 300) (by decide +kernel) (by decide +kernel) (by decide) (by decide) (by decide)
      · show (0 : Int) < 10 ^ (60 : Int).toNat * 10 ^ (60 : Int).toNat
        decide +kernel
      · refine ⟨_, rfl, 0, rfl, 10, 18, rfl, rfl, ⟨by decide, by decide, by decide⟩, _, _, rfl, rfl, .inr ⟨_, rfl, _, _, rfl, rfl, .inr ?_, ?_⟩⟩
        · exact b01 _
        · refine ⟨_, rfl, _, rfl, 0, 2305843009213693951, rfl, rfl, (by show (0 : Int) < 2305843009213693951; decide), _, rfl, 7919, _, rfl, rfl, .inl (by decide), _, _, rfl, rfl, _, _, rfl, rfl, _, _, rfl, rfl, (by show (0 : Int) < 2305843009213693951; decide), (by show 3 ≤ sizeLine; decide), fun p np => ?_⟩
          refine q p _ _ np ?_ (Int.emod_nonneg _ (by decide)) (Int.emod_lt_of_pos _ (by decide))
          refine Int.mul_nonneg (Int.emod_nonneg _ (by decide +kernel)) ?_
          exact b0 _
theorem ok_take {f : Addr} {fd : FuncData} (D : Df K mg "_law_take" ["_law_hand_here", "_law_many"] sTake f fd) : FnOk P w K mg base CX0 1 f fd ["_law_hand_here", "_law_many"] spTake := by
  refine D.fn.ok scTake (fun vs H Q E h => ?_) (fun cdv A outer s H vs Q E hr h => ?_)
  · obtain ⟨h, many, n, rfl, _⟩ := h
    rfl
  · obtain ⟨h, many, n, rfl, m1, m2, ⟨g, m, c, hh, g0, k0, k1, c0, c1⟩, hn, q⟩ := h
    refine ⟨_, pss_cons (ps_if (pt_cmpR op_gt (pe_ix ix_list (pv 0) pe_int (fun _ _ => rfl)) pe_int (nomark _))
        (pss_cons (ps_set (i := 2) scTake.nd rfl (.inl rfl) (pe_op op_mod (pe_ix ix_list (pv 0) pe_int (fun _ _ => rfl)) (pv 1)))
        (pss_cons (ps_asg (pe_op op_fdivW (pe_ix ix_list (pv 0) pe_int (fun _ _ => rfl)) (pv 1)) (pg_sub (pv 0) pe_int set_list))
        (pss_one (ps_ret (pv 2))))) pss_nil)
      (pss_cons (ps_asg (pe_op op_add (pe_ix ix_list (pv 0) pe_int (fun _ _ => rfl)) pe_int) (pg_sub (pv 0) pe_int set_list))
      (pss_cons (ps_set (i := 3) scTake.nd rfl (.inl rfl) (pe_op op_mod (pe_op op_mul (pe_op op_add (pe_op op_add (pe_ix ix_list (pv 0) pe_int (fun _ _ => rfl))
          (pe_op op_mul (pe_op op_mul pe_int (pe_ix ix_list (pv 0) pe_int (fun _ _ => rfl))) (pe_ix ix_list (pv 0) pe_int (fun _ _ => rfl)))) pe_int) pe_int) pe_int))
      (pss_cons (ps_set (i := 3) scTake.nd rfl (.inl rfl) (pe_op op_mod (pe_op op_mul (pv 3) (pe_op op_add (pe_op op_mod (pv 3) pe_int) (pe_op op_mul pe_int (pe_ix ix_list (pv 0) pe_int (fun _ _ => rfl))))) pe_int))
      (pss_one (ps_ret (pe_op op_mod (pe_op op_add (pe_op op_fdiv (pv 3) pe_int) (pe_op op_fdiv (pv 3) pe_int)) (pv 1))))))), ?_⟩
    have far' : n ≤ 1000000 := hn
    refine ⟨_, rfl, h, _, 0, _, rfl, rfl, SqL.of hh, atI_nat (j := 0) rfl, g, 0, rfl, rfl, _, rfl, ite2 (fun e => ?_) (fun e => ?_)⟩
    · refine ⟨_, rfl, h, _, 0, _, rfl, rfl, SqL.of hh, atI_nat (j := 0) rfl, _, rfl, g, many, rfl, rfl, m1, ?_⟩
      refine ⟨_, rfl, h, _, 0, _, rfl, rfl, SqL.of hh, atI_nat (j := 0) rfl, _, rfl, g, many, rfl, rfl, wide30 m1 m2, _, rfl, h, _, 0, 0, rfl, rfl, hh, rfl, ?_⟩
      refine ⟨_, rfl, ?_⟩
      exact q _ _ (Int.emod_nonneg _ (by omega)) (Int.emod_lt_of_pos _ m1) ⟨g / many, m, c, upd_same, Int.ediv_nonneg g0 (by omega), k0, k1, c0, by omega⟩ but_upd
    · refine ⟨_, rfl, h, _, 2, _, rfl, rfl, SqL.of hh, atI_nat (j := 2) rfl, c, 1, rfl, rfl, _, rfl, h, _, 2, 2, rfl, rfl, hh, rfl, ?_⟩
      have h2 : (upd H h (.lst [.int g, .int m, .int (c + 1)])) h = some (.lst [.int g, .int m, .int (c + 1)]) := upd_same
      have s2 := SqL.of (K := K) h2
      refine ⟨_, rfl, h, _, 1, _, rfl, rfl, s2, atI_nat (j := 1) rfl, _, rfl, h, _, 2, _, rfl, rfl, s2, atI_nat (j := 2) rfl, 65537, c + 1, rfl, rfl, .inl (by decide), _, rfl, h, _, 2, _, rfl, rfl, s2, atI_nat (j := 2) rfl, _, c + 1, rfl, rfl, .inr (by omega),
        m, _, rfl, rfl, _, 11, rfl, rfl, _, 48271, rfl, rfl, .inr (by decide), _, 2305843009213693921, rfl, rfl, (by show (0 : Int) < 2305843009213693921; decide), ?_⟩
      generalize (m + 65537 * (c + 1) * (c + 1) + 11) * 48271 = z
      have z0 : 0 ≤ z % 2305843009213693921 := Int.emod_nonneg _ (by decide)
      have z1 : z % 2305843009213693921 < 2305843009213693921 := Int.emod_lt_of_pos _ (by decide)
      refine ⟨_, rfl, _, rfl, _, 1000003, rfl, rfl, (by show (0 : Int) < 1000003; decide), _, rfl, h, _, 2, _, rfl, rfl, s2, atI_nat (j := 2) rfl, 99991, c + 1, rfl, rfl, .inl (by decide), _, _, rfl, rfl, _, _, rfl, rfl, .inl (by omega),
        _, 2305843009213693907, rfl, rfl, (by show (0 : Int) < 2305843009213693907; decide), ?_⟩
      refine ⟨_, rfl, _, 97, rfl, rfl, ⟨by decide, by decide⟩, _, rfl, _, 1000033, rfl, rfl, ⟨by decide, by decide⟩, _, _, rfl, rfl, _, rfl, _, many, rfl, rfl, m1, ?_⟩
      exact q _ _ (Int.emod_nonneg _ (by omega)) (Int.emod_lt_of_pos _ m1) ⟨g, m, c + 1, h2, g0, k0, k1, by omega, by omega⟩ but_upd
theorem ok_pick {f : Addr} {fd : FuncData} {e : Ex} (D : Df K mg "_law_pick" ["_law_hand_here", "_law_some"] sPick f fd) (T : Txt K mg C e) (cT : Ca P w K mg base 1 "_law_take" ["_law_hand_here", "_law_many"] spTake) :
    FnOk P w K mg base CX0 2 f fd ["_law_hand_here", "_law_some"] spPick := by
  refine D.fn.ok scPick (fun vs H Q E h => ?_) (fun cdv A outer s H vs Q E hr h => ?_)
  · obtain ⟨h, l, xs, n, rfl, _⟩ := h
    rfl
  · obtain ⟨h, l, xs, n, rfl, hl, nl, ne, few, hh, hn, q⟩ := h
    refine ⟨_, pss_one (ps_ret (pe_ix ix_list (pv 1) (pe_ca cT hr (by decide) (by rfl) (pa_cons (pv 0) (pa_cons (pe_callB call_len_seq (by rfl) T.len PySem.boot_len (pa_cons (pv 1) pa_nil)) pa_nil))) (fun _ _ => rfl))), ?_⟩
    have pos : 0 < xs.length := List.length_pos_iff.mpr ne
    refine ⟨_, rfl, _, rfl, _, rfl, l, xs, rfl, .inl (SqL.of hl), h, (xs.length : Int), n, rfl, by omega, by omega, hh, hn, fun d H' d0 d1 hh' bt => ?_⟩
    obtain ⟨j, rfl⟩ : ∃ j : Nat, d = (j : Int) := ⟨d.toNat, by omega⟩
    have hj : j < xs.length := by omega
    refine ⟨l, xs, _, xs[j], rfl, rfl, SqL.of (bt _ _ nl hl), atI_nat (List.getElem?_eq_getElem hj), ?_⟩
    exact q _ H' (List.getElem_mem hj) hh' bt
theorem ok_last {f : Addr} {fd : FuncData} (D : Df K mg "_law_last" ["_law_y", "_law_m"] sLast f fd) : FnOk P w K mg base CX0 1 f fd ["_law_y", "_law_m"] spLast := by
  refine D.fn.ok scLast (fun vs H Q E h => ?_) (fun cdv A outer s H vs Q E hr h => ?_)
  · obtain ⟨y, m, rfl, _⟩ := h
    rfl
  · obtain ⟨y, m, rfl, q⟩ := h
    refine ⟨_, pss_cons (ps_if (pt_cmpR op_in_seq (pv 1) (pe_tup (pa_cons pe_int (pa_cons pe_int (pa_cons pe_int (pa_cons pe_int pa_nil))))) (by rfl)) (pss_one (ps_ret pe_int)) pss_nil)
      (pss_cons (ps_if (pt_cmpR op_ne (pv 1) pe_int (nomark _)) (pss_one (ps_ret pe_int)) pss_nil)
      (pss_cons (ps_par (i := 2) (j := 3) (by rfl) scLast.nd rfl rfl (by decide) rfl rfl (pa_cons (pe_cmpR op_eq (pe_op op_mul (pe_op op_fdiv (pv 0) pe_int) pe_int) (pv 0) (nomark _))
        (pa_cons (pe_cmpR op_eq (pe_op op_mul (pe_op op_fdiv (pv 0) pe_int) pe_int) (pv 0) (nomark _)) pa_nil)) (by rfl))
      (pss_one (ps_ret (pe_ifExp (PW.pt (pw_and (pt_val (pv 2)) (pw_and1 (PW.pt (pw_or (pt_not (pt_val (pv 3))) (pw_or1 (pt_cmpR op_eq (pe_op op_mul (pe_op op_fdiv (pv 0) pe_int) pe_int) (pv 0) (nomark _)))))))) pe_int pe_int))))), ?_⟩
    refine ⟨_, rfl, (by show 4 ≤ sizeLine; decide), fun t ht => ?_⟩
    have s1 : Same H (upd H t (.tup [.int 4, .int 6, .int 9, .int 11])) := same_upd ht
    refine ⟨t, _, rfl, .inr (SqT.of upd_same), rfl, rfl, _, rfl, ?_⟩
    have q1 := q _ s1
    have e1 : inV (V.int m) [.int 4, .int 6, .int 9, .int 11] = decide (m = 4 ∨ m = 6 ∨ m = 9 ∨ m = 11) := by
      show ((4 : Int) == m || ((6 : Int) == m || ((9 : Int) == m || ((11 : Int) == m || false)))) = _
      by_cases a : m = 4
      · subst a
        rfl
      · by_cases b : m = 6
        · subst b
          rfl
        · by_cases c : m = 9
          · subst c
            rfl
          · by_cases d : m = 11
            · subst d
              rfl
            · rw [beq_eq_false_iff_ne.mpr (Ne.symm a), beq_eq_false_iff_ne.mpr (Ne.symm b), beq_eq_false_iff_ne.mpr (Ne.symm c), beq_eq_false_iff_ne.mpr (Ne.symm d), decide_eq_false (by omega)]
              rfl
    show (if inV (V.int m) [.int 4, .int 6, .int 9, .int 11] = true then _ else _)
    rw [e1]
    refine ite2 (fun e => ?_) (fun e => ?_)
    · have z : lastDay y m = 30 := by
        unfold lastDay
        rw [if_pos (of_decide_eq_true e)]
      rw [z] at q1
      exact q1
    · have n1 : ¬ (m = 4 ∨ m = 6 ∨ m = 9 ∨ m = 11) := fun z => e (decide_eq_true z)
      refine ⟨_, rfl, rfl, _, rfl, ?_⟩
      rw [dInt]
      refine ite2 (fun c => ?_) (fun c => ?_)
      · have z : lastDay y m = 31 := by
          have c' : m ≠ 2 := by simpa using c
          unfold lastDay
          rw [if_neg n1, if_pos c']
        rw [z] at q1
        exact q1
      · have c' : m = 2 := by simpa using c
        have zz : lastDay y m = if leap y = true then 29 else 28 := by
          unfold lastDay
          rw [if_neg n1, if_neg (by simpa using c')]
        refine ⟨_, rfl, y, 4, rfl, rfl, ⟨by decide, by decide⟩, _, 4, rfl, rfl, .inr (by decide), _, rfl, rfl, _, rfl, y, 100, rfl, rfl, ⟨by decide, by decide⟩, _, 100, rfl, rfl, .inr (by decide), _, rfl, rfl, _, _, rfl, ?_⟩
        rw [dInt, dInt]
        refine ⟨_, rfl, _, rfl, ?_⟩
        refine ite2 (fun a4 => ?_) (fun a4 => ?_)
        · have b4 : y % 4 = 0 := by
            have := of_decide_eq_true a4
            omega
          refine ⟨_, rfl, _, rfl, ?_⟩
          refine ite2 (fun a1 => ?_) (fun a1 => ?_)
          · have b1 : ¬ y % 100 = 0 := by
              have : ¬ y / 100 * 100 = y := by simpa using a1
              omega
            have l : leap y = true := by
              unfold leap
              simp [b4, b1]
            rw [zz, l, if_pos rfl] at q1
            exact iteT q1
          · have b1 : y % 100 = 0 := by
              have : y / 100 * 100 = y := by simpa using a1
              omega
            refine ⟨_, rfl, y, 400, rfl, rfl, ⟨by decide, by decide⟩, _, 400, rfl, rfl, .inr (by decide), _, rfl, rfl, _, rfl, ?_⟩
            rw [dInt]
            refine ite2 (fun a0 => ?_) (fun a0 => ?_)
            · have b0 : y % 400 = 0 := by
                have := of_decide_eq_true a0
                omega
              have l : leap y = true := by
                unfold leap
                simp [b4, b0]
              rw [zz, l, if_pos rfl] at q1
              exact q1
            · have b0 : ¬ y % 400 = 0 := by
                have : ¬ y / 400 * 400 = y := by simpa using a0
                omega
              have l : leap y = false := by
                unfold leap
                simp [b1, b0]
              rw [zz, l] at q1
              exact q1
        · have b4 : ¬ y % 4 = 0 := by
            have : ¬ y / 4 * 4 = y := by simpa using a4
            omega
          have l : leap y = false := by
            unfold leap
            simp [b4]
          rw [zz, l] at q1
          exact iteF q1
abbrev pV (y : Int) (m d : Option Int) : List V := [.int y, oV m, oV d]
def spParts : Sp := fun vs H Q _ => ∃ (h : Addr) (n : Int), vs = [.ref h] ∧ Hand n H h ∧ n + 20 ≤ far ∧
  ∀ t y m d H', H' t = some (.tup (pV y m d)) → Good y m d → Hand (n + 9) H' h → But h H H' → Q (.ref t) H'
theorem ok_parts {f : Addr} {fd : FuncData} (D : Df K mg "_law_parts" ["_law_hand_here"] sParts f fd) (cT : Ca P w K mg base 1 "_law_take" ["_law_hand_here", "_law_many"] spTake)
    (cP : Ca P w K mg base 2 "_law_pick" ["_law_hand_here", "_law_some"] spPick) (cL : Ca P w K mg base 1 "_law_last" ["_law_y", "_law_m"] spLast) : FnOk P w K mg base CX0 3 f fd ["_law_hand_here"] spParts := by
  refine D.fn.ok scParts (fun vs H Q E h => ?_) (fun cdv A outer s H vs Q E hr h => ?_)
  · obtain ⟨h, n, rfl, _⟩ := h
    rfl
  · obtain ⟨h, n, rfl, hh, hn, q⟩ := h
    have fr : n + 20 ≤ 1000000 := hn
    refine ⟨_, pss_cons (ps_set (i := 1) scParts.nd rfl (.inl rfl) (pe_lst (pa_cons (pe_op op_add pe_int (pe_ca cT hr (by decide) (by rfl) (pa_cons (pv 0) (pa_cons pe_int pa_nil))))
          (pa_cons pe_int (pa_cons pe_int (pa_cons (pe_op op_mul pe_int (pe_op op_add pe_int (pe_ca cT hr (by decide) (by rfl) (pa_cons (pv 0) (pa_cons pe_int pa_nil)))))
            (pa_cons (pe_op op_mul pe_int (pe_op op_add pe_int (pe_ca cT hr (by decide) (by rfl) (pa_cons (pv 0) (pa_cons pe_int pa_nil))))) pa_nil)))))))
      (pss_cons (ps_set (i := 2) scParts.nd rfl (.inl rfl) (pe_ca cP hr (by decide) (by rfl) (pa_cons (pv 0) (pa_cons (pv 1) pa_nil))))
      (pss_cons (ps_par (i := 3) (j := 4) (by rfl) scParts.nd rfl rfl (by decide) rfl rfl (pa_cons (pe_ca cT hr (by decide) (by rfl) (pa_cons (pv 0) (pa_cons pe_int pa_nil)))
          (pa_cons (pe_ca cP hr (by decide) (by rfl) (pa_cons (pv 0) (pa_cons (pe_lst (pa_cons (pe_op op_add pe_int (pe_ca cT hr (by decide) (by rfl) (pa_cons (pv 0) (pa_cons pe_int pa_nil))))
            (pa_cons pe_int (pa_cons pe_int (pa_cons pe_int (pa_cons pe_int pa_nil)))))) pa_nil))) pa_nil)) (by rfl))
      (pss_cons (ps_set (i := 5) scParts.nd rfl (.inl rfl) (pe_ca cL hr (by decide) (by rfl) (pa_cons (pv 2) (pa_cons (pv 4) pa_nil))))
      (pss_cons (ps_set (i := 6) scParts.nd rfl (.inl rfl) (pe_ca cP hr (by decide) (by rfl) (pa_cons (pv 0) (pa_cons (pe_lst (pa_cons (pe_op op_add pe_int (pe_ca cT hr (by decide) (by rfl) (pa_cons (pv 0) (pa_cons (pv 5) pa_nil))))
            (pa_cons pe_int (pa_cons (pv 5) pa_nil)))) pa_nil))))
      (pss_one (ps_ret (pe_ix ix_list (pe_lst (pa_cons (pe_tup (pa_cons (pv 2) (pa_cons pe_non (pa_cons pe_non pa_nil)))) (pa_cons (pe_tup (pa_cons (pv 2) (pa_cons (pv 4) (pa_cons pe_non pa_nil))))
          (pa_cons (pe_tup (pa_cons (pv 2) (pa_cons (pv 4) (pa_cons (pv 6) pa_nil)))) pa_nil)))) (pv 3) (fun _ _ => rfl)))))))), ?_⟩
    -- some
    refine ⟨_, rfl, h, 9999, n, rfl, by decide, by decide, hh, by omega, fun a1 H1 a10 a11 h1 b1 => ?_⟩
    refine ⟨1, a1, rfl, rfl, ?_⟩
    refine ⟨_, rfl, h, 2499, n + 1, rfl, by decide, by decide, h1, by omega, fun a2 H2 a20 a21 h2 b2 => ?_⟩
    refine ⟨1, a2, rfl, rfl, 4, _, rfl, rfl, .inl (by decide), ?_⟩
    refine ⟨_, rfl, h, 99, n + 1 + 1, rfl, by decide, by decide, h2, by omega, fun a3 H3 a30 a31 h3 b3 => ?_⟩
    refine ⟨1, a3, rfl, rfl, 100, _, rfl, rfl, .inl (by decide), (by show 5 ≤ sizeLine; decide), fun l nl => ?_⟩
    -- y
    refine ⟨_, rfl, _, rfl, h, l, _, n + 1 + 1 + 1, rfl, upd_same, h3.fresh nl, by simp, by show 5 < 1000; decide, h3.same (same_upd nl), by omega, fun yv H4 my h4 b4 => ?_⟩
    obtain ⟨y, rfl, y1, y2⟩ : ∃ y : Int, yv = .int y ∧ 1 ≤ y ∧ y ≤ 9999 := by
      simp only [List.mem_cons, List.not_mem_nil, or_false] at my
      rcases my with e | e | e | e | e
      · exact ⟨_, e, by omega, by omega⟩
      · exact ⟨_, e, by decide, by decide⟩
      · exact ⟨_, e, by decide, by decide⟩
      · exact ⟨_, e, by omega, by omega⟩
      · exact ⟨_, e, by omega, by omega⟩
    -- tells, m
    refine ⟨_, rfl, h, 3, n + 1 + 1 + 1 + 1, rfl, by decide, by decide, h4, by omega, fun tl H5 t0 t1 h5 b5 => ?_⟩
    refine ⟨_, rfl, _, rfl, h, 12, n + 1 + 1 + 1 + 1 + 1, rfl, by decide, by decide, h5, by omega, fun a6 H6 a60 a61 h6 b6 => ?_⟩
    refine ⟨1, a6, rfl, rfl, (by show 5 ≤ sizeLine; decide), fun l2 nl2 => ?_⟩
    refine ⟨h, l2, _, n + 1 + 1 + 1 + 1 + 1 + 1, rfl, upd_same, h6.fresh nl2, by simp, by show 5 < 1000; decide, h6.same (same_upd nl2), by omega, fun mv H7 mm h7 b7 => ?_⟩
    obtain ⟨m, rfl, m1, m2⟩ : ∃ m : Int, mv = .int m ∧ 1 ≤ m ∧ m ≤ 12 := by
      simp only [List.mem_cons, List.not_mem_nil, or_false] at mm
      rcases mm with e | e | e | e | e
      · exact ⟨_, e, by omega, by omega⟩
      · exact ⟨_, e, by decide, by decide⟩
      · exact ⟨_, e, by decide, by decide⟩
      · exact ⟨_, e, by decide, by decide⟩
      · exact ⟨_, e, by decide, by decide⟩
    refine ⟨_, _, rfl, ?_⟩
    -- last_here
    refine ⟨_, rfl, _, rfl, y, m, rfl, fun H8 s8 => ?_⟩
    have h8 := h7.same s8
    have ld := lastDay_ge y m
    -- d
    refine ⟨_, rfl, _, rfl, _, rfl, h, lastDay y m, n + 1 + 1 + 1 + 1 + 1 + 1 + 1, rfl, by omega, by omega, h8, by omega, fun a9 H9 a90 a91 h9 b9 => ?_⟩
    refine ⟨1, a9, rfl, rfl, _, rfl, (by show 3 ≤ sizeLine; decide), fun l3 nl3 => ?_⟩
    refine ⟨h, l3, _, n + 1 + 1 + 1 + 1 + 1 + 1 + 1 + 1, rfl, upd_same, h9.fresh nl3, by simp, by show 3 < 1000; decide, h9.same (same_upd nl3), by omega, fun dv HA dm hA bA => ?_⟩
    obtain ⟨d, rfl, d1, d2⟩ : ∃ d : Int, dv = .int d ∧ 1 ≤ d ∧ d ≤ lastDay y m := by
      simp only [List.mem_cons, List.not_mem_nil, or_false] at dm
      rcases dm with e | e | e
      · exact ⟨_, e, by omega, by omega⟩
      · exact ⟨_, e, by decide, by omega⟩
      · exact ⟨_, e, by omega, by omega⟩
    -- the three
    refine ⟨_, rfl, (by show 3 ≤ sizeLine; decide), fun u1 n1 => ?_⟩
    refine ⟨_, rfl, _, rfl, (by show 3 ≤ sizeLine; decide), fun u2 n2 => ?_⟩
    refine ⟨_, rfl, _, rfl, _, rfl, (by show 3 ≤ sizeLine; decide), fun u3 n3 => ?_⟩
    refine ⟨(by show 3 ≤ sizeLine; decide), fun l4 nl4 => ?_⟩
    have sB := (((same_upd n1).trans (same_upd n2)).trans (same_upd n3)).trans (same_upd nl4 (o := .lst [.ref u1, .ref u2, .ref u3]))
    have hB := (hA.same sB).mono (show n + 1 + 1 + 1 + 1 + 1 + 1 + 1 + 1 + 1 ≤ n + 9 by omega)
    have bt : But h H _ := (((((((((b1.trans b2).trans b3).trans (Same.but (same_upd nl) h)).trans b4).trans b5).trans b6).trans (Same.but (same_upd nl2) h)).trans b7).trans (Same.but s8 h)).trans
      (((b9.trans (Same.but (same_upd nl3) h)).trans bA).trans (Same.but sB h))
    have e1 := (((same_upd n2).trans (same_upd n3)).trans (same_upd nl4 (o := .lst [.ref u1, .ref u2, .ref u3]))) u1 _ upd_same
    have e2 := ((same_upd n3).trans (same_upd nl4 (o := .lst [.ref u1, .ref u2, .ref u3]))) u2 _ upd_same
    have e3 := (same_upd nl4 (o := .lst [.ref u1, .ref u2, .ref u3])) u3 _ upd_same
    obtain ⟨j, rfl⟩ : ∃ j : Nat, tl = (j : Int) := ⟨tl.toNat, by omega⟩
    have hj : j < 3 := by omega
    match j, hj with
    | 0, _ => exact ⟨_, rfl, l4, _, _, _, rfl, rfl, SqL.of upd_same, atI_nat (j := 0) rfl, q u1 y none none _ e1 ⟨y1, y2, rfl⟩ hB bt⟩
    | 1, _ => exact ⟨_, rfl, l4, _, _, _, rfl, rfl, SqL.of upd_same, atI_nat (j := 1) rfl, q u2 y (some m) none _ e2 ⟨y1, y2, m1, m2, trivial⟩ hB bt⟩
    | 2, _ => exact ⟨_, rfl, l4, _, _, _, rfl, rfl, SqL.of upd_same, atI_nat (j := 2) rfl, q u3 y (some m) (some d) _ e3 ⟨y1, y2, m1, m2, d1, d2⟩ hB bt⟩
end
end K2
set_option Elab.async false
set_option linter.all false
set_option maxRecDepth 100000
set_option maxHeartbeats 4000000
set_option pp.maxSteps 400
set_option pp.deepTerms false
namespace K2
open PySem PySem.Spec PyProof.Rows L2
open Xk Az
section
variable {P : Program} {w : World} {K : PySem.W.Frag} {mg : Str → Option Value} {base : Heap} {C : Addr}
theorem ok_wl {f : Addr} {fd : FuncData} {e : Ex} (D : Df K mg "_law_whole" ["_law_thing"] sWhole f fd) (T : Txt K mg C e) : FnOk P w K mg base CX0 1 f fd ["_law_thing"] (spWhole K) := by
  refine D.fn.ok scWhole (fun vs H Q E h => ?_) (fun cdv A outer s H vs Q E hr h => ?_)
  · obtain ⟨v, d, rfl, h, q⟩ := h
    rfl
  · obtain ⟨v, d, rfl, h, q⟩ := h
    refine ⟨_, (pss_one (ps_ret (pe_and (pe_callB call_isi (by rfl) T.isi (by decide +kernel) (pa_cons (pv 0) (pa_cons (pe_bltn (v := .ty "int") (by rfl) T.int (by decide +kernel) rfl) pa_nil))) (pe_one (pe_not (pe_callB call_isi (by rfl) T.isi (by decide +kernel) (pa_cons (pv 0) (pa_cons (pe_bltn (v := .ty "bool") (by rfl) T.bool (by decide +kernel) rfl) pa_nil)))))))), ?_⟩
    cases h with
    | int i =>
      refine ⟨_, rfl, _, _, _, _, true, rfl, .ty _, (.base (.int i)), kit_ty (by decide +kernel), true, rfl, iteT ?_⟩
      exact ⟨_, rfl, _, _, _, _, false, rfl, .ty _, (.base (.int i)), kit_ty (by decide +kernel), false, rfl, q⟩
    | bl b =>
      refine ⟨_, rfl, _, _, _, _, true, rfl, .ty _, (.base (.bl b)), kit_ty (by decide +kernel), true, rfl, iteT ?_⟩
      exact ⟨_, rfl, _, _, _, _, true, rfl, .ty _, (.base (.bl b)), kit_ty (by decide +kernel), true, rfl, q⟩
    | non => exact ⟨_, rfl, _, _, _, _, false, rfl, .ty _, (.base .non : TyX K H .non (.type "NoneType")), kit_ty (by decide +kernel), false, rfl, iteF q⟩
    | str x => exact ⟨_, rfl, _, _, _, _, false, rfl, .ty _, (.base (.str x) : TyX K H (.str x) (.type "str")), kit_ty (by decide +kernel), false, rfl, iteF q⟩
    | lst e _ _ => exact ⟨_, rfl, _, _, _, _, false, rfl, .ty _, (.base (.lst e)), kit_ty (by decide +kernel), false, rfl, iteF q⟩
    | tup e _ => exact ⟨_, rfl, _, _, _, _, false, rfl, .ty _, (.base (.tup e)), kit_ty (by decide +kernel), false, rfl, iteF q⟩
    | dct e _ => exact ⟨_, rfl, _, _, _, _, false, rfl, .ty _, (.base (.dK e)), kit_ty (by decide +kernel), false, rfl, iteF q⟩
def spGood (K : PySem.W.Frag) : Sp := fun vs H Q _ => ∃ (y m d : V) (dy dm dd : PyData), vs = [y, m, d] ∧ Dz K H y dy ∧ Dz K H m dm ∧ Dz K H d dd ∧ ∀ H', L2.Same H H' → Q (.bl (goodV y m d)) H'
theorem isI_int {v : V} (h : isI v = true) : ∃ i, v = .int i := by
  cases v with
  | int i => exact ⟨i, rfl⟩
  | _ => cases h
theorem wiV_not {v : V} {a b : Int} (h : isI v = false) : wiV v a b = false := by
  cases v with
  | int i => cases h
  | _ => rfl
theorem ok_good {f : Addr} {fd : FuncData} (D : Df K mg "_law_good" ["_law_y", "_law_m", "_law_d"] sGood f fd) (cWl : Ca P w K mg base 1 "_law_whole" ["_law_thing"] (spWhole K)) (cLa : Ca P w K mg base 1 "_law_last" ["_law_y", "_law_m"] spLast) : FnOk P w K mg base CX0 2 f fd ["_law_y", "_law_m", "_law_d"] (spGood K) := by
  refine D.fn.ok scGood (fun vs H Q E h => ?_) (fun cdv A outer s H vs Q E hr h => ?_)
  · obtain ⟨y, m, d, dy, dm, dd, rfl, hy, hm, hd, qq⟩ := h
    rfl
  · obtain ⟨y, m, d, dy, dm, dd, rfl, hy, hm, hd, qq⟩ := h
    refine ⟨_, (pss_cons (ps_if (PW.pt (pw_or (pt_not (pt_val (pe_ca cWl hr (by decide) (by rfl) (pa_cons (pv 0) pa_nil)))) (pw_or1 (pt_not (pt_chain op_le op_le pe_int (pv 0) pe_int))))) (pss_one (ps_ret pe_bl)) pss_nil)
      (pss_cons (ps_if (pt_cmpR op_isN (pv 1) pe_non (nomark _)) (pss_one (ps_ret (pe_cmpR op_isN (pv 2) pe_non (nomark _)))) pss_nil)
      (pss_cons (ps_if (PW.pt (pw_or (pt_not (pt_val (pe_ca cWl hr (by decide) (by rfl) (pa_cons (pv 1) pa_nil)))) (pw_or1 (pt_not (pt_chain op_le op_le pe_int (pv 1) pe_int))))) (pss_one (ps_ret pe_bl)) pss_nil)
      (pss_one (ps_ret (pe_or (pe_cmpR op_isN (pv 2) pe_non (nomark _)) (pe_one (pe_and (pe_ca cWl hr (by decide) (by rfl) (pa_cons (pv 2) pa_nil)) (pe_one (pe_chain op_le op_le pe_int (pv 2) (pe_ca cLa hr (by decide) (by rfl) (pa_cons (pv 0) (pa_cons (pv 1) pa_nil))))))))))))), ?_⟩
    have q := qq H (Same.refl H)
    refine ⟨_, rfl, y, dy, rfl, hy, _, rfl, ?_⟩
    cases cI : isI y with
    | false =>
      rw [good_no (wiV_not cI)] at q
      exact iteT q
    | true =>
      obtain ⟨i, ei⟩ := isI_int cI
      subst ei
      refine iteF ⟨_, rfl, 1, i, rfl, rfl, _, rfl, ?_⟩
      cases c1 : decide ((1 : Int) ≤ i) with
      | false =>
        have z : wiV (.int i) 1 9999 = false := by show (decide ((1 : Int) ≤ i) && decide (i ≤ 9999)) = false; rw [c1, Bool.false_and]
        rw [good_no z] at q
        exact iteF ⟨_, rfl, iteT q⟩
      | true =>
        refine iteT ⟨i, 9999, rfl, rfl, _, rfl, ?_⟩
        have z : wiV (.int i) 1 9999 = decide (i ≤ 9999) := by show (decide ((1 : Int) ≤ i) && decide (i ≤ 9999)) = _; rw [c1, Bool.true_and]
        cases c2 : decide (i ≤ 9999) with
        | false =>
          rw [c2] at z
          rw [good_no z] at q
          exact iteT q
        | true =>
          rw [c2] at z
          refine iteF ⟨_, rfl, rfl, _, rfl, ?_⟩
          refine ite2 (fun c => ?_) (fun c => ?_)
          · have em : m = .non := of_decide_eq_true c
            subst em
            rw [good_non z] at q
            exact ⟨_, rfl, rfl, q⟩
          · have nm : m ≠ .non := fun w => c (decide_eq_true w)
            refine ⟨_, rfl, m, dm, rfl, hm, _, rfl, ?_⟩
            cases cJ : isI m with
            | false =>
              rw [good_m z nm (wiV_not cJ)] at q
              exact iteT q
            | true =>
              obtain ⟨j, ej⟩ := isI_int cJ
              subst ej
              refine iteF ⟨_, rfl, 1, j, rfl, rfl, _, rfl, ?_⟩
              cases d1 : decide ((1 : Int) ≤ j) with
              | false =>
                have z2 : wiV (.int j) 1 12 = false := by show (decide ((1 : Int) ≤ j) && decide (j ≤ 12)) = false; rw [d1, Bool.false_and]
                rw [good_m z nm z2] at q
                exact iteF ⟨_, rfl, iteT q⟩
              | true =>
                refine iteT ⟨j, 12, rfl, rfl, _, rfl, ?_⟩
                have z2 : wiV (.int j) 1 12 = decide (j ≤ 12) := by show (decide ((1 : Int) ≤ j) && decide (j ≤ 12)) = _; rw [d1, Bool.true_and]
                cases d2 : decide (j ≤ 12) with
                | false =>
                  rw [d2] at z2
                  rw [good_m z nm z2] at q
                  exact iteT q
                | true =>
                  rw [d2] at z2
                  have qq2 : ∀ H', L2.Same H H' → Q (.bl (if d = .non then true else wiV d 1 (lastDay i j))) H' := fun H' sm => by
                    have w := qq H' sm
                    rw [good_d z z2] at w
                    exact w
                  refine iteF ⟨_, rfl, rfl, _, rfl, ?_⟩
                  refine ite2 (fun c => ?_) (fun c => ?_)
                  · have w := qq2 H (Same.refl H)
                    rw [if_pos (of_decide_eq_true c)] at w
                    exact w
                  · have nd : d ≠ .non := fun w => c (decide_eq_true w)
                    refine ⟨_, rfl, d, dd, rfl, hd, _, rfl, ?_⟩
                    cases cK : isI d with
                    | false =>
                      have w := qq2 H (Same.refl H)
                      rw [if_neg nd, wiV_not cK] at w
                      exact iteF w
                    | true =>
                      obtain ⟨k, ek⟩ := isI_int cK
                      subst ek
                      refine iteT ⟨_, rfl, 1, k, rfl, rfl, _, rfl, ?_⟩
                      cases e1 : decide ((1 : Int) ≤ k) with
                      | false =>
                        have w := qq2 H (Same.refl H)
                        have z3 : wiV (.int k) 1 (lastDay i j) = false := by show (decide ((1 : Int) ≤ k) && decide (k ≤ lastDay i j)) = false; rw [e1, Bool.false_and]
                        rw [if_neg nd, z3] at w
                        exact iteF w
                      | true =>
                        refine iteT ⟨_, rfl, _, rfl, i, j, rfl, fun H' sm => ⟨k, lastDay i j, rfl, rfl, ?_⟩⟩
                        have w := qq2 H' sm
                        have z3 : wiV (.int k) 1 (lastDay i j) = decide (k ≤ lastDay i j) := by show (decide ((1 : Int) ≤ k) && decide (k ≤ lastDay i j)) = _; rw [e1, Bool.true_and]
                        rw [if_neg nd, z3] at w
                        exact w
end
end K2
set_option Elab.async false
set_option linter.all false
set_option maxRecDepth 100000
set_option maxHeartbeats 4000000
set_option pp.maxSteps 400
set_option pp.deepTerms false
namespace K2
open PySem PySem.Spec PyProof.Rows L2
open Xk Az
section
variable {P : Program} {w : World} {K : PySem.W.Frag} {mg : Str → Option Value} {base : Heap} {C : Addr}
def offS (A : List Addr) (H : Hp) : Hp := fun b => if b ∈ A then none else H b
theorem offS_all {A : List Addr} {H : Hp} : L2.Same (offS A H) H := fun b o e => by
  unfold offS at e
  split at e
  · cases e
  · exact e
theorem offS_at {A : List Addr} {H : Hp} {p : Addr} {o : HO} (n : p ∉ A) (e : H p = some o) : offS A H p = some o := by
  unfold offS
  rw [if_neg n, e]
theorem offS_but {A : List Addr} {h : Addr} {H H' : Hp} (hA : h ∈ A) (s : But h H H') : L2.Same (offS A H) (offS A H') := fun b o e => by
  unfold offS at e
  split at e
  · cases e
  · rename_i n
    exact offS_at n (s b o (fun z => n (z ▸ hA)) e)
theorem offS_upd {A : List Addr} {H : Hp} {p : Addr} {o : HO} (m : p ∈ A) : L2.Same (offS A H) (offS A (upd H p o)) := fun b x e => by
  unfold offS at e
  split at e
  · cases e
  · rename_i n
    exact offS_at n (by rw [upd_ne (show b ≠ p from fun z => n (by rw [z]; exact m))]; exact e)
theorem offS_less {A B : List Addr} {H : Hp} (s : ∀ b ∈ B, b ∈ A) : L2.Same (offS A H) (offS B H) := fun b x e => by
  unfold offS at e
  split at e
  · cases e
  · rename_i n
    exact offS_at (fun m => n (s b m)) e
theorem new_off {A : List Addr} {H : Hp} {p : Addr} (ex : ∀ a ∈ A, H a ≠ none) (np : H p = none) : p ∉ A := fun m => ex p m np
theorem exS {A : List Addr} {H H' : Hp} (ex : ∀ a ∈ A, H a ≠ none) (s : L2.Same H H') : ∀ a ∈ A, H' a ≠ none := fun a m z => by
  cases e : H a with
  | none => exact ex a m e
  | some o =>
    rw [s a o e] at z
    cases z
theorem exB {A : List Addr} {h : Addr} {n : Int} {H H' : Hp} (ex : ∀ a ∈ A, H a ≠ none) (hh : Hand n H' h) (s : But h H H') : ∀ a ∈ A, H' a ≠ none := fun a m z => by
  by_cases c : a = h
  · obtain ⟨xs, e⟩ := hh.at_
    rw [c, e] at z
    cases z
  · cases e : H a with
    | none => exact ex a m e
    | some o =>
      rw [s a o c e] at z
      cases z
def spOdd (K : PySem.W.Frag) : Sp := fun vs H Q _ => ∃ (h : Addr) (v : V) (d : PyData) (n : Int) (As : List Addr) (k0 s0 : Nat), vs = [.ref h, v] ∧ h ∈ As ∧ (∀ a ∈ As, H a ≠ none) ∧ Dz K (offS As H) v d ∧ Nice d k0 s0 ∧ k0 ≤ 20 ∧ s0 ≤ 5000 ∧ ascD d ∧ Hand n H h ∧ n + 100 ≤ far ∧
  ∀ w d' H', Dz K (offS As H') w d' → Nice d' (k0 + 13) (10 * s0 + 400) → ascD d' → Hand (n + 30) H' h → But h H H' → Q w H'
theorem ok_odd {f : Addr} {fd : FuncData} {e : Ex} (D : Df K mg "_law_odd" ["_law_hand_here", "_law_part"] sOdd f fd) (T : Txt K mg C e) (cT : Ca P w K mg base 1 "_law_take" ["_law_hand_here", "_law_many"] spTake) (cP : Ca P w K mg base 2 "_law_pick" ["_law_hand_here", "_law_some"] spPick) : Gn P w K mg base 3 f fd ["_law_hand_here", "_law_part"] (spOdd K) := by
  refine gn_body D.fn scOdd (fun vs H Q E h => ?_) (fun cdv A outer s H vs Q E hg hr h => ?_)
  · obtain ⟨h, v, d, n, As, k0, s0, rfl, hA, ex, dz, nc, k20, s50, ac, hh, hn, q⟩ := h
    rfl
  · obtain ⟨h, v, d, n, As, k0, s0, rfl, hA, ex, dz, nc, k20, s50, ac, hh, hn, q⟩ := h
    refine ⟨_, (pss_cons (ps_set (i := 2) scOdd.nd rfl (.inl rfl) (pv 1))
      (pss_cons (ps_for PassesOwn.never rfl (pi_range1 (by rfl) T.range (pa_cons (pe_ca cP hr (by decide) (by rfl) (pa_cons (pv 0) (pa_cons (pe_lst (pa_cons pe_int (pa_cons pe_int (pa_cons pe_int pa_nil)))) pa_nil))) pa_nil)) (pg_name (i := 3) scOdd.nd rfl (.inl rfl)) (pss_one (ps_set (i := 2) scOdd.nd rfl (.inl rfl) (pe_ix ix_list (pe_lst (pa_cons (pe_tup (pa_cons (pv 2) pa_nil)) (pa_cons (pe_lstZ (pa_cons (pv 2) pa_nil)) (pa_cons (pe_disp (pps_cons pe_str (pv 2) pps_nil) rfl rfl (by simp) (by decide)) pa_nil)))) (pe_ca cT hr (by decide) (by rfl) (pa_cons (pv 0) (pa_cons pe_int pa_nil))) (fun _ _ => rfl)))))
      (pss_cons (ps_set (i := 4) scOdd.nd rfl (.inl rfl) (pe_lst (pa_cons pe_int (pa_cons (pe_un un_neg pe_int) (pa_cons pe_int (pa_cons pe_int (pa_cons pe_int (pa_cons pe_int (pa_cons pe_int (pa_cons pe_int (pa_cons (pe_op op_sub pe_int (pe_ca cT hr (by decide) (by rfl) (pa_cons (pv 0) (pa_cons (pe_op op_pow pe_int pe_int) pa_nil)))) (pa_cons (pe_op op_pow pe_int pe_int) (pa_cons pe_bl (pa_cons pe_bl (pa_cons pe_non (pa_cons pe_str (pa_cons pe_str pa_nil)))))))))))))))))
      (pss_one (ps_ret (pe_ca cP hr (by decide) (by rfl) (pa_cons (pv 0) (pa_cons (pe_op op_cat (pv 4) (pe_lst (pa_cons (pe_callTy (cr_strZ hg hr) (by rfl) T.str (by decide +kernel) (pa_cons (pv 1) pa_nil)) (pa_cons (pv 2) (pa_cons (pe_tup pa_nil) (pa_cons (pe_lstZ pa_nil) (pa_cons pe_dnewK (pa_cons (pe_op op_add pe_int (pe_ca cT hr (by decide) (by rfl) (pa_cons (pv 0) (pa_cons pe_int pa_nil)))) (pa_cons pe_int (pa_cons pe_int pa_nil)))))))))) pa_nil)))))))), ?_⟩
    have fr : n + 100 ≤ 1000000 := hn
    refine ⟨_, rfl, _, rfl, (by show 3 ≤ sizeLine; decide), fun l nl => ?_⟩
    refine ⟨h, l, _, n, rfl, upd_same, hh.fresh nl, by simp, by show 3 < 1000; decide, hh.same (same_upd nl), by show n ≤ 1000000; omega, fun v1 H1 mv h1 b1 => ?_⟩
    obtain ⟨r, rfl, r1, r2⟩ : ∃ r : Nat, v1 = .int (r : Int) ∧ 1 ≤ r ∧ r ≤ 13 := by
      simp only [List.mem_cons, List.not_mem_nil, or_false] at mv
      rcases mv with e | e | e
      · exact ⟨1, e, by decide, by decide⟩
      · exact ⟨2, e, by decide, by decide⟩
      · exact ⟨13, e, by decide, by decide⟩
    have b1' : But h H H1 := (Same.but (same_upd nl) h).trans b1
    refine ⟨_, rfl, by omega, by omega, for_range (lo := 0) (n := ((r : Int)).toNat) (fun k σ Hi => ∃ (v2 : V) (d2 : PyData) (c3 : Option V), σ = [some (.ref h), some v, some v2, c3, none] ∧ Dz K (offS As Hi) v2 d2 ∧ Nice d2 (k0 + k) (s0 + 20 * k) ∧ ascD d2 ∧ Hand (n + 1 + k) Hi h ∧ But h H Hi) ?_ ?_ ?_⟩
    · exact ⟨v, d, none, rfl, dz.same (offS_but hA b1'), nc.mono (by omega) (by omega), ac, h1.mono (by omega), b1'⟩
    · rintro k σ Hi hk ⟨v2, d2, c3, rfl, dzi, nci, aci, hdi, bi⟩
      have k28 : k < 13 := by omega
      have exi := exB ex hdi bi
      refine ⟨_, rfl, (by show 1 ≤ sizeLine; decide), fun t1 n1 => ?_⟩
      refine ⟨_, rfl, (by show 1 ≤ sizeLine; decide), fun l1 n2 ne2 => ?_⟩
      intro p n3
      have s1 := same_upd n1 (o := .tup [v2])
      have s2 := same_upd n2 (o := .lst [v2])
      have hd2 := (hdi.same s1).same s2
      have t1A := new_off exi n1
      have l1A := new_off (exS exi s1) n2
      have pA := new_off (exS (exS exi s1) s2) n3
      refine ⟨_, rfl, upd_same, [(Sum.inr "d", v2)], rfl, (by show 1 ≤ 15; decide), (by show 3 ≤ sizeLine; decide), fun l2 n4 => ?_⟩
      have s3 : L2.Same (upd (upd Hi t1 (.tup [v2])) l1 (.lst [v2])) (upd (upd (upd (upd Hi t1 (.tup [v2])) l1 (.lst [v2])) p (.dK [])) p (.dK (mergeK [] [(Sum.inr "d", v2)]))) := by
        rw [upd_upd]
        exact same_upd n3
      have s4 := same_upd n4 (o := .lst [.ref t1, .ref l1, .ref p])
      have hd4 := (hd2.same s3).same s4
      have ne_h : ∀ {x : Addr}, x ∉ As → x ≠ h := fun {x} nx z => nx (z ▸ hA)
      refine ⟨_, rfl, h, 3, _, rfl, by decide, by decide, hd4, by show n + 1 + (k : Int) ≤ 1000000; omega, fun a H5 a0 a1 h5 b5 => ?_⟩
      have l2h := (hd2.same s3).fresh n4
      have al : L2.Same Hi (upd (upd (upd (upd (upd Hi t1 (.tup [v2])) l1 (.lst [v2])) p (.dK [])) p (.dK (mergeK [] [(Sum.inr "d", v2)]))) l2 (.lst [.ref t1, .ref l1, .ref p])) := ((s1.trans s2).trans s3).trans s4
      have bt : But h Hi H5 := (Same.but al h).trans b5
      have dz5 : Dz K (offS As H5) v2 d2 := dzi.same (offS_but hA bt)
      have e1 : H5 t1 = some (.tup [v2]) := b5 _ _ (ne_h t1A) (s4 _ _ (s3 _ _ (s2 _ _ upd_same)))
      have e2 : H5 l1 = some (.lst [v2]) := b5 _ _ (ne_h l1A) (s4 _ _ (s3 _ _ upd_same))
      have e3 : H5 p = some (.dK [(Sum.inr "d", v2)]) := b5 _ _ (ne_h pA) (s4 _ _ upd_same)
      have e4 : H5 l2 = some (.lst [.ref t1, .ref l1, .ref p]) := b5 _ _ l2h upd_same
      have nx : ∀ (x : Addr) (d' : PyData), Dz K (offS As H5) (.ref x) d' → Nice d' (k0 + (k + 1)) (s0 + 20 * (k + 1)) → ascD d' → ∃ (v2 : V) (d2 : PyData) (c3 : Option V), [some (.ref h), some v, some (V.ref x), some (.int (0 + (k : Int))), none] = [some (.ref h), some v, some v2, c3, none] ∧
          Dz K (offS As H5) v2 d2 ∧ Nice d2 (k0 + (k + 1)) (s0 + 20 * (k + 1)) ∧ ascD d2 ∧ Hand (n + 1 + ((k + 1 : Nat) : Int)) H5 h ∧ But h H H5 :=
        fun x d' q1 q2 q3 => ⟨_, d', _, rfl, q1, q2, q3, h5.mono (by omega), bi.trans bt⟩
      have hl : (reprText ("d" : Str)).length ≤ 6 := by decide +kernel
      obtain ⟨j, rfl⟩ : ∃ j : Nat, a = (j : Int) := ⟨a.toNat, by omega⟩
      have hj : j < 3 := by omega
      match j, hj with
      | 0, _ => exact ⟨l2, _, _, _, rfl, rfl, SqL.of e4, atI_nat (j := 0) rfl, nx t1 (.tuple [d2]) (.tup (offS_at t1A e1) (.cons dz5 .nil)) ((nice_tup1 nci).mono (by omega) (by omega)) (by simp only [ascD, ascAll]; exact ⟨aci, trivial⟩)⟩
      | 1, _ => exact ⟨l2, _, _, _, rfl, rfl, SqL.of e4, atI_nat (j := 1) rfl, nx l1 (.list [d2]) (.lst (offS_at l1A e2) ne2 (.cons dz5 .nil)) ((nice_lst1 nci).mono (by omega) (by omega)) (by simp only [ascD, ascAll]; exact ⟨aci, trivial⟩)⟩
      | 2, _ => exact ⟨l2, _, _, _, rfl, rfl, SqL.of e4, atI_nat (j := 2) rfl, nx p (.dict [(.str "d", d2)]) (.dct (offS_at pA e3) (.cons (k := Sum.inr "d") dz5 .nil)) ((nice_dct1 hl nci).mono (by omega) (by omega)) (by simp only [ascD, ascKv]; exact ⟨asc_str "d", aci, trivial⟩)⟩
    rintro σ H2 ⟨v2, d2, c3, rfl, dz2, nc2, ac2, h2, b2⟩
    have ncd : Nice d2 (k0 + 13) (10 * s0 + 400) := nc2.mono (by omega) (by omega)
    have h2' : Hand (n + 14) H2 h := h2.mono (by omega)
    have ne_h : ∀ {x : Addr}, x ∉ As → x ≠ h := fun {x} nx z => nx (z ▸ hA)
    clear h2
    -- some
    refine ⟨1, rfl, _, rfl, 10, 29, rfl, rfl, ⟨by decide, by decide, by decide⟩, h, _, n + 14, rfl, by decide, by decide, h2', by show n + 14 ≤ 1000000; omega, fun a3 H3 a30 a31 h3 b3 => ?_⟩
    have a31' : a3 < 10 ^ 29 := a31
    refine ⟨1, a3, rfl, rfl, 10, 29, rfl, rfl, ⟨by decide, by decide, by decide⟩, (by show 15 ≤ sizeLine; decide), fun l3 n3 => ?_⟩
    obtain ⟨XS, eXS⟩ : ∃ XS : List V, XS = [.int 0, .int (-1), .int 13, .int 32, .int 30, .int 31, .int 29, .int 10000, .int (1 - a3), .int (10 ^ (29 : Int).toNat), .bl true, .bl false, .non, .str "", .str "1"] := ⟨_, rfl⟩
    rw [← eXS]
    have s5 := same_upd n3 (o := .lst XS)
    have h5 := h3.same s5
    have e5 : (upd H3 l3 (.lst XS)) l3 = some (.lst XS) := upd_same
    have b5 : But h H2 (upd H3 l3 (.lst XS)) := b3.trans (Same.but s5 h)
    generalize upd H3 l3 (.lst XS) = H5 at e5 b5 h5 ⊢
    have ex5 := exB ex h5 (b2.trans b5)
    have dz5 : Dz K (offS As H5) v d := dz.same (offS_but hA (b2.trans b5))
    -- the rest of them
    refine ⟨_, rfl, _, rfl, _, rfl, v, d, rfl, dz5.same offS_all, nc.sh, (by have := nc.dp; omega), fitN (by have := nc.sz; omega), ?_⟩
    refine ⟨_, rfl, (by show 0 ≤ sizeLine; decide), fun t6 n6 => ⟨(by show 0 ≤ sizeLine; decide), fun l7 n7 ne7 => fun p8 n8 => ?_⟩⟩
    have s6 := same_upd n6 (o := .tup [])
    have s7 := same_upd n7 (o := .lst [])
    have s8 := (s6.trans s7).trans (same_upd n8 (o := .dK []))
    have t6A := new_off ex5 n6
    have l7A := new_off (exS ex5 s6) n7
    have p8A := new_off (exS (exS ex5 s6) s7) n8
    have e6 : (upd (upd (upd H5 t6 (.tup [])) l7 (.lst [])) p8 (.dK [])) t6 = some (.tup []) := same_upd n8 _ _ (same_upd n7 _ _ upd_same)
    have e7 : (upd (upd (upd H5 t6 (.tup [])) l7 (.lst [])) p8 (.dK [])) l7 = some (.lst []) := same_upd n8 _ _ upd_same
    have e8 : (upd (upd (upd H5 t6 (.tup [])) l7 (.lst [])) p8 (.dK [])) p8 = some (.dK []) := upd_same
    have h8 := h5.same s8
    generalize upd (upd (upd H5 t6 (.tup [])) l7 (.lst [])) p8 (.dK []) = H8 at e6 e7 e8 s8 h8 ⊢
    refine ⟨_, rfl, h, 40, n + 14 + 1, rfl, by decide, by decide, h8, by show n + 14 + 1 ≤ 1000000; omega, fun a9 H9 a90 a91 h9 b9 => ?_⟩
    refine ⟨1, a9, rfl, rfl, (by show 8 ≤ sizeLine; decide), fun l9 n9 => ?_⟩
    have l3h : l3 ≠ h := h3.fresh n3
    have lx : XS.length = 15 := by rw [eXS]; rfl
    have sB := same_upd n9 (o := .lst [.str (strD d), v2, .ref t6, .ref l7, .ref p8, .int (1 + a9), .int 12, .int 28])
    have hB := h9.same sB
    refine ⟨l3, l9, XS, _, rfl, rfl, sB _ _ (b9 _ _ l3h (s8 _ _ e5)), upd_same, (by rw [lx]; show 15 + 8 ≤ sizeLine; decide), fun lc nc2 => ?_⟩
    have sC := same_upd nc2 (o := .lst (XS ++ [.str (strD d), v2, .ref t6, .ref l7, .ref p8, .int (1 + a9), .int 12, .int 28]))
    refine ⟨h, lc, _, n + 14 + 1 + 1, rfl, upd_same, hB.fresh nc2, (by rw [eXS]; simp), (by rw [List.length_append, lx]; show 15 + 8 < 1000; decide), hB.same sC, by show n + 14 + 1 + 1 ≤ 1000000; omega, fun w HD mw hD bD => ?_⟩
    have bAll : But h H8 HD := b9.trans ((Same.but (sB.trans sC) h).trans bD)
    have bG : But h H2 HD := b5.trans ((Same.but s8 h).trans bAll)
    have bF : But h H HD := b2.trans bG
    have at_ : ∀ {b : Addr} {o : HO}, b ∉ As → H8 b = some o → offS As HD b = some o := fun {b o} nb e => offS_at nb (bAll _ _ (ne_h nb) e)
    have dzD : Dz K (offS As HD) v2 d2 := dz2.same (offS_but hA bG)
    have fin : ∀ d', Dz K (offS As HD) w d' → Nice d' (k0 + 13) (10 * s0 + 400) → ascD d' → Q w HD := fun d' q1 q2 q3 => q w d' HD q1 q2 q3 (hD.mono (by omega)) bF
    have num : ∀ i : Int, w = .int i → -(10 ^ 30) ≤ i → i ≤ 10 ^ 30 → Q w HD := fun i ei i0 i1 => by
      subst ei
      have b31 : (10 : Int) ^ 30 < 10 ^ 31 := by decide
      exact fin _ (.int i) ((nice_int (lg (by omega) (by omega)) (tx_le i0 i1)).mono (by omega) (by omega)) (by simp only [ascD])
    rw [eXS] at mw
    simp only [List.cons_append, List.nil_append, List.mem_cons, List.not_mem_nil, or_false] at mw
    have b29 : (10 : Int) ^ 29 < 10 ^ 30 := by decide
    rcases mw with e | e | e | e | e | e | e | e | e | e | e | e | e | e | e | e | e | e | e | e | e | e | e
    · exact num _ e (by decide) (by decide)
    · exact num _ e (by decide) (by decide)
    · exact num _ e (by decide) (by decide)
    · exact num _ e (by decide) (by decide)
    · exact num _ e (by decide) (by decide)
    · exact num _ e (by decide) (by decide)
    · exact num _ e (by decide) (by decide)
    · exact num _ e (by decide) (by decide)
    · exact num _ e (by omega) (by omega)
    · exact num _ e (by decide) (by decide)
    · subst e
      exact fin _ (.bl true) ((nice_bool true).mono (by omega) (by omega)) (by simp only [ascD])
    · subst e
      exact fin _ (.bl false) ((nice_bool false).mono (by omega) (by omega)) (by simp only [ascD])
    · subst e
      exact fin _ .non (nice_none.mono (by omega) (by omega)) (by simp only [ascD])
    · subst e
      exact fin _ (.str "") ((nice_str (n := 100) (by decide +kernel)).mono (by omega) (by omega)) (by simp only [ascD]; exact asc_str "")
    · subst e
      exact fin _ (.str "1") ((nice_str (n := 100) (by decide +kernel)).mono (by omega) (by omega)) (by simp only [ascD]; exact asc_str "1")
    · subst e
      have r1 := PySem.StrLaws.reprText_len (strD d) (strD_asc ac)
      have r2 := strD_len (d := d)
      have r3 := nc.sz
      exact fin _ (.str _) ((nice_str (n := 10 * s0 + 2) (by omega)).mono (by omega) (by omega)) (by simp only [ascD]; exact strD_asc ac)
    · subst e
      exact fin _ dzD ncd ac2
    · subst e
      exact fin _ (.tup (at_ t6A e6) .nil) (nice_tup0.mono (by omega) (by omega)) (by simp only [ascD, ascAll])
    · subst e
      exact fin _ (.lst (at_ l7A e7) ne7 .nil) (nice_lst0.mono (by omega) (by omega)) (by simp only [ascD, ascAll])
    · subst e
      exact fin _ (.dct (at_ p8A e8) .nil) (nice_dct0.mono (by omega) (by omega)) (by simp only [ascD, ascKv])
    · exact num _ e (by omega) (by omega)
    · exact num _ e (by decide) (by decide)
    · exact num _ e (by decide) (by decide)
end
end K2
set_option Elab.async false
set_option linter.all false
set_option maxRecDepth 100000
set_option maxHeartbeats 4000000
set_option pp.maxSteps 400
set_option pp.deepTerms false
namespace K2
open PySem PySem.Spec PyProof.Rows L2
open Xk Az
section
variable {P : Program} {w : World} {K : PySem.W.Frag} {mg : Str → Option Value} {base : Heap} {C : Addr}
def Ns (K : PySem.W.Frag) (As : List Addr) (H : Hp) (k s : Nat) (v : V) : Prop := ∃ d, Dz K (offS As H) v d ∧ Nice d k s ∧ ascD d
def szK : Nat → Nat
  | 0 => 50
  | 1 => 1000
  | _ => 20000
theorem szK_le {k : Nat} (h : k < 2) : szK k ≤ 5000 ∧ szK k ≤ szK (k + 1) ∧ 10 * szK k + 400 ≤ szK (k + 1) := by
  match k, h with
  | 0, _ => refine ⟨?_, ?_, ?_⟩ <;> simp [szK]
  | 1, _ => refine ⟨?_, ?_, ?_⟩ <;> simp [szK]
theorem szK_20 : ∀ k : Nat, szK k ≤ 20000
  | 0 => by simp [szK]
  | 1 => by simp [szK]
  | _ + 2 => by simp [szK]
theorem Hand.upd {n : Int} {H : Hp} {a l : Addr} {o : HO} (h : Hand n H a) (ne : l ≠ a) : Hand n (L2.upd H l o) a := by
  obtain ⟨g, m, c, e, r⟩ := h
  exact ⟨g, m, c, by rw [upd_ne (Ne.symm ne)]; exact e, r⟩
theorem ixN_nat {n j : Nat} (h : j < n) : ixN n (j : Int) = some j := by
  unfold ixN
  rw [if_pos (by omega), if_pos (by omega)]
  simp
theorem ns_int {K : PySem.W.Frag} {As : List Addr} {H : Hp} {k s : Nat} {i : Int} (h0 : -(10 ^ 30) ≤ i) (h1 : i ≤ 10 ^ 30) (hs : 50 ≤ s) : Ns K As H k s (.int i) := by
  have b31 : (10 : Int) ^ 30 < 10 ^ 31 := by decide
  exact ⟨_, .int i, (nice_int (lg (by omega) (by omega)) (tx_le h0 h1)).mono (by omega) (by omega), by simp only [ascD]⟩
theorem ns_non {K : PySem.W.Frag} {As : List Addr} {H : Hp} {k s : Nat} (hs : 50 ≤ s) : Ns K As H k s .non :=
  ⟨_, .non, nice_none.mono (by omega) (by omega), by simp only [ascD]⟩
theorem last_le (y m : Int) : 28 ≤ lastDay y m ∧ lastDay y m ≤ 31 := by
  unfold lastDay
  split
  · omega
  · split
    · omega
    · split <;> omega
theorem ns_parts {K : PySem.W.Frag} {As : List Addr} {H : Hp} {k s : Nat} {y : Int} {m d : Option Int} (g : Good y m d) {v : V} (hv : v ∈ pV y m d) (hs : 50 ≤ s := by decide) : Ns K As H k s v := by
  obtain ⟨y0, y1, g⟩ := g
  simp only [List.mem_cons, List.not_mem_nil, or_false] at hv
  rcases hv with e | e | e
  · subst e
    exact ns_int (by omega) (by omega) hs
  · cases m with
    | none => subst e; exact ns_non hs
    | some i => subst e; exact ns_int (by have := g.1; omega) (by have := g.2.1; omega) hs
  · cases d with
    | none => subst e; exact ns_non hs
    | some j =>
      subst e
      cases m with
      | none => cases g
      | some i =>
        have l := last_le y i
        exact ns_int (by have := g.2.2.1; omega) (by have := g.2.2.2; omega) hs
def spSpoilt (K : PySem.W.Frag) : Sp := fun vs H Q _ => ∃ (h t : Addr) (y : Int) (m d : Option Int) (n : Int), vs = [.ref h, .ref t] ∧ H t = some (.tup (pV y m d)) ∧ Good y m d ∧ Hand n H h ∧ n + 200 ≤ far ∧
  ∀ L v1 v2 v3 H', H' L = some (.lst [v1, v2, v3]) → Ns K [h] H' 26 20000 v1 → Ns K [h] H' 26 20000 v2 → Ns K [h] H' 26 20000 v3 → Hand (n + 100) H' h → But h H H' → Q (.ref L) H'
theorem ok_spoilt {f : Addr} {fd : FuncData} {e : Ex} {fO : Addr} {fdO : FuncData} (D : Df K mg "_law_spoilt" ["_law_hand_here", "_law_parts_here"] sSpoilt f fd) (T : Txt K mg C e) (cT : Ca P w K mg base 1 "_law_take" ["_law_hand_here", "_law_many"] spTake) (cLa : Ca P w K mg base 1 "_law_last" ["_law_y", "_law_m"] spLast) (DO : Df K mg "_law_odd" ["_law_hand_here", "_law_part"] sOdd fO fdO) (GO : Gn P w K mg base 3 fO fdO ["_law_hand_here", "_law_part"] (spOdd K)) : Gn P w K mg base 5 f fd ["_law_hand_here", "_law_parts_here"] (spSpoilt K) := by
  refine gn_body D.fn scSpoilt (fun vs H Q E h => ?_) (fun cdv A outer s H vs Q E hg hr h => ?_)
  · obtain ⟨h, t, y, m, d, n, rfl, ht, gd, hh, hn, q⟩ := h
    rfl
  · obtain ⟨h, t, y, m, d, n, rfl, ht, gd, hh, hn, q⟩ := h
    refine ⟨_, (pss_cons (ps_set (i := 2) scSpoilt.nd rfl (.inl rfl) (pe_callTy call_list_of (by rfl) T.list (by decide +kernel) (pa_cons (pv 1) pa_nil)))
      (pss_cons (ps_for PassesOwn.never rfl (pi_range1 (by rfl) T.range (pa_cons (pe_op op_add pe_int (pe_ca cT hr (by decide) (by rfl) (pa_cons (pv 0) (pa_cons pe_int pa_nil)))) pa_nil)) (pg_name (i := 3) scSpoilt.nd rfl (.inl rfl)) (pss_cons (ps_set (i := 4) scSpoilt.nd rfl (.inl rfl) (pe_ca cT hr (by decide) (by rfl) (pa_cons (pv 0) (pa_cons pe_int pa_nil))))
      (pss_one (ps_asg (pe_gn GO hg (hr.mono (by decide)) (by rfl) DO.mgf DO.fn.kp DO.bd (pa_cons (pv 0) (pa_cons (pe_ix ix_list (pv 2) (pv 4) (fun _ _ => rfl)) pa_nil))) (pg_sub (pv 2) (pv 4) set_list)))))
      (pss_cons (ps_if (PW.pt (pw_and (pt_cmpR op_eq (pe_ca cT hr (by decide) (by rfl) (pa_cons (pv 0) (pa_cons pe_int pa_nil))) pe_int (nomark _)) (pw_and1 (pt_cmpR op_notN (pe_ix ix_tup (pv 1) pe_int (fun _ _ => rfl)) pe_non (nomark _))))) (pss_one (ps_set (i := 2) scSpoilt.nd rfl (.inl rfl) (pe_lst (pa_cons (pe_ix ix_tup (pv 1) pe_int (fun _ _ => rfl)) (pa_cons (pe_ix ix_tup (pv 1) pe_int (fun _ _ => rfl)) (pa_cons (pe_op op_add (pe_ca cLa hr (by decide) (by rfl) (pa_cons (pe_ix ix_tup (pv 1) pe_int (fun _ _ => rfl)) (pa_cons (pe_ix ix_tup (pv 1) pe_int (fun _ _ => rfl)) pa_nil))) (pe_ca cT hr (by decide) (by rfl) (pa_cons (pv 0) (pa_cons pe_int pa_nil)))) pa_nil)))))) pss_nil)
      (pss_one (ps_ret (pv 2)))))), ?_⟩
    have fr : n + 200 ≤ 1000000 := hn
    refine ⟨_, rfl, t, _, rfl, .inr (SqT.of ht), fun L nL => ?_⟩
    have s0 := same_upd nL (o := .lst (pV y m d))
    have Lh : L ≠ h := hh.fresh nL
    have e0 : (upd H L (.lst (pV y m d))) L = some (.lst (pV y m d)) := upd_same
    have h0 := hh.same s0
    have exH : ∀ a ∈ [h, L], (upd H L (.lst (pV y m d))) a ≠ none := fun a ma z => by
      simp only [List.mem_cons, List.not_mem_nil, or_false] at ma
      rcases ma with e | e
      · obtain ⟨xs, e1⟩ := h0.at_
        rw [e, e1] at z
        cases z
      · rw [e, e0] at z
        cases z
    have b0 : But h H (upd H L (.lst (pV y m d))) := Same.but s0 h
    generalize upd H L (.lst (pV y m d)) = H0 at e0 h0 exH b0 ⊢
    refine ⟨_, rfl, h, 2, n, rfl, by decide, by decide, h0, by show n ≤ 1000000; omega, fun r H1 r0 r1 h1 b1 => ?_⟩
    have e1 := b1 _ _ Lh e0
    refine ⟨1, r, rfl, rfl, _, rfl, by omega, by omega, for_range (lo := 0) (n := (1 + r).toNat) (fun k σ Hi => ∃ (xs : List V) (c3 c4 : Option V), σ = [some (.ref h), some (.ref t), some (.ref L), c3, c4] ∧ Hi L = some (.lst xs) ∧ xs.length = 3 ∧ (∀ v ∈ xs, Ns K [h, L] Hi (13 * k) (szK k) v) ∧ Hand (n + 1 + 31 * k) Hi h ∧ (∀ a ∈ [h, L], Hi a ≠ none) ∧ But h H Hi) ?_ ?_ ?_⟩
    · refine ⟨_, none, none, rfl, e1, rfl, fun v hv => ns_parts gd hv, h1.mono (by omega), exB exH h1 b1, b0.trans b1⟩
    · rintro k σ Hi hk ⟨xs, c3, c4, rfl, eL, l3, al, hdi, exi, bi⟩
      have k2 : k < 2 := by omega
      refine ⟨_, rfl, h, 3, n + 1 + 31 * k, rfl, by decide, by decide, hdi, by show n + 1 + 31 * (k : Int) ≤ 1000000; omega, fun a H2 a0 a1 h2 b2 => ?_⟩
      obtain ⟨j, rfl⟩ : ∃ j : Nat, a = (j : Int) := ⟨a.toNat, by omega⟩
      have hj : j < xs.length := by omega
      have eL2 := b2 _ _ Lh eL
      obtain ⟨d0, dz0, nc0, ac0⟩ := al xs[j] (List.getElem_mem hj)
      refine ⟨_, rfl, _, rfl, _, rfl, L, xs, (j : Int), xs[j], rfl, rfl, SqL.of eL2, atI_nat (List.getElem?_eq_getElem hj), ?_⟩
      refine ⟨h, xs[j], d0, n + 1 + 31 * k + 1, [h, L], 13 * k, szK k, rfl, by simp, exB exi h2 b2, dz0.same (offS_but (by simp) b2), nc0, by omega, ?_, ac0, h2, by show n + 1 + 31 * (k : Int) + 1 + 100 ≤ 1000000; omega, fun w d' H3 dw nw aw h3 b3 => ?_⟩
      · exact (szK_le k2).1
      have eL3 := b3 _ _ Lh eL2
      refine ⟨_, rfl, _, rfl, L, xs, (j : Int), j, rfl, rfl, eL3, ixN_nat hj, ?_⟩
      have b23 := b2.trans b3
      have sO : L2.Same (offS [h, L] Hi) (offS [h, L] (upd H3 L (.lst (xs.set j w)))) := fun b o e => offS_upd (by simp) b o (offS_but (by simp) b23 b o e)
      have sz := (szK_le k2).2
      refine ⟨_, _, _, rfl, upd_same, by rw [List.length_set]; exact l3, fun v hv => ?_, (h3.upd Lh).mono (by omega), ?_, ?_⟩
      · rcases List.mem_or_eq_of_mem_set hv with hv | hv
        · obtain ⟨d1, dz1, nc1, ac1⟩ := al v hv
          exact ⟨d1, dz1.same sO, nc1.mono (by omega) sz.1, ac1⟩
        · rw [hv]
          exact ⟨d', dw.same (offS_upd (by simp)), nw.mono (by omega) sz.2, aw⟩
      · intro a ma z
        by_cases c : a = L
        · rw [c, upd_same] at z
          cases z
        · rw [upd_ne c] at z
          exact exB (exB exi h2 b2) h3 b3 a ma z
      · intro b o nb e
        have bL : b ≠ L := fun z => by
          rw [z, nL] at e
          cases e
        rw [upd_ne bL]
        exact b23 b o nb (bi b o nb e)
    rintro σ H2 ⟨xs, c3, c4, rfl, eL, l3, al, h2, ex2, b2⟩
    have rr : ((1 + r).toNat : Int) ≤ 2 := by omega
    have h2' : Hand (n + 63) H2 h := h2.mono (by omega)
    refine ⟨_, rfl, h, 4, n + 63, rfl, by decide, by decide, h2', by show n + 63 ≤ 1000000; omega, fun a H3 a0 a1 h3 b3 => ?_⟩
    have eL3 := b3 _ _ Lh eL
    have th : t ≠ h := hh.ne_tup (K := K) ht
    have et : H3 t = some (.tup (pV y m d)) := b3 _ _ th (b2 _ _ th ht)
    have out : Q (.ref L) H3 := by
      match xs, l3 with
      | [v1, v2, v3], _ =>
        have z : ∀ v ∈ [v1, v2, v3], Ns K [h] H3 26 20000 v := fun v hv => by
          obtain ⟨d1, dz1, nc1, ac1⟩ := al v hv
          refine ⟨d1, (dz1.same (offS_but (by simp) b3)).same (offS_less (by simp)), nc1.mono (by omega) ?_, ac1⟩
          have : (1 + r).toNat ≤ 2 := by omega
          exact szK_20 _
        exact q L v1 v2 v3 H3 eL3 (z v1 (by simp)) (z v2 (by simp)) (z v3 (by simp)) (h3.mono (by omega)) (b2.trans b3)
    refine ⟨rfl, _, rfl, ite2 (fun c => ?_) (fun c => ?_)⟩
    · refine ⟨_, rfl, t, _, 1, oV m, rfl, rfl, SqT.of et, rfl, rfl, _, rfl, ite2 (fun c => ?_) (fun c => ?_)⟩
      · cases m with
        | none => exact absurd c (by decide)
        | some i =>
          refine ⟨_, rfl, t, _, 0, .int y, rfl, rfl, SqT.of et, rfl, _, rfl, t, _, 1, .int i, rfl, rfl, SqT.of et, rfl, _, rfl, t, _, 0, .int y, rfl, rfl, SqT.of et, rfl, _, rfl, t, _, 1, .int i, rfl, rfl, SqT.of et, rfl, ?_⟩
          refine ⟨y, i, rfl, fun H4 s4 => ?_⟩
          refine ⟨_, rfl, h, 2, n + 64, rfl, by decide, by decide, (h3.mono (by omega)).same s4, by show n + 64 ≤ 1000000; omega, fun b H5 b0' b1' h5 b5 => ?_⟩
          refine ⟨lastDay y i, b, rfl, rfl, (by show 3 ≤ sizeLine; decide), fun l nl => ⟨_, rfl, ?_⟩⟩
          have ll := last_le y i
          obtain ⟨y0, y1, i0, i1, _⟩ := gd
          have s5 := same_upd nl (o := .lst [.int y, .int i, .int (lastDay y i + b)])
          exact q l _ _ _ _ upd_same (ns_int (by omega) (by omega) (by decide)) (ns_int (by omega) (by omega) (by decide)) (ns_int (by omega) (by omega) (by decide)) ((h5.same s5).mono (by omega)) ((b2.trans b3).trans ((Same.but s4 h).trans (b5.trans (Same.but s5 h))))
      · exact ⟨_, rfl, out⟩
    · exact ⟨_, rfl, out⟩
end
end K2
set_option Elab.async false
set_option linter.all false
set_option maxRecDepth 100000
set_option maxHeartbeats 4000000
set_option pp.maxSteps 400
set_option pp.deepTerms false
namespace K2
open PySem PySem.Spec PyProof.Rows L2
open Xk Az
section
variable {P : Program} {w : World} {K : PySem.W.Frag} {mg : Str → Option Value} {base : Heap} {C : Addr}
def spAlone (e : Ex) : Sp := fun vs H Q _ => ∃ (a : Addr) (fs : List (Str × V)), vs = [.ref a] ∧ Kept H a e.NoDay fs ∧ ∀ H', L2.Same H H' → Q (.bl true) H'
def spCaught (K : PySem.W.Frag) (e : Ex) : Sp := fun vs H Q _ => ∃ (way : Int) (y m d : V) (dy dm dd : PyData), vs = [.int way, y, m, d] ∧ Dz K H y dy ∧ Dz K H m dm ∧ Dz K H d dd ∧
  (goodV y m d = true → ∀ H' : Hp, L2.Same H H' → Q .non H') ∧
  (goodV y m d = false → ∀ (H' : Hp) (x : Addr), L2.Same H H' → Kept H' x e.NoDay [("day", d), ("month", m), ("year", y)] → Q (.ref x) H')
theorem ok_alone {f : Addr} {fd : FuncData} {e : Ex} (D : Df K mg "_law_alone" ["_law_e"] sAlone f fd) (T : Txt K mg C e) : FnOk P w K mg base CX0 1 f fd ["_law_e"] (spAlone e) := by
  refine D.fn.ok scAlone (fun vs H Q E h => ?_) (fun cdv A outer s H vs Q E hr h => ?_)
  · obtain ⟨a, fs, rfl, k, q⟩ := h
    rfl
  · obtain ⟨a, fs, rfl, k, q⟩ := h
    refine ⟨_, (pss_cons (ps_if (pt_val (pe_callB (call_isKT T.xc) (by rfl) T.isi (by decide +kernel) (pa_cons (pv 0) (pa_cons (pe_tup (pa_cons (pe_glob (v := .ref e.Lost) (by rfl) T.mLost rfl) (pa_cons (pe_glob (v := .ref e.Taken) (by rfl) T.mTaken rfl) (pa_cons (pe_glob (v := .ref e.NoCustom) (by rfl) T.mNoCustom rfl) (pa_cons (pe_glob (v := .ref e.NoDisc) (by rfl) T.mNoDisc rfl) (pa_cons (pe_glob (v := .ref e.NoEntry) (by rfl) T.mNoEntry rfl) (pa_cons (pe_glob (v := .ref e.NoKey) (by rfl) T.mNoKey rfl) (pa_cons (pe_glob (v := .ref e.NoLength) (by rfl) T.mNoLength rfl) (pa_cons (pe_glob (v := .ref e.NoLine) (by rfl) T.mNoLine rfl) pa_nil))))))))) pa_nil)))) (pss_one (ps_ret pe_bl)) pss_nil)
      (pss_cons (ps_if (pt_val (pe_callB (call_isKT T.xc) (by rfl) T.isi (by decide +kernel) (pa_cons (pv 0) (pa_cons (pe_tup (pa_cons (pe_glob (v := .ref e.NoName) (by rfl) T.mNoName rfl) (pa_cons (pe_glob (v := .ref e.NoNumber) (by rfl) T.mNoNumber rfl) (pa_cons (pe_glob (v := .ref e.NoPath) (by rfl) T.mNoPath rfl) (pa_cons (pe_glob (v := .ref e.NoText) (by rfl) T.mNoText rfl) (pa_cons (pe_glob (v := .ref e.Same) (by rfl) T.mSame rfl) (pa_cons (pe_glob (v := .ref e.Struck) (by rfl) T.mStruck rfl) (pa_cons (pe_glob (v := .ref e.Twice) (by rfl) T.mTwice rfl) pa_nil)))))))) pa_nil)))) (pss_one (ps_ret pe_bl)) pss_nil)
      (pss_one (ps_ret (pe_and (pe_callB (call_isK T.xc) (by rfl) T.isi (by decide +kernel) (pa_cons (pv 0) (pa_cons (pe_glob (v := .ref e.NoDay) (by rfl) T.mNoDay rfl) pa_nil))) (pe_and (pe_callB (call_isK T.xc) (by rfl) T.isi (by decide +kernel) (pa_cons (pv 0) (pa_cons (pe_glob (v := .ref e.NotSuch) (by rfl) T.mNotSuch rfl) pa_nil))) (pe_one (pe_callB (call_isK T.xc) (by rfl) T.isi (by decide +kernel) (pa_cons (pv 0) (pa_cons (pe_bltn (v := .ty "ValueError") (by rfl) T.ValueError (by decide +kernel) rfl) pa_nil)))))))))), ?_⟩
    refine ⟨_, rfl, (by show 8 ≤ sizeLine; decide), fun t nt => ⟨a, t, fs, _, _, false, rfl, k.same (same_upd nt), upd_same, (.cons (.own _) (.cons (.own _) (.cons (.own _) (.cons (.own _) (.cons (.own _) (.cons (.own _) (.cons (.own _) (.cons (.own _) .nil)))))))), T.kit1, false, rfl, iteF ?_⟩⟩
    refine ⟨_, rfl, (by show 7 ≤ sizeLine; decide), fun u nu => ⟨a, u, fs, _, _, false, rfl, (k.same (same_upd nt)).same (same_upd nu), upd_same, (.cons (.own _) (.cons (.own _) (.cons (.own _) (.cons (.own _) (.cons (.own _) (.cons (.own _) (.cons (.own _) .nil))))))), T.kit2, false, rfl, iteF ?_⟩⟩
    have k2 := (k.same (same_upd nt (o := .tup [.ref e.Lost, .ref e.Taken, .ref e.NoCustom, .ref e.NoDisc, .ref e.NoEntry, .ref e.NoKey, .ref e.NoLength, .ref e.NoLine]))).same (same_upd nu (o := .tup [.ref e.NoName, .ref e.NoNumber, .ref e.NoPath, .ref e.NoText, .ref e.Same, .ref e.Struck, .ref e.Twice]))
    refine ⟨_, rfl, a, fs, _, _, true, rfl, k2, .own _, T.kit3, true, rfl, iteT ?_⟩
    refine ⟨_, rfl, a, fs, _, _, true, rfl, k2, .own _, T.kit4, true, rfl, iteT ?_⟩
    exact ⟨_, rfl, a, fs, _, _, true, rfl, k2, .ty _, T.kit5, q _ ((same_upd nt).trans (same_upd nu))⟩
theorem ok_caught {f : Addr} {fd : FuncData} {e : Ex} {fG : Addr} {fdG : FuncData} (D : Df K mg "_law_caught" ["_law_way", "_law_y", "_law_m", "_law_d"] sCaught f fd) (T : Txt K mg C e) (G : Dm P w K mg base C e fG fdG) : FnOk P w K mg base CX0 6 f fd ["_law_way", "_law_y", "_law_m", "_law_d"] (spCaught K e) := by
  refine D.fn.ok scCaught (fun vs H Q E h => ?_) (fun cdv A outer s H vs Q E hr h => ?_)
  · obtain ⟨way, y, m, d, dy, dm, dd, rfl, hy, hm, hd, q1, q2⟩ := h
    rfl
  · obtain ⟨way, y, m, d, dy, dm, dd, rfl, hy, hm, hd, q1, q2⟩ := h
    refine ⟨_, (pss_cons (ps_set (i := 4) scCaught.nd rfl (.inl rfl) pe_non)
      (pss_cons (ps_try_keep (i := 5) (C1 := e.NotSuch) (C2 := e.Lost) (C3 := e.Taken) rfl rfl rfl scCaught.nd rfl rfl ⟨by rfl, by decide, T.mNotSuch⟩ ⟨by rfl, by decide, T.mLost⟩ ⟨by rfl, by decide, T.mTaken⟩ takes0 (fun W pn xe tk _ =>
        (pss_one (ps_if (pt_cmpR op_eq (pv 0) pe_int (nomark _)) (pss_one (ps_expr (pe_makeS G.mm G.ok (hr.mono (by decide)) (by rfl) T.mgC G.b4 .nil (fun σ => passAt tk σ) (pa_cons (pv 1) (pa_cons (pv 2) (pa_cons (pv 3) pa_nil))))))
        (pss_one (ps_expr (pe_makeKS G.mm G.ok (hr.mono (by decide)) (by rfl) T.mgC G.k1 (fun σ => passAt tk σ) (pk_cons (pv 3) (pk_cons (pv 2) (pk_cons (pv 1) pk_nil))))))))) (fun a pn => pss_one (ps_set (i := 4) scCaught.nd rfl (.inl rfl) (pv 5))))
      (pss_one (ps_ret (pv 4))))), ?_⟩
    have mk2 : ∀ {x dx : Addr}, H x = none → H dx = none → L2.Same H (upd (upd H dx (.own x)) x (.ins C dx [])) := fun {x dx} nx nd b z e => by
      rw [upd_ne (ne_of_none e nx), upd_ne (ne_of_none e nd)]
      exact e
    refine ⟨_, rfl, rfl, _, rfl, ?_⟩
    refine ite2 (fun c => ?_) (fun c => ?_)
    · exact ⟨_, rfl, _, rfl, _, rfl, fun x dx nx nd ne => ⟨x, dx, y, m, d, dy, dm, dd, rfl, upd_same, hy.same (mk2 nx nd), hm.same (mk2 nx nd), hd.same (mk2 nx nd), fun c H' k => ⟨rfl, _, rfl, q1 c _ (fun b o e => k b o (mk2 nx nd b o e) (ne_of_none e nx))⟩,
          fun c d H' sm ed => ⟨true, T.exm, fun _ y ny => ⟨_, rfl, _, rfl, q2 c _ y ((mk2 nx nd).trans (sm.trans (same_upd ny))) ⟨d, upd_same, same_upd ny _ _ ed⟩⟩, fun z => nomatch z⟩⟩⟩
    · exact ⟨_, rfl, _, rfl, _, rfl, rfl, fun x dx nx nd ne => ⟨x, dx, y, m, d, dy, dm, dd, rfl, upd_same, hy.same (mk2 nx nd), hm.same (mk2 nx nd), hd.same (mk2 nx nd), fun c H' k => ⟨rfl, _, rfl, q1 c _ (fun b o e => k b o (mk2 nx nd b o e) (ne_of_none e nx))⟩,
          fun c d H' sm ed => ⟨true, T.exm, fun _ y ny => ⟨_, rfl, _, rfl, q2 c _ y ((mk2 nx nd).trans (sm.trans (same_upd ny))) ⟨d, upd_same, same_upd ny _ _ ed⟩⟩, fun z => nomatch z⟩⟩⟩
end
end K2
set_option Elab.async false
set_option linter.all false
set_option maxRecDepth 100000
set_option maxHeartbeats 4000000
set_option pp.maxSteps 400
set_option pp.deepTerms false
namespace K2
open PySem PySem.Spec PyProof.Rows L2
open Xk Az
section
variable {P : Program} {w : World} {K : PySem.W.Frag} {mg : Str → Option Value} {base : Heap} {C : Addr}
theorem nice_tup3 {a b c : PyData} {k n : Nat} (h : Nice a k n) (h2 : Nice b k n) (h3 : Nice c k n) : Nice (.tuple [a, b, c]) (k + 1) (3 * n + 12) := by
  refine ⟨by simp [PyData.showable, PyData.showableAll, h.sh, h2.sh, h3.sh], ?_, ?_⟩
  · simp only [PyData.depth, PyData.depthAll]
    have := h.dp
    have := h2.dp
    have := h3.dp
    omega
  · simp only [PyData.shown, PyData.shownAll]
    have z := fmt_text [a.shown, b.shown, c.shown]
    simp only [piled_cons, piled_nil] at z
    have := h.sz
    have := h2.sz
    have := h3.sz
    omega
def spRight : Sp := fun vs H Q _ => ∃ h : Addr, vs = [.ref h] ∧ Hand 0 H h ∧ ∀ H', But h H H' → Q (.bl true) H'
theorem f_y (y m d : V) : ([(("day" : Str), d), (("month" : Str), m), (("year" : Str), y)] : List (Str × V)).lookup ("year" : Str) = some y := by
  rw [List.lookup_cons, show (("year" : Str) == ("day" : Str)) = false by decide +kernel]
  dsimp only
  rw [List.lookup_cons, show (("year" : Str) == ("month" : Str)) = false by decide +kernel]
  dsimp only
  rw [List.lookup_cons_self]
theorem f_m (y m d : V) : ([(("day" : Str), d), (("month" : Str), m), (("year" : Str), y)] : List (Str × V)).lookup ("month" : Str) = some m := by
  rw [List.lookup_cons, show (("month" : Str) == ("day" : Str)) = false by decide +kernel]
  dsimp only
  rw [List.lookup_cons_self]
theorem f_d (y m d : V) : ([(("day" : Str), d), (("month" : Str), m), (("year" : Str), y)] : List (Str × V)).lookup ("day" : Str) = some d := by rw [List.lookup_cons_self]
theorem ok_right {f : Addr} {fd : FuncData} {e : Ex} {fS : Addr} {fdS : FuncData} (D : Df K mg "_law_right" ["_law_hand_here"] sRight f fd) (T : Txt K mg C e) (cT : Ca P w K mg base 1 "_law_take" ["_law_hand_here", "_law_many"] spTake) (cQ : Ca P w K mg base 3 "_law_parts" ["_law_hand_here"] spParts) (cG : Ca P w K mg base 2 "_law_good" ["_law_y", "_law_m", "_law_d"] (spGood K)) (cA : Ca P w K mg base 1 "_law_alone" ["_law_e"] (spAlone e)) (cC : Ca P w K mg base 6 "_law_caught" ["_law_way", "_law_y", "_law_m", "_law_d"] (spCaught K e)) (DS : Df K mg "_law_spoilt" ["_law_hand_here", "_law_parts_here"] sSpoilt fS fdS) (GS : Gn P w K mg base 5 fS fdS ["_law_hand_here", "_law_parts_here"] (spSpoilt K)) : Gn P w K mg base 8 f fd ["_law_hand_here"] spRight := by
  refine gn_body D.fn scRight (fun vs H Q E h => ?_) (fun cdv A outer s H vs Q E hg hr h => ?_)
  · obtain ⟨h, rfl, hh, q⟩ := h
    rfl
  · obtain ⟨h, rfl, hh, q⟩ := h
    refine ⟨_, (pss_cons (ps_for PassesOwn.never rfl (pi_range1 (by rfl) T.range (pa_cons pe_int pa_nil)) (pg_name (i := 1) scRight.nd rfl (.inl rfl)) (pss_cons (ps_asg (pe_gn GS hg (hr.mono (by decide)) (by rfl) DS.mgf DS.fn.kp DS.bd (pa_cons (pv 0) (pa_cons (pe_ca cQ hr (by decide) (by rfl) (pa_cons (pv 0) pa_nil)) pa_nil))) (pg_lst (by rfl) (pgs_cons (pg_name (i := 2) scRight.nd rfl (.inl rfl)) (pgs_cons (pg_name (i := 3) scRight.nd rfl (.inl rfl)) (pgs_cons (pg_name (i := 4) scRight.nd rfl (.inl rfl)) pgs_nil)))))
      (pss_cons (ps_set (i := 5) scRight.nd rfl (.inl rfl) (pe_ca cC hr (by decide) (by rfl) (pa_cons (pe_ca cT hr (by decide) (by rfl) (pa_cons (pv 0) (pa_cons pe_int pa_nil))) (pa_cons (pv 2) (pa_cons (pv 3) (pa_cons (pv 4) pa_nil))))))
      (pss_cons (ps_if (pt_cmpR op_ne (pe_cmpR op_isN (pv 5) pe_non (nomark _)) (pe_ca cG hr (by decide) (by rfl) (pa_cons (pv 2) (pa_cons (pv 3) (pa_cons (pv 4) pa_nil)))) (nomark _)) (pss_one (ps_ret pe_bl)) pss_nil)
      (pss_one (ps_if (pt_cmpR op_notN (pv 5) pe_non (nomark _)) (pss_cons (ps_set (i := 6) scRight.nd rfl (.inl rfl) (pe_tup (pa_cons (pe_kf T.xc T.fY (pv 5)) (pa_cons (pe_kf T.xc T.fM (pv 5)) (pa_cons (pe_kf T.xc T.fD (pv 5)) pa_nil)))))
      (pss_one (ps_if (PW.pt (pw_or (pt_not (pt_val (pe_ca cA hr (by decide) (by rfl) (pa_cons (pv 5) pa_nil)))) (pw_or1 (pt_cmpR op_ne (pe_callB (cr_reprZ hg hr) (by rfl) T.repr (by decide +kernel) (pa_cons (pv 6) pa_nil)) (pe_callB (cr_reprZ hg hr) (by rfl) T.repr (by decide +kernel) (pa_cons (pe_tup (pa_cons (pv 2) (pa_cons (pv 3) (pa_cons (pv 4) pa_nil)))) pa_nil)) (nomark _))))) (pss_one (ps_ret pe_bl)) pss_nil))) pss_nil))))))
      (pss_one (ps_ret pe_bl))), ?_⟩
    refine ⟨_, rfl, by decide, by decide, for_range (lo := 0) (n := 4) (fun k σ Hi => ∃ c1 c2 c3 c4 c5 c6 : Option V, σ = [some (.ref h), c1, c2, c3, c4, c5, c6] ∧ Hand (110 * k) Hi h ∧ But h H Hi) ?_ ?_ ?_⟩
    · exact ⟨_, _, _, _, _, _, rfl, hh.mono (by omega), But.refl h H⟩
    · rintro k σ Hi hk ⟨c1, c2, c3, c4, c5, c6, rfl, hdi, bi⟩
      refine ⟨_, rfl, _, rfl, h, 110 * k, rfl, hdi, by show 110 * (k : Int) + 20 ≤ 1000000; omega, fun t y0 m0 d0 H1 et gd h1 b1 => ?_⟩
      refine ⟨h, t, y0, m0, d0, 110 * k + 9, rfl, et, gd, h1, by show 110 * (k : Int) + 9 + 200 ≤ 1000000; omega, fun L v1 v2 v3 H2 eL n1 n2 n3 h2 b2 => ?_⟩
      refine ⟨L, _, rfl, SqL.of eL, rfl, _, _, rfl, _, _, rfl, _, _, rfl, rfl, ?_⟩
      refine ⟨_, rfl, h, 2, 110 * k + 9 + 100, rfl, by decide, by decide, h2, by show 110 * (k : Int) + 9 + 100 ≤ 1000000; omega, fun a H3 a0 a1 h3 b3 => ?_⟩
      obtain ⟨d1, z1, nc1, _⟩ := n1
      obtain ⟨d2, z2, nc2, _⟩ := n2
      obtain ⟨d3, z3, nc3, _⟩ := n3
      have z1 : Dz K H3 v1 d1 := (z1.same (offS_but (by simp) b3)).same offS_all
      have z2 : Dz K H3 v2 d2 := (z2.same (offS_but (by simp) b3)).same offS_all
      have z3 : Dz K H3 v3 d3 := (z3.same (offS_but (by simp) b3)).same offS_all
      have bt : But h H H3 := bi.trans (b1.trans (b2.trans b3))
      refine ⟨_, rfl, _, rfl, _, rfl, a, v1, v2, v3, d1, d2, d3, rfl, z1, z2, z3, fun c H4 s4 => ?_, fun c H4 x s4 kp => ?_⟩
      · refine ⟨_, rfl, rfl, _, rfl, _, rfl, _, rfl, v1, v2, v3, d1, d2, d3, rfl, z1.same s4, z2.same s4, z3.same s4, fun H5 s5 => ⟨rfl, _, rfl, ite2 (fun w => absurd w (by rw [c]; decide)) (fun _ => ?_)⟩⟩
        refine ⟨_, rfl, rfl, _, rfl, ite2 (fun w => absurd w (by decide)) (fun _ => ?_)⟩
        exact ⟨_, _, _, _, _, _, rfl, ((h3.same s4).same s5).mono (by omega), bt.trans (Same.but (s4.trans s5) h)⟩
      · refine ⟨_, rfl, rfl, _, rfl, _, rfl, _, rfl, v1, v2, v3, d1, d2, d3, rfl, z1.same s4, z2.same s4, z3.same s4, fun H5 s5 => ⟨rfl, _, rfl, ite2 (fun w => absurd w (by rw [c]; simp)) (fun _ => ?_)⟩⟩
        have kp5 := kp.same s5
        have s45 := s4.trans s5
        refine ⟨_, rfl, rfl, _, rfl, ite2 (fun _ => ?_) (fun w => absurd w (by simp))⟩
        refine ⟨_, rfl, x, _, v1, rfl, kp5, f_y v1 v2 v3, _, rfl, x, _, v2, rfl, kp5, f_m v1 v2 v3, _, rfl, x, _, v3, rfl, kp5, f_d v1 v2 v3, (by show 3 ≤ sizeLine; decide), fun tp ntp => ?_⟩
        have s6 := same_upd ntp (o := .tup [v1, v2, v3])
        refine ⟨_, rfl, x, _, rfl, kp5.same s6, fun H7 s7 => ⟨true, rfl, iteF ?_⟩⟩
        have sA := s45.trans (s6.trans s7)
        have ni := nice_tup3 nc1 nc2 nc3
        have dzT : ∀ {a2 : Addr} {H8 : Hp}, H8 a2 = some (.tup [v1, v2, v3]) → L2.Same H3 H8 → Dz K H8 (.ref a2) (.tuple [d1, d2, d3]) := fun {a2 H8} ea sm =>
          .tup ea (.cons (z1.same sm) (.cons (z2.same sm) (.cons (z3.same sm) .nil)))
        have dp : (PyData.tuple [d1, d2, d3]).depth ≤ 60 := Nat.le_trans ni.dp (by decide)
        have sz : (PyData.tuple [d1, d2, d3]).shown.length ≤ sizeLine := fitN (Nat.le_trans ni.sz (by omega))
        refine ⟨_, rfl, .ref tp, _, rfl, dzT (s7 _ _ upd_same) sA, ni.sh, dp, sz, ?_⟩
        refine ⟨_, rfl, _, rfl, _, rfl, (by show 3 ≤ sizeLine; decide), fun tq ntq => ?_⟩
        have s8 := same_upd ntq (o := .tup [v1, v2, v3])
        refine ⟨.ref tq, _, rfl, dzT upd_same (sA.trans s8), ni.sh, dp, sz, ?_⟩
        refine ⟨rfl, _, rfl, ite2 (fun w => absurd w (by simp)) (fun _ => ?_)⟩
        exact ⟨_, _, _, _, _, _, rfl, (h3.same (sA.trans s8)).mono (by omega), bt.trans (Same.but (sA.trans s8) h)⟩
    rintro σ H2 ⟨c1, c2, c3, c4, c5, c6, rfl, h2, b2⟩
    exact q H2 b2
end
end K2
set_option Elab.async false
set_option linter.all false
set_option maxRecDepth 100000
set_option maxHeartbeats 4000000
set_option pp.maxSteps 400
set_option pp.deepTerms false
namespace K2
open PySem PySem.Spec PyProof.Rows L2
open Xk Az
section
variable {P : Program} {w : World} {K : PySem.W.Frag} {mg : Str → Option Value} {base : Heap} {C : Addr}
def spLaw (K : PySem.W.Frag) : Sp := fun vs H Q _ => ∃ (a : Addr) (ns : List Int), vs = [.ref a] ∧ SqL K H a (ns.map V.int) ∧ ns.length ≤ 63 ∧ ∀ H', Q (.bl true) H'
theorem ok_law {f fR : Addr} {fd fdR : FuncData} {e : Ex} (D : Df K mg "law" ["_law_script"] sLaw f fd) (T : Txt K mg C e) (cH : Ca P w K mg base 1 "_law_hand" ["_law_script", "_law_k"] (spHand K))
    (DR : Df K mg "_law_right" ["_law_hand_here"] sRight fR fdR) (GR : Gn P w K mg base 8 fR fdR ["_law_hand_here"] spRight) : Gn P w K mg base 9 f fd ["_law_script"] (spLaw K) := by
  refine gn_body D.fn scLaw (fun vs H Q E h => ?_) (fun cdv A outer s H vs Q E hg hr h => ?_)
  · obtain ⟨a, ns, rfl, _⟩ := h
    rfl
  · obtain ⟨a, ns, rfl, hS, hlen, q⟩ := h
    refine ⟨_, pss_one (ps_ret (pe_callB (cr_all (by rfl)) (by rfl) T.all (by decide +kernel) (pa_cons (pe_lc (own := [("_law_k", 1)]) (g := gName 1) (tt := tYes) (by rfl) scLaw.nd
      (pi_range1 (by rfl) T.range (pa_cons (pe_op op_add pe_int (pe_callB (call_min2 (by rfl)) (by rfl) T.min (by decide +kernel) (pa_cons pe_int (pa_cons (pe_callB call_len_seq (by rfl) T.len PySem.boot_len (pa_cons (pv 0) pa_nil)) pa_nil)))) pa_nil))
      (blkOk_by (own := [("_law_k", 1)]) (N := ["_law_script", "_law_k"]) (sc := defScope sLaw) (by decide +kernel))
      (fun _ _ _ _ _ => pg_name (i := 1) scLaw.nd rfl (.inl rfl)) (fun _ _ _ _ _ => pts_nil)
      (fun _ _ _ _ _ => pe_gn GR hg hr (by rfl) DR.mgf DR.fn.kp DR.bd (pa_cons (pe_ca cH hr (by decide) (by rfl) (pa_cons (pv 0) (pa_cons (pv 1) pa_nil))) pa_nil))) pa_nil))), ?_⟩
    refine ⟨_, rfl, a, _, rfl, .inl hS, 10, _, rfl, 2, _, rfl, rfl, _, rfl, ?_, ?_, fun L nL => ?_⟩
    · rw [List.length_map]
      split <;> omega
    · rw [List.length_map]
      split <;> omega
    · refine lc_range (lo := 0) (fun i Hi => Same H Hi ∧ Hi L = some (.lst ((List.replicate i true).map V.bl))) ⟨same_upd nL, upd_same⟩ ?_ ?_
      · rintro i Hi hi ⟨sm, hL⟩
        refine ⟨rfl, ?_⟩
        unfold tYes
        refine iteT ?_
        refine ⟨_, rfl, _, rfl, a, 0 + (i : Int), ns, rfl, by omega, sm.seq hS, fun p g m np g0 m0 m1 => ?_⟩
        refine ⟨p, rfl, ⟨g, m, 0, upd_same, g0, m0, m1, Int.le_refl _, Int.le_refl _⟩, fun H' bt => ?_⟩
        have nLp : L ≠ p := ne_of_none hL np
        refine ⟨_, bt L _ nLp (same_upd np _ _ hL), ?_, fun b o e => ?_, ?_⟩
        · rw [List.length_map, List.length_replicate]
          refine small1000 ?_
          have : i < (2 + (if ((ns.map V.int).length : Int) < 10 then ((ns.map V.int).length : Int) else 10)).toNat := hi
          rw [List.length_map] at this
          split at this <;> omega
        · rw [upd_ne (ne_of_none e nL)]
          have e2 := sm _ _ e
          exact bt _ _ (ne_of_none e2 np) (same_upd np _ _ e2)
        · rw [upd_same, List.replicate_succ', List.map_append]
          rfl
      · rintro He ⟨sm, hL⟩
        refine ⟨L, _, rfl, SqL.of hL, ?_⟩
        rw [show (List.replicate _ true).all id = true from List.all_eq_true.mpr fun b hb => (List.mem_replicate.mp hb).2]
        exact q _
end
end K2
set_option Elab.async false
set_option linter.all false
set_option maxRecDepth 100000
set_option maxHeartbeats 4000000
set_option pp.maxSteps 400
set_option pp.deepTerms false
namespace K2
open PySem PySem.Spec PyProof.Rows L2
open Xk Az
theorem kit_self {K : PySem.W.Frag} {C : Addr} : PySem.W.kitOne K (.ref C) (.ref C) = some true := by
  unfold PySem.W.kitOne
  simp
theorem kit_in {K : PySem.W.Frag} {t : Value} {c : Addr} {b : Bool} (ic : PySem.W.isClsIn K c = true) (ty : PySem.W.typeIn K (.ref c) = some (.type "type")) (sb : PySem.W.subIn K t (.ref c) = some b) : PySem.W.kitCls K t (.ref c) = some b := by
  have h : ((PySem.W.clsIn K c).isSome && PySem.W.typeIn K (.ref c) == some (.type "type")) = true := by
    rw [show (PySem.W.clsIn K c).isSome = true from ic, ty]
    rfl
  unfold PySem.W.kitCls
  simp only [h, if_true]
  exact sb
theorem kit_no {K : PySem.W.Frag} {a c : Addr} (ic : PySem.W.isClsIn K c = true) (ty : PySem.W.typeIn K (.ref c) = some (.type "type")) (sb : PySem.W.subIn K (.ref a) (.ref c) = some false) (me : PySem.W.subIn K (.ref a) (.ref a) = some true) :
    PySem.W.kitOne K (.ref a) (.ref c) = some false := by
  have ne : ((Value.ref a == Value.ref c) = true) = False := by
    refine propext ⟨fun z => ?_, False.elim⟩
    have z2 : a = c := Value.ref.inj (beq_iff_eq.mp z)
    rw [← z2, me] at sb
    cases sb
  unfold PySem.W.kitOne
  simp only [ne, if_false]
  exact kit_in ic ty sb
theorem kit_yes {K : PySem.W.Frag} {a c : Addr} (ic : PySem.W.isClsIn K c = true) (ty : PySem.W.typeIn K (.ref c) = some (.type "type")) (sb : PySem.W.subIn K (.ref a) (.ref c) = some true) : PySem.W.kitOne K (.ref a) (.ref c) = some true := by
  unfold PySem.W.kitOne
  split
  · rfl
  · exact kit_in ic ty sb
theorem kit_ve {K : PySem.W.Frag} {a : Addr} (sb : PySem.W.subIn K (.ref a) (.type "ValueError") = some true) : PySem.W.kitOne K (.ref a) (.type "ValueError") = some true := by
  have h : PySem.W.kitMeta "ValueError" = true := by decide +kernel
  unfold PySem.W.kitOne PySem.W.kitCls
  split
  · rfl
  · simp only [h, if_true]
    exact sb
theorem kit_skip {K : PySem.W.Frag} {t c : Value} {r : List Value} {b : Bool} (h : PySem.W.kitOne K t c = some false) (hr : PySem.W.kitAny K t r = some b) : PySem.W.kitAny K t (c :: r) = some b := by
  unfold PySem.W.kitAny
  rw [h]
  exact hr
theorem exm_is {K : PySem.W.Frag} {t : Value} {c : Addr} {b : Bool} (ic : PySem.W.isClsIn K c = true) (ty : PySem.W.typeIn K (.ref c) = some (.type "type")) (be : PySem.W.subIn K (.ref c) (.type "BaseException") = some true) (sb : PySem.W.subIn K t (.ref c) = some b) :
    PySem.W.exmOne K t (.ref c) = some b := by
  unfold PySem.W.exmOne
  rw [be, if_pos (by decide)]
  exact kit_in ic ty sb
theorem exm_3 {K : PySem.W.Frag} {t c1 c2 c3 : Value} {b2 b3 : Bool} (h1 : PySem.W.exmOne K t c1 = some true) (h2 : PySem.W.exmOne K t c2 = some b2) (h3 : PySem.W.exmOne K t c3 = some b3) : PySem.W.exmAny K t [c1, c2, c3] = some true := by
  unfold PySem.W.exmAny PySem.W.exmAny PySem.W.exmAny PySem.W.exmAny
  rw [h1, h2, h3]
  rfl
theorem all_mk {l : PySem.W.OpenLaw} {w : World} {K : PySem.W.Frag} {h : Heap} {mg : Str → Option Value} {fa cDay cNotSuch cLost cTaken cNoCustom cNoDay cNoDisc cNoEntry cNoKey cNoLength cNoLine cNoName cNoNumber cNoPath cNoText cSame cStruck cTwice f0 f1 f2 f3 f4 f5 f6 t6 f7 f8 f9 f10 f11 f12 f13 f14 f15 f16 f17 f18 f19 gMONTH_DAYS : Addr}
    {od0 an0 od1 an1 od2 an2 od3 an3 od4 an4 od5 an5 od6 an6 odT6 od7 an7 od8 an8 od9 an9 od10 an10 od11 an11 od12 an12 od13 an13 od14 an14 od15 an15 od16 an16 od17 an17 od18 an18 od19 an19 odgMONTH_DAYS : Option Addr}
    {sl0 sl1 sl2 sl3 sl4 sl5 sl6 slT6 sl7 sl8 sl9 sl10 sl11 sl12 sl13 sl14 sl15 sl16 sl17 sl18 sl19 slgMONTH_DAYS : Array (Option Value)}
    {oc0 kV0 dc0 pm0 cd0 ct0 oc1 kV1 dc1 pm1 cd1 ct1 oc2 kV2 dc2 pm2 cd2 ct2 oc3 kV3 dc3 pm3 cd3 ct3 oc4 kV4 dc4 pm4 cd4 ct4 oc5 kV5 dc5 pm5 cd5 ct5 oc6 kV6 dc6 pm6 cd6 ct6 ocT6 oc7 kV7 dc7 pm7 cd7 ct7 oc8 kV8 dc8 pm8 cd8 ct8 oc9 kV9 dc9 pm9 cd9 ct9 oc10 kV10 dc10 pm10 cd10 ct10 oc11 kV11 dc11 pm11 cd11 ct11 oc12 kV12 dc12 pm12 cd12 ct12 oc13 kV13 dc13 pm13 cd13 ct13 oc14 kV14 dc14 pm14 cd14 ct14 oc15 kV15 dc15 pm15 cd15 ct15 oc16 kV16 dc16 pm16 cd16 ct16 oc17 kV17 dc17 pm17 cd17 ct17 oc18 kV18 dc18 pm18 cd18 ct18 oc19 kV19 dc19 pm19 cd19 ct19 : Value}
    {nT6 ngMONTH_DAYS : Nat}
    {u_LAST_YEAR u_MONTHS u_FEBRUARY w_MONTH_DAYS0 w_MONTH_DAYS1 w_MONTH_DAYS2 w_MONTH_DAYS3 w_MONTH_DAYS4 w_MONTH_DAYS5 w_MONTH_DAYS6 w_MONTH_DAYS7 w_MONTH_DAYS8 w_MONTH_DAYS9 w_MONTH_DAYS10 w_MONTH_DAYS11 : Tok}
    {nmX qX : Str} {NX : Addr} {bsX bmX : List Value} {snX : List Str} {subX : List Value} {abX : Bool} {colX : Option Bool} {ddX : Option Addr} {k0X k1X k2X k3X k5X : Option Value}
     (X : K.In h) (G : h.Ns mainGlobals mg) (hfa : mg "law" = some (.ref fa))
    (a_Day : PySem.W.nsIn K mainGlobals "Day" = some (some (.ref cDay)))
    (a_NotSuch : PySem.W.nsIn K mainGlobals "NotSuch" = some (some (.ref cNotSuch)))
    (a_Lost : PySem.W.nsIn K mainGlobals "Lost" = some (some (.ref cLost)))
    (a_Taken : PySem.W.nsIn K mainGlobals "Taken" = some (some (.ref cTaken)))
    (a_NoCustom : PySem.W.nsIn K mainGlobals "NoCustom" = some (some (.ref cNoCustom)))
    (a_NoDay : PySem.W.nsIn K mainGlobals "NoDay" = some (some (.ref cNoDay)))
    (a_NoDisc : PySem.W.nsIn K mainGlobals "NoDisc" = some (some (.ref cNoDisc)))
    (a_NoEntry : PySem.W.nsIn K mainGlobals "NoEntry" = some (some (.ref cNoEntry)))
    (a_NoKey : PySem.W.nsIn K mainGlobals "NoKey" = some (some (.ref cNoKey)))
    (a_NoLength : PySem.W.nsIn K mainGlobals "NoLength" = some (some (.ref cNoLength)))
    (a_NoLine : PySem.W.nsIn K mainGlobals "NoLine" = some (some (.ref cNoLine)))
    (a_NoName : PySem.W.nsIn K mainGlobals "NoName" = some (some (.ref cNoName)))
    (a_NoNumber : PySem.W.nsIn K mainGlobals "NoNumber" = some (some (.ref cNoNumber)))
    (a_NoPath : PySem.W.nsIn K mainGlobals "NoPath" = some (some (.ref cNoPath)))
    (a_NoText : PySem.W.nsIn K mainGlobals "NoText" = some (some (.ref cNoText)))
    (a_Same : PySem.W.nsIn K mainGlobals "Same" = some (some (.ref cSame)))
    (a_Struck : PySem.W.nsIn K mainGlobals "Struck" = some (some (.ref cStruck)))
    (a_Twice : PySem.W.nsIn K mainGlobals "Twice" = some (some (.ref cTwice)))
    (a0 : PySem.W.findIn K (.ref cNoDay) "__init__" = some (some (.ref f0)))
    (i0 : PySem.W.isFn K (.ref f0) = true)
    (l0 : K.lookup f0 = some ⟨oc0, od0, .func (PySem.W.fnOf "__init__" "NoDay.__init__" (defArgs sNoDayInit) (defBody sNoDayInit) (defScope sNoDayInit) .none kV0 dc0 pm0 an0 cd0 ct0), sl0⟩)
    (c0 : PySem.W.codeIn K cd0 "NoDay.__init__" = true)
    (k0 : PySem.W.keepIn K (.ref f0) = true)
    (a1 : PySem.W.nsIn K mainGlobals "is_whole" = some (some (.ref f1)))
    (l1 : K.lookup f1 = some ⟨oc1, od1, .func (PySem.W.fnOf "is_whole" "is_whole" (defArgs sIsWhole) (defBody sIsWhole) (defScope sIsWhole) .none kV1 dc1 pm1 an1 cd1 ct1), sl1⟩)
    (c1 : PySem.W.codeIn K cd1 "is_whole" = true)
    (k1 : PySem.W.keepIn K (.ref f1) = true)
    (a2 : PySem.W.nsIn K mainGlobals "is_within" = some (some (.ref f2)))
    (l2 : K.lookup f2 = some ⟨oc2, od2, .func (PySem.W.fnOf "is_within" "is_within" (defArgs sIsWithin) (defBody sIsWithin) (defScope sIsWithin) .none kV2 dc2 pm2 an2 cd2 ct2), sl2⟩)
    (c2 : PySem.W.codeIn K cd2 "is_within" = true)
    (k2 : PySem.W.keepIn K (.ref f2) = true)
    (a3 : PySem.W.nsIn K mainGlobals "is_leap" = some (some (.ref f3)))
    (l3 : K.lookup f3 = some ⟨oc3, od3, .func (PySem.W.fnOf "is_leap" "is_leap" (defArgs sIsLeap) (defBody sIsLeap) (defScope sIsLeap) .none kV3 dc3 pm3 an3 cd3 ct3), sl3⟩)
    (c3 : PySem.W.codeIn K cd3 "is_leap" = true)
    (k3 : PySem.W.keepIn K (.ref f3) = true)
    (a4 : PySem.W.nsIn K mainGlobals "days_in" = some (some (.ref f4)))
    (l4 : K.lookup f4 = some ⟨oc4, od4, .func (PySem.W.fnOf "days_in" "days_in" (defArgs sDaysIn) (defBody sDaysIn) (defScope sDaysIn) .none kV4 dc4 pm4 an4 cd4 ct4), sl4⟩)
    (c4 : PySem.W.codeIn K cd4 "days_in" = true)
    (k4 : PySem.W.keepIn K (.ref f4) = true)
    (a5 : PySem.W.nsIn K mainGlobals "makes_day" = some (some (.ref f5)))
    (l5 : K.lookup f5 = some ⟨oc5, od5, .func (PySem.W.fnOf "makes_day" "makes_day" (defArgs sMakesDay) (defBody sMakesDay) (defScope sMakesDay) .none kV5 dc5 pm5 an5 cd5 ct5), sl5⟩)
    (c5 : PySem.W.codeIn K cd5 "makes_day" = true)
    (k5 : PySem.W.keepIn K (.ref f5) = true)
    (a6 : PySem.W.findIn K (.ref cDay) "__init__" = some (some (.ref f6)))
    (i6 : PySem.W.isFn K (.ref f6) = true)
    (l6 : K.lookup f6 = some ⟨oc6, od6, .func (PySem.W.fnOf "__init__" "Day.__init__" (defArgs sDayInit) (defBody sDayInit) (defScope sDayInit) (.ref t6) kV6 dc6 pm6 an6 cd6 ct6), sl6⟩)
    (c6 : PySem.W.codeIn K cd6 "Day.__init__" = true)
    (k6 : PySem.W.keepIn K (.ref f6) = true)
    (d6 : K.lookup t6 = some ⟨ocT6, odT6, .seq #[Value.none, Value.none] nT6, slT6⟩)
    (a7 : PySem.W.nsIn K mainGlobals "_law_hand" = some (some (.ref f7)))
    (l7 : K.lookup f7 = some ⟨oc7, od7, .func (PySem.W.fnOf "_law_hand" "_law_hand" (defArgs sHand) (defBody sHand) (defScope sHand) .none kV7 dc7 pm7 an7 cd7 ct7), sl7⟩)
    (c7 : PySem.W.codeIn K cd7 "_law_hand" = true)
    (k7 : PySem.W.keepIn K (.ref f7) = true)
    (a8 : PySem.W.nsIn K mainGlobals "_law_take" = some (some (.ref f8)))
    (l8 : K.lookup f8 = some ⟨oc8, od8, .func (PySem.W.fnOf "_law_take" "_law_take" (defArgs sTake) (defBody sTake) (defScope sTake) .none kV8 dc8 pm8 an8 cd8 ct8), sl8⟩)
    (c8 : PySem.W.codeIn K cd8 "_law_take" = true)
    (k8 : PySem.W.keepIn K (.ref f8) = true)
    (a9 : PySem.W.nsIn K mainGlobals "_law_pick" = some (some (.ref f9)))
    (l9 : K.lookup f9 = some ⟨oc9, od9, .func (PySem.W.fnOf "_law_pick" "_law_pick" (defArgs sPick) (defBody sPick) (defScope sPick) .none kV9 dc9 pm9 an9 cd9 ct9), sl9⟩)
    (c9 : PySem.W.codeIn K cd9 "_law_pick" = true)
    (k9 : PySem.W.keepIn K (.ref f9) = true)
    (a10 : PySem.W.nsIn K mainGlobals "_law_last" = some (some (.ref f10)))
    (l10 : K.lookup f10 = some ⟨oc10, od10, .func (PySem.W.fnOf "_law_last" "_law_last" (defArgs sLast) (defBody sLast) (defScope sLast) .none kV10 dc10 pm10 an10 cd10 ct10), sl10⟩)
    (c10 : PySem.W.codeIn K cd10 "_law_last" = true)
    (k10 : PySem.W.keepIn K (.ref f10) = true)
    (a11 : PySem.W.nsIn K mainGlobals "_law_parts" = some (some (.ref f11)))
    (l11 : K.lookup f11 = some ⟨oc11, od11, .func (PySem.W.fnOf "_law_parts" "_law_parts" (defArgs sParts) (defBody sParts) (defScope sParts) .none kV11 dc11 pm11 an11 cd11 ct11), sl11⟩)
    (c11 : PySem.W.codeIn K cd11 "_law_parts" = true)
    (k11 : PySem.W.keepIn K (.ref f11) = true)
    (a12 : PySem.W.nsIn K mainGlobals "_law_whole" = some (some (.ref f12)))
    (l12 : K.lookup f12 = some ⟨oc12, od12, .func (PySem.W.fnOf "_law_whole" "_law_whole" (defArgs sWhole) (defBody sWhole) (defScope sWhole) .none kV12 dc12 pm12 an12 cd12 ct12), sl12⟩)
    (c12 : PySem.W.codeIn K cd12 "_law_whole" = true)
    (k12 : PySem.W.keepIn K (.ref f12) = true)
    (a13 : PySem.W.nsIn K mainGlobals "_law_good" = some (some (.ref f13)))
    (l13 : K.lookup f13 = some ⟨oc13, od13, .func (PySem.W.fnOf "_law_good" "_law_good" (defArgs sGood) (defBody sGood) (defScope sGood) .none kV13 dc13 pm13 an13 cd13 ct13), sl13⟩)
    (c13 : PySem.W.codeIn K cd13 "_law_good" = true)
    (k13 : PySem.W.keepIn K (.ref f13) = true)
    (a14 : PySem.W.nsIn K mainGlobals "_law_odd" = some (some (.ref f14)))
    (l14 : K.lookup f14 = some ⟨oc14, od14, .func (PySem.W.fnOf "_law_odd" "_law_odd" (defArgs sOdd) (defBody sOdd) (defScope sOdd) .none kV14 dc14 pm14 an14 cd14 ct14), sl14⟩)
    (c14 : PySem.W.codeIn K cd14 "_law_odd" = true)
    (k14 : PySem.W.keepIn K (.ref f14) = true)
    (a15 : PySem.W.nsIn K mainGlobals "_law_spoilt" = some (some (.ref f15)))
    (l15 : K.lookup f15 = some ⟨oc15, od15, .func (PySem.W.fnOf "_law_spoilt" "_law_spoilt" (defArgs sSpoilt) (defBody sSpoilt) (defScope sSpoilt) .none kV15 dc15 pm15 an15 cd15 ct15), sl15⟩)
    (c15 : PySem.W.codeIn K cd15 "_law_spoilt" = true)
    (k15 : PySem.W.keepIn K (.ref f15) = true)
    (a16 : PySem.W.nsIn K mainGlobals "_law_alone" = some (some (.ref f16)))
    (l16 : K.lookup f16 = some ⟨oc16, od16, .func (PySem.W.fnOf "_law_alone" "_law_alone" (defArgs sAlone) (defBody sAlone) (defScope sAlone) .none kV16 dc16 pm16 an16 cd16 ct16), sl16⟩)
    (c16 : PySem.W.codeIn K cd16 "_law_alone" = true)
    (k16 : PySem.W.keepIn K (.ref f16) = true)
    (a17 : PySem.W.nsIn K mainGlobals "_law_caught" = some (some (.ref f17)))
    (l17 : K.lookup f17 = some ⟨oc17, od17, .func (PySem.W.fnOf "_law_caught" "_law_caught" (defArgs sCaught) (defBody sCaught) (defScope sCaught) .none kV17 dc17 pm17 an17 cd17 ct17), sl17⟩)
    (c17 : PySem.W.codeIn K cd17 "_law_caught" = true)
    (k17 : PySem.W.keepIn K (.ref f17) = true)
    (a18 : PySem.W.nsIn K mainGlobals "_law_right" = some (some (.ref f18)))
    (l18 : K.lookup f18 = some ⟨oc18, od18, .func (PySem.W.fnOf "_law_right" "_law_right" (defArgs sRight) (defBody sRight) (defScope sRight) .none kV18 dc18 pm18 an18 cd18 ct18), sl18⟩)
    (c18 : PySem.W.codeIn K cd18 "_law_right" = true)
    (k18 : PySem.W.keepIn K (.ref f18) = true)
    (a19 : PySem.W.nsIn K mainGlobals "law" = some (some (.ref f19)))
    (l19 : K.lookup f19 = some ⟨oc19, od19, .func (PySem.W.fnOf "law" "law" (defArgs sLaw) (defBody sLaw) (defScope sLaw) .none kV19 dc19 pm19 an19 cd19 ct19), sl19⟩)
    (c19 : PySem.W.codeIn K cd19 "law" = true)
    (k19 : PySem.W.keepIn K (.ref f19) = true)
    (g_LAST_YEAR : PySem.W.nsIn K mainGlobals "LAST_YEAR" = some (some (.int 9999 u_LAST_YEAR)))
    (g_MONTHS : PySem.W.nsIn K mainGlobals "MONTHS" = some (some (.int 12 u_MONTHS)))
    (g_FEBRUARY : PySem.W.nsIn K mainGlobals "FEBRUARY" = some (some (.int 2 u_FEBRUARY)))
    (g_MONTH_DAYS : PySem.W.nsIn K mainGlobals "MONTH_DAYS" = some (some (.ref gMONTH_DAYS)))
    (h_MONTH_DAYS : K.lookup gMONTH_DAYS = some ⟨.type "tuple", odgMONTH_DAYS, .seq #[.int 31 w_MONTH_DAYS0, .int 28 w_MONTH_DAYS1, .int 31 w_MONTH_DAYS2, .int 30 w_MONTH_DAYS3, .int 31 w_MONTH_DAYS4, .int 30 w_MONTH_DAYS5, .int 31 w_MONTH_DAYS6, .int 31 w_MONTH_DAYS7, .int 30 w_MONTH_DAYS8, .int 31 w_MONTH_DAYS9, .int 30 w_MONTH_DAYS10, .int 31 w_MONTH_DAYS11] ngMONTH_DAYS, slgMONTH_DAYS⟩)
    (ic_NotSuch : PySem.W.isClsIn K cNotSuch = true)
    (ty_NotSuch : PySem.W.typeIn K (.ref cNotSuch) = some (.type "type"))
    (sb_NotSuch : PySem.W.subIn K (.ref cNoDay) (.ref cNotSuch) = some true)
    (ic_Lost : PySem.W.isClsIn K cLost = true)
    (ty_Lost : PySem.W.typeIn K (.ref cLost) = some (.type "type"))
    (sb_Lost : PySem.W.subIn K (.ref cNoDay) (.ref cLost) = some false)
    (ic_Taken : PySem.W.isClsIn K cTaken = true)
    (ty_Taken : PySem.W.typeIn K (.ref cTaken) = some (.type "type"))
    (sb_Taken : PySem.W.subIn K (.ref cNoDay) (.ref cTaken) = some false)
    (ic_NoCustom : PySem.W.isClsIn K cNoCustom = true)
    (ty_NoCustom : PySem.W.typeIn K (.ref cNoCustom) = some (.type "type"))
    (sb_NoCustom : PySem.W.subIn K (.ref cNoDay) (.ref cNoCustom) = some false)
    (ic_NoDay : PySem.W.isClsIn K cNoDay = true)
    (ty_NoDay : PySem.W.typeIn K (.ref cNoDay) = some (.type "type"))
    (sb_NoDay : PySem.W.subIn K (.ref cNoDay) (.ref cNoDay) = some true)
    (ic_NoDisc : PySem.W.isClsIn K cNoDisc = true)
    (ty_NoDisc : PySem.W.typeIn K (.ref cNoDisc) = some (.type "type"))
    (sb_NoDisc : PySem.W.subIn K (.ref cNoDay) (.ref cNoDisc) = some false)
    (ic_NoEntry : PySem.W.isClsIn K cNoEntry = true)
    (ty_NoEntry : PySem.W.typeIn K (.ref cNoEntry) = some (.type "type"))
    (sb_NoEntry : PySem.W.subIn K (.ref cNoDay) (.ref cNoEntry) = some false)
    (ic_NoKey : PySem.W.isClsIn K cNoKey = true)
    (ty_NoKey : PySem.W.typeIn K (.ref cNoKey) = some (.type "type"))
    (sb_NoKey : PySem.W.subIn K (.ref cNoDay) (.ref cNoKey) = some false)
    (ic_NoLength : PySem.W.isClsIn K cNoLength = true)
    (ty_NoLength : PySem.W.typeIn K (.ref cNoLength) = some (.type "type"))
    (sb_NoLength : PySem.W.subIn K (.ref cNoDay) (.ref cNoLength) = some false)
    (ic_NoLine : PySem.W.isClsIn K cNoLine = true)
    (ty_NoLine : PySem.W.typeIn K (.ref cNoLine) = some (.type "type"))
    (sb_NoLine : PySem.W.subIn K (.ref cNoDay) (.ref cNoLine) = some false)
    (ic_NoName : PySem.W.isClsIn K cNoName = true)
    (ty_NoName : PySem.W.typeIn K (.ref cNoName) = some (.type "type"))
    (sb_NoName : PySem.W.subIn K (.ref cNoDay) (.ref cNoName) = some false)
    (ic_NoNumber : PySem.W.isClsIn K cNoNumber = true)
    (ty_NoNumber : PySem.W.typeIn K (.ref cNoNumber) = some (.type "type"))
    (sb_NoNumber : PySem.W.subIn K (.ref cNoDay) (.ref cNoNumber) = some false)
    (ic_NoPath : PySem.W.isClsIn K cNoPath = true)
    (ty_NoPath : PySem.W.typeIn K (.ref cNoPath) = some (.type "type"))
    (sb_NoPath : PySem.W.subIn K (.ref cNoDay) (.ref cNoPath) = some false)
    (ic_NoText : PySem.W.isClsIn K cNoText = true)
    (ty_NoText : PySem.W.typeIn K (.ref cNoText) = some (.type "type"))
    (sb_NoText : PySem.W.subIn K (.ref cNoDay) (.ref cNoText) = some false)
    (ic_Same : PySem.W.isClsIn K cSame = true)
    (ty_Same : PySem.W.typeIn K (.ref cSame) = some (.type "type"))
    (sb_Same : PySem.W.subIn K (.ref cNoDay) (.ref cSame) = some false)
    (ic_Struck : PySem.W.isClsIn K cStruck = true)
    (ty_Struck : PySem.W.typeIn K (.ref cStruck) = some (.type "type"))
    (sb_Struck : PySem.W.subIn K (.ref cNoDay) (.ref cStruck) = some false)
    (ic_Twice : PySem.W.isClsIn K cTwice = true)
    (ty_Twice : PySem.W.typeIn K (.ref cTwice) = some (.type "type"))
    (sb_Twice : PySem.W.subIn K (.ref cNoDay) (.ref cTwice) = some false)
    (be_NotSuch : PySem.W.subIn K (.ref cNotSuch) (.type "BaseException") = some true)
    (be_Lost : PySem.W.subIn K (.ref cLost) (.type "BaseException") = some true)
    (be_Taken : PySem.W.subIn K (.ref cTaken) (.type "BaseException") = some true)
    (sVE : PySem.W.subIn K (.ref cNoDay) (.type "ValueError") = some true)
    (oX : K.lookup cNoDay = some (excClassObj nmX qX cNoDay NX bsX bmX true snX subX abX colX ddX k0X k1X k2X k3X k5X "ValueError.__new__"))
    (hbX : PySem.HandSPX.refsVE bmX = true)
    (saX : PySem.W.findIn K (.ref cNoDay) "__setattr__" = some (some (.builtin "object.__setattr__")))
    (exX : PySem.W.subIn K (.ref cNoDay) (.type "BaseException") = some true)
    (kX : PySem.W.keepIn K (.ref cNoDay) = true)
    (gaX : PySem.W.findIn K (.ref cNoDay) "__getattribute__" = some (some (.builtin "BaseException.__getattribute__")))
    (ggX : PySem.W.findIn K (.ref cNoDay) "__getattr__" = some none)
    (hdX : PySem.W.hasDictIn K cNoDay = true)
    (haX : PySem.W.findIn K (.ref cNoDay) "__class__" = some (some (.builtin "object.__class__")))
    (hmX : PySem.W.mroIn K cNoDay (.type "object") = some true)
    (fYX : PySem.W.findIn K (.ref cNoDay) "year" = some none)
    (fMX : PySem.W.findIn K (.ref cNoDay) "month" = some none)
    (fDX : PySem.W.findIn K (.ref cNoDay) "day" = some none)
    (tyF : PySem.W.typeIn K (.ref f0) = some (.type "function"))
    (rdN : PySem.W.readsIn K cNotSuch (.type "type") = true)
    (spN : PySem.W.specialIn K (.ref cNotSuch) "__getattribute__" = some (some (.builtin "type.__getattribute__")))
    (fiN : PySem.W.findCls K (.ref cNotSuch) (.type "type") "__init__" = some (.val (.builtin "ValueError.__init__")))
    (pg : PySem.W.plainGet K cDay Str.empty = true)
    (hd : PySem.W.hasDictIn K cDay = true)
    (po : PySem.W.plainOver K cDay = true)
    (sa : PySem.W.findIn K (.ref cDay) "__setattr__" = some (some (.builtin "object.__setattr__")))
    (mk : PySem.W.makesIn K cDay = true)
    (kc : PySem.W.keepIn K (.ref cDay) = true)
    (nY : PySem.W.findIn K (.ref cDay) "year" = some none)
    (nMo : PySem.W.findIn K (.ref cDay) "month" = some none)
    (nD : PySem.W.findIn K (.ref cDay) "day" = some none)
    (hn : PySem.W.specialIn K (.builtin "object.__class__") "__get__" = some (some (.builtin "getset_descriptor.__get__")))
    (ht : PySem.W.takesIn K (.builtin "object.__class__") = some true)
    (z_isinstance : PySem.W.nsIn K mainGlobals "isinstance" = some none)
    (z_int : PySem.W.nsIn K mainGlobals "int" = some none)
    (z_bool : PySem.W.nsIn K mainGlobals "bool" = some none)
    (z_len : PySem.W.nsIn K mainGlobals "len" = some none)
    (z_abs : PySem.W.nsIn K mainGlobals "abs" = some none)
    (z_max : PySem.W.nsIn K mainGlobals "max" = some none)
    (z_min : PySem.W.nsIn K mainGlobals "min" = some none)
    (z_all : PySem.W.nsIn K mainGlobals "all" = some none)
    (z_range : PySem.W.nsIn K mainGlobals "range" = some none)
    (z_repr : PySem.W.nsIn K mainGlobals "repr" = some none)
    (z_str : PySem.W.nsIn K mainGlobals "str" = some none)
    (z_list : PySem.W.nsIn K mainGlobals "list" = some none)
    (z_ValueError : PySem.W.nsIn K mainGlobals "ValueError" = some none)
    : ∃ fd : FuncData, (∀ (s : Shared) (v : Value), BindsTo s fd ⟨[v], []⟩ [("_law_script", v)]) ∧
      ∀ base : Heap, K.In base → base.Ns mainGlobals mg → base.NoDigits → Gn l.prog w K mg base 9 fa fd ["_law_script"] (spLaw K) := by
  have e := hfa.symm.trans (PySem.W.mg_of X G a19)
  cases e
  have F0 := fun_mk (st := sNoDayInit) l0 c0 k0
  have B0 := F0.binds (ps := ["self", "year", "month", "day"]) fun _ _ _ _ _ _ us hl => match us, hl with | [_, _, _, _], _ => rfl
  have F1 := fun_mk (st := sIsWhole) l1 c1 k1
  have D1 : Df K mg "is_whole" ["thing"] sIsWhole f1 _ := ⟨F1, PySem.W.mg_of X G a1, F1.binds (ps := ["thing"]) fun _ _ _ _ _ _ us hl => match us, hl with | [_], _ => rfl⟩
  have F2 := fun_mk (st := sIsWithin) l2 c2 k2
  have D2 : Df K mg "is_within" ["thing", "least", "most"] sIsWithin f2 _ := ⟨F2, PySem.W.mg_of X G a2, F2.binds (ps := ["thing", "least", "most"]) fun _ _ _ _ _ _ us hl => match us, hl with | [_, _, _], _ => rfl⟩
  have F3 := fun_mk (st := sIsLeap) l3 c3 k3
  have D3 : Df K mg "is_leap" ["year"] sIsLeap f3 _ := ⟨F3, PySem.W.mg_of X G a3, F3.binds (ps := ["year"]) fun _ _ _ _ _ _ us hl => match us, hl with | [_], _ => rfl⟩
  have F4 := fun_mk (st := sDaysIn) l4 c4 k4
  have D4 : Df K mg "days_in" ["year", "month"] sDaysIn f4 _ := ⟨F4, PySem.W.mg_of X G a4, F4.binds (ps := ["year", "month"]) fun _ _ _ _ _ _ us hl => match us, hl with | [_, _], _ => rfl⟩
  have F5 := fun_mk (st := sMakesDay) l5 c5 k5
  have D5 : Df K mg "makes_day" ["year", "month", "day"] sMakesDay f5 _ := ⟨F5, PySem.W.mg_of X G a5, F5.binds (ps := ["year", "month", "day"]) fun _ _ _ _ _ _ us hl => match us, hl with | [_, _, _], _ => rfl⟩
  have F6 : FunD K "__init__" "Day.__init__" (defArgs sDayInit) (defBody sDayInit) (defScope sDayInit) [.non, .non] [] f6 _ :=
    ⟨⟨_, _, _, _, _, _, _, _, _, _, rfl, l6, c6, .inr ⟨by simp, t6, _, [Value.none, Value.none], _, rfl, d6, rfl, .cons rfl (.cons rfl .nil)⟩, .inl rfl⟩, k6⟩
  have F7 := fun_mk (st := sHand) l7 c7 k7
  have D7 : Df K mg "_law_hand" ["_law_script", "_law_k"] sHand f7 _ := ⟨F7, PySem.W.mg_of X G a7, F7.binds (ps := ["_law_script", "_law_k"]) fun _ _ _ _ _ _ us hl => match us, hl with | [_, _], _ => rfl⟩
  have F8 := fun_mk (st := sTake) l8 c8 k8
  have D8 : Df K mg "_law_take" ["_law_hand_here", "_law_many"] sTake f8 _ := ⟨F8, PySem.W.mg_of X G a8, F8.binds (ps := ["_law_hand_here", "_law_many"]) fun _ _ _ _ _ _ us hl => match us, hl with | [_, _], _ => rfl⟩
  have F9 := fun_mk (st := sPick) l9 c9 k9
  have D9 : Df K mg "_law_pick" ["_law_hand_here", "_law_some"] sPick f9 _ := ⟨F9, PySem.W.mg_of X G a9, F9.binds (ps := ["_law_hand_here", "_law_some"]) fun _ _ _ _ _ _ us hl => match us, hl with | [_, _], _ => rfl⟩
  have F10 := fun_mk (st := sLast) l10 c10 k10
  have D10 : Df K mg "_law_last" ["_law_y", "_law_m"] sLast f10 _ := ⟨F10, PySem.W.mg_of X G a10, F10.binds (ps := ["_law_y", "_law_m"]) fun _ _ _ _ _ _ us hl => match us, hl with | [_, _], _ => rfl⟩
  have F11 := fun_mk (st := sParts) l11 c11 k11
  have D11 : Df K mg "_law_parts" ["_law_hand_here"] sParts f11 _ := ⟨F11, PySem.W.mg_of X G a11, F11.binds (ps := ["_law_hand_here"]) fun _ _ _ _ _ _ us hl => match us, hl with | [_], _ => rfl⟩
  have F12 := fun_mk (st := sWhole) l12 c12 k12
  have D12 : Df K mg "_law_whole" ["_law_thing"] sWhole f12 _ := ⟨F12, PySem.W.mg_of X G a12, F12.binds (ps := ["_law_thing"]) fun _ _ _ _ _ _ us hl => match us, hl with | [_], _ => rfl⟩
  have F13 := fun_mk (st := sGood) l13 c13 k13
  have D13 : Df K mg "_law_good" ["_law_y", "_law_m", "_law_d"] sGood f13 _ := ⟨F13, PySem.W.mg_of X G a13, F13.binds (ps := ["_law_y", "_law_m", "_law_d"]) fun _ _ _ _ _ _ us hl => match us, hl with | [_, _, _], _ => rfl⟩
  have F14 := fun_mk (st := sOdd) l14 c14 k14
  have D14 : Df K mg "_law_odd" ["_law_hand_here", "_law_part"] sOdd f14 _ := ⟨F14, PySem.W.mg_of X G a14, F14.binds (ps := ["_law_hand_here", "_law_part"]) fun _ _ _ _ _ _ us hl => match us, hl with | [_, _], _ => rfl⟩
  have F15 := fun_mk (st := sSpoilt) l15 c15 k15
  have D15 : Df K mg "_law_spoilt" ["_law_hand_here", "_law_parts_here"] sSpoilt f15 _ := ⟨F15, PySem.W.mg_of X G a15, F15.binds (ps := ["_law_hand_here", "_law_parts_here"]) fun _ _ _ _ _ _ us hl => match us, hl with | [_, _], _ => rfl⟩
  have F16 := fun_mk (st := sAlone) l16 c16 k16
  have D16 : Df K mg "_law_alone" ["_law_e"] sAlone f16 _ := ⟨F16, PySem.W.mg_of X G a16, F16.binds (ps := ["_law_e"]) fun _ _ _ _ _ _ us hl => match us, hl with | [_], _ => rfl⟩
  have F17 := fun_mk (st := sCaught) l17 c17 k17
  have D17 : Df K mg "_law_caught" ["_law_way", "_law_y", "_law_m", "_law_d"] sCaught f17 _ := ⟨F17, PySem.W.mg_of X G a17, F17.binds (ps := ["_law_way", "_law_y", "_law_m", "_law_d"]) fun _ _ _ _ _ _ us hl => match us, hl with | [_, _, _, _], _ => rfl⟩
  have F18 := fun_mk (st := sRight) l18 c18 k18
  have D18 : Df K mg "_law_right" ["_law_hand_here"] sRight f18 _ := ⟨F18, PySem.W.mg_of X G a18, F18.binds (ps := ["_law_hand_here"]) fun _ _ _ _ _ _ us hl => match us, hl with | [_], _ => rfl⟩
  have F19 := fun_mk (st := sLaw) l19 c19 k19
  have D19 : Df K mg "law" ["_law_script"] sLaw fa _ := ⟨F19, PySem.W.mg_of X G a19, F19.binds (ps := ["_law_script"]) fun _ _ _ _ _ _ us hl => match us, hl with | [_], _ => rfl⟩
  let e : Ex := ⟨cNotSuch, cLost, cTaken, cNoCustom, cNoDay, cNoDisc, cNoEntry, cNoKey, cNoLength, cNoLine, cNoName, cNoNumber, cNoPath, cNoText, cSame, cStruck, cTwice⟩
  have no : ∀ {c : Addr}, PySem.W.isClsIn K c = true → PySem.W.typeIn K (.ref c) = some (.type "type") → PySem.W.subIn K (.ref cNoDay) (.ref c) = some false → PySem.W.kitOne K (.ref cNoDay) (.ref c) = some false := fun a b d => kit_no a b d sb_NoDay
  have exs : ∀ {c : Addr} {b : Bool}, PySem.W.isClsIn K c = true → PySem.W.typeIn K (.ref c) = some (.type "type") → PySem.W.subIn K (.ref c) (.type "BaseException") = some true → PySem.W.subIn K (.ref cNoDay) (.ref c) = some b → PySem.W.exmOne K (.ref cNoDay) (.ref c) = some b := fun a b d g => exm_is a b d g
  have T : Txt K mg cDay e := ⟨⟨pg, hd, po, sa⟩,
    nY,
    nMo,
    nD,
    PySem.W.mg_of X G a_Day,
    ⟨_, PySem.W.mg_of X G g_LAST_YEAR⟩,
    ⟨_, PySem.W.mg_of X G g_MONTHS⟩,
    ⟨_, PySem.W.mg_of X G g_FEBRUARY⟩,
    ⟨gMONTH_DAYS, PySem.W.mg_of X G g_MONTH_DAYS, fun H => .inr ⟨_, _, _, h_MONTH_DAYS, rfl, rfl, (by show 12 ≤ sizeLine; decide), .cons ⟨_, rfl⟩ (.cons ⟨_, rfl⟩ (.cons ⟨_, rfl⟩ (.cons ⟨_, rfl⟩ (.cons ⟨_, rfl⟩ (.cons ⟨_, rfl⟩ (.cons ⟨_, rfl⟩ (.cons ⟨_, rfl⟩ (.cons ⟨_, rfl⟩ (.cons ⟨_, rfl⟩ (.cons ⟨_, rfl⟩ (.cons ⟨_, rfl⟩ (.nil))))))))))))⟩⟩,
    PySem.W.mg_of X G a_NotSuch,
    PySem.W.mg_of X G a_Lost,
    PySem.W.mg_of X G a_Taken,
    PySem.W.mg_of X G a_NoCustom,
    PySem.W.mg_of X G a_NoDay,
    PySem.W.mg_of X G a_NoDisc,
    PySem.W.mg_of X G a_NoEntry,
    PySem.W.mg_of X G a_NoKey,
    PySem.W.mg_of X G a_NoLength,
    PySem.W.mg_of X G a_NoLine,
    PySem.W.mg_of X G a_NoName,
    PySem.W.mg_of X G a_NoNumber,
    PySem.W.mg_of X G a_NoPath,
    PySem.W.mg_of X G a_NoText,
    PySem.W.mg_of X G a_Same,
    PySem.W.mg_of X G a_Struck,
    PySem.W.mg_of X G a_Twice,
    PySem.W.mg_none_of X G z_isinstance,
    PySem.W.mg_none_of X G z_int,
    PySem.W.mg_none_of X G z_bool,
    PySem.W.mg_none_of X G z_len,
    PySem.W.mg_none_of X G z_abs,
    PySem.W.mg_none_of X G z_max,
    PySem.W.mg_none_of X G z_min,
    PySem.W.mg_none_of X G z_all,
    PySem.W.mg_none_of X G z_range,
    PySem.W.mg_none_of X G z_repr,
    PySem.W.mg_none_of X G z_str,
    PySem.W.mg_none_of X G z_list,
    PySem.W.mg_none_of X G z_ValueError,
    ⟨⟨nmX, qX, NX, bsX, bmX, snX, subX, abX, colX, ddX, k0X, k1X, k2X, k3X, k5X, oX, hbX⟩, saX, exX, ty_NoDay, kX⟩,
    ⟨ic_NoDay, gaX, ggX, exX, hdX, haX, hn, ht, hmX⟩,
    ⟨rdN, spN, fiN⟩,
    fYX,
    fMX,
    fDX,
    exm_3 (exs ic_NotSuch ty_NotSuch be_NotSuch sb_NotSuch) (exs ic_Lost ty_Lost be_Lost sb_Lost) (exs ic_Taken ty_Taken be_Taken sb_Taken),
    kit_skip (no ic_Lost ty_Lost sb_Lost) (kit_skip (no ic_Taken ty_Taken sb_Taken) (kit_skip (no ic_NoCustom ty_NoCustom sb_NoCustom) (kit_skip (no ic_NoDisc ty_NoDisc sb_NoDisc) (kit_skip (no ic_NoEntry ty_NoEntry sb_NoEntry) (kit_skip (no ic_NoKey ty_NoKey sb_NoKey) (kit_skip (no ic_NoLength ty_NoLength sb_NoLength) (kit_skip (no ic_NoLine ty_NoLine sb_NoLine) (rfl)))))))),
    kit_skip (no ic_NoName ty_NoName sb_NoName) (kit_skip (no ic_NoNumber ty_NoNumber sb_NoNumber) (kit_skip (no ic_NoPath ty_NoPath sb_NoPath) (kit_skip (no ic_NoText ty_NoText sb_NoText) (kit_skip (no ic_Same ty_Same sb_Same) (kit_skip (no ic_Struck ty_Struck sb_Struck) (kit_skip (no ic_Twice ty_Twice sb_Twice) (rfl))))))),
    kit_self,
    kit_yes ic_NotSuch ty_NotSuch sb_NotSuch,
    kit_ve sVE⟩
  refine ⟨PySem.W.fnOf "law" "law" (defArgs sLaw) (defBody sLaw) (defScope sLaw) .none kV19 dc19 pm19 an19 cd19 ct19, fun s v => .of_eq rfl, fun base kb gb nd => ?g⟩
  case g =>
    have N : Nd l.prog w K mg base e f0 _ := ⟨ok_nd (P := l.prog) (w := w) (base := base) F0 T, a0, tyF, B0⟩
    have cW := D1.ca (ok_whole (P := l.prog) (w := w) (base := base) D1 T)
    have cI := D2.ca (ok_within D2 cW)
    have cL := D3.ca (ok_leap (P := l.prog) (w := w) (base := base) D3)
    have cD := D4.ca (ok_daysIn D4 T cL)
    have cM := D5.ca (ok_makes D5 T cI cD)
    have G2 := dm_mk F6 ⟨mk, a6, i6, kc⟩ (ok_init F6 T N cM)
    have cH := D7.ca (ok_hand (P := l.prog) (w := w) (base := base) D7 T)
    have cT := D8.ca (ok_take (P := l.prog) (w := w) (base := base) D8)
    have cP := D9.ca (ok_pick D9 T cT)
    have cLa := D10.ca (ok_last (P := l.prog) (w := w) (base := base) D10)
    have cQ := D11.ca (ok_parts D11 cT cP cLa)
    have cWl := D12.ca (ok_wl (P := l.prog) (w := w) (base := base) D12 T)
    have cG := D13.ca (ok_good D13 cWl cLa)
    have GO := ok_odd D14 T cT cP
    have GS := ok_spoilt D15 T cT cLa D14 GO
    have cA := D16.ca (ok_alone (P := l.prog) (w := w) (base := base) D16 T)
    have cC := D17.ca (ok_caught D17 T G2)
    exact ok_law D19 T cH D18 (ok_right D18 T cT cQ cG cA cC D15 GS)
end K2
open PySem PySem.W PyProof.Rows
set_option maxRecDepth 100000 in
set_option maxHeartbeats 0 in
theorem PySem.Challenge.cw_takesworks_k02_days_refused_holds : PySem.Challenge.rw_takesworks_k02_days_refused.Holds := by
  w_on; o_law; k_head; (case hw => w_witness2)
  k_fill
  refine K2.walk_go (l := PySem.Challenge.rw_takesworks_k02_days_refused) (n := 63) (k := 9) (x := "_law_script") (sp := K2.spLaw) rfl (by decide) rfl ⟨rfl, by decide, by decide⟩ (fun w h Y => PySem.W.kIn_of Y) ?F
    (fun _ _ a ns hl hS => ⟨a, ns, rfl, hS, hl, fun _ => rfl⟩)
  case F =>
    intro w mg fa h KX G hmg
    refine' K2.all_mk KX G hmg ?a_Day ?a_NotSuch ?a_Lost ?a_Taken ?a_NoCustom ?a_NoDay ?a_NoDisc ?a_NoEntry ?a_NoKey ?a_NoLength ?a_NoLine ?a_NoName ?a_NoNumber ?a_NoPath ?a_NoText ?a_Same ?a_Struck ?a_Twice ?a0 ?i0 ?l0 ?c0 ?k0 ?a1 ?l1 ?c1 ?k1 ?a2 ?l2 ?c2 ?k2 ?a3 ?l3 ?c3 ?k3 ?a4 ?l4 ?c4 ?k4 ?a5 ?l5 ?c5 ?k5 ?a6 ?i6 ?l6 ?c6 ?k6 ?d6 ?a7 ?l7 ?c7 ?k7 ?a8 ?l8 ?c8 ?k8 ?a9 ?l9 ?c9 ?k9 ?a10 ?l10 ?c10 ?k10 ?a11 ?l11 ?c11 ?k11 ?a12 ?l12 ?c12 ?k12 ?a13 ?l13 ?c13 ?k13 ?a14 ?l14 ?c14 ?k14 ?a15 ?l15 ?c15 ?k15 ?a16 ?l16 ?c16 ?k16 ?a17 ?l17 ?c17 ?k17 ?a18 ?l18 ?c18 ?k18 ?a19 ?l19 ?c19 ?k19 ?g_LAST_YEAR ?g_MONTHS ?g_FEBRUARY ?g_MONTH_DAYS ?h_MONTH_DAYS ?ic_NotSuch ?ty_NotSuch ?sb_NotSuch ?ic_Lost ?ty_Lost ?sb_Lost ?ic_Taken ?ty_Taken ?sb_Taken ?ic_NoCustom ?ty_NoCustom ?sb_NoCustom ?ic_NoDay ?ty_NoDay ?sb_NoDay ?ic_NoDisc ?ty_NoDisc ?sb_NoDisc ?ic_NoEntry ?ty_NoEntry ?sb_NoEntry ?ic_NoKey ?ty_NoKey ?sb_NoKey ?ic_NoLength ?ty_NoLength ?sb_NoLength ?ic_NoLine ?ty_NoLine ?sb_NoLine ?ic_NoName ?ty_NoName ?sb_NoName ?ic_NoNumber ?ty_NoNumber ?sb_NoNumber ?ic_NoPath ?ty_NoPath ?sb_NoPath ?ic_NoText ?ty_NoText ?sb_NoText ?ic_Same ?ty_Same ?sb_Same ?ic_Struck ?ty_Struck ?sb_Struck ?ic_Twice ?ty_Twice ?sb_Twice ?be_NotSuch ?be_Lost ?be_Taken ?sVE ?oX ?hbX ?saX ?exX ?kX ?gaX ?ggX ?hdX ?haX ?hmX ?fYX ?fMX ?fDX ?tyF ?rdN ?spN ?fiN ?pg ?hd ?po ?sa ?mk ?kc ?nY ?nMo ?nD ?hn ?ht ?z_isinstance ?z_int ?z_bool ?z_len ?z_abs ?z_max ?z_min ?z_all ?z_range ?z_repr ?z_str ?z_list ?z_ValueError
    (case a_Day => k_is)
    (case a_NotSuch => k_is)
    (case a_Lost => k_is)
    (case a_Taken => k_is)
    (case a_NoCustom => k_is)
    (case a_NoDay => k_is)
    (case a_NoDisc => k_is)
    (case a_NoEntry => k_is)
    (case a_NoKey => k_is)
    (case a_NoLength => k_is)
    (case a_NoLine => k_is)
    (case a_NoName => k_is)
    (case a_NoNumber => k_is)
    (case a_NoPath => k_is)
    (case a_NoText => k_is)
    (case a_Same => k_is)
    (case a_Struck => k_is)
    (case a_Twice => k_is)
    (case a0 => k_is)
    (case i0 => k_is)
    (case l0 => k_is)
    (case c0 => k_is)
    (case k0 => k_is)
    (case a1 => k_is)
    (case l1 => k_is)
    (case c1 => k_is)
    (case k1 => k_is)
    (case a2 => k_is)
    (case l2 => k_is)
    (case c2 => k_is)
    (case k2 => k_is)
    (case a3 => k_is)
    (case l3 => k_is)
    (case c3 => k_is)
    (case k3 => k_is)
    (case a4 => k_is)
    (case l4 => k_is)
    (case c4 => k_is)
    (case k4 => k_is)
    (case a5 => k_is)
    (case l5 => k_is)
    (case c5 => k_is)
    (case k5 => k_is)
    (case a6 => k_is)
    (case i6 => k_is)
    (case l6 => k_is)
    (case c6 => k_is)
    (case k6 => k_is)
    (case d6 => k_is)
    (case a7 => k_is)
    (case l7 => k_is)
    (case c7 => k_is)
    (case k7 => k_is)
    (case a8 => k_is)
    (case l8 => k_is)
    (case c8 => k_is)
    (case k8 => k_is)
    (case a9 => k_is)
    (case l9 => k_is)
    (case c9 => k_is)
    (case k9 => k_is)
    (case a10 => k_is)
    (case l10 => k_is)
    (case c10 => k_is)
    (case k10 => k_is)
    (case a11 => k_is)
    (case l11 => k_is)
    (case c11 => k_is)
    (case k11 => k_is)
    (case a12 => k_is)
    (case l12 => k_is)
    (case c12 => k_is)
    (case k12 => k_is)
    (case a13 => k_is)
    (case l13 => k_is)
    (case c13 => k_is)
    (case k13 => k_is)
    (case a14 => k_is)
    (case l14 => k_is)
    (case c14 => k_is)
    (case k14 => k_is)
    (case a15 => k_is)
    (case l15 => k_is)
    (case c15 => k_is)
    (case k15 => k_is)
    (case a16 => k_is)
    (case l16 => k_is)
    (case c16 => k_is)
    (case k16 => k_is)
    (case a17 => k_is)
    (case l17 => k_is)
    (case c17 => k_is)
    (case k17 => k_is)
    (case a18 => k_is)
    (case l18 => k_is)
    (case c18 => k_is)
    (case k18 => k_is)
    (case a19 => k_is)
    (case l19 => k_is)
    (case c19 => k_is)
    (case k19 => k_is)
    (case g_LAST_YEAR => k_is)
    (case g_MONTHS => k_is)
    (case g_FEBRUARY => k_is)
    (case g_MONTH_DAYS => k_is)
    (case h_MONTH_DAYS => k_is)
    (case ic_NotSuch => k_is)
    (case ty_NotSuch => k_is)
    (case sb_NotSuch => k_is)
    (case ic_Lost => k_is)
    (case ty_Lost => k_is)
    (case sb_Lost => k_is)
    (case ic_Taken => k_is)
    (case ty_Taken => k_is)
    (case sb_Taken => k_is)
    (case ic_NoCustom => k_is)
    (case ty_NoCustom => k_is)
    (case sb_NoCustom => k_is)
    (case ic_NoDay => k_is)
    (case ty_NoDay => k_is)
    (case sb_NoDay => k_is)
    (case ic_NoDisc => k_is)
    (case ty_NoDisc => k_is)
    (case sb_NoDisc => k_is)
    (case ic_NoEntry => k_is)
    (case ty_NoEntry => k_is)
    (case sb_NoEntry => k_is)
    (case ic_NoKey => k_is)
    (case ty_NoKey => k_is)
    (case sb_NoKey => k_is)
    (case ic_NoLength => k_is)
    (case ty_NoLength => k_is)
    (case sb_NoLength => k_is)
    (case ic_NoLine => k_is)
    (case ty_NoLine => k_is)
    (case sb_NoLine => k_is)
    (case ic_NoName => k_is)
    (case ty_NoName => k_is)
    (case sb_NoName => k_is)
    (case ic_NoNumber => k_is)
    (case ty_NoNumber => k_is)
    (case sb_NoNumber => k_is)
    (case ic_NoPath => k_is)
    (case ty_NoPath => k_is)
    (case sb_NoPath => k_is)
    (case ic_NoText => k_is)
    (case ty_NoText => k_is)
    (case sb_NoText => k_is)
    (case ic_Same => k_is)
    (case ty_Same => k_is)
    (case sb_Same => k_is)
    (case ic_Struck => k_is)
    (case ty_Struck => k_is)
    (case sb_Struck => k_is)
    (case ic_Twice => k_is)
    (case ty_Twice => k_is)
    (case sb_Twice => k_is)
    (case be_NotSuch => k_is)
    (case be_Lost => k_is)
    (case be_Taken => k_is)
    (case sVE => k_is)
    (case oX => k_is)
    (case hbX => decide +kernel)
    (case saX => k_is)
    (case exX => k_is)
    (case kX => k_is)
    (case gaX => k_is)
    (case ggX => k_is)
    (case hdX => k_is)
    (case haX => k_is)
    (case hmX => k_is)
    (case fYX => k_is)
    (case fMX => k_is)
    (case fDX => k_is)
    (case tyF => k_is)
    (case rdN => k_is)
    (case spN => k_is)
    (case fiN => k_is)
    (case pg => k_is)
    (case hd => k_is)
    (case po => k_is)
    (case sa => k_is)
    (case mk => k_is)
    (case kc => k_is)
    (case nY => k_is)
    (case nMo => k_is)
    (case nD => k_is)
    (case hn => k_is)
    (case ht => k_is)
    (case z_isinstance => k_is)
    (case z_int => k_is)
    (case z_bool => k_is)
    (case z_len => k_is)
    (case z_abs => k_is)
    (case z_max => k_is)
    (case z_min => k_is)
    (case z_all => k_is)
    (case z_range => k_is)
    (case z_repr => k_is)
    (case z_str => k_is)
    (case z_list => k_is)
    (case z_ValueError => k_is)
