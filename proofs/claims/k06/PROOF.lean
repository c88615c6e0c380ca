import PyProof.Rows.All
import Wide.All
import OpenK.AllK
import Wide.FinOn
import HandS.ForMost
import HandS.ForExc
import HandS.Wide
import HandS.Flow
import HandS.IsInst
import HandS.Codes
import HandS.ExcInit
import HandS.ExcField
import HandS.ExcIs
import HandS.CallSlots
import HandS.Defaults
import HandS.MakeKw
import HandS.MakeKwOnly
import KE.KExcIs
import KE.KTryMore
import HandS.Zip
import HandS.TupAny
import HandS.RaiseMore
import HandS.DeepEq
import PySem.Challenge.RW_takesworks_k06_lengths_together
set_option Elab.async false
set_option linter.all false
set_option maxRecDepth 100000
set_option maxHeartbeats 4000000
set_option pp.maxSteps 400
set_option pp.deepTerms false
/-! A caught exception that is kept: tracked as an object of its own, with its class and its dict. -/
namespace Xk
open PySem PySem.Spec PyProof.Rows L2
/-- at a: an exception of the class cls, its dict at d (if it has one) -/
def ExK (cls : Value) (d : Option Addr) (a : Addr) : HO := .ext fun h => ∃ oe : Obj, h.get? a = some oe ∧ Zc cls d oe ∧ ∃ vs, oe.data = .fields vs
theorem exK_ok {P : Program} {w : World} {H : Hp} {h : Heap} {a : Addr} {cls : Value} {d : Option Addr} {oe : Obj} {vs : Array Value}
    (e : h.get? a = some oe) (z : Zc cls d oe) (hd : oe.data = .fields vs) : ObjOk P w H h a (ExK cls d a) :=
  ⟨⟨oe, e, z, vs, hd⟩, ⟨oe, e⟩, fun _ _ y k => by
    obtain ⟨o, q, r⟩ := y
    exact ⟨o, k o q, r⟩⟩
theorem exK_at {P : Program} {w : World} {H : Hp} {h : Heap} {a : Addr} {cls : Value} {d : Option Addr} (hok : HOk P w H h) (e : H a = some (ExK cls d a)) :
    ∃ oe : Obj, h.get? a = some oe ∧ Zc cls d oe ∧ ∃ vs, oe.data = .fields vs := by
  have z : ObjOk P w H h a (.ext fun h => ∃ oe : Obj, h.get? a = some oe ∧ Zc cls d oe ∧ ∃ vs, oe.data = .fields vs) := hok a _ e
  exact z.1
section
variable {X : Cx} {pins : List (Addr × Obj)} {σ : L2.St} {H : Hp} {s : Shared}
/-- an object that came during the call, untracked as yet, is tracked from here on -/
theorem track {a : Addr} {o : HO} (I : Inv X pins σ H s) (h0 : X.s_0.heap.get? a = none) (na : H a = none) (nL : a ≠ X.env.locals)
    (nC : ∀ x c, X.env.cells.lookup x = some c → c ≠ a) (nP : ∀ p ∈ X.pn ++ pins, p.1 ≠ a) (new : ObjOk X.prog X.w (upd H a o) s.heap a o) : Inv X pins σ (upd H a o) s := by
  have n0 : ∀ {b : Addr} {u : Obj}, X.s_0.heap.get? b = some u → b ≠ a := fun {b u} e z => by
    rw [z, h0] at e
    cases e
  refine ⟨I.ok, I.os, I.bare, ⟨I.base.keep, I.base.slot, fun b u e n hx => ?_, I.base.there, fun b xs e => ?_, fun b u v e => ?_, fun b ps e => ?_⟩, I.loc, I.cell, ?_, fun x c e => ?_, fun p hp => ?_, fun b u e => ?_, I.len⟩
  · rw [upd_ne (n0 e)]
    exact I.base.free b u e n hx
  · have q := I.base.tups b xs e
    rw [upd_ne (ne_of_none q na)]
    exact q
  · have q := I.base.frzs b u v e
    rw [upd_ne (ne_of_none q na)]
    exact q
  · obtain ⟨m, q⟩ := I.base.tbls b ps e
    exact ⟨m, by rw [upd_ne (ne_of_none q na)]; exact q⟩
  · rw [upd_ne (Ne.symm nL)]
    exact I.free
  · rw [upd_ne (nC x c e)]
    exact I.freeC x c e
  · obtain ⟨e1, e2, e3⟩ := I.pin p hp
    exact ⟨e1, by rw [upd_ne (nP p hp)]; exact e2, e3⟩
  · by_cases hb : b = a
    · subst hb
      rw [upd_same] at e
      cases e
      exact new
    · rw [upd_ne hb] at e
      refine (I.hok b u e).stay (fun _ _ _ q => q) (fun c q => ?_) fun c xs q => ?_
      · rw [upd_ne (ne_of_none q na)]
        exact q
      · rw [upd_ne (ne_of_none q na)]
        exact q
end
theorem flying_kept {B h h' : Heap} {l : List Env} {a : Addr} {Z : Obj → Prop} (f : HandSPX.FlyingZ B l a Z h) (k : ∀ b o, h.get? b = some o → h'.get? b = some o) : HandSPX.FlyingZ B l a Z h' := by
  obtain ⟨f1, f2, f3, oe, vs, T, oT, ts, t1, t2, t3, t4, t5, t6, t7, t8, t9⟩ := f
  exact ⟨fun b o e => k b o (f1 b o e), f2, f3.of_keeps fun b o e _ => ⟨o, k b o e, rfl⟩, oe, vs, T, oT, ts, k _ _ t1, t2, t3, t4, t5, t6, k _ _ t7, t8, t9⟩
/-- what the clause 'except (A, B, C) as n' wishes of an exception of the body: slot i is n's; the exception is tracked -/
def wKeep (K : PySem.W.Frag) (cs : List Value) (i : Nat) (ts : Addr → TS) (Wout : WX) (D : Ends) : WX := fun cls d σ H =>
  ∃ b, PySem.W.exmAny K cls cs = some b ∧
    (b = true → ∀ a, H a = none → ts a { nx := fun σ' H' => D.nx (σ'.set i none) H', rt := D.rt, bk := fun σ' H' => D.bk (σ'.set i none) H', ct := fun σ' H' => D.ct (σ'.set i none) H' } (σ.set i (some (.ref a))) (upd H a (ExK cls d a))) ∧
    (b = false → Wout cls d σ H)
/-- a module's own class by its name -/
structure Nm (X : Cx) (x : Str) (C : Addr) : Prop where
  gl : Gl X x
  db : (x == ("__debug__" : Str)) = false
  mg : X.mg x = some (.ref C)
section
variable {X : Cx} {x1 x2 x3 n : Str} {C1 C2 C3 : Addr} {i : Nat} {body suite : List Stmt} {b₀ : Stmt} {p1 p2 p3 tp pos pos' : Pos} {tb : WX → TS} {ts : Addr → TS} {Wout : WX} {cx}
theorem ps_try_keep (hs : X.stack = X.env :: X.outer) (hf : X.env.frame = some X.env.locals) (hex : X.ex = []) (hN : X.N.Nodup) (hi : X.N[i]? = some n) (hln : X.env.kindOf n = some .local)
    (n1 : Nm X x1 C1) (n2 : Nm X x2 C2) (n3 : Nm X x3 C3) (tk : Takes X Wout)
    (hb : ∀ (W : WX) (pn : List (Addr × Obj)) (xe : Value → Shared → Prop), Takes (X.tr pn xe) W → PassesOwn (model X.prog X.w) X.A X.env xe → PSs (X.tr pn xe) body (tb W))
    (hsu : ∀ (a : Addr) (pn : List (Addr × Obj)), PSs (X.suite a pn) (b₀ :: suite) (ts a)) :
    PS X (.Try body [.ExceptHandler (some (.Tuple [.Name x1 p1, .Name x2 p2, .Name x3 p3] cx tp)) (some n) (b₀ :: suite) pos'] [] [] pos) (fun D σ H => tb (wKeep X.K [.ref C1, .ref C2, .ref C3] i ts Wout D) D σ H) := by
  refine ⟨fun pins s σ H D I h => ?_⟩
  have ok := I.ok
  have frs2 : X.A.frames = some (X.env :: X.outer) := by rw [ok.frames, hs]
  refine wpAny_Try_except ?_
  refine wpAny_mono ((hb (wKeep X.K [.ref C1, .ref C2, .ref C3] i ts Wout D) (X.pn ++ pins)
    (fun e s₁ => wpAny (model X.prog X.w) X.A (noteFrame e X.env) (fun _ s₂ => wpAny (model X.prog X.w) X.A (setFlight e none) (fun _ s₃ => wpAny (model X.prog X.w) X.A
      (handleBy e X.env [.ExceptHandler (some (.Tuple [.Name x1 p1, .Name x2 p2, .Name x3 p3] cx tp)) (some n) (b₀ :: suite) pos']) (SP X pins D) X.xe s₃) X.xe s₂) X.xe s₁)
    (fun u s' air => ?_) PassesOwn.looking).run [] s σ H D (I.toTry _) h) (fun f s1 hsp => ?_) (fun e s1 he => he)
  · obtain ⟨a, B, sI, pins', σ', H', cls, d, rfl, J', nb, up, sky, na, os, ag, b, hb1, hyes, hno⟩ := air
    have J : Inv X pins σ' H' sI := J'.ofTry ok
    have sky2 : Sky B (X.env :: X.outer) a (Zc cls d) X.env.locals s'.heap := by
      rw [← hs]
      exact sky
    refine Sky.land Zc.steady frs2 hf sky2 fun h3 fl3 up3 => ?_
    obtain ⟨oe3, vs3, he3, hz3, hd3⟩ := fl3.there
    have nfr : a ∉ frs (X.env :: X.outer) := fun hm => by
      obtain ⟨_, o', e', hnf⟩ := fl3.2.2.1.mem hm
      rw [he3] at e'
      cases e'
      exact hnf _ hd3
    have nL : a ≠ X.env.locals := fun z => nfr (List.mem_filterMap.mpr ⟨X.env, List.mem_cons_self, by rw [hf, z]⟩)
    have nF : a ∉ X.fs := fun hm => by
      obtain ⟨e, he, q⟩ := List.mem_filterMap.mp hm
      exact nfr (List.mem_filterMap.mpr ⟨e, List.mem_cons_of_mem _ he, q⟩)
    -- it was not there when the call began
    have aI : sI.heap.get? a = none := by
      cases e : sI.heap.get? a with
      | none => rfl
      | some o =>
        have z := nb a o e (by rw [hs]; exact nfr)
        rw [fl3.2.1] at z
        cases z
    have a0 : X.s_0.heap.get? a = none := by
      cases e : X.s_0.heap.get? a with
      | none => rfl
      | some o =>
        obtain ⟨o', z⟩ := J.base.there a o e (by rw [hex]; exact fun z => nomatch z)
        rw [aI] at z
        cases z
    have nP : ∀ p ∈ X.pn ++ pins, p.1 ≠ a := fun p hp z => by
      have q := (J.pin p hp).1
      rw [z, aI] at q
      cases q
    have trk : ∀ {h4 : Heap} {s4 : Shared}, s4.heap = h4 → HandSPX.FlyingZ B (X.env :: X.outer) a (Zc cls d) h4 → Inv X pins σ' H' s4 → Inv X pins σ' (upd H' a (ExK cls d a)) s4 := fun {h4 s4} e4 fl4 J4 => by
      subst e4
      obtain ⟨oe4, vs4, he4, hz4, hd4⟩ := fl4.there
      refine track J4 a0 na nL (fun x c e z => ?_) nP (exK_ok he4 hz4 hd4)
      obtain ⟨v, o, eo, ed⟩ := J4.cell x c e
      rw [z, he4] at eo
      cases eo
      rw [hd4] at ed
      cases ed
    have J3 : Inv X pins σ' H' { s' with heap := h3 } := J.landed nb fl3.1 (up.trans up3) os ag
    have S3 : Inv (X.suite a (X.pn ++ pins)) [] σ' H' { s' with heap := h3 } :=
      ⟨J3.ok.suite _ _, J3.os, J3.bare, J3.base, J3.loc, J3.cell, J3.free, J3.freeC, fun p hp => J3.pin p (by rw [List.append_nil] at hp; exact hp), J3.hok, J3.len⟩
    refine wpAny_handleBy_cons (codeAny_handlers_test ?_) (by intro q; cases q)
    have own : ∀ {x : Str} {C : Addr} {p : Pos} {Q : Value → Shared → Prop} {E : Value → Shared → Prop}, Nm X x C → Q (.ref C) { s' with heap := h3 } →
        wpAny (model X.prog X.w) (X.A.mark (some (.ref a))) (eval (.Name x p) X.env) Q E { s' with heap := h3 } := fun {x C p Q E} z q => ld_glob (X := X.suite a (X.pn ++ pins)) S3 z.gl z.mg q z.db
    have tup : ∀ {Q : Value → Shared → Prop} {E : Value → Shared → Prop}, Q (.ref h3.objs.size) { s' with heap := h3.push { cls := .type "tuple", data := .seq [Value.ref C1, .ref C2, .ref C3].toArray } } →
        wpAny (model X.prog X.w) (X.A.mark (some (.ref a))) (eval (.Tuple [.Name x1 p1, .Name x2 p2, .Name x3 p3] cx tp) X.env) Q E { s' with heap := h3 } := fun {Q E} q => by
      refine wpAny_Tuple_spliced ?_
      show wpAny _ _ (spliced ((false, eval (.Name x1 p1) X.env) :: (false, eval (.Name x2 p2) X.env) :: (false, eval (.Name x3 p3) X.env) :: [])) _ _ _
      exact Calls.spliced_cons (own n1 (Calls.spliced_cons (own n2 (Calls.spliced_cons (own n3 (Calls.spliced_nil ⟨by show 3 ≤ sizeLine; decide, q⟩))))))
    refine tup ?_
    have k4 : ∀ b o, h3.get? b = some o → (h3.push { cls := .type "tuple", data := .seq [Value.ref C1, .ref C2, .ref C3].toArray }).get? b = some o := fun b o e => Heap.get?_push_of_some _ e
    have t4 := Heap.get?_push_size h3 (o := { cls := .type "tuple", data := .seq [Value.ref C1, .ref C2, .ref C3].toArray }) rfl
    generalize h3.push { cls := .type "tuple", data := .seq [Value.ref C1, .ref C2, .ref C3].toArray } = h4 at k4 t4 ⊢
    have fl4 := flying_kept fl3 k4
    have J4 : Inv X pins σ' H' { s' with heap := h4 } := J3.kept k4
    have LT : PySem.W.Looks (model X.prog X.w) h4 (typeOf (.ref a)) cls := fun A Q E s k q => wpAny_typeOf_ref (k _ _ (k4 _ _ he3)) (by rw [hz3.1]; exact q)
    refine (PySem.W.exm_tup3 (M := model X.prog X.w) J4.kIn LT t4 hb1).here ?_
    cases b with
    | true =>
      refine codeAny_handlers_suite_as ?_
      refine HandSPX.lands_againZ fl4 fun h5 fl5 up5 => ?_
      have J5 : Inv X pins σ' H' { s' with heap := h5 } := J.landed nb fl5.1 ((up.trans up3).trans ((Heap.UpToSlots.of_keeps k4).trans up5)) os ag
      have T5 := trk rfl fl5 J5
      have S5 : Inv (X.suite a (X.pn ++ pins)) [] σ' (upd H' a (ExK cls d a)) { s' with heap := h5 } :=
        ⟨T5.ok.suite _ _, T5.os, T5.bare, T5.base, T5.loc, T5.cell, T5.free, T5.freeC, fun p hp => T5.pin p (by rw [List.append_nil] at hp; exact hp), T5.hok, T5.len⟩
      refine store_ok (X := X.suite a (X.pn ++ pins)) (v := .ref a) S5 hN hi (.inl hln) rfl (fun s6 S6 => ?_) (.inr hln)
      refine wpAny_mono ((hsu a (X.pn ++ pins)).run [] s6 _ _ _ S6 (hyes rfl a na)) (fun f s7 hsp => ?_) (fun _ _ z => False.elim z)
      have back : ∀ {σ7 : L2.St} {H7 : Hp}, Inv (X.suite a (X.pn ++ pins)) [] σ7 H7 s7 → Inv X pins σ7 H7 s7 := fun {σ7 H7} S7 =>
        ⟨ok, S7.os, S7.bare, S7.base, S7.loc, S7.cell, S7.free, S7.freeC, fun p hp => S7.pin p (by rw [List.append_nil]; exact hp), S7.hok, S7.len⟩
      cases f with
      | next =>
        obtain ⟨σ7, H7, S7, q7⟩ := hsp
        exact gone_ok (back S7) hN hi hln fun s8 J8 => ⟨_, _, J8, q7⟩
      | brk =>
        obtain ⟨σ7, H7, S7, q7⟩ := hsp
        exact gone_ok (back S7) hN hi hln fun s8 J8 => ⟨_, _, J8, q7⟩
      | cont =>
        obtain ⟨σ7, H7, S7, q7⟩ := hsp
        exact gone_ok (back S7) hN hi hln fun s8 J8 => ⟨_, _, J8, q7⟩
      | ret u =>
        obtain ⟨v7, σ7, H7, S7, r7, q7⟩ := hsp
        exact gone_ok (back S7) hN hi hln fun s8 J8 => ⟨_, _, _, J8, r7, q7⟩
    | false =>
      refine wpAny_handleBy_nil ?_
      obtain ⟨k1, k2, k3, oe, vs, T, oT, ts', he, hz, hd, h1, hr⟩ := id fl4
      unfold PySem.passOn
      refine wpAny_bind (wpAny_field he hd h1 ?_)
      rw [if_neg (by simp : ¬ ((Value.ref T == Value.none) = true))]
      have fin : wpAny (model X.prog X.w) X.A (setFlight (.ref a) X.env.frame) (fun _ s5 => wpAny (model X.prog X.w) X.A (throw (.ref a) : Sem Flow) (SP X pins D) X.xe s5) X.xe { s' with heap := h4 } := by
        rw [hf]
        refine HandSPX.setFlight_upZ fl4 fun h5 hh5 up5 => wpAny_throw (tk _ _ ?_)
        exact ⟨a, B, sI, pins, σ', H', cls, d, rfl, J, nb, (up.trans up3).trans ((Heap.UpToSlots.of_keeps k4).trans up5), .inr (.inr (by rw [hs]; exact hh5)), na, os, ag, hno rfl⟩
      first
        | exact wpAny_bind (wpAny_pure (wpAny_bind fin))
        | exact wpAny_bind fin
  · cases f with
    | next =>
      obtain ⟨σ', H', J', q⟩ := hsp
      exact wpAny_execs_nil ⟨σ', H', J'.ofTry ok, q⟩
    | brk =>
      obtain ⟨σ', H', J', q⟩ := hsp
      exact ⟨σ', H', J'.ofTry ok, q⟩
    | cont =>
      obtain ⟨σ', H', J', q⟩ := hsp
      exact ⟨σ', H', J'.ofTry ok, q⟩
    | ret u =>
      obtain ⟨v, σ', H', J', r, q⟩ := hsp
      exact ⟨v, σ', H', J'.ofTry ok, r, q⟩
end
end Xk
set_option Elab.async false
set_option linter.all false
set_option maxRecDepth 100000
set_option maxHeartbeats 4000000
set_option pp.maxSteps 400
set_option pp.deepTerms false
namespace Xk
open PySem PySem.Spec PyProof.Rows L2
/-- what an own exception class says, so that its kept instances are read and asked -/
structure XcC (K : PySem.W.Frag) (C : Addr) : Prop where
  cl : (PySem.W.clsIn K C).isSome = true
  ga : PySem.W.findIn K (.ref C) "__getattribute__" = some (some (.builtin "BaseException.__getattribute__"))
  gg : PySem.W.findIn K (.ref C) "__getattr__" = some none
  sb : PySem.W.subIn K (.ref C) (.type "BaseException") = some true
  hd : PySem.W.hasDictIn K C = true
  ha : PySem.W.findIn K (.ref C) "__class__" = some (some (.builtin "object.__class__"))
  hn : PySem.W.specialIn K (.builtin "object.__class__") "__get__" = some (some (.builtin "getset_descriptor.__get__"))
  ht : PySem.W.takesIn K (.builtin "object.__class__") = some true
  hm : PySem.W.mroIn K C (.type "object") = some true
/-- a kept exception of the class at C with the fields fs -/
def Kept (H : Hp) (a C : Addr) (fs : List (Str × V)) : Prop := ∃ d, H a = some (ExK (.ref C) (some d) a) ∧ H d = some (.xd fs)
theorem Kept.same {H H' : Hp} {a C : Addr} {fs : List (Str × V)} (k : Kept H a C fs) (s : L2.Same H H') : Kept H' a C fs := by
  obtain ⟨d, e1, e2⟩ := k
  exact ⟨d, s _ _ e1, s _ _ e2⟩
section
variable {X : Cx} {pins : List (Addr × Obj)} {σ : L2.St} {H : Hp} {s : Shared}
theorem Kept.inst {a C : Addr} {fs : List (Str × V)} (I : Inv X pins σ H s) (k : Kept H a C fs) :
    ∃ (oe od : Obj) (mA : Str → Option Value), PySem.W.InstAt s.heap a oe C (some od) ∧ (∀ n, PySem.W.lookIn n od = some (mA n)) ∧ ∀ f, RelO (fs.lookup f) (mA f) := by
  obtain ⟨d, e1, e2⟩ := k
  obtain ⟨oe, he, hz, vs, hv⟩ := exK_at I.hok e1
  have hx : ObjOk X.prog X.w H s.heap d (.xd fs) := I.hok d _ e2
  obtain ⟨mA, hns, hr⟩ := hx
  obtain ⟨od, ho, hl⟩ := lookIn_ns hns
  refine ⟨oe, od, mA, ⟨he, hz.1, by unfold PySem.W.notCls; rw [hv] <;> rfl, by rw [hz.2]; exact ho⟩, hl, hr⟩
end
/-- e.f of a kept exception -/
def tKf (C : Addr) (f : Str) (te : TE) : TE := fun σ H Q => te σ H fun x H1 => ∃ (a : Addr) (fs : List (Str × V)) (v : V), x = .ref a ∧ Kept H1 a C fs ∧ fs.lookup f = some v ∧ Q v H1
theorem pe_kf {X : Cx} {C : Addr} {e : Expr} {te : TE} {pos : Pos} {n : Str} (T : XcC X.K C) (hno : PySem.W.findIn X.K (.ref C) n = some none) (he : PE X e te)
    (hb : attributeBase e n X.env (eval e X.env) = eval e X.env := by rfl) : PE X (.Attribute e n pos) (tKf C n te) := by
  refine ⟨fun pins s σ H Q I h => attr_of hb (thn (he.run pins s σ H _ I h) fun u s1 z => ?_)⟩
  obtain ⟨x, H1, I1, rx, a, fs, v, ex, k, l, q⟩ := z
  subst ex
  obtain rfl : u = Value.ref a := rx
  obtain ⟨oe, od, mA, J, hl, hr⟩ := k.inst I1
  obtain ⟨y, hy, ry⟩ := RelO.some_of (v := v) (o := mA n) (by rw [← l]; exact hr n)
  exact HandSPX.exc_get I1.kIn J T.ga T.gg T.sb (PySem.W.findObj_own T.hd hno rfl (by rw [hl, hy])) (handed_of ry) ⟨v, H1, I1.tok _, ry, q⟩
/-- isinstance(e, c), isinstance(e, (c1, ..)) of a kept exception -/
def rIsK (K : PySem.W.Frag) (C : Addr) : List V → Hp → VK → Prop := fun xs H Q => ∃ (a : Addr) (fs : List (Str × V)) (c : V) (u : Value) (b : Bool), xs = [.ref a, c] ∧ Kept H a C fs ∧ ClsV c u ∧ PySem.W.kitOne K (.ref C) u = some b ∧ Q (.bl b) H
def rIsKT (K : PySem.W.Frag) (C : Addr) : List V → Hp → VK → Prop := fun xs H Q => ∃ (a tp : Addr) (fs : List (Str × V)) (cs : List V) (us : List Value) (b : Bool), xs = [.ref a, .ref tp] ∧ Kept H a C fs ∧
  H tp = some (.tup cs) ∧ Paired ClsV cs us ∧ PySem.W.kitAny K (.ref C) us = some b ∧ Q (.bl b) H
theorem call_isK {X : Cx} {C : Addr} (T : XcC X.K C) : CallR X (.builtin "isinstance") (rIsK X.K C) := by
  intro pins s σ H xs us Q I r h
  obtain ⟨a, fs, c, u, b, rfl, k, hc, e, q⟩ := h
  obtain ⟨u1, u2, rfl, r1, r2⟩ := vals2 r
  have e2 := hc.eq r2
  subst e2
  cases (show u1 = Value.ref a from r1)
  obtain ⟨oe, od, mA, J, _, _⟩ := k.inst I
  exact PySem.W.kia_one (PySem.W.kitx_exc (ox := oe) (od := some od) T.cl T.ga T.gg T.sb T.ha T.hn T.ht T.hm) I.kIn J e (fun z => nomatch z) fun tk => ⟨.bl b, H, I.tok tk, rfl, q⟩
theorem call_isKT {X : Cx} {C : Addr} (T : XcC X.K C) : CallR X (.builtin "isinstance") (rIsKT X.K C) := by
  intro pins s σ H xs us Q I r h
  obtain ⟨a, tp, fs, cs, ws, b, rfl, k, hT, hc, e, q⟩ := h
  obtain ⟨u1, u2, rfl, r1, r2⟩ := vals2 r
  cases (show u1 = Value.ref a from r1)
  cases (show u2 = Value.ref tp from r2)
  obtain ⟨oe, od, mA, J, _, _⟩ := k.inst I
  have ht : ObjOk X.prog X.w H s.heap tp (.tup cs) := I.hok tp _ hT
  obtain ⟨_, its, rv, o, h1, h2, n, h3⟩ := ht
  have e3 := ClsV.all hc rv
  subst e3
  obtain ⟨oc, od2, dt, sl⟩ := o
  simp only at h2 h3
  subst h2 h3
  exact PySem.W.kia_tup (PySem.W.kitx_exc (ox := oe) (od := some od) T.cl T.ga T.gg T.sb T.ha T.hn T.ht T.hm) I.kIn J h1 e (fun z => nomatch z) fun tk => ⟨.bl b, H, I.tok tk, rfl, q⟩
/-! ### B.__init__(self, ..), B an own class over ValueError without own __init__ -/
structure BiC (K : PySem.W.Frag) (B : Addr) : Prop where
  rd : PySem.W.readsIn K B (.type "type") = true
  sp : PySem.W.specialIn K (.ref B) "__getattribute__" = some (some (.builtin "type.__getattribute__"))
  fi : PySem.W.findCls K (.ref B) (.type "type") "__init__" = some (.val (.builtin "ValueError.__init__"))
theorem pe_binit {X : Cx} {B : Addr} {x : Str} {e : Expr} {es : List Expr} {ta : TA} {p1 p2 pos : Pos} {pl : Sem Bool} (T : BiC X.K B) (gl : Gl X x) (mg : X.mg x = some (.ref B)) (ha : PA X (e :: es) ta) (hdb : (x == ("__debug__" : Str)) = false := by decide)
    (hc : eval (.Call (.Attribute (.Name x p1) "__init__" p2) (e :: es) [] pos) X.env = (do
      let ov ← eval (.Name x p1) X.env
      standAt p2.atName
      let (f, first) ← holding [ov] (getMethod ov "__init__" pl)
      callWith pos f first (backTo pos (starEach (e :: es) X.env)) (backToKw pos (keywordEach [] X.env))) := by rfl)
    (he : starEach (e :: es) X.env = (false, eval e X.env) :: starEach es X.env := by rfl) (hpl : (backTo pos (starEach es X.env)).any (·.1) = false := by rfl) :
    PE X (.Call (.Attribute (.Name x p1) "__init__" p2) (e :: es) [] pos) (tVeI X.K ta) := by
  refine ⟨fun pins s σ H Q I h => PySem.W.methodCall_KW (ld_glob I gl mg ?_ hdb) hc⟩
  refine PySem.W.method_cls I.kIn T.sp (PySem.W.cls_value I.kIn T.rd T.fi (by decide +kernel) ?_)
  show wpAny _ _ (callWith pos (Value.builtin "ValueError.__init__") [] (backTo pos (starEach (e :: es) X.env)) []) _ _ _
  refine PyProof.Rows.callWith_method1 (thn (ha.run pos pins _ σ H _ (I.tok _) h) fun us s1 z => ?_) he hpl
  obtain ⟨vs, H1, I1, r1, a, C, ws, ev, hl, Tx, ea, q⟩ := z
  subst ev
  cases r1 with
  | @cons _ u0 _ ur ra rw' =>
    obtain rfl : u0 = Value.ref a := ra
    refine oinit_ok Tx I1 ea ?_ fun s' J => ⟨.non, H1, J, rfl, q⟩
    rw [← Paired.length rw', sizeLine_eq]
    omega
/-! ### calls in a try's body: what is raised is wished for at the slots -/
section
variable {X : Cx} {CX : CXT} {k n : Nat} {f C : Addr} {fd : FuncData} {ps ks : List Str} {sp : Sp} {dvs : List V} {ds : List Value} {E : L2.St → XK} {x : Str} {p pos : Pos} {e : Expr} {es : List Expr} {kws : List Keyword} {t tk : TA}
  {g : List Value → List Value → List Value} {gV : List V → List V → List V}
def tMakeS (C : Addr) (sp : Sp) (dvs : List V) (E : L2.St → XK) (t : TA) : TE := fun σ H Q => t σ H fun vs H1 => ∀ x dx, H1 x = none → H1 dx = none → dx ≠ x →
  sp (.ref x :: (vs ++ dvs)) (upd (upd H1 dx (.own x)) x (.ins C dx [])) (fun v H2 => v = .non ∧ Q (.ref x) H2) (E σ)
theorem pe_makeS (M : Mk X.K C f) (F : FnOk X.prog X.w X.K X.mg X.base CX k f fd ps sp) (room : Room (k + 1) X.A) (gl : Gl X x) (mg : X.mg x = some (.ref C)) (bd : Binds X.K fd ps ds) (rd : Vals dvs ds) (px : ∀ σ, PassesAt CX X σ (E σ))
    (ha : PA X (e :: es) t) (hdb : (x == ("__debug__" : Str)) = false := by decide) (he : starEach (e :: es) X.env = (false, eval e X.env) :: starEach es X.env := by rfl) (hpl : (backTo pos (starEach es X.env)).any (·.1) = false := by rfl) :
    PE X (.Call (.Name x p) (e :: es) [] pos) (tMakeS C sp dvs E t) := by
  refine ⟨fun pins s σ H Q I h => wpAny_Call_Name_kw (ld_glob I gl mg ?_ hdb)⟩
  refine PySem.W.callWith_K (h₀ := X.base) I.ok.mod.kin M.kp (thn (ha.run pos pins s σ H _ I h) fun us s1 z => ?_) he hpl
  obtain ⟨vs, H1, I1, r, q⟩ := z
  refine ⟨I1.kIn, ?_⟩
  have q1 := q (s1.heap.objs.size + 1) s1.heap.objs.size (I1.hok.fresh (Nat.le_succ _)) (I1.hok.fresh (Nat.le_refl _)) (Nat.ne_of_lt (Nat.lt_succ_self _))
  have I2 := Inv.made (C := C) I1
  have r2 : Vals (V.ref (s1.heap.objs.size + 1) :: (vs ++ dvs)) (Value.ref (s1.heap.objs.size + 1) :: (us ++ ds)) := .cons rfl (r.append rd)
  have many : (Value.ref (s1.heap.objs.size + 1) :: us ++ ds).length = ps.length := (r2.length.symm.trans (F.len _ _ _ _ q1))
  refine wpAny_call (make_map (f := f) I1.kIn M.makes M.init (beq_iff_eq.mp M.fn) (codeAny_mono (F.run _ X.stack _ _ ⟨Value.ref (s1.heap.objs.size + 1) :: us, []⟩ (Value.ref (s1.heap.objs.size + 1) :: (us ++ ds)) _ _ (E σ)
    (room.make C us []) (I2.env0.make C us []) (bd _ (Value.ref (s1.heap.objs.size + 1) :: us) I2.kIn many) r2 q1) fun r s' z => ?_))
  cases r with
  | error e => exact px σ pins _ _ e s' I2 z
  | ok fl =>
    cases fl with
    | ret u =>
      obtain ⟨v, H', I3, rv, ev, q3⟩ := I2.after z
      subst ev
      exact ⟨rv, ⟨V.ref (s1.heap.objs.size + 1), H', I3, rfl, q3⟩⟩
    | next => exact False.elim z
    | brk => exact False.elim z
    | cont => exact False.elim z
def tMakeKS (C : Addr) (m : Nat) (sp : Sp) (gV : List V → List V → List V) (E : L2.St → XK) (tk : TA) : TE := fun σ H Q => tk σ H fun zs H2 => zs.length = m ∧
  ∀ x dx, H2 x = none → H2 dx = none → dx ≠ x → sp (gV [.ref x] zs) (upd (upd H2 dx (.own x)) x (.ins C dx [])) (fun v H3 => v = .non ∧ Q (.ref x) H3) (E σ)
theorem pe_makeKS (M : Mk X.K C f) (F : FnOk X.prog X.w X.K X.mg X.base CX k f fd ps sp) (room : Room (k + 1) X.A) (gl : Gl X x) (mg : X.mg x = some (.ref C)) (kb : KBn X.K fd ps 1 ks g gV) (px : ∀ σ, PassesAt CX X σ (E σ)) (pk : PK X kws tk)
    (hall : (backToKw pos (keywordEach kws X.env)).all (·.1.isSome) = true := by rfl) (hks : (backToKw pos (keywordEach kws X.env)).filterMap (·.1) = ks := by rfl) (hdb : (x == ("__debug__" : Str)) = false := by decide)
    (hpl : ((backTo pos (starEach [] X.env)).any (·.1) || (backToKw pos (keywordEach kws X.env)).any (·.1.isNone)) = false := by rfl) :
    PE X (.Call (.Name x p) [] kws pos) (tMakeKS C ks.length sp gV E tk) := by
  refine ⟨fun pins s σ H Q I h => wpAny_Call_Name_kw (ld_glob I gl mg ?_ hdb)⟩
  refine PySem.W.callWith_KW0 (h₀ := X.base) I.ok.mod.kin M.kp hall (thn (pk.run pos pins s σ H _ I h) fun ws s1 z => ?_) hpl
  obtain ⟨zs, H1, I1, rz, l2, q⟩ := z
  refine ⟨I1.kIn, ?_⟩
  rw [hks]
  have q1 := q (s1.heap.objs.size + 1) s1.heap.objs.size (I1.hok.fresh (Nat.le_succ _)) (I1.hok.fresh (Nat.le_refl _)) (Nat.ne_of_lt (Nat.lt_succ_self _))
  have I2 := Inv.made (C := C) I1
  have r1 : Vals [V.ref (s1.heap.objs.size + 1)] [Value.ref (s1.heap.objs.size + 1)] := .cons rfl .nil
  have r2 := kb.rel r1 rz
  refine wpAny_call (make_map (f := f) I1.kIn M.makes M.init (beq_iff_eq.mp M.fn) (codeAny_mono (F.run _ X.stack _ _ ⟨[Value.ref (s1.heap.objs.size + 1)], ks.zip ws⟩ (g [Value.ref (s1.heap.objs.size + 1)] ws) _ _ (E σ)
    (room.make C [] (ks.zip ws)) (I2.env0.make C [] (ks.zip ws)) (kb.to _ [Value.ref (s1.heap.objs.size + 1)] ws I2.kIn rfl (rz.length.symm.trans l2)) r2 q1) fun r s' z => ?_))
  cases r with
  | error e => exact px σ pins _ _ e s' I2 z
  | ok fl =>
    cases fl with
    | ret u =>
      obtain ⟨v, H', I3, rv, ev, q3⟩ := I2.after z
      subst ev
      exact ⟨rv, ⟨V.ref (s1.heap.objs.size + 1), H', I3, rfl, q3⟩⟩
    | next => exact False.elim z
    | brk => exact False.elim z
    | cont => exact False.elim z
def tCallKS (m : Nat) (sp : Sp) (gV : List V → List V → List V) (E : L2.St → XK) (tk : TA) : TE := fun σ H Q => tk σ H fun zs H2 => zs.length = m ∧ sp (gV [] zs) H2 Q (E σ)
theorem pe_callKS (F : FnOk X.prog X.w X.K X.mg X.base CX k f fd ps sp) (room : Room k X.A) (gl : Gl X x) (mg : X.mg x = some (.ref f)) (kp : PySem.W.keepIn X.K (.ref f) = true) (kb : KBn X.K fd ps 0 ks g gV) (px : ∀ σ, PassesAt CX X σ (E σ)) (pk : PK X kws tk)
    (hall : (backToKw pos (keywordEach kws X.env)).all (·.1.isSome) = true := by rfl) (hks : (backToKw pos (keywordEach kws X.env)).filterMap (·.1) = ks := by rfl) (hdb : (x == ("__debug__" : Str)) = false := by decide)
    (hpl : ((backTo pos (starEach [] X.env)).any (·.1) || (backToKw pos (keywordEach kws X.env)).any (·.1.isNone)) = false := by rfl) :
    PE X (.Call (.Name x p) [] kws pos) (tCallKS ks.length sp gV E tk) := by
  refine ⟨fun pins s σ H Q I h => wpAny_Call_Name_kw (ld_glob I gl mg ?_ hdb)⟩
  refine PySem.W.callWith_KW0 (h₀ := X.base) I.ok.mod.kin kp hall (thn (pk.run pos pins s σ H _ I h) fun ws s1 z => ?_) hpl
  obtain ⟨zs, H1, I1, rz, l2, q⟩ := z
  refine ⟨I1.kIn, ?_⟩
  rw [hks]
  have rn : Vals [] [] := .nil
  have r2 := kb.rel rn rz
  refine wpAny_call (codeAny_mono (F.run X.A X.stack s1 H1 ⟨[], ks.zip ws⟩ (g [] ws) (gV [] zs) Q (E σ) room I1.env0 (kb.to s1 [] ws I1.kIn rfl (rz.length.symm.trans l2)) r2 q) fun r s' z => ?_)
  cases r with
  | error e => exact px σ pins _ _ e s' I1 z
  | ok fl =>
    cases fl with
    | ret u => exact I1.after z
    | next => exact False.elim z
    | brk => exact False.elim z
    | cont => exact False.elim z
end
end Xk
set_option Elab.async false
set_option linter.all false
set_option maxRecDepth 100000
set_option maxHeartbeats 4000000
set_option pp.maxSteps 400
set_option pp.deepTerms false
namespace K6
open PySem PySem.Spec PyProof.Rows L2
open Xk
def top (i : Nat) : Stmt := PySem.Challenge.pw_takesworks_k06_lengths_together.main.body.getD i (.Pass ⟨0, 0, 0, 0⟩)
abbrev sNoLengthInit : Stmt := inClass (top 5) 0
abbrev sIsWhole : Stmt := top 19
abbrev sIsWithin : Stmt := top 20
abbrev sLengthInit : Stmt := inClass (top 24) 0
abbrev sTogether : Stmt := top 25
abbrev sApart : Stmt := top 26
abbrev sHand : Stmt := top 28
abbrev sTake : Stmt := top 29
abbrev sPick : Stmt := top 30
abbrev sAlone : Stmt := top 31
abbrev sCaught : Stmt := top 32
abbrev sSumRight : Stmt := top 33
abbrev sRight : Stmt := top 34
abbrev sLaw : Stmt := top 35
theorem scNoLengthInit : FnScope ["self", "seconds"] ["self", "seconds"] (defScope sNoLengthInit) := ⟨rfl, rfl, rfl, by decide +kernel, rfl, by decide +kernel, by decide +kernel⟩
theorem scIsWhole : FnScope ["thing"] ["thing"] (defScope sIsWhole) := ⟨rfl, rfl, rfl, by decide +kernel, rfl, by decide +kernel, by decide +kernel⟩
theorem scIsWithin : FnScope ["thing", "least", "most"] ["thing", "least", "most"] (defScope sIsWithin) := ⟨rfl, rfl, rfl, by decide +kernel, rfl, by decide +kernel, by decide +kernel⟩
theorem scLengthInit : FnScope ["self", "seconds"] ["self", "seconds"] (defScope sLengthInit) := ⟨rfl, rfl, rfl, by decide +kernel, rfl, by decide +kernel, by decide +kernel⟩
theorem scTogether : FnScope ["lengths", "start", "length"] ["lengths", "start"] (defScope sTogether) := ⟨rfl, rfl, rfl, by decide +kernel, rfl, by decide +kernel, by decide +kernel⟩
theorem scApart : FnScope ["one", "other"] ["one", "other"] (defScope sApart) := ⟨rfl, rfl, rfl, by decide +kernel, rfl, by decide +kernel, by decide +kernel⟩
theorem scHand : FnScope ["_law_script", "_law_k", "_law_cell", "_law_great"] ["_law_script", "_law_k"] (defScope sHand) := ⟨rfl, rfl, rfl, by decide +kernel, rfl, by decide +kernel, by decide +kernel⟩
theorem scTake : FnScope ["_law_hand_here", "_law_many", "_law_digit", "_law_mixed"] ["_law_hand_here", "_law_many"] (defScope sTake) := ⟨rfl, rfl, rfl, by decide +kernel, rfl, by decide +kernel, by decide +kernel⟩
theorem scPick : FnScope ["_law_hand_here", "_law_some"] ["_law_hand_here", "_law_some"] (defScope sPick) := ⟨rfl, rfl, rfl, by decide +kernel, rfl, by decide +kernel, by decide +kernel⟩
theorem scAlone : FnScope ["_law_e"] ["_law_e"] (defScope sAlone) := ⟨rfl, rfl, rfl, by decide +kernel, rfl, by decide +kernel, by decide +kernel⟩
theorem scCaught : FnScope ["_law_way", "_law_handed", "_law_begin", "_law_found", "_law_e"] ["_law_way", "_law_handed", "_law_begin"] (defScope sCaught) := ⟨rfl, rfl, rfl, by decide +kernel, rfl, by decide +kernel, by decide +kernel⟩
theorem scSumRight : FnScope ["_law_way", "_law_handed", "_law_begin", "_law_count", "_law_found"] ["_law_way", "_law_handed", "_law_begin", "_law_count"] (defScope sSumRight) := ⟨rfl, rfl, rfl, by decide +kernel, rfl, by decide +kernel, by decide +kernel⟩
theorem scRight : FnScope ["_law_hand_here", "_law_many", "_law_most", "_law_drawn", "_law_whole", "_law_count", "_law_handed", "_law_begin", "_law_a", "_law_b", "_law_due", "_law_k"] ["_law_hand_here"] (defScope sRight) := ⟨rfl, rfl, rfl, by decide +kernel, rfl, by decide +kernel, by decide +kernel⟩
theorem scLaw : FnScope ["_law_script", "_law_k"] ["_law_script"] (defScope sLaw) := ⟨rfl, rfl, rfl, by decide +kernel, rfl, by decide +kernel, by decide +kernel⟩
/-! ## objects -/
/-- all that was tracked stands but for the hand -/
def But (h : Addr) (H H' : Hp) : Prop := ∀ b o, b ≠ h → H b = some o → H' b = some o
theorem But.refl (h : Addr) (H : Hp) : But h H H := fun _ _ _ e => e
theorem But.trans {h : Addr} {H H1 H2 : Hp} (p : But h H H1) (q : But h H1 H2) : But h H H2 := fun b o n e => q b o n (p b o n e)
theorem Same.but {H H' : Hp} (s : Same H H') (h : Addr) : But h H H' := fun b o _ e => s b o e
theorem But.seqT {K : PySem.W.Frag} {h : Addr} {H H' : Hp} (s : But h H H') {t : Addr} {xs : List V} (n : t ≠ h) (q : SqT K H t xs) : SqT K H' t xs := by
  rcases q with (q | ⟨o, q⟩) | q
  · exact .inl (.inl (s _ _ n q))
  · exact .inl (.inr ⟨o, s _ _ n q⟩)
  · exact .inr q
theorem But.seqL {K : PySem.W.Frag} {h : Addr} {H H' : Hp} (s : But h H H') {t : Addr} {xs : List V} (n : t ≠ h) (q : SqL K H t xs) : SqL K H' t xs := by
  rcases q with (q | ⟨o, q⟩) | q
  · exact .inl (.inl (s _ _ n q))
  · exact .inl (.inr ⟨o, s _ _ n q⟩)
  · exact .inr q
theorem Same.seqT {K : PySem.W.Frag} {H H' : Hp} (s : Same H H') {t : Addr} {xs : List V} (q : SqT K H t xs) : SqT K H' t xs := by
  rcases q with (q | ⟨o, q⟩) | q
  · exact .inl (.inl (s _ _ q))
  · exact .inl (.inr ⟨o, s _ _ q⟩)
  · exact .inr q
theorem same_upd {H : Hp} {p : Addr} {o : HO} (h : H p = none) : Same H (upd H p o) := fun b x e => by
  rw [upd_ne (ne_of_none e h)]
  exact e
theorem but_upd {H : Hp} {p : Addr} {o : HO} : But p H (upd H p o) := fun b x n e => by
  rw [upd_ne n]
  exact e
/-- the hand: what is left of the cell, what it is mixed of, how often it was asked -/
def Hand (n : Int) (H : Hp) (a : Addr) : Prop := ∃ g m c : Int, H a = some (.lst [.int g, .int m, .int c]) ∧ 0 ≤ g ∧ 0 ≤ m ∧ m < 2305843009213693951 ∧ 0 ≤ c ∧ c ≤ n
theorem Hand.mono {n n' : Int} {H : Hp} {a : Addr} (h : Hand n H a) (l : n ≤ n') : Hand n' H a := by
  obtain ⟨g, m, c, e, h1, h2, h3, h4, h5⟩ := h
  exact ⟨g, m, c, e, h1, h2, h3, h4, Int.le_trans h5 l⟩
theorem Hand.same {n : Int} {H H' : Hp} {a : Addr} (h : Hand n H a) (s : Same H H') : Hand n H' a := by
  obtain ⟨g, m, c, e, r⟩ := h
  exact ⟨g, m, c, s _ _ e, r⟩
theorem Hand.at_ {n : Int} {H : Hp} {a : Addr} (h : Hand n H a) : ∃ xs, H a = some (.lst xs) := by
  obtain ⟨g, m, c, e, r⟩ := h
  exact ⟨_, e⟩
theorem Hand.ne_tup {K : PySem.W.Frag} {n : Int} {H : Hp} {a t : Addr} {xs : List V} (h : Hand n H a) (e : H t = some (.tup xs)) : t ≠ a := by
  obtain ⟨ys, e2⟩ := h.at_
  exact ne_of e e2 (by intro z; cases z)
theorem But.free {h l : Addr} {H H' : Hp} (b : But h H H') (ne : l ≠ h) (e : H' l = none) : H l = none := by
  cases q : H l with
  | none => rfl
  | some o =>
    rw [b l o ne q] at e
    cases e
theorem Hand.fresh {n : Int} {H : Hp} {a l : Addr} (h : Hand n H a) (e : H l = none) : l ≠ a := by
  obtain ⟨xs, q⟩ := h.at_
  exact (ne_of_none q e).symm
/-- a Length -/
def LenAt (C : Addr) (H : Hp) (x : Addr) (i : Int) : Prop := ∃ dx, H x = some (.ins C dx [("seconds", .int i)])
theorem LenAt.same {C : Addr} {H H' : Hp} {x : Addr} {i : Int} (h : LenAt C H x i) (s : L2.Same H H') : LenAt C H' x i := by
  obtain ⟨dx, e⟩ := h
  exact ⟨dx, s _ _ e⟩
theorem LenAt.but {C h : Addr} {n : Int} {H H' : Hp} {x : Addr} {i : Int} (q : LenAt C H x i) (hh : Hand n H h) (s : But h H H') : LenAt C H' x i := by
  obtain ⟨dx, e⟩ := q
  obtain ⟨ys, e2⟩ := hh.at_
  exact ⟨dx, s _ _ (ne_of e e2 (by intro z; cases z)) e⟩
theorem f_s (i : Int) : ([(("seconds" : Str), V.int i)] : List (Str × V)).lookup ("seconds" : Str) = some (.int i) := by rw [List.lookup_cons_self]
/-- Lengths of so many seconds -/
inductive Lens (C : Addr) (H : Hp) : List V → List Int → Prop
  | nil : Lens C H [] []
  | cons {x : Addr} {i : Int} {xs : List V} {ns : List Int} (h : LenAt C H x i) (r : Lens C H xs ns) : Lens C H (.ref x :: xs) (i :: ns)
theorem Lens.same {C : Addr} {H H' : Hp} {xs : List V} {ns : List Int} (h : Lens C H xs ns) (s : L2.Same H H') : Lens C H' xs ns := by
  induction h with
  | nil => exact .nil
  | cons a _ ih => exact .cons (a.same s) ih
theorem Lens.but {C h : Addr} {n : Int} {H H' : Hp} {xs : List V} {ns : List Int} (q : Lens C H xs ns) (hh : Hand n H h) (s : But h H H') : Lens C H' xs ns := by
  induction q with
  | nil => exact .nil
  | cons a _ ih => exact .cons (a.but hh s) ih
theorem Lens.len {C : Addr} {H : Hp} {xs : List V} {ns : List Int} (h : Lens C H xs ns) : xs.length = ns.length := by
  induction h with
  | nil => rfl
  | cons _ _ ih => rw [List.length_cons, List.length_cons, ih]
theorem Lens.get {C : Addr} {H : Hp} {xs : List V} {ns : List Int} (h : Lens C H xs ns) {i : Nat} {v : V} (e : xs[i]? = some v) : ∃ (x : Addr) (n : Int), v = .ref x ∧ ns[i]? = some n ∧ LenAt C H x n := by
  induction h generalizing i with
  | nil => simp at e
  | cons a _ ih =>
    cases i with
    | zero =>
      cases e
      exact ⟨_, _, rfl, rfl, a⟩
    | succ i => exact ih e
theorem Lens.snoc {C : Addr} {H : Hp} {xs : List V} {ns : List Int} (h : Lens C H xs ns) {x : Addr} {i : Int} (a : LenAt C H x i) : Lens C H (xs ++ [.ref x]) (ns ++ [i]) := by
  induction h with
  | nil => exact .cons a .nil
  | cons b _ ih => exact .cons b ih
/-- a list or a tuple of these -/
def Sq (K : PySem.W.Frag) (H : Hp) (a : Addr) (xs : List V) : Prop := H a = some (.lst xs) ∨ H a = some (.tup xs)
theorem Sq.same {K : PySem.W.Frag} {H H' : Hp} {a : Addr} {xs : List V} (h : Sq K H a xs) (s : L2.Same H H') : Sq K H' a xs := h.elim (fun e => .inl (s _ _ e)) fun e => .inr (s _ _ e)
/-- an exception's making ends so -/
theorem made_x {H : Hp} {a d : Addr} {o1 o2 o3 o4 : HO} (na : H a = none) (nd : H d = none) (ne : d ≠ a) : upd (del (upd (upd (upd H a o1) d o2) a o3) a) d o4 = upd H d o4 := by
  funext b
  by_cases hd : b = d
  · rw [hd, upd_same, upd_same]
  · rw [upd_ne hd, upd_ne hd]
    by_cases ha : b = a
    · rw [ha, del_same, na]
    · rw [del_ne ha, upd_ne ha, upd_ne hd, upd_ne ha]
section
variable {X : Cx}
theorem pi_alt {tg e : Expr} {w1 w2 : TI} (h1 : PI X tg e w1) (h2 : PI X tg e w2) : PI X tg e (fun σ H R => w1 σ H R ∨ w2 σ H R) :=
  ⟨fun pins s σ H R I h => h.elim (h1.run pins s σ H R I) (h2.run pins s σ H R I)⟩
theorem pe_alt {e : Expr} {t1 t2 : TE} (h1 : PE X e t1) (h2 : PE X e t2) : PE X e (fun σ H Q => t1 σ H Q ∨ t2 σ H Q) :=
  ⟨fun pins s σ H Q I h => h.elim (h1.run pins s σ H Q I) (h2.run pins s σ H Q I)⟩
theorem sl_alt {r1 r2 : V → Option Int → Option Int → Hp → VK → Prop} (h1 : SlR X r1) (h2 : SlR X r2) : SlR X (fun x lo hi H Q => r1 x lo hi H Q ∨ r2 x lo hi H Q) :=
  fun pins s σ H x v vl vu lo hi sl Q I rx hs pl pu h => h.elim (h1 pins s σ H x v vl vu lo hi sl Q I rx hs pl pu) (h2 pins s σ H x v vl vu lo hi sl Q I rx hs pl pu)
end
end K6
set_option Elab.async false
set_option linter.all false
set_option maxRecDepth 100000
set_option maxHeartbeats 4000000
set_option pp.maxSteps 400
set_option pp.deepTerms false
namespace K6
open PySem PySem.Spec PyProof.Rows L2
open Xk
section
variable {P : Program} {w : World} {K : PySem.W.Frag} {mg : Str → Option Value} {base : Heap} {C : Addr}
/-- a def that may be called by its name -/
structure Ca (P : Program) (w : World) (K : PySem.W.Frag) (mg : Str → Option Value) (base : Heap) (k : Nat) (x : Str) (ps : List Str) (sp : Sp) : Prop where
  ex : ∃ (f : Addr) (fd : FuncData), FnOk P w K mg base CX0 k f fd ps sp ∧ mg x = some (.ref f) ∧ PySem.W.keepIn K (.ref f) = true ∧ Binds K fd ps []
/-- a def of the text, as the head finds it -/
structure Df (K : PySem.W.Frag) (mg : Str → Option Value) (x : Str) (ps : List Str) (st : Stmt) (f : Addr) (fd : FuncData) : Prop where
  fn : Fun K x x st f fd
  mgf : mg x = some (.ref f)
  bd : Binds K fd ps []
theorem Df.ca {k : Nat} {x : Str} {ps : List Str} {st : Stmt} {f : Addr} {fd : FuncData} {sp : Sp} (d : Df K mg x ps st f fd)
    (h : FnOk P w K mg base CX0 k f fd ps sp) : Ca P w K mg base k x ps sp := ⟨f, fd, h, d.mgf, d.fn.kp, d.bd⟩
section
variable {X : Cx} {k j : Nat} {x : Str} {ps : List Str} {sp : Sp} {p pos : Pos} {e : Expr} {es : List Expr} {t : TA}
theorem pe_ca (c : Ca X.prog X.w X.K X.mg X.base k x ps sp) (hr : Room j X.A) (hk : k ≤ j) (hg : Gl X x) (ha : PA X (e :: es) t) (hdb : (x == ("__debug__" : Str)) = false := by decide)
    (he : starEach (e :: es) X.env = (false, eval e X.env) :: starEach es X.env := by rfl) (hpl : (backTo pos (starEach es X.env)).any (·.1) = false := by rfl) :
    PE X (.Call (.Name x p) (e :: es) [] pos) (tCall sp [] E0 t) := by
  obtain ⟨f, fd, F, hm, kp, b⟩ := c.ex
  exact pe_call F (hr.mono hk) hg hm kp b .nil pass0 ha hdb he hpl
end
/-- the refusals: where their classes stand -/
structure Ex where
  NotSuch : Addr
  Lost : Addr
  Taken : Addr
  NoCustom : Addr
  NoDay : Addr
  NoDisc : Addr
  NoEntry : Addr
  NoKey : Addr
  NoLine : Addr
  NoName : Addr
  NoNumber : Addr
  NoPath : Addr
  NoText : Addr
  Same : Addr
  Struck : Addr
  Twice : Addr
  NoLength : Addr
/-- what the top has left, besides the defs -/
structure Txt (K : PySem.W.Frag) (mg : Str → Option Value) (C : Addr) (e : Ex) : Prop where
  cl : Cls K C
  nS : NoAttr K C "seconds"
  mgC : mg "Length" = some (.ref C)
  ins : C8.InsC K C
  ms : ∃ t, mg "MOST_SECONDS" = some (.int 359999 t)
  mNotSuch : mg "NotSuch" = some (.ref e.NotSuch)
  mLost : mg "Lost" = some (.ref e.Lost)
  mTaken : mg "Taken" = some (.ref e.Taken)
  mNoCustom : mg "NoCustom" = some (.ref e.NoCustom)
  mNoDay : mg "NoDay" = some (.ref e.NoDay)
  mNoDisc : mg "NoDisc" = some (.ref e.NoDisc)
  mNoEntry : mg "NoEntry" = some (.ref e.NoEntry)
  mNoKey : mg "NoKey" = some (.ref e.NoKey)
  mNoLine : mg "NoLine" = some (.ref e.NoLine)
  mNoName : mg "NoName" = some (.ref e.NoName)
  mNoNumber : mg "NoNumber" = some (.ref e.NoNumber)
  mNoPath : mg "NoPath" = some (.ref e.NoPath)
  mNoText : mg "NoText" = some (.ref e.NoText)
  mSame : mg "Same" = some (.ref e.Same)
  mStruck : mg "Struck" = some (.ref e.Struck)
  mTwice : mg "Twice" = some (.ref e.Twice)
  mNoLength : mg "NoLength" = some (.ref e.NoLength)
  isi : mg "isinstance" = none
  int : mg "int" = none
  bool : mg "bool" = none
  len : mg "len" = none
  abs : mg "abs" = none
  max : mg "max" = none
  min : mg "min" = none
  all : mg "all" = none
  zip : mg "zip" = none
  range : mg "range" = none
  repr : mg "repr" = none
  sum : mg "sum" = none
  tuple : mg "tuple" = none
  ValueError : mg "ValueError" = none
  oex : OexC K e.NoLength
  xc : XcC K e.NoLength
  bi : BiC K e.NotSuch
  fld : PySem.W.findIn K (.ref e.NoLength) "seconds" = some none
  exm : PySem.W.exmAny K (.ref e.NoLength) [.ref e.NotSuch, .ref e.Lost, .ref e.Taken] = some true
  kit1 : PySem.W.kitAny K (.ref e.NoLength) [.ref e.Lost, .ref e.Taken, .ref e.NoCustom, .ref e.NoDay, .ref e.NoDisc, .ref e.NoEntry, .ref e.NoKey, .ref e.NoLine] = some false
  kit2 : PySem.W.kitAny K (.ref e.NoLength) [.ref e.NoName, .ref e.NoNumber, .ref e.NoPath, .ref e.NoText, .ref e.Same, .ref e.Struck, .ref e.Twice] = some false
  kit3 : PySem.W.kitOne K (.ref e.NoLength) (.ref e.NoLength) = some true
  kit4 : PySem.W.kitOne K (.ref e.NoLength) (.ref e.NotSuch) = some true
  kit5 : PySem.W.kitOne K (.ref e.NoLength) (.type "ValueError") = some true
/-! ## promises of the program's defs -/
def spWhole : Sp := fun vs H Q _ => ∃ i : Int, vs = [.int i] ∧ Q (.bl true) H
def spWithin : Sp := fun vs H Q _ => ∃ i a b : Int, vs = [.int i, .int a, .int b] ∧ Q (.bl (decide (a ≤ i) && decide (i ≤ b))) H
def spNL (e : Ex) : Sp := fun vs H Q _ => ∃ (a : Addr) (v : V), vs = [.ref a, v] ∧ H a = some (exo a e.NoLength none) ∧
  ∀ d, H d = none → d ≠ a → Q .non (upd (upd H d (exd d [("seconds", v)])) a (exo a e.NoLength (some d)))
/-- what is raised: NoLength with the value i -/
def Rz (e : Ex) (H : Hp) (i : Int) (E : XK) : Prop := ∀ (d : Addr) (H' : Hp), L2.Same H H' → H' d = some (.xd [("seconds", .int i)]) → E (.ref e.NoLength) (some d) H'
def spLen (C : Addr) (e : Ex) : Sp := fun vs H Q E => ∃ (x dx : Addr) (i : Int), vs = [.ref x, .int i] ∧ H x = some (.ins C dx []) ∧
  (0 ≤ i → i ≤ 359999 → ∀ H' : Hp, (∀ b o, H b = some o → b ≠ x → H' b = some o) → LenAt C H' x i → Q .non H') ∧ (¬ (0 ≤ i ∧ i ≤ 359999) → Rz e H i E)
def spTogether (K : PySem.W.Frag) (C : Addr) (e : Ex) : Sp := fun vs H Q E => ∃ (a : Addr) (st : Int) (xs : List V) (ns : List Int), vs = [.ref a, .int st] ∧ 0 ≤ st ∧ Sq K H a xs ∧ Lens C H xs ns ∧ ns.length ≤ 100 ∧ (∀ n ∈ ns, 0 ≤ n) ∧
  (st + ns.sum ≤ 359999 → ∀ (H' : Hp) (x : Addr), L2.Same H H' → H x = none → LenAt C H' x (st + ns.sum) → Q (.ref x) H') ∧ (359999 < st + ns.sum → Rz e H (st + ns.sum) E)
def spApart (C : Addr) : Sp := fun vs H Q _ => ∃ (a b : Addr) (i j : Int), vs = [.ref a, .ref b] ∧ LenAt C H a i ∧ LenAt C H b j ∧ Q (.int (if i - j < 0 then -(i - j) else i - j)) H
theorem ok_whole {f : Addr} {fd : FuncData} {e : Ex} (D : Df K mg "is_whole" ["thing"] sIsWhole f fd) (T : Txt K mg C e) : FnOk P w K mg base CX0 1 f fd ["thing"] spWhole := by
  refine D.fn.ok scIsWhole (fun vs H Q E h => ?_) (fun cdv A outer s H vs Q E hr h => ?_)
  · obtain ⟨i, rfl, q⟩ := h
    rfl
  · obtain ⟨i, rfl, q⟩ := h
    refine ⟨_, (pss_one (ps_ret (pe_and (pe_callB call_isi (by rfl) T.isi (by decide +kernel) (pa_cons (pv 0) (pa_cons (pe_bltn (v := .ty "int") (by rfl) T.int (by decide +kernel) rfl) pa_nil))) (pe_one (pe_not (pe_callB call_isi (by rfl) T.isi (by decide +kernel) (pa_cons (pv 0) (pa_cons (pe_bltn (v := .ty "bool") (by rfl) T.bool (by decide +kernel) rfl) pa_nil)))))))), ?_⟩
    refine ⟨_, rfl, _, _, _, _, true, rfl, .ty _, .base (.int i), kit_ty (by decide +kernel), true, rfl, iteT ?_⟩
    exact ⟨_, rfl, _, _, _, _, false, rfl, .ty _, .base (.int i), kit_ty (by decide +kernel), false, rfl, q⟩
theorem ok_within {f : Addr} {fd : FuncData} (D : Df K mg "is_within" ["thing", "least", "most"] sIsWithin f fd) (cW : Ca P w K mg base 1 "is_whole" ["thing"] spWhole) : FnOk P w K mg base CX0 2 f fd ["thing", "least", "most"] spWithin := by
  refine D.fn.ok scIsWithin (fun vs H Q E h => ?_) (fun cdv A outer s H vs Q E hr h => ?_)
  · obtain ⟨i, a, b, rfl, q⟩ := h
    rfl
  · obtain ⟨i, a, b, rfl, q⟩ := h
    refine ⟨_, (pss_one (ps_ret (pe_and (pe_ca cW hr (by decide) (by rfl) (pa_cons (pv 0) pa_nil)) (pe_one (pe_chain op_le op_le (pv 1) (pv 0) (pv 2)))))), ?_⟩
    refine ⟨_, rfl, i, rfl, true, rfl, iteT ?_⟩
    refine ⟨_, rfl, _, rfl, a, i, rfl, rfl, _, rfl, ?_⟩
    cases e : decide (a ≤ i) with
    | true =>
      rw [e, Bool.true_and] at q
      exact iteT ⟨_, rfl, i, b, rfl, rfl, q⟩
    | false =>
      rw [e, Bool.false_and] at q
      exact iteF q
theorem ok_nl {f : Addr} {fd : FuncData} {e : Ex} (F : Fun K "__init__" "NoLength.__init__" sNoLengthInit f fd) (T : Txt K mg C e) : FnOk P w K mg base CX0 1 f fd ["self", "seconds"] (spNL e) := by
  refine F.ok scNoLengthInit (fun vs H Q E h => ?_) (fun cdv A outer s H vs Q E hr h => ?_)
  · obtain ⟨a, v, rfl, ha, q⟩ := h
    rfl
  · obtain ⟨a, v, rfl, ha, q⟩ := h
    refine ⟨_, (pss_cons (ps_expr (pe_binit T.bi (by rfl) T.mNotSuch (pa_cons (pv 0) (pa_cons pe_str pa_nil))))
      (pss_one (ps_ost (pv 0) (pv 1)))), ?_⟩
    refine ⟨_, rfl, a, e.NoLength, [.str "no such length"], rfl, (by show 1 ≤ 1000; decide), T.oex, ha, ?_⟩
    exact ⟨_, rfl, _, rfl, a, e.NoLength, rfl, T.oex, T.fld, .inl ⟨ha, q⟩⟩
/-- what raising NoLength asks -/
structure Nl (P : Program) (w : World) (K : PySem.W.Frag) (mg : Str → Option Value) (base : Heap) (e : Ex) (f : Addr) (fd : FuncData) : Prop where
  ok : FnOk P w K mg base CX0 1 f fd ["self", "seconds"] (spNL e)
  at_ : PySem.W.findIn K (.ref e.NoLength) "__init__" = some (some (.ref f))
  ty : PySem.W.typeIn K (.ref f) = some (.type "function")
  bd : Binds K fd ["self", "seconds"] []
theorem raised {e : Ex} {H : Hp} {i : Int} {E : XK} (q : Rz e H i E) : ∀ a, H a = none → spNL e [.ref a, .int i] (upd H a (exo a e.NoLength none))
    (fun v H2 => v = .non ∧ ∃ (d : Addr) (fs : List (Str × V)), H2 a = some (exo a e.NoLength (some d)) ∧ H2 d = some (exd d fs) ∧ H d = none ∧ E (.ref e.NoLength) (some d) (upd (del H2 a) d (.xd fs))) E0 := fun a na => by
  refine ⟨a, _, rfl, upd_same, fun d nd ne => ⟨rfl, d, _, upd_same, by rw [upd_ne ne, upd_same], ?_, ?_⟩⟩
  · rw [upd_ne ne] at nd
    exact nd
  · rw [upd_ne ne] at nd
    rw [made_x na nd ne]
    exact q d _ (same_upd nd) upd_same
theorem ok_len {f : Addr} {fd : FuncData} {e : Ex} {fN : Addr} {fdN : FuncData} (F : Fun K "__init__" "Length.__init__" sLengthInit f fd) (T : Txt K mg C e) (N : Nl P w K mg base e fN fdN) (cI : Ca P w K mg base 2 "is_within" ["thing", "least", "most"] spWithin) : FnOk P w K mg base (L2.CX P w) 3 f fd ["self", "seconds"] (spLen C e) := by
  obtain ⟨tMS, gMS⟩ := T.ms
  refine F.okX scLengthInit (fun vs H Q E h => ?_) (fun cdv A outer s H vs Q E hr h => ?_)
  · obtain ⟨x, dx, i, rfl, hx, q1, q2⟩ := h
    rfl
  · obtain ⟨x, dx, i, rfl, hx, q1, q2⟩ := h
    refine ⟨_, (pss_cons (ps_if (pt_not (pt_val (pe_ca cI hr (by decide) (by rfl) (pa_cons (pv 1) (pa_cons pe_int (pa_cons (pe_glob (v := .int 359999) (by rfl) gMS ⟨_, rfl⟩) pa_nil)))))) (pss_one (ps_raise rfl (takes_of rfl rfl rfl rfl) (pmk_oex T.oex N.at_ N.ty N.ok (hr.mono (by decide)) N.bd .nil pass0 (by rfl) T.mNoLength (pa_cons (pv 1) pa_nil)))) pss_nil)
      (pss_one (ps_fld (pv 0) (pv 1) rfl))), ?_⟩
    refine ⟨_, rfl, i, 0, 359999, rfl, _, rfl, ?_⟩
    by_cases c : 0 ≤ i ∧ i ≤ 359999
    · rw [decide_eq_true c.1, decide_eq_true c.2]
      refine iteF ⟨_, rfl, _, rfl, x, C, dx, [], rfl, hx, T.cl, T.nS, (by decide), ?_⟩
      exact q1 c.1 c.2 _ (fun b o e n => by rw [upd_ne n]; exact e) ⟨dx, upd_same⟩
    · have z : (decide (0 ≤ i) && decide (i ≤ 359999)) = false := by
        cases y : (decide (0 ≤ i) && decide (i ≤ 359999)) with
        | false => rfl
        | true =>
          rw [Bool.and_eq_true] at y
          exact absurd ⟨of_decide_eq_true y.1, of_decide_eq_true y.2⟩ c
      rw [z]
      refine iteT ⟨_, rfl, (by show 1 ≤ 1000; decide), raised (q2 c)⟩
end
end K6
set_option Elab.async false
set_option linter.all false
set_option maxRecDepth 100000
set_option maxHeartbeats 4000000
set_option pp.maxSteps 400
set_option pp.deepTerms false
namespace K6
open PySem PySem.Spec PyProof.Rows L2
open Xk
section
variable {P : Program} {w : World} {K : PySem.W.Frag} {mg : Str → Option Value} {base : Heap} {C : Addr}
theorem _root_.List.sum_nonneg_int {ns : List Int} (h : ∀ n ∈ ns, 0 ≤ n) : 0 ≤ ns.sum := by
  induction ns with
  | nil => exact Int.le_refl _
  | cons a r ih =>
    rw [List.sum_cons]
    have h1 := h a List.mem_cons_self
    have h2 := ih fun n hn => h n (List.mem_cons_of_mem _ hn)
    omega
theorem ok_together {f : Addr} {fd : FuncData} {e : Ex} {fN fL : Addr} {fdN fdL : FuncData} (F : FunD K "together" "together" (defArgs sTogether) (defBody sTogether) (defScope sTogether) [.int 0] [] f fd) (T : Txt K mg C e) (N : Nl P w K mg base e fN fdN) (cW : Ca P w K mg base 1 "is_whole" ["thing"] spWhole) (M : Mk K C fL) (L : FnOk P w K mg base (L2.CX P w) 3 fL fdL ["self", "seconds"] (spLen C e)) (bL : Binds K fdL ["self", "seconds"] []) : FnOk P w K mg base (L2.CX P w) 5 f fd ["lengths", "start"] (spTogether K C e) := by
  refine F.ok (CX := L2.CX P w) scTogether (fun vs H Q E h => ?_) (fun cdv A outer s H vs Q E hr h => ?_)
  · obtain ⟨a, st, xs, ns, rfl, h0, hq, hl, few, pos, q1, q2⟩ := h
    rfl
  · obtain ⟨a, st, xs, ns, rfl, h0, hq, hl, few, pos, q1, q2⟩ := h
    refine ⟨_, (pss_cons (ps_if (PW.pt (pw_or (pt_not (pt_val (pe_ca cW hr (by decide) (by rfl) (pa_cons (pv 1) pa_nil)))) (pw_or1 (pt_cmpR op_lt (pv 1) pe_int (nomark _))))) (pss_one (ps_raise rfl (takes_of rfl rfl rfl rfl) (pmk_oex T.oex N.at_ N.ty N.ok (hr.mono (by decide)) N.bd .nil pass0 (by rfl) T.mNoLength (pa_cons (pv 1) pa_nil)))) pss_nil)
      (pss_one (ps_ret (pe_make M L (hr.mono (by decide)) (by rfl) T.mgC bL .nil (passes_call (takes_of rfl rfl rfl rfl) (fun _ _ _ _ h => h)) (pa_cons (pe_op op_add (pv 1) (pe_callB (cr_sum (by rfl)) (by rfl) T.sum (by decide +kernel) (pa_cons (PE.nox (pe_lc (own := [("length", 2)]) (g := gName 2) (tt := tYes) (te := tFld K (tVar 2) "seconds") (by rfl) scTogether.nd (pi_alt (pi_list (pv 0)) (pi_tup (pv 0))) (blkOk_by (own := [("length", 2)]) (N := ["lengths", "start", "length"]) (sc := defScope sTogether) (by decide +kernel)) (fun _ _ _ _ _ => pg_name (i := 2) scTogether.nd rfl (.inl rfl)) (fun _ _ _ _ _ => pts_nil) (fun _ _ _ _ _ => pe_fld (pv 2) rfl))) pa_nil))) pa_nil))))), ?_⟩
    refine ⟨_, rfl, st, rfl, true, rfl, ?_⟩
    refine iteF ⟨_, rfl, st, 0, rfl, rfl, _, rfl, ?_⟩
    rw [decide_eq_false (show ¬ st < 0 by omega)]
    refine iteF ⟨_, rfl, ?_⟩
    have go : ∀ (LL : Addr) (Hi : Hp), L2.Same H Hi → H LL = none → Hi LL = some (.lst (ns.map V.int)) → rSum K [.ref LL] Hi fun y H2 => ∃ i j : Int, V.int st = .int i ∧ y = .int j ∧
        ∀ x dx, H2 x = none → H2 dx = none → dx ≠ x → spLen C e [.ref x, .int (i + j)] (upd (upd H2 dx (.own x)) x (.ins C dx [])) (fun v H3 => v = .non ∧ Q (.ref x) H3) E := fun LL Hi sm nL hL => by
      refine ⟨LL, ns, rfl, SqL.of hL, st, _, rfl, rfl, fun x dx nx nd ne => ⟨x, dx, _, rfl, upd_same, fun c1 c2 H' k al => ⟨rfl, ?_⟩, fun c => ?_⟩⟩
      · have nxH : H x = none := by
          cases e : H x with
          | none => rfl
          | some o =>
            rw [sm _ _ e] at nx
            cases nx
        exact q1 c2 H' x (sm.trans (Same.made nx nd k)) nxH al
      · have sp : 0 ≤ ns.sum := List.sum_nonneg_int pos
        refine fun d H' s2 e2 => q2 (by omega) d H' (fun b o eb => s2 b o ?_) e2
        have eb2 := sm b o eb
        rw [upd_ne (ne_of_none eb2 nx), upd_ne (ne_of_none eb2 nd)]
        exact eb2
    rcases hq with hq | hq
    · refine .inl ⟨_, rfl, a, rfl, ⟨_, SqL.of hq⟩, fun D nD => lc_list (K := K) (a := a) (xs := xs) (fun i Hi => L2.Same H Hi ∧ Hi D = some (.lst ((ns.take i).map V.int))) ⟨same_upd nD, upd_same⟩ (fun i Hi _ z => SqL.of (z.1 _ _ hq)) ?_ ?_⟩
      · rintro i x Hi hx ⟨sm, hD⟩
        obtain ⟨y, n, rfl, hn, dy, ey⟩ := hl.get hx
        refine ⟨rfl, ?_⟩
        unfold tYes
        refine iteT ⟨_, rfl, y, C, dy, _, _, rfl, sm _ _ ey, T.cl, T.nS, f_s n, _, hD, ?_, fun b o eb => ?_, ?_⟩
        · rw [List.length_map]
          exact small1000 (by have := List.length_take_le' i ns; omega)
        · rw [upd_ne (ne_of_none eb nD)]
          exact sm _ _ eb
        · rw [upd_same, List.take_add_one, hn, List.map_append]
          rfl
      · rintro He ⟨sm, hD⟩
        rw [hl.len, List.take_length] at hD
        exact go D He sm nD hD
    · refine .inr ⟨_, rfl, a, rfl, ⟨_, SqT.of hq⟩, fun D nD => lc_tup (K := K) (a := a) (xs := xs) (fun i Hi => L2.Same H Hi ∧ Hi D = some (.lst ((ns.take i).map V.int))) ⟨same_upd nD, upd_same⟩ (fun i Hi _ z => SqT.of (z.1 _ _ hq)) ?_ ?_⟩
      · rintro i x Hi hx ⟨sm, hD⟩
        obtain ⟨y, n, rfl, hn, dy, ey⟩ := hl.get hx
        refine ⟨rfl, ?_⟩
        unfold tYes
        refine iteT ⟨_, rfl, y, C, dy, _, _, rfl, sm _ _ ey, T.cl, T.nS, f_s n, _, hD, ?_, fun b o eb => ?_, ?_⟩
        · rw [List.length_map]
          exact small1000 (by have := List.length_take_le' i ns; omega)
        · rw [upd_ne (ne_of_none eb nD)]
          exact sm _ _ eb
        · rw [upd_same, List.take_add_one, hn, List.map_append]
          rfl
      · rintro He ⟨sm, hD⟩
        rw [hl.len, List.take_length] at hD
        exact go D He sm nD hD
theorem ok_apart {f : Addr} {fd : FuncData} {e : Ex} (D : Df K mg "apart" ["one", "other"] sApart f fd) (T : Txt K mg C e) : FnOk P w K mg base CX0 1 f fd ["one", "other"] (spApart C) := by
  refine D.fn.ok scApart (fun vs H Q E h => ?_) (fun cdv A outer s H vs Q E hr h => ?_)
  · obtain ⟨a, b, i, j, rfl, ⟨dx, ha⟩, ⟨dy, hb⟩, q⟩ := h
    rfl
  · obtain ⟨a, b, i, j, rfl, ⟨dx, ha⟩, ⟨dy, hb⟩, q⟩ := h
    refine ⟨_, (pss_one (ps_ret (pe_callB call_abs (by rfl) T.abs (by decide +kernel) (pa_cons (pe_op op_sub (pe_fld (pv 0) rfl) (pe_fld (pv 1) rfl)) pa_nil)))), ?_⟩
    exact ⟨_, rfl, a, C, dx, _, _, rfl, ha, T.cl, T.nS, f_s i, _, rfl, b, C, dy, _, _, rfl, hb, T.cl, T.nS, f_s j, i, j, rfl, rfl, i - j, rfl, q⟩
end
end K6
set_option Elab.async false
set_option linter.all false
set_option maxRecDepth 100000
set_option maxHeartbeats 4000000
set_option pp.maxSteps 400
set_option pp.deepTerms false
namespace K6
open PySem PySem.Spec PyProof.Rows L2
open Xk
section
variable {P : Program} {w : World} {K : PySem.W.Frag} {mg : Str → Option Value} {base : Heap} {C : Addr}
abbrev far : Int := 1000000
def spHand (K : PySem.W.Frag) : Sp := fun vs H Q _ => ∃ (a : Addr) (k : Int) (ns : List Int), vs = [.ref a, .int k] ∧ 0 ≤ k ∧ SqL K H a (ns.map V.int) ∧
  ∀ p g m, H p = none → 0 ≤ g → 0 ≤ m → m < 2305843009213693951 → Q (.ref p) (upd H p (.lst [.int g, .int m, .int 0]))
def spTake : Sp := fun vs H Q _ => ∃ (h : Addr) (many n : Int), vs = [.ref h, .int many] ∧ 0 < many ∧ many < 1073741824 ∧ Hand n H h ∧ n ≤ far ∧
  ∀ d H', 0 ≤ d → d < many → Hand (n + 1) H' h → But h H H' → Q (.int d) H'
def spPick : Sp := fun vs H Q _ => ∃ (h l : Addr) (xs : List V) (n : Int), vs = [.ref h, .ref l] ∧ H l = some (.lst xs) ∧ l ≠ h ∧ xs ≠ [] ∧ xs.length < 1000 ∧ Hand n H h ∧ n ≤ far ∧
  ∀ v H', v ∈ xs → Hand (n + 1) H' h → But h H H' → Q v H'
theorem b01 (b : Bool) : -(2 ^ 64) < (if b = true then (1 : Int) else 0) ∧ (if b = true then (1 : Int) else 0) < 2 ^ 64 := by cases b <;> decide
theorem b0 (b : Bool) : 0 ≤ (if b = true then (1 : Int) else 0) := by cases b <;> decide
theorem ok_hand {f : Addr} {fd : FuncData} {e : Ex} (D : Df K mg "_law_hand" ["_law_script", "_law_k"] sHand f fd) (T : Txt K mg C e) : FnOk P w K mg base CX0 1 f fd ["_law_script", "_law_k"] (spHand K) := by
  refine D.fn.ok scHand (fun vs H Q E h => ?_) (fun cdv A outer s H vs Q E hr h => ?_)
  · obtain ⟨a, k, ns, rfl, _⟩ := h
    rfl
  · obtain ⟨a, k, ns, rfl, hk, hS, q⟩ := h
    refine ⟨_, pss_cons (ps_set (i := 2) scHand.nd rfl (.inl rfl) (pe_ifExp (pt_cmpR op_lt (pv 1) (pe_callB call_len_seq (by rfl) T.len PySem.boot_len (pa_cons (pv 0) pa_nil)) (nomark _)) (pe_ix ix_list (pv 0) (pv 1) (fun _ _ => rfl)) pe_int))
      (pss_cons (ps_set (i := 3) scHand.nd rfl (.inl rfl) (pe_op op_mul (pe_op op_mod (pe_callB call_abs (by rfl) T.abs (by decide +kernel) (pa_cons (pv 2) pa_nil)) (pe_op op_mulW (pe_op op_pow pe_int pe_int) (pe_op op_pow pe_int pe_int)))
        (pe_callTy call_int1 (by rfl) T.int (by decide +kernel) (pa_cons (pe_cmpR op_ge (pe_callB call_abs (by rfl) T.abs (by decide +kernel) (pa_cons (pv 2) pa_nil)) (pe_op op_pow pe_int pe_int) (nomark _)) pa_nil))))
      (pss_one (ps_ret (pe_lst (pa_cons (pv 3) (pa_cons (pe_op op_mod (pe_op op_add (pe_op op_add (pe_op op_mod (pv 2) pe_int) (pe_op op_mul pe_int (pv 1))) pe_int) pe_int) (pa_cons pe_int pa_nil))))))), ?_⟩
    refine ⟨_, rfl, _, rfl, a, _, rfl, .inl hS, k, _, rfl, rfl, _, rfl, ?_⟩
    refine ite2 (fun e => ?_) (fun e => ?_)
    · have hlt : k < ((ns.map V.int).length : Int) := of_decide_eq_true e
      rw [List.length_map] at hlt
      obtain ⟨j, rfl⟩ : ∃ j : Nat, k = (j : Int) := ⟨k.toNat, by omega⟩
      have hj : j < ns.length := by omega
      have hat : atI (ns.map V.int) ((j : Nat) : Int) = some (.int ns[j]) := atI_nat (by rw [List.getElem?_map, List.getElem?_eq_getElem hj]; rfl)
      refine ⟨_, rfl, _, rfl, a, _, _, _, rfl, rfl, hS, hat, ?_⟩
      refine ⟨_, rfl, ns[j], rfl, 10, 60, rfl, rfl, ⟨by decide, by decide, by decide⟩, 10, 60, rfl, rfl, ⟨by decide, by decide, by decide⟩, _, _, rfl, rfl, ?_, _, _, rfl, rfl, ?_, ?_⟩
      · exact wide_mul (a := 300) (b := 300) (by decide +kernel) (by decide +kernel) (by decide) (by decide) (by decide)
      · show (0 : Int) < 10 ^ (60 : Int).toNat * 10 ^ (60 : Int).toNat
        decide +kernel
      · refine ⟨_, rfl, ns[j], rfl, 10, 18, rfl, rfl, ⟨by decide, by decide, by decide⟩, _, _, rfl, rfl, .inr ⟨_, rfl, _, _, rfl, rfl, .inr ?_, ?_⟩⟩
        · exact b01 _
        · refine ⟨_, rfl, _, rfl, ns[j], 2305843009213693951, rfl, rfl, (by show (0 : Int) < 2305843009213693951; decide), _, rfl, 7919, _, rfl, rfl, .inl (by decide), _, _, rfl, rfl, _, _, rfl, rfl, _, _, rfl, rfl, (by show (0 : Int) < 2305843009213693951; decide), (by show 3 ≤ sizeLine; decide), fun p np => ?_⟩
          refine q p _ _ np ?_ (Int.emod_nonneg _ (by decide)) (Int.emod_lt_of_pos _ (by decide))
          refine Int.mul_nonneg (Int.emod_nonneg _ (by decide +kernel)) ?_
          exact b0 _
    · refine ⟨_, rfl, 0, rfl, 10, 60, rfl, rfl, ⟨by decide, by decide, by decide⟩, 10, 60, rfl, rfl, ⟨by decide, by decide, by decide⟩, _, _, rfl, rfl, ?_, _, _, rfl, rfl, ?_, ?_⟩
      · exact wide_mul (a := 300) (b := 300) (by decide +kernel) (by decide +kernel) (by decide) (by decide) (by decide)
      · show (0 : Int) < 10 ^ (60 : Int).toNat * 10 ^ (60 : Int).toNat
        decide +kernel
      · refine ⟨_, rfl, 0, rfl, 10, 18, rfl, rfl, ⟨by decide, by decide, by decide⟩, _, _, rfl, rfl, .inr ⟨_, rfl, _, _, rfl, rfl, .inr ?_, ?_⟩⟩
        · exact b01 _
        · refine ⟨_, rfl, _, rfl, 0, 2305843009213693951, rfl, rfl, (by show (0 : Int) < 2305843009213693951; decide), _, rfl, 7919, _, rfl, rfl, .inl (by decide), _, _, rfl, rfl, _, _, rfl, rfl, _, _, rfl, rfl, (by show (0 : Int) < 2305843009213693951; decide), (by show 3 ≤ sizeLine; decide), fun p np => ?_⟩
          refine q p _ _ np ?_ (Int.emod_nonneg _ (by decide)) (Int.emod_lt_of_pos _ (by decide))
          refine Int.mul_nonneg (Int.emod_nonneg _ (by decide +kernel)) ?_
          exact b0 _
theorem ok_take {f : Addr} {fd : FuncData} (D : Df K mg "_law_take" ["_law_hand_here", "_law_many"] sTake f fd) : FnOk P w K mg base CX0 1 f fd ["_law_hand_here", "_law_many"] spTake := by
  refine D.fn.ok scTake (fun vs H Q E h => ?_) (fun cdv A outer s H vs Q E hr h => ?_)
  · obtain ⟨h, many, n, rfl, _⟩ := h
    rfl
  · obtain ⟨h, many, n, rfl, m1, m2, ⟨g, m, c, hh, g0, k0, k1, c0, c1⟩, hn, q⟩ := h
    refine ⟨_, pss_cons (ps_if (pt_cmpR op_gt (pe_ix ix_list (pv 0) pe_int (fun _ _ => rfl)) pe_int (nomark _))
        (pss_cons (ps_set (i := 2) scTake.nd rfl (.inl rfl) (pe_op op_mod (pe_ix ix_list (pv 0) pe_int (fun _ _ => rfl)) (pv 1)))
        (pss_cons (ps_asg (pe_op op_fdiv (pe_ix ix_list (pv 0) pe_int (fun _ _ => rfl)) (pv 1)) (pg_sub (pv 0) pe_int set_list))
        (pss_one (ps_ret (pv 2))))) pss_nil)
      (pss_cons (ps_asg (pe_op op_add (pe_ix ix_list (pv 0) pe_int (fun _ _ => rfl)) pe_int) (pg_sub (pv 0) pe_int set_list))
      (pss_cons (ps_set (i := 3) scTake.nd rfl (.inl rfl) (pe_op op_mod (pe_op op_mul (pe_op op_add (pe_op op_add (pe_ix ix_list (pv 0) pe_int (fun _ _ => rfl))
          (pe_op op_mul (pe_op op_mul pe_int (pe_ix ix_list (pv 0) pe_int (fun _ _ => rfl))) (pe_ix ix_list (pv 0) pe_int (fun _ _ => rfl)))) pe_int) pe_int) pe_int))
      (pss_cons (ps_set (i := 3) scTake.nd rfl (.inl rfl) (pe_op op_mod (pe_op op_mul (pv 3) (pe_op op_add (pe_op op_mod (pv 3) pe_int) (pe_op op_mul pe_int (pe_ix ix_list (pv 0) pe_int (fun _ _ => rfl))))) pe_int))
      (pss_one (ps_ret (pe_op op_mod (pe_op op_add (pe_op op_fdiv (pv 3) pe_int) (pe_op op_fdiv (pv 3) pe_int)) (pv 1))))))), ?_⟩
    have far' : n ≤ 1000000 := hn
    refine ⟨_, rfl, h, _, 0, _, rfl, rfl, SqL.of hh, atI_nat (j := 0) rfl, g, 0, rfl, rfl, _, rfl, ite2 (fun e => ?_) (fun e => ?_)⟩
    · refine ⟨_, rfl, h, _, 0, _, rfl, rfl, SqL.of hh, atI_nat (j := 0) rfl, _, rfl, g, many, rfl, rfl, m1, ?_⟩
      refine ⟨_, rfl, h, _, 0, _, rfl, rfl, SqL.of hh, atI_nat (j := 0) rfl, _, rfl, g, many, rfl, rfl, ⟨m1, m2⟩, _, rfl, h, _, 0, 0, rfl, rfl, hh, rfl, ?_⟩
      refine ⟨_, rfl, ?_⟩
      exact q _ _ (Int.emod_nonneg _ (by omega)) (Int.emod_lt_of_pos _ m1) ⟨g / many, m, c, upd_same, Int.ediv_nonneg g0 (by omega), k0, k1, c0, by omega⟩ but_upd
    · refine ⟨_, rfl, h, _, 2, _, rfl, rfl, SqL.of hh, atI_nat (j := 2) rfl, c, 1, rfl, rfl, _, rfl, h, _, 2, 2, rfl, rfl, hh, rfl, ?_⟩
      have h2 : (upd H h (.lst [.int g, .int m, .int (c + 1)])) h = some (.lst [.int g, .int m, .int (c + 1)]) := upd_same
      have s2 := SqL.of (K := K) h2
      refine ⟨_, rfl, h, _, 1, _, rfl, rfl, s2, atI_nat (j := 1) rfl, _, rfl, h, _, 2, _, rfl, rfl, s2, atI_nat (j := 2) rfl, 65537, c + 1, rfl, rfl, .inl (by decide), _, rfl, h, _, 2, _, rfl, rfl, s2, atI_nat (j := 2) rfl, _, c + 1, rfl, rfl, .inr (by omega),
        m, _, rfl, rfl, _, 11, rfl, rfl, _, 48271, rfl, rfl, .inr (by decide), _, 2305843009213693921, rfl, rfl, (by show (0 : Int) < 2305843009213693921; decide), ?_⟩
      generalize (m + 65537 * (c + 1) * (c + 1) + 11) * 48271 = z
      have z0 : 0 ≤ z % 2305843009213693921 := Int.emod_nonneg _ (by decide)
      have z1 : z % 2305843009213693921 < 2305843009213693921 := Int.emod_lt_of_pos _ (by decide)
      refine ⟨_, rfl, _, rfl, _, 1000003, rfl, rfl, (by show (0 : Int) < 1000003; decide), _, rfl, h, _, 2, _, rfl, rfl, s2, atI_nat (j := 2) rfl, 99991, c + 1, rfl, rfl, .inl (by decide), _, _, rfl, rfl, _, _, rfl, rfl, .inl (by omega),
        _, 2305843009213693907, rfl, rfl, (by show (0 : Int) < 2305843009213693907; decide), ?_⟩
      refine ⟨_, rfl, _, 97, rfl, rfl, ⟨by decide, by decide⟩, _, rfl, _, 1000033, rfl, rfl, ⟨by decide, by decide⟩, _, _, rfl, rfl, _, rfl, _, many, rfl, rfl, m1, ?_⟩
      exact q _ _ (Int.emod_nonneg _ (by omega)) (Int.emod_lt_of_pos _ m1) ⟨g, m, c + 1, h2, g0, k0, k1, by omega, by omega⟩ but_upd
theorem ok_pick {f : Addr} {fd : FuncData} {e : Ex} (D : Df K mg "_law_pick" ["_law_hand_here", "_law_some"] sPick f fd) (T : Txt K mg C e) (cT : Ca P w K mg base 1 "_law_take" ["_law_hand_here", "_law_many"] spTake) :
    FnOk P w K mg base CX0 2 f fd ["_law_hand_here", "_law_some"] spPick := by
  refine D.fn.ok scPick (fun vs H Q E h => ?_) (fun cdv A outer s H vs Q E hr h => ?_)
  · obtain ⟨h, l, xs, n, rfl, _⟩ := h
    rfl
  · obtain ⟨h, l, xs, n, rfl, hl, nl, ne, few, hh, hn, q⟩ := h
    refine ⟨_, pss_one (ps_ret (pe_ix ix_list (pv 1) (pe_ca cT hr (by decide) (by rfl) (pa_cons (pv 0) (pa_cons (pe_callB call_len_seq (by rfl) T.len PySem.boot_len (pa_cons (pv 1) pa_nil)) pa_nil))) (fun _ _ => rfl))), ?_⟩
    have pos : 0 < xs.length := List.length_pos_iff.mpr ne
    refine ⟨_, rfl, _, rfl, _, rfl, l, xs, rfl, .inl (SqL.of hl), h, (xs.length : Int), n, rfl, by omega, by omega, hh, hn, fun d H' d0 d1 hh' bt => ?_⟩
    obtain ⟨j, rfl⟩ : ∃ j : Nat, d = (j : Int) := ⟨d.toNat, by omega⟩
    have hj : j < xs.length := by omega
    refine ⟨l, xs, _, xs[j], rfl, rfl, SqL.of (bt _ _ nl hl), atI_nat (List.getElem?_eq_getElem hj), ?_⟩
    exact q _ H' (List.getElem_mem hj) hh' bt
end
end K6
set_option Elab.async false
set_option linter.all false
set_option maxRecDepth 100000
set_option maxHeartbeats 4000000
set_option pp.maxSteps 400
set_option pp.deepTerms false
namespace K6
open PySem PySem.Spec PyProof.Rows L2
open Xk
section
variable {P : Program} {w : World} {K : PySem.W.Frag} {mg : Str → Option Value} {base : Heap} {C : Addr}
def spAlone (e : Ex) : Sp := fun vs H Q _ => ∃ (a : Addr) (fs : List (Str × V)), vs = [.ref a] ∧ Kept H a e.NoLength fs ∧ ∀ H', L2.Same H H' → Q (.bl true) H'
/-- together, however it is called -/
structure Tg (P : Program) (w : World) (K : PySem.W.Frag) (mg : Str → Option Value) (base : Heap) (C : Addr) (e : Ex) (f : Addr) (fd : FuncData) : Prop where
  ok : FnOk P w K mg base (L2.CX P w) 5 f fd ["lengths", "start"] (spTogether K C e)
  mgf : mg "together" = some (.ref f)
  kp : PySem.W.keepIn K (.ref f) = true
  b2 : Binds K fd ["lengths", "start"] []
  b1 : ∃ ds, Vals [.int 0] ds ∧ Binds K fd ["lengths", "start"] ds
  k0 : KBn K fd ["lengths", "start"] 0 ["lengths", "start"] (fun us ws => us ++ ws) (fun vs zs => vs ++ zs)
theorem tg_mk {e : Ex} {f : Addr} {fd : FuncData} (F : FunD K "together" "together" (defArgs sTogether) (defBody sTogether) (defScope sTogether) [.int 0] [] f fd) (mgf : mg "together" = some (.ref f))
    (ok : FnOk P w K mg base (L2.CX P w) 5 f fd ["lengths", "start"] (spTogether K C e)) : Tg P w K mg base C e f fd := by
  refine ⟨ok, mgf, F.kp, ?_, ?_, ?_⟩
  · obtain ⟨ds, r, b⟩ := F.binds1 (ps := ["lengths", "start"]) 2 1 (by simp) rfl fun T kV doc pm an cdv ct us its h1 h2 => by
      match us, its, h1, h2 with
      | [_, _], [_], _, _ => exact ⟨_, rfl, rfl⟩
    cases r
    exact b
  · exact F.binds1 (ps := ["lengths", "start"]) 1 0 (by simp) rfl fun T kV doc pm an cdv ct us its h1 h2 => by
      match us, its, h1, h2 with
      | [_], [_], _, _ => exact ⟨_, rfl, rfl⟩
  · obtain ⟨its, z⟩ := F.kbindsD (ps := ["lengths", "start"]) 0 ["lengths", "start"] (fun us _ ws => us ++ ws) (by simp) (fun r _ t => Vals.append r t) fun T kV doc pm an cdv ct us its ws h1 h2 h3 => by
      match us, its, ws, h1, h2, h3 with
      | [], [_], [_, _], _, _, _ => exact ⟨_, rfl, rfl⟩
    exact z
def spCaught (K : PySem.W.Frag) (C : Addr) (e : Ex) : Sp := fun vs H Q _ => ∃ (way : Int) (a : Addr) (bg : Int) (xs : List V) (ns : List Int), vs = [.int way, .ref a, .int bg] ∧ 0 ≤ bg ∧ (way = 0 → bg = 0) ∧ Sq K H a xs ∧ Lens C H xs ns ∧ ns.length ≤ 100 ∧ (∀ n ∈ ns, 0 ≤ n) ∧
  (bg + ns.sum ≤ 359999 → ∀ (H' : Hp) (x : Addr), L2.Same H H' → LenAt C H' x (bg + ns.sum) → Q (.ref x) H') ∧
  (359999 < bg + ns.sum → ∀ (H' : Hp) (x : Addr), L2.Same H H' → Kept H' x e.NoLength [("seconds", .int (bg + ns.sum))] → Q (.ref x) H')
def spSum (K : PySem.W.Frag) (C : Addr) (e : Ex) : Sp := fun vs H Q _ => ∃ (way : Int) (a : Addr) (bg ct : Int) (xs : List V) (ns : List Int), vs = [.int way, .ref a, .int bg, .int ct] ∧ ct = bg + ns.sum ∧ bg < 10 ^ 30 ∧ ns.sum < 10 ^ 30 ∧ 0 ≤ bg ∧ (way = 0 → bg = 0) ∧ Sq K H a xs ∧ Lens C H xs ns ∧ ns.length ≤ 100 ∧ (∀ n ∈ ns, 0 ≤ n) ∧
  ∀ H', L2.Same H H' → Q (.bl true) H'
theorem dInt (i j : Int) : decide (V.int i = V.int j) = decide (i = j) := decide_eq_decide.mpr ⟨fun z => V.int.inj z, fun z => by rw [z]⟩
theorem ok_alone {f : Addr} {fd : FuncData} {e : Ex} (D : Df K mg "_law_alone" ["_law_e"] sAlone f fd) (T : Txt K mg C e) : FnOk P w K mg base CX0 1 f fd ["_law_e"] (spAlone e) := by
  refine D.fn.ok scAlone (fun vs H Q E h => ?_) (fun cdv A outer s H vs Q E hr h => ?_)
  · obtain ⟨a, fs, rfl, k, q⟩ := h
    rfl
  · obtain ⟨a, fs, rfl, k, q⟩ := h
    refine ⟨_, (pss_cons (ps_if (pt_val (pe_callB (call_isKT T.xc) (by rfl) T.isi (by decide +kernel) (pa_cons (pv 0) (pa_cons (pe_tup (pa_cons (pe_glob (v := .ref e.Lost) (by rfl) T.mLost rfl) (pa_cons (pe_glob (v := .ref e.Taken) (by rfl) T.mTaken rfl) (pa_cons (pe_glob (v := .ref e.NoCustom) (by rfl) T.mNoCustom rfl) (pa_cons (pe_glob (v := .ref e.NoDay) (by rfl) T.mNoDay rfl) (pa_cons (pe_glob (v := .ref e.NoDisc) (by rfl) T.mNoDisc rfl) (pa_cons (pe_glob (v := .ref e.NoEntry) (by rfl) T.mNoEntry rfl) (pa_cons (pe_glob (v := .ref e.NoKey) (by rfl) T.mNoKey rfl) (pa_cons (pe_glob (v := .ref e.NoLine) (by rfl) T.mNoLine rfl) pa_nil))))))))) pa_nil)))) (pss_one (ps_ret pe_bl)) pss_nil)
      (pss_cons (ps_if (pt_val (pe_callB (call_isKT T.xc) (by rfl) T.isi (by decide +kernel) (pa_cons (pv 0) (pa_cons (pe_tup (pa_cons (pe_glob (v := .ref e.NoName) (by rfl) T.mNoName rfl) (pa_cons (pe_glob (v := .ref e.NoNumber) (by rfl) T.mNoNumber rfl) (pa_cons (pe_glob (v := .ref e.NoPath) (by rfl) T.mNoPath rfl) (pa_cons (pe_glob (v := .ref e.NoText) (by rfl) T.mNoText rfl) (pa_cons (pe_glob (v := .ref e.Same) (by rfl) T.mSame rfl) (pa_cons (pe_glob (v := .ref e.Struck) (by rfl) T.mStruck rfl) (pa_cons (pe_glob (v := .ref e.Twice) (by rfl) T.mTwice rfl) pa_nil)))))))) pa_nil)))) (pss_one (ps_ret pe_bl)) pss_nil)
      (pss_one (ps_ret (pe_and (pe_callB (call_isK T.xc) (by rfl) T.isi (by decide +kernel) (pa_cons (pv 0) (pa_cons (pe_glob (v := .ref e.NoLength) (by rfl) T.mNoLength rfl) pa_nil))) (pe_and (pe_callB (call_isK T.xc) (by rfl) T.isi (by decide +kernel) (pa_cons (pv 0) (pa_cons (pe_glob (v := .ref e.NotSuch) (by rfl) T.mNotSuch rfl) pa_nil))) (pe_one (pe_callB (call_isK T.xc) (by rfl) T.isi (by decide +kernel) (pa_cons (pv 0) (pa_cons (pe_bltn (v := .ty "ValueError") (by rfl) T.ValueError (by decide +kernel) rfl) pa_nil)))))))))), ?_⟩
    refine ⟨_, rfl, (by show 8 ≤ sizeLine; decide), fun t nt => ⟨a, t, fs, _, _, false, rfl, k.same (same_upd nt), upd_same, (.cons (.own _) (.cons (.own _) (.cons (.own _) (.cons (.own _) (.cons (.own _) (.cons (.own _) (.cons (.own _) (.cons (.own _) .nil)))))))), T.kit1, false, rfl, iteF ?_⟩⟩
    refine ⟨_, rfl, (by show 7 ≤ sizeLine; decide), fun u nu => ⟨a, u, fs, _, _, false, rfl, (k.same (same_upd nt)).same (same_upd nu), upd_same, (.cons (.own _) (.cons (.own _) (.cons (.own _) (.cons (.own _) (.cons (.own _) (.cons (.own _) (.cons (.own _) .nil))))))), T.kit2, false, rfl, iteF ?_⟩⟩
    have k2 := (k.same (same_upd nt (o := .tup [.ref e.Lost, .ref e.Taken, .ref e.NoCustom, .ref e.NoDay, .ref e.NoDisc, .ref e.NoEntry, .ref e.NoKey, .ref e.NoLine]))).same (same_upd nu (o := .tup [.ref e.NoName, .ref e.NoNumber, .ref e.NoPath, .ref e.NoText, .ref e.Same, .ref e.Struck, .ref e.Twice]))
    refine ⟨_, rfl, a, fs, _, _, true, rfl, k2, .own _, T.kit3, true, rfl, iteT ?_⟩
    refine ⟨_, rfl, a, fs, _, _, true, rfl, k2, .own _, T.kit4, true, rfl, iteT ?_⟩
    exact ⟨_, rfl, a, fs, _, _, true, rfl, k2, .ty _, T.kit5, q _ ((same_upd nt).trans (same_upd nu))⟩
theorem ok_caught {f : Addr} {fd : FuncData} {e : Ex} {fG : Addr} {fdG : FuncData} (D : Df K mg "_law_caught" ["_law_way", "_law_handed", "_law_begin"] sCaught f fd) (T : Txt K mg C e) (G : Tg P w K mg base C e fG fdG) : FnOk P w K mg base CX0 6 f fd ["_law_way", "_law_handed", "_law_begin"] (spCaught K C e) := by
  obtain ⟨ds, rd, bd⟩ := G.b1
  refine D.fn.ok scCaught (fun vs H Q E h => ?_) (fun cdv A outer s H vs Q E hr h => ?_)
  · obtain ⟨way, a, bg, xs, ns, rfl, h0, hw, hq, hl, few, pos, q1, q2⟩ := h
    rfl
  · obtain ⟨way, a, bg, xs, ns, rfl, h0, hw, hq, hl, few, pos, q1, q2⟩ := h
    refine ⟨_, (pss_cons (ps_set (i := 3) scCaught.nd rfl (.inl rfl) pe_non)
      (pss_cons (ps_try_keep (i := 4) (C1 := e.NotSuch) (C2 := e.Lost) (C3 := e.Taken) rfl rfl rfl scCaught.nd rfl rfl ⟨by rfl, by decide, T.mNotSuch⟩ ⟨by rfl, by decide, T.mLost⟩ ⟨by rfl, by decide, T.mTaken⟩ takes0 (fun W pn xe tk _ =>
        (pss_one (ps_if (pt_cmpR op_eq (pv 0) pe_int (nomark _)) (pss_one (ps_set (i := 3) scCaught.nd rfl (.inl rfl) (pe_callSD G.ok (hr.mono (by decide)) (by rfl) G.mgf G.kp bd rd (fun σ => passAt tk σ) (pa_cons (pv 1) pa_nil))))
        (pss_one (ps_if (pt_cmpR op_eq (pv 0) pe_int (nomark _)) (pss_one (ps_set (i := 3) scCaught.nd rfl (.inl rfl) (pe_callS G.ok (hr.mono (by decide)) (by rfl) G.mgf G.kp G.b2 (fun σ => passAt tk σ) (pa_cons (pv 1) (pa_cons (pv 2) pa_nil)))))
          (pss_one (ps_set (i := 3) scCaught.nd rfl (.inl rfl) (pe_callKS G.ok (hr.mono (by decide)) (by rfl) G.mgf G.kp G.k0 (fun σ => passAt tk σ) (pk_cons (pv 1) (pk_cons (pv 2) pk_nil)))))))))) (fun a pn => pss_one (ps_set (i := 3) scCaught.nd rfl (.inl rfl) (pv 4))))
      (pss_one (ps_ret (pv 3))))), ?_⟩
    refine ⟨_, rfl, rfl, _, rfl, ?_⟩
    rw [dInt]
    refine ite2 (fun c => ?_) (fun c => ?_)
    · have w0 : way = 0 := of_decide_eq_true c
      have b0 : bg = 0 := hw w0
      subst b0
      refine ⟨_, rfl, a, 0, xs, ns, rfl, h0, hq, hl, few, pos, fun c H' x sm _ al => ⟨_, rfl, q1 c H' x sm al⟩, fun c2 d H' sm ed => ⟨true, T.exm, fun _ y ny => ⟨_, rfl, _, rfl, q2 c2 _ y (sm.trans (same_upd ny)) ⟨d, upd_same, same_upd ny _ _ ed⟩⟩, fun z => nomatch z⟩⟩
    · refine ⟨_, rfl, rfl, _, rfl, ?_⟩
      refine ite2 (fun c => ?_) (fun c => ?_)
      · refine ⟨_, rfl, _, rfl, a, bg, xs, ns, rfl, h0, hq, hl, few, pos, fun c H' x sm _ al => ⟨_, rfl, q1 c H' x sm al⟩, fun c2 d H' sm ed => ⟨true, T.exm, fun _ y ny => ⟨_, rfl, _, rfl, q2 c2 _ y (sm.trans (same_upd ny)) ⟨d, upd_same, same_upd ny _ _ ed⟩⟩, fun z => nomatch z⟩⟩
      · refine ⟨_, rfl, _, rfl, rfl, a, bg, xs, ns, rfl, h0, hq, hl, few, pos, fun c H' x sm _ al => ⟨_, rfl, q1 c H' x sm al⟩, fun c2 d H' sm ed => ⟨true, T.exm, fun _ y ny => ⟨_, rfl, _, rfl, q2 c2 _ y (sm.trans (same_upd ny)) ⟨d, upd_same, same_upd ny _ _ ed⟩⟩, fun z => nomatch z⟩⟩
end
end K6
set_option Elab.async false
set_option linter.all false
set_option maxRecDepth 100000
set_option maxHeartbeats 4000000
set_option pp.maxSteps 400
set_option pp.deepTerms false
namespace K6
open PySem PySem.Spec PyProof.Rows L2
open Xk
section
variable {P : Program} {w : World} {K : PySem.W.Frag} {mg : Str → Option Value} {base : Heap} {C : Addr}
theorem lg {i : Int} (h0 : 0 ≤ i) (h1 : i < 10 ^ 31) : i.natAbs.log2 < 1920 := by
  have h2 : i.natAbs < 2 ^ 110 := by
    have : (10 : Int) ^ 31 < 2 ^ 110 := by decide
    omega
  exact Nat.lt_of_lt_of_le (PySem.Flt.log2_lt_of (by decide) h2) (by decide)
theorem ok_sum {f : Addr} {fd : FuncData} {e : Ex} (D : Df K mg "_law_sum_right" ["_law_way", "_law_handed", "_law_begin", "_law_count"] sSumRight f fd) (T : Txt K mg C e) (cA : Ca P w K mg base 1 "_law_alone" ["_law_e"] (spAlone e)) (cC : Ca P w K mg base 6 "_law_caught" ["_law_way", "_law_handed", "_law_begin"] (spCaught K C e)) : FnOk P w K mg base CX0 7 f fd ["_law_way", "_law_handed", "_law_begin", "_law_count"] (spSum K C e) := by
  refine D.fn.ok scSumRight (fun vs H Q E h => ?_) (fun cdv A outer s H vs Q E hr h => ?_)
  · obtain ⟨way, a, bg, ct, xs, ns, rfl, rfl, g1, g2, h0, hw, hq, hl, few, pos, q⟩ := h
    rfl
  · obtain ⟨way, a, bg, ct, xs, ns, rfl, rfl, g1, g2, h0, hw, hq, hl, few, pos, q⟩ := h
    refine ⟨_, (pss_cons (ps_set (i := 4) scSumRight.nd rfl (.inl rfl) (pe_ca cC hr (by decide) (by rfl) (pa_cons (pv 0) (pa_cons (pv 1) (pa_cons (pv 2) pa_nil)))))
      (pss_cons (ps_if (pt_cmpR op_le (pv 3) pe_int (nomark _)) (pss_one (ps_ret (pe_and (pe_callB (C8.call_isC T.ins) (by rfl) T.isi (by decide +kernel) (pa_cons (pv 4) (pa_cons (pe_glob (v := .ref C) (by rfl) T.mgC rfl) pa_nil))) (pe_one (pe_cmpR op_eq (pe_callB SkE.call_repr_int (by rfl) T.repr (by decide +kernel) (pa_cons (pe_fld (pv 4) rfl) pa_nil)) (pe_callB SkE.call_repr_int (by rfl) T.repr (by decide +kernel) (pa_cons (pv 3) pa_nil)) (nomark _)))))) pss_nil)
      (pss_one (ps_ret (pe_and (pe_ca cA hr (by decide) (by rfl) (pa_cons (pv 4) pa_nil)) (pe_one (pe_cmpR op_eq (pe_callB SkE.call_repr_int (by rfl) T.repr (by decide +kernel) (pa_cons (pe_kf T.xc T.fld (pv 4)) pa_nil)) (pe_callB SkE.call_repr_int (by rfl) T.repr (by decide +kernel) (pa_cons (pv 3) pa_nil)) (nomark _)))))))), ?_⟩
    have sp : 0 ≤ ns.sum := List.sum_nonneg_int pos
    have lz : (bg + ns.sum).natAbs.log2 < 1920 := lg (by omega) (by omega)
    refine ⟨_, rfl, _, rfl, _, rfl, way, a, bg, xs, ns, rfl, h0, hw, hq, hl, few, pos, fun c H' x sm al => ?_, fun c H' x sm k => ?_⟩
    · refine ⟨_, rfl, bg + ns.sum, 359999, rfl, rfl, _, rfl, ?_⟩
      rw [decide_eq_true c]
      obtain ⟨dx, ex⟩ := al
      refine iteT ⟨_, rfl, x, dx, _, rfl, ex, true, rfl, iteT ?_⟩
      refine ⟨_, rfl, x, C, dx, _, _, rfl, ex, T.cl, T.nS, f_s _, _, rfl, lz, _, rfl, _, rfl, lz, rfl, ?_⟩
      have z := q H' sm
      rw [← decide_eq_true (rfl : V.str (toString (bg + ns.sum)) = V.str (toString (bg + ns.sum)))] at z
      exact z
    · refine ⟨_, rfl, bg + ns.sum, 359999, rfl, rfl, _, rfl, ?_⟩
      rw [decide_eq_false (show ¬ bg + ns.sum ≤ 359999 by omega)]
      refine iteF ⟨_, rfl, x, _, rfl, k, fun H2 s2 => ⟨true, rfl, iteT ?_⟩⟩
      refine ⟨_, rfl, x, _, _, rfl, k.same s2, f_s _, _, rfl, lz, _, rfl, _, rfl, lz, rfl, ?_⟩
      have z := q H2 (sm.trans s2)
      rw [← decide_eq_true (rfl : V.str (toString (bg + ns.sum)) = V.str (toString (bg + ns.sum)))] at z
      exact z
end
end K6
set_option Elab.async false
set_option linter.all false
set_option maxRecDepth 100000
set_option maxHeartbeats 4000000
set_option pp.maxSteps 400
set_option pp.deepTerms false
namespace K6
open PySem PySem.Spec PyProof.Rows L2
open Xk
section
variable {P : Program} {w : World} {K : PySem.W.Frag} {mg : Str → Option Value} {base : Heap} {C : Addr}
structure Mid6 (K : PySem.W.Frag) (C h : Addr) (H : Hp) (l D : Addr) (xs : List V) (ns : List Int) (n : Int) (Hi : Hp) : Prop where
  hand : Hand n Hi h
  bt : But h H Hi
  sq : Sq K Hi l xs
  ln : Lens C Hi xs ns
  dr : Hi D = some (.lst (ns.map V.int))
  lh : l ≠ h
  dh : D ≠ h
theorem Mid6.same {h : Addr} {H : Hp} {l D : Addr} {xs : List V} {ns : List Int} {n : Int} {Hi H' : Hp} (m : Mid6 K C h H l D xs ns n Hi) (s : L2.Same Hi H') : Mid6 K C h H l D xs ns n H' :=
  ⟨m.hand.same s, m.bt.trans (Same.but s h), m.sq.same s, m.ln.same s, s _ _ m.dr, m.lh, m.dh⟩
theorem Mid6.but {h : Addr} {H : Hp} {l D : Addr} {xs : List V} {ns : List Int} {n n' : Int} {Hi H' : Hp} (m : Mid6 K C h H l D xs ns n Hi) (s : But h Hi H') (hh : Hand n' H' h) : Mid6 K C h H l D xs ns n' H' :=
  ⟨hh, m.bt.trans s, m.sq.elim (fun e => .inl (s _ _ m.lh e)) (fun e => .inr (s _ _ m.lh e)), m.ln.but m.hand s, s _ _ m.dh m.dr, m.lh, m.dh⟩
theorem Sq.list {K : PySem.W.Frag} {H : Hp} {a : Addr} {xs : List V} (h : Sq K H a xs) : SqL K H a xs ∨ SqT K H a xs := h.elim (fun e => .inl (SqL.of e)) fun e => .inr (SqT.of e)
/-- the items of two rows side by side -/
theorem for_zS {S : Hp → Addr → List V → Prop} {a b : Addr} {xs ys : List V} {g : TG} {tb : TS} {D : Ends} {σ : L2.St} {H : Hp} (Pv : Nat → L2.St → Hp → Prop) (h0 : Pv 0 σ H) (hq : ∀ i σ H, Pv i σ H → S H a xs ∧ S H b ys)
    (hs : ∀ (i : Nat) (x y : V) (T : Addr) (σ : L2.St) (H : Hp), xs[i]? = some x → ys[i]? = some y → Pv i σ H → H T = none → g (.ref T) σ (upd H T (.tup [x, y])) fun σ2 H2 => tb { D with nx := Pv (i + 1), ct := Pv (i + 1), bk := D.nx } σ2 H2)
    (hd : ∀ i σ H, Pv i σ H → D.nx σ H) :
    ∃ W : Nat → Nat → L2.St → Hp → Prop, (∃ m, W 0 m σ H) ∧ ∀ i m σ H, W i m σ H →
      ((∃ xs ys : List V, S H a xs ∧ S H b ys ∧ (xs.length ≤ i ∨ ys.length ≤ i)) ∧ D.nx σ H) ∨
      ((∃ (xs ys : List V) (x y : V), S H a xs ∧ S H b ys ∧ xs[i]? = some x ∧ ys[i]? = some y) ∧ ∃ N : L2.St → Hp → Prop, (∀ σ' H', N σ' H' → ∃ m', m' < m ∧ W (i + 1) m' σ' H') ∧
        ∀ v H', (∃ T x y, v = .ref T ∧ H T = none ∧ H' = upd H T (.tup [x, y]) ∧ (∀ xs, S H a xs → xs[i]? = some x) ∧ ∀ ys, S H b ys → ys[i]? = some y) → g v σ H' fun σ2 H2 => tb { D with nx := N, ct := N, bk := D.nx } σ2 H2) := by
  refine ⟨fun i m σ H => m = xs.length - i ∧ i ≤ xs.length ∧ Pv i σ H, ⟨xs.length, rfl, Nat.zero_le _, h0⟩, ?_⟩
  rintro i m σ H ⟨rfl, hi, p⟩
  obtain ⟨qx, qy⟩ := hq i σ H p
  by_cases c : i < xs.length ∧ i < ys.length
  · have ex : xs[i]? = some xs[i] := List.getElem?_eq_getElem c.1
    have ey : ys[i]? = some ys[i] := List.getElem?_eq_getElem c.2
    refine .inr ⟨⟨xs, ys, _, _, qx, qy, ex, ey⟩, Pv (i + 1), fun σ' H' p' => ⟨xs.length - (i + 1), by omega, rfl, c.1, p'⟩, fun v H' z => ?_⟩
    obtain ⟨T, x', y', rfl, hT, rfl, f1, f2⟩ := z
    exact hs i x' y' T σ H (f1 xs qx) (f2 ys qy) p hT
  · exact .inl ⟨⟨xs, ys, qx, qy, by omega⟩, hd i σ H p⟩
theorem cut_mem {xs : List V} {lo hi : Option Int} {v : V} {i : Nat} (h : (cutV xs lo hi)[i]? = some v) : v ∈ xs := by
  have m := List.mem_of_getElem? h
  unfold cutV at m
  exact List.mem_of_mem_drop (List.mem_of_mem_take m)
theorem Lens.mem {C : Addr} {H : Hp} {xs : List V} {ns : List Int} (h : Lens C H xs ns) {v : V} (m : v ∈ xs) : ∃ (x : Addr) (n : Int), v = .ref x ∧ n ∈ ns ∧ LenAt C H x n := by
  obtain ⟨i, hi⟩ := List.mem_iff_getElem?.mp m
  obtain ⟨x, n, e, q, a⟩ := h.get hi
  exact ⟨x, n, e, List.mem_of_getElem? q, a⟩
/-- apart, by places and by names -/
structure Ap (P : Program) (w : World) (K : PySem.W.Frag) (mg : Str → Option Value) (base : Heap) (C f : Addr) (fd : FuncData) : Prop where
  ok : FnOk P w K mg base CX0 1 f fd ["one", "other"] (spApart C)
  mgf : mg "apart" = some (.ref f)
  kp : PySem.W.keepIn K (.ref f) = true
  bd : Binds K fd ["one", "other"] []
  k0 : KBn K fd ["one", "other"] 0 ["one", "other"] (fun us ws => us ++ ws) (fun vs zs => vs ++ zs)
theorem apart_due (i j : Int) : (if i - j < 0 then -(i - j) else i - j) = (if j > i then j else i) - (if j < i then j else i) := by
  split <;> split <;> split <;> omega
theorem apart_due2 (i j : Int) : (if j - i < 0 then -(j - i) else j - i) = (if j > i then j else i) - (if j < i then j else i) := by
  split <;> split <;> split <;> omega
theorem Mid6.mono {h : Addr} {H : Hp} {l D : Addr} {xs : List V} {ns : List Int} {n n' : Int} {Hi : Hp} (m : Mid6 K C h H l D xs ns n Hi) (le : n ≤ n') : Mid6 K C h H l D xs ns n' Hi :=
  ⟨m.hand.mono le, m.bt, m.sq, m.ln, m.dr, m.lh, m.dh⟩
theorem sum_le {b : Int} : ∀ {ns : List Int}, (∀ z ∈ ns, z < b) → ns.sum ≤ ns.length * b
  | [], _ => by simp
  | a :: r, h => by
    have h1 := h a List.mem_cons_self
    have h2 := sum_le (ns := r) fun z hz => h z (List.mem_cons_of_mem _ hz)
    rw [List.sum_cons, List.length_cons, Int.natCast_succ, Int.add_mul, Int.one_mul]
    omega
theorem sum_lt {ns : List Int} (few : ns.length ≤ 60) (h : ∀ z ∈ ns, z < 360000) : ns.sum < 10 ^ 30 := by
  have h1 := sum_le h
  have h2 : (ns.length : Int) * 360000 ≤ 60 * 360000 := Int.mul_le_mul_of_nonneg_right (by omega) (by decide)
  have h3 : (60 : Int) * 360000 < 10 ^ 30 := by decide
  omega
theorem But.at {h D : Addr} {H : Hp} {o : HO} (_ : D ≠ h) : But D H (upd H D o) := but_upd
theorem Hand.same' {n : Int} {H : Hp} {h D : Addr} {o : HO} (hh : Hand n H h) (ne : D ≠ h) : Hand n (upd H D o) h := by
  obtain ⟨g, m, c, e, r⟩ := hh
  exact ⟨g, m, c, by rw [upd_ne (Ne.symm ne)]; exact e, r⟩
theorem Lens.map {C : Addr} {H H' : Hp} {xs : List V} {ns : List Int} (h : Lens C H xs ns) (k : ∀ {y : Addr} {j : Int}, LenAt C H y j → LenAt C H' y j) : Lens C H' xs ns := by
  induction h with
  | nil => exact .nil
  | cons a _ ih => exact .cons (k a) ih
def spRight : Sp := fun vs H Q _ => ∃ h : Addr, vs = [.ref h] ∧ Hand 0 H h ∧ ∀ H', But h H H' → Q (.bl true) H'
/-! ## calls by names alone -/
section
variable {X : Cx} {CX : CXT} {k : Nat} {f : Addr} {fd : FuncData} {ps ks : List Str} {sp : Sp} {E : XK} {x : Str} {p pos : Pos} {kws : List Keyword} {tk : TA} {g : List Value → List Value → List Value} {gV : List V → List V → List V}
theorem pe_callN0 (F : FnOk X.prog X.w X.K X.mg X.base CX k f fd ps sp) (room : Room k X.A) (gl : Gl X x) (mgf : X.mg x = some (.ref f)) (kp : PySem.W.keepIn X.K (.ref f) = true) (kb : KBn X.K fd ps 0 ks g gV) (px : Passes CX X E) (pk : PK X kws tk)
    (hall : (backToKw pos (keywordEach kws X.env)).all (·.1.isSome) = true := by rfl) (hks : (backToKw pos (keywordEach kws X.env)).filterMap (·.1) = ks := by rfl) (hdb : (x == ("__debug__" : Str)) = false := by decide)
    (hpl : ((backTo pos (starEach [] X.env)).any (·.1) || (backToKw pos (keywordEach kws X.env)).any (·.1.isNone)) = false := by rfl) : PE X (.Call (.Name x p) [] kws pos) (tCallN 0 ks.length sp gV E tNil tk) := by
  refine ⟨fun pins s σ H Q I h => wpAny_Call_Name_kw (ld_glob I gl mgf ?_ hdb)⟩
  refine PySem.W.callWith_KW0 (h₀ := X.base) I.ok.mod.kin kp hall (thn (pk.run pos pins s σ H _ I h) fun ws s2 z => ?_) hpl
  obtain ⟨zs, H2, I2, rz, l1, l2, q2⟩ := z
  refine ⟨I2.kIn, ?_⟩
  rw [hks]
  exact run_fnN (us := []) (vs := []) F room kb px I2 .nil rz l1 l2 q2
end
end
end K6
set_option Elab.async false
set_option linter.all false
set_option maxRecDepth 100000
set_option maxHeartbeats 4000000
set_option pp.maxSteps 400
set_option pp.deepTerms false
namespace K6
open PySem PySem.Spec PyProof.Rows L2
open Xk
section
variable {P : Program} {w : World} {K : PySem.W.Frag} {mg : Str → Option Value} {base : Heap} {C : Addr}
theorem ok_right {f : Addr} {fd : FuncData} {e : Ex} {fL fA : Addr} {fdL fdA : FuncData} (D : Df K mg "_law_right" ["_law_hand_here"] sRight f fd) (T : Txt K mg C e) (cT : Ca P w K mg base 1 "_law_take" ["_law_hand_here", "_law_many"] spTake) (cP : Ca P w K mg base 2 "_law_pick" ["_law_hand_here", "_law_some"] spPick) (cS : Ca P w K mg base 7 "_law_sum_right" ["_law_way", "_law_handed", "_law_begin", "_law_count"] (spSum K C e)) (M : Mk K C fL) (L : FnOk P w K mg base (L2.CX P w) 3 fL fdL ["self", "seconds"] (spLen C e)) (bL : Binds K fdL ["self", "seconds"] []) (Q1 : Ap P w K mg base C fA fdA) : FnOk P w K mg base CX0 8 f fd ["_law_hand_here"] spRight := by
  refine D.fn.ok scRight (fun vs H Q E h => ?_) (fun cdv A outer s H vs Q E hr h => ?_)
  · obtain ⟨h, rfl, hh, q⟩ := h
    rfl
  · obtain ⟨h, rfl, hh, q⟩ := h
    refine ⟨_, (C8.pss_cut (ps_set (i := 1) scRight.nd rfl (.inl rfl) (pe_ifExp (pt_cmpR op_eq (pe_ca cT hr (by decide) (by rfl) (pa_cons (pv 0) (pa_cons pe_int pa_nil))) pe_int (nomark _)) pe_int (pe_ca cT hr (by decide) (by rfl) (pa_cons (pv 0) (pa_cons pe_int pa_nil)))))
      (pss_cons (ps_set (i := 2) scRight.nd rfl (.inr rfl) (pe_ca cP hr (by decide) (by rfl) (pa_cons (pv 0) (pa_cons (pe_lst (pa_cons pe_int (pa_cons pe_int (pa_cons (pe_op op_fdiv pe_int (pe_callB (call_max2 (by rfl)) (by rfl) T.max (by decide +kernel) (pa_cons pe_int (pa_cons (pv 1) pa_nil)))) (pa_cons pe_int pa_nil))))) pa_nil))))
      (pss_cons (ps_setLc (i := 3) (own := [("_law_k", 11)]) (g := gName 11) (tt := tYes) (te := tCall spTake [] E0 (tCons (tVar 0) (tCons (tVar 2) tNil))) (by rfl) scRight.nd rfl rfl (sw_true rfl rfl rfl (by decide +kernel)) (pi_range1 (by rfl) T.range (pa_cons (pv 1) pa_nil)) (blkOk_by (own := [("_law_k", 11)]) (N := ["_law_hand_here", "_law_many", "_law_most", "_law_drawn", "_law_whole", "_law_count", "_law_handed", "_law_begin", "_law_a", "_law_b", "_law_due", "_law_k"]) (sc := defScope sRight) (by decide +kernel)) (fun _ _ _ _ _ => pg_name (i := 11) scRight.nd rfl (.inl rfl)) (fun _ _ _ _ _ => pts_nil) (fun _ _ _ _ _ => pe_ca cT hr (by decide) (by rfl) (pa_cons (pv 0) (pa_cons (pv 2) pa_nil))))
      (pss_cons (ps_set (i := 4) scRight.nd rfl (.inl rfl) pe_int)
      (pss_cons (ps_for PassesOwn.never rfl (pi_list (pv 3)) (pg_name (i := 5) scRight.nd rfl (.inl rfl)) (pss_one (ps_set (i := 4) scRight.nd rfl (.inl rfl) (pe_op op_add (pv 4) (pv 5)))))
      (pss_cons (ps_setLc (i := 6) (own := [("_law_count", 5)]) (g := gName 5) (tt := tYes) (te := tMake C (spLen C e) [] E0 (tCons (tVar 5) tNil)) (by rfl) scRight.nd rfl rfl (sw_true rfl rfl rfl (by decide +kernel)) (pi_list (pv 3)) (blkOk_by (own := [("_law_count", 5)]) (N := ["_law_hand_here", "_law_many", "_law_most", "_law_drawn", "_law_whole", "_law_count", "_law_handed", "_law_begin", "_law_a", "_law_b", "_law_due", "_law_k"]) (sc := defScope sRight) (by decide +kernel)) (fun _ _ _ _ _ => pg_name (i := 5) scRight.nd rfl (.inl rfl)) (fun _ _ _ _ _ => pts_nil) (fun _ _ _ _ _ => pe_make M L (hr.mono (by decide)) (by rfl) T.mgC bL .nil passL (pa_cons (pv 5) pa_nil)))
      (C8.pss_cut (ps_if (pt_cmpR op_eq (pe_ca cT hr (by decide) (by rfl) (pa_cons (pv 0) (pa_cons pe_int pa_nil))) pe_int (nomark _)) (pss_one (ps_set (i := 6) scRight.nd rfl (.inl rfl) (pe_callTy call_tuple_of (by rfl) T.tuple (by decide +kernel) (pa_cons (pv 6) pa_nil)))) pss_nil)
      (pss_cons (ps_for PassesOwn.never rfl (pi_tup (pe_tup (pa_cons pe_int (pa_cons (pe_callB (call_max2 (by rfl)) (by rfl) T.max (by decide +kernel) (pa_cons pe_int (pa_cons (pe_op op_sub pe_int (pv 4)) pa_nil))) (pa_cons (pe_callB (call_max2 (by rfl)) (by rfl) T.max (by decide +kernel) (pa_cons pe_int (pa_cons (pe_op op_sub pe_int (pv 4)) pa_nil))) (pa_cons (pe_ca cT hr (by decide) (by rfl) (pa_cons (pv 0) (pa_cons pe_int pa_nil))) (pa_cons (pe_op op_pow pe_int pe_int) pa_nil))))))) (pg_name (i := 7) scRight.nd rfl (.inl rfl)) (pss_one (ps_if (pt_not (pt_val (pe_ca cS hr (by decide) (by rfl) (pa_cons (pe_op op_add pe_int (pe_ca cT hr (by decide) (by rfl) (pa_cons (pv 0) (pa_cons pe_int pa_nil)))) (pa_cons (pv 6) (pa_cons (pv 7) (pa_cons (pe_op op_add (pv 4) (pv 7)) pa_nil))))))) (pss_one (ps_ret pe_bl)) pss_nil)))
      (C8.pss_cut (ps_for PassesOwn.never rfl (RZ.pi_zipA (by rfl) T.zip (pa_cons (pv 6) (pa_cons (pe_slice (sl_alt sl_list sl_tupA) (pv 6) (po_some pe_int) po_none) pa_nil))) (pg_tup (by rfl) (pgs_cons (pg_name (i := 8) scRight.nd rfl (.inl rfl)) (pgs_cons (pg_name (i := 9) scRight.nd rfl (.inl rfl)) pgs_nil))) (pss_cons (ps_set (i := 10) scRight.nd rfl (.inl rfl) (pe_op op_sub (pe_callB (call_max2 (by rfl)) (by rfl) T.max (by decide +kernel) (pa_cons (pe_fld (pv 8) rfl) (pa_cons (pe_fld (pv 9) rfl) pa_nil))) (pe_callB (call_min2 (by rfl)) (by rfl) T.min (by decide +kernel) (pa_cons (pe_fld (pv 8) rfl) (pa_cons (pe_fld (pv 9) rfl) pa_nil)))))
      (pss_one (ps_if (PW.pt (pw_or (pt_cmpR op_ne (pe_callB SkE.call_repr_int (by rfl) T.repr (by decide +kernel) (pa_cons (pe_call Q1.ok (hr.mono (by decide)) (by rfl) Q1.mgf Q1.kp Q1.bd .nil pass0 (pa_cons (pv 8) (pa_cons (pv 9) pa_nil))) pa_nil)) (pe_callB SkE.call_repr_int (by rfl) T.repr (by decide +kernel) (pa_cons (pv 10) pa_nil)) (nomark _)) (pw_or1 (pt_cmpR op_ne (pe_callB SkE.call_repr_int (by rfl) T.repr (by decide +kernel) (pa_cons (pe_callN0 Q1.ok (hr.mono (by decide)) (by rfl) Q1.mgf Q1.kp Q1.k0 pass0 (pk_cons (pv 9) (pk_cons (pv 8) pk_nil))) pa_nil)) (pe_callB SkE.call_repr_int (by rfl) T.repr (by decide +kernel) (pa_cons (pv 10) pa_nil)) (nomark _))))) (pss_one (ps_ret pe_bl)) pss_nil))))
      (pss_one (ps_ret (pe_and (pe_ca cS hr (by decide) (by rfl) (pa_cons pe_int (pa_cons (pv 6) (pa_cons pe_int (pa_cons (pv 4) pa_nil))))) (pe_one (pe_cmpR (op_eqV hr.units) (pe_lc (own := [("_law_a", 8)]) (g := gName 8) (tt := tYes) (te := tFld K (tVar 8) "seconds") (by rfl) scRight.nd (pi_alt (pi_list (pv 6)) (pi_tup (pv 6))) (blkOk_by (own := [("_law_a", 8)]) (N := ["_law_hand_here", "_law_many", "_law_most", "_law_drawn", "_law_whole", "_law_count", "_law_handed", "_law_begin", "_law_a", "_law_b", "_law_due", "_law_k"]) (sc := defScope sRight) (by decide +kernel)) (fun _ _ _ _ _ => pg_name (i := 8) scRight.nd rfl (.inl rfl)) (fun _ _ _ _ _ => pts_nil) (fun _ _ _ _ _ => pe_fld (pv 8) rfl)) (pv 3) (nomark _))))))))))))))), ?_⟩
    refine ⟨fun σ' H' => ∃ (m : Nat) (n : Int), σ' = [some (.ref h), some (.int (m : Int)), none, none, none, none, none, none, none, none, none, none] ∧ m ≤ 60 ∧ n ≤ 2 ∧ Hand n H' h ∧ But h H H', ?_, ?_⟩
    · refine ⟨_, rfl, h, 8, 0, rfl, by decide, by decide, hh, by decide, fun d1 H1 d10 d11 h1 b1 => ?_⟩
      refine ⟨rfl, _, rfl, ?_⟩
      rw [dInt]
      refine ite2 (fun c => ?_) (fun c => ?_)
      · exact ⟨60, _, rfl, by decide, by decide, h1, b1⟩
      · refine ⟨_, rfl, h, 13, 0 + 1, rfl, by decide, by decide, h1, by decide, fun d2 H2 d20 d21 h2 b2 => ?_⟩
        obtain ⟨j, rfl⟩ : ∃ j : Nat, d2 = (j : Int) := ⟨d2.toNat, by omega⟩
        exact ⟨j, _, rfl, by omega, by decide, h2, b1.trans b2⟩
    rintro σ' H1 ⟨m, n, rfl, hm, hn, h1, b1⟩
    -- the most of each
    have mx : ∀ z : Int, z = (if (m : Int) > 1 then (m : Int) else 1) → 0 < z ∧ z ≤ 60 := fun z e => by
      rw [e]
      split <;> omega
    obtain ⟨z0, z1⟩ := mx _ rfl
    refine ⟨_, rfl, _, rfl, 1, m, rfl, 360000, _, rfl, rfl, ⟨z0, by omega⟩, (by show 4 ≤ sizeLine; decide), fun l nl => ?_⟩
    refine ⟨h, l, _, n, rfl, upd_same, h1.fresh nl, by simp, by show 4 < 1000; decide, h1.same (same_upd nl), by show n ≤ 1000000; omega, fun mv H2 my h2 b2 => ?_⟩
    obtain ⟨mo, rfl, m1, m2⟩ : ∃ mo : Int, mv = .int mo ∧ 1 ≤ mo ∧ mo ≤ 360000 := by
      simp only [List.mem_cons, List.not_mem_nil, or_false] at my
      rcases my with e | e | e | e
      · exact ⟨_, e, by decide, by decide⟩
      · exact ⟨_, e, by decide, by decide⟩
      · exact ⟨_, e, Int.le_ediv_of_mul_le z0 (by omega), Int.ediv_le_self _ (by decide)⟩
      · exact ⟨_, e, by decide, by decide⟩
    have b2' : But h H H2 := (b1.trans (Same.but (same_upd nl) h)).trans b2
    -- the drawn ones
    refine ⟨_, rfl, _, rfl, ?_, ?_, fun D nD => ?_⟩
    · omega
    · omega
    have Dh : D ≠ h := h2.fresh nD
    refine lc_range (lo := 0) (fun i Hi => ∃ ns : List Int, Hand (n + 1 + i) Hi h ∧ But h H Hi ∧ Hi D = some (.lst (ns.map V.int)) ∧ ns.length = i ∧ ∀ z ∈ ns, 0 ≤ z ∧ z < 360000)
      ⟨[], (h2.same (same_upd nD)).mono (by omega), b2'.trans (Same.but (same_upd nD) h), upd_same, rfl, fun z hz => nomatch hz⟩ ?_ ?_
    · rintro i Hi hi ⟨ns, hdi, bi, eD, ln, bd⟩
      have hi' : i < m := by omega
      refine ⟨rfl, ?_⟩
      unfold tYes
      refine iteT ⟨_, rfl, _, rfl, h, mo, _, rfl, by omega, by omega, hdi, by show n + 1 + (i : Int) ≤ 1000000; omega, fun d H' d0 d1 h' b' => ?_⟩
      refine ⟨_, b' _ _ Dh eD, ?_, ns ++ [d], (h'.same' Dh).mono (by omega), (fun b o nb e => by rw [upd_ne (ne_of_none e (But.free b2' Dh nD))]; exact (bi.trans b') b o nb e), ?_, by rw [List.length_append, ln]; rfl, fun z hz => ?_⟩
      · rw [List.length_map]
        exact small1000 (by omega)
      · rw [upd_same, List.map_append]
        rfl
      · rcases List.mem_append.mp hz with e | e
        · exact bd z e
        · have e' : z = d := by simpa using e
          rw [e']
          exact ⟨d0, by omega⟩
    rintro H3 ⟨ns, h3, b3, eD, ln, bd⟩
    have few : ns.length ≤ 60 := by omega
    have pos : ∀ z ∈ ns, 0 ≤ z := fun z hz => (bd z hz).1
    -- all of them together
    refine ⟨_, rfl, D, rfl, ⟨_, SqL.of eD⟩, for_list (K := K) (a := D) (xs := ns.map V.int) (fun i σ Hi => Hi = H3 ∧ ∃ c : Option V, σ = [some (.ref h), some (.int (m : Int)), some (.int mo), some (.ref D), some (.int (ns.take i).sum), c, none, none, none, none, none, none]) ⟨rfl, none, rfl⟩
      (fun i σ Hi _ z => by rw [z.1]; exact SqL.of eD) ?_ ?_⟩
    · rintro i x σ Hi hx ⟨rfl, c, rfl⟩
      rw [List.getElem?_map] at hx
      obtain ⟨z, ez, rfl⟩ := Option.map_eq_some_iff.mp hx
      refine ⟨_, rfl, _, rfl, _, _, rfl, rfl, rfl, some (.int z), ?_⟩
      rw [sum_take ez]
      rfl
    rintro σ Hz ⟨rfl, c5, rfl⟩
    rw [List.length_map, List.take_length]
    -- the Lengths
    refine ⟨_, rfl, D, rfl, ⟨_, SqL.of eD⟩, fun L0 nL => ?_⟩
    have Lh : L0 ≠ h := h3.fresh nL
    refine lc_list (K := K) (a := D) (xs := ns.map V.int) (fun i Hi => L2.Same Hz Hi ∧ ∃ acc, Hi L0 = some (.lst acc) ∧ Lens C Hi acc (ns.take i)) ⟨same_upd nL, [], upd_same, .nil⟩ (fun i Hi _ z => SqL.of (z.1 _ _ eD)) ?_ ?_
    · rintro i x Hi hx ⟨sm, acc, eL, la⟩
      rw [List.getElem?_map] at hx
      obtain ⟨z, ez, rfl⟩ := Option.map_eq_some_iff.mp hx
      obtain ⟨p0, p1⟩ := bd z (List.mem_of_getElem? ez)
      refine ⟨rfl, ?_⟩
      unfold tYes
      refine iteT ⟨_, rfl, fun x dx nx nd ne => ⟨x, dx, z, rfl, upd_same, fun _ _ H' k al => ⟨rfl, ?_⟩, fun cc => absurd ⟨p0, by omega⟩ cc⟩⟩
      have s' : L2.Same Hi H' := Same.made nx nd k
      have eL' := s' _ _ eL
      have al2 : acc.length ≤ 60 := by
        rw [la.len, List.length_take]
        omega
      have keep : ∀ {y : Addr} {j : Int}, LenAt C H' y j → LenAt C (upd H' L0 (.lst (acc ++ [.ref x]))) y j := fun {y j} z => by
        obtain ⟨dy, ey⟩ := z
        exact ⟨dy, by rw [upd_ne (ne_of ey eL' (by intro z; cases z))]; exact ey⟩
      refine ⟨acc, eL', small1000 (by omega), fun b o e => ?_, _, upd_same, ?_⟩
      · rw [upd_ne (ne_of_none e nL)]
        exact s' _ _ (sm _ _ e)
      · rw [List.take_add_one, ez]
        exact ((la.same s').snoc al).map keep
    rintro H4 ⟨s4, xs, eL, la⟩
    rw [List.length_map, List.take_length] at la
    have m4 : Mid6 K C h H L0 D xs ns (n + 1 + m) H4 := ⟨h3.same s4 |>.mono (by omega), b3.trans (Same.but s4 h), .inl eL, la, s4 _ _ eD, Lh, Dh⟩
    -- a list or a tuple of them
    refine ⟨fun σ' H' => ∃ l : Addr, σ' = [some (.ref h), some (.int (m : Int)), some (.int mo), some (.ref D), some (.int ns.sum), c5, some (.ref l), none, none, none, none, none] ∧ Mid6 K C h H l D xs ns 70 H', ?_, ?_⟩
    · refine ⟨_, rfl, h, 2, _, rfl, by decide, by decide, m4.hand, by show n + 1 + (m : Int) ≤ 1000000; omega, fun d H5 d0 d1 h5 b5 => ?_⟩
      have m5 := m4.but b5 (h5.mono (show n + 1 + (m : Int) + 1 ≤ 70 by omega))
      refine ⟨rfl, _, rfl, ?_⟩
      refine ite2 (fun _ => ?_) (fun _ => ?_)
      · refine ⟨_, rfl, L0, xs, rfl, .inl ⟨SqL.of (b5 _ _ Lh eL), fun l nl => ⟨l, rfl, ?_⟩⟩⟩
        have m6 := m5.same (same_upd nl (o := .tup xs))
        exact ⟨m6.hand, m6.bt, .inr upd_same, m6.ln, m6.dr, h5.fresh nl, m6.dh⟩
      · exact ⟨L0, rfl, m5⟩
    rintro σ' H5 ⟨l, rfl, m5⟩
    have sp : 0 ≤ ns.sum := List.sum_nonneg_int pos
    have sl : ns.sum < 10 ^ 30 := sum_lt few fun z hz => (bd z hz).2
    -- starts
    refine ⟨_, rfl, 359999, ns.sum, rfl, rfl, 0, _, rfl, _, rfl, 360000, ns.sum, rfl, rfl, 0, _, rfl, _, rfl, h, 400000, 70, rfl, by decide, by decide, m5.hand, by decide, fun d H6 d0 d1 h6 b6 => ?_⟩
    have m6 := m5.but b6 h6
    refine ⟨10, 29, rfl, rfl, ⟨by decide, by decide, by decide⟩, (by show 5 ≤ sizeLine; decide), fun t nt => ⟨t, rfl, ⟨_, SqT.of upd_same⟩, ?_⟩⟩
    have m7 := m6.same (same_upd nt (o := .tup [.int 0, .int (if 359999 - ns.sum > 0 then 359999 - ns.sum else 0), .int (if 360000 - ns.sum > 0 then 360000 - ns.sum else 0), .int d, .int (10 ^ (29 : Int).toNat)]))
    have th : t ≠ h := h6.fresh nt
    refine for_tup (K := K) (a := t) (fun i σ Hi => i ≤ 5 ∧ (∃ c7 : Option V, σ = [some (.ref h), some (.int (m : Int)), some (.int mo), some (.ref D), some (.int ns.sum), c5, some (.ref l), c7, none, none, none, none]) ∧ Mid6 K C h H l D xs ns (70 + 1 + i) Hi ∧
        Hi t = some (.tup [.int 0, .int (if 359999 - ns.sum > 0 then 359999 - ns.sum else 0), .int (if 360000 - ns.sum > 0 then 360000 - ns.sum else 0), .int d, .int (10 ^ (29 : Int).toNat)]))
      ⟨by decide, ⟨none, rfl⟩, m7.mono (by omega), upd_same⟩ (fun i σ Hi _ z => SqT.of z.2.2.2) ?_ ?_
    · rintro i x σ Hi hx ⟨i5, ⟨c7, rfl⟩, mi, et⟩
      obtain ⟨bg, rfl, p0, p1⟩ : ∃ bg : Int, x = .int bg ∧ 0 ≤ bg ∧ bg < 10 ^ 30 := by
        have mm := List.mem_of_getElem? hx
        simp only [List.mem_cons, List.not_mem_nil, or_false] at mm
        rcases mm with e | e | e | e | e
        · exact ⟨_, e, by decide, by decide⟩
        · refine ⟨_, e, ?_, ?_⟩ <;> split <;> omega
        · refine ⟨_, e, ?_, ?_⟩ <;> split <;> omega
        · exact ⟨_, e, by omega, by omega⟩
        · exact ⟨_, e, by decide, by decide⟩
      have i4 : i < 5 := (List.getElem?_eq_some_iff.mp hx).1
      refine ⟨_, rfl, h, 2, _, rfl, by decide, by decide, mi.hand, by show 70 + 1 + (i : Int) ≤ 1000000; omega, fun w8 H8 w0 w1 h8 b8 => ?_⟩
      have m8 := mi.but b8 h8
      refine ⟨1, w8, rfl, rfl, _, rfl, _, rfl, _, rfl, _, rfl, _, _, rfl, rfl, 1 + w8, l, bg, _, xs, ns, rfl, Int.add_comm _ _, p1, sl, p0, fun z => absurd z (by omega), m8.sq, m8.ln, by omega, pos, fun H9 s9 => ⟨true, rfl, iteF ?_⟩⟩
      exact ⟨by omega, ⟨_, rfl⟩, (m8.same s9).mono (by omega), s9 _ _ (b8 _ _ th et)⟩
    rintro σ H7 ⟨_, ⟨c7, rfl⟩, m7, _⟩
    -- each two neighbours
    refine ⟨fun σ' H' => (∃ c8 c9 c10 : Option V, σ' = [some (.ref h), some (.int (m : Int)), some (.int mo), some (.ref D), some (.int ns.sum), c5, some (.ref l), c7, c8, c9, c10, none]) ∧ Mid6 K C h H l D xs ns 100 H', ?_, ?_⟩
    · rcases m7.sq with el | el
      · refine ⟨_, rfl, _, rfl, 1, rfl, .inl ⟨l, xs, rfl, SqL.of el, fun p np => ⟨l, p, xs, cutV xs (some 1) none, rfl, .inl ⟨SqL.of (same_upd np _ _ el), SqL.of upd_same, ?_⟩⟩⟩⟩
        refine for_zS (S := SqL K) (fun i σ Hi => (∃ c8 c9 c10 : Option V, σ = [some (.ref h), some (.int (m : Int)), some (.int mo), some (.ref D), some (.int ns.sum), c5, some (.ref l), c7, c8, c9, c10, none]) ∧ Mid6 K C h H l D xs ns 100 Hi ∧ Hi l = some (.lst xs) ∧ Hi p = some (.lst (cutV xs (some 1) none)))
          ⟨⟨none, none, none, rfl⟩, (m7.same (same_upd np)).mono (by simp only [List.length_cons, List.length_nil]; omega), same_upd np _ _ el, upd_same⟩ (fun i σ Hi z => ⟨SqL.of z.2.2.1, SqL.of z.2.2.2⟩) ?_ ?_
        · rintro i x y T0 σ Hi hx hy ⟨⟨c8, c9, c10, rfl⟩, mi, el', ep⟩ nT
          obtain ⟨ax, vi, rfl, gi, lx⟩ := mi.ln.mem (List.mem_of_getElem? hx)
          obtain ⟨ay, vj, rfl, gj, ly⟩ := mi.ln.mem (cut_mem hy)
          have bi := bd vi gi
          have bj := bd vj gj
          have mj := mi.same (same_upd nT (o := .tup [.ref ax, .ref ay]))
          have lx' := lx.same (same_upd nT (o := .tup [.ref ax, .ref ay]))
          have ly' := ly.same (same_upd nT (o := .tup [.ref ax, .ref ay]))
          obtain ⟨dx, ex⟩ := id lx'
          obtain ⟨dy, ey⟩ := id ly'
          refine ⟨T0, _, rfl, SqT.of upd_same, rfl, _, _, rfl, _, _, rfl, rfl, ?_⟩
          refine ⟨_, rfl, ax, C, dx, _, _, rfl, ex, T.cl, T.nS, f_s vi, _, rfl, ay, C, dy, _, _, rfl, ey, T.cl, T.nS, f_s vj, vi, vj, rfl, _, rfl, ax, C, dx, _, _, rfl, ex, T.cl, T.nS, f_s vi, _, rfl, ay, C, dy, _, _, rfl, ey, T.cl, T.nS, f_s vj, vi, vj, rfl, _, _, rfl, rfl, ?_⟩
          have ld : ((if vj > vi then vj else vi) - (if vj < vi then vj else vi)).natAbs.log2 < 1920 := lg (by split <;> split <;> omega) (by split <;> split <;> omega)
          refine ⟨_, rfl, _, rfl, ax, ay, vi, vj, rfl, lx', ly', ?_⟩
          rw [apart_due]
          refine ⟨_, rfl, ld, _, rfl, _, rfl, ld, rfl, false, by rw [decide_eq_true rfl]; rfl, iteF ?_⟩
          refine ⟨_, rfl, _, rfl, rfl, rfl, ay, ax, vj, vi, rfl, ly', lx', ?_⟩
          rw [apart_due2]
          refine ⟨_, rfl, ld, _, rfl, _, rfl, ld, rfl, false, by rw [decide_eq_true rfl]; rfl, iteF ?_⟩
          exact ⟨⟨_, _, _, rfl⟩, mj, same_upd nT _ _ el', same_upd nT _ _ ep⟩
        · rintro i σ H8 ⟨⟨c8, c9, c10, rfl⟩, m8, _, _⟩
          exact ⟨⟨c8, c9, c10, rfl⟩, m8⟩
      · refine ⟨_, rfl, _, rfl, 1, rfl, .inr ⟨l, xs, rfl, SqT.of el, fun hw => ⟨l, l, xs, xs, rfl, .inr ⟨SqT.of el, SqT.of el, ?_⟩⟩, fun _ p np => ⟨l, p, xs, cutV xs (some 1) none, rfl, .inr ⟨SqT.of (same_upd np _ _ el), SqT.of upd_same, ?_⟩⟩⟩⟩
        · refine for_zS (S := SqT K) (fun i σ Hi => (∃ c8 c9 c10 : Option V, σ = [some (.ref h), some (.int (m : Int)), some (.int mo), some (.ref D), some (.int ns.sum), c5, some (.ref l), c7, c8, c9, c10, none]) ∧ Mid6 K C h H l D xs ns 100 Hi ∧ Hi l = some (.tup xs) ∧ True)
            ⟨⟨none, none, none, rfl⟩, m7.mono (by simp only [List.length_cons, List.length_nil]; omega), el, trivial⟩ (fun i σ Hi z => ⟨SqT.of z.2.2.1, SqT.of z.2.2.1⟩) ?_ ?_
          · rintro i x y T0 σ Hi hx hy ⟨⟨c8, c9, c10, rfl⟩, mi, el', ep⟩ nT
            obtain ⟨ax, vi, rfl, gi, lx⟩ := mi.ln.mem (List.mem_of_getElem? hx)
            obtain ⟨ay, vj, rfl, gj, ly⟩ := mi.ln.mem (List.mem_of_getElem? hy)
            have bi := bd vi gi
            have bj := bd vj gj
            have mj := mi.same (same_upd nT (o := .tup [.ref ax, .ref ay]))
            have lx' := lx.same (same_upd nT (o := .tup [.ref ax, .ref ay]))
            have ly' := ly.same (same_upd nT (o := .tup [.ref ax, .ref ay]))
            obtain ⟨dx, ex⟩ := id lx'
            obtain ⟨dy, ey⟩ := id ly'
            refine ⟨T0, _, rfl, SqT.of upd_same, rfl, _, _, rfl, _, _, rfl, rfl, ?_⟩
            refine ⟨_, rfl, ax, C, dx, _, _, rfl, ex, T.cl, T.nS, f_s vi, _, rfl, ay, C, dy, _, _, rfl, ey, T.cl, T.nS, f_s vj, vi, vj, rfl, _, rfl, ax, C, dx, _, _, rfl, ex, T.cl, T.nS, f_s vi, _, rfl, ay, C, dy, _, _, rfl, ey, T.cl, T.nS, f_s vj, vi, vj, rfl, _, _, rfl, rfl, ?_⟩
            have ld : ((if vj > vi then vj else vi) - (if vj < vi then vj else vi)).natAbs.log2 < 1920 := lg (by split <;> split <;> omega) (by split <;> split <;> omega)
            refine ⟨_, rfl, _, rfl, ax, ay, vi, vj, rfl, lx', ly', ?_⟩
            rw [apart_due]
            refine ⟨_, rfl, ld, _, rfl, _, rfl, ld, rfl, false, by rw [decide_eq_true rfl]; rfl, iteF ?_⟩
            refine ⟨_, rfl, _, rfl, rfl, rfl, ay, ax, vj, vi, rfl, ly', lx', ?_⟩
            rw [apart_due2]
            refine ⟨_, rfl, ld, _, rfl, _, rfl, ld, rfl, false, by rw [decide_eq_true rfl]; rfl, iteF ?_⟩
            exact ⟨⟨_, _, _, rfl⟩, mj, same_upd nT _ _ el', trivial⟩
          · rintro i σ H8 ⟨⟨c8, c9, c10, rfl⟩, m8, _, _⟩
            exact ⟨⟨c8, c9, c10, rfl⟩, m8⟩
        · refine for_zS (S := SqT K) (fun i σ Hi => (∃ c8 c9 c10 : Option V, σ = [some (.ref h), some (.int (m : Int)), some (.int mo), some (.ref D), some (.int ns.sum), c5, some (.ref l), c7, c8, c9, c10, none]) ∧ Mid6 K C h H l D xs ns 100 Hi ∧ Hi l = some (.tup xs) ∧ Hi p = some (.tup (cutV xs (some 1) none)))
            ⟨⟨none, none, none, rfl⟩, (m7.same (same_upd np)).mono (by simp only [List.length_cons, List.length_nil]; omega), same_upd np _ _ el, upd_same⟩ (fun i σ Hi z => ⟨SqT.of z.2.2.1, SqT.of z.2.2.2⟩) ?_ ?_
          · rintro i x y T0 σ Hi hx hy ⟨⟨c8, c9, c10, rfl⟩, mi, el', ep⟩ nT
            obtain ⟨ax, vi, rfl, gi, lx⟩ := mi.ln.mem (List.mem_of_getElem? hx)
            obtain ⟨ay, vj, rfl, gj, ly⟩ := mi.ln.mem (cut_mem hy)
            have bi := bd vi gi
            have bj := bd vj gj
            have mj := mi.same (same_upd nT (o := .tup [.ref ax, .ref ay]))
            have lx' := lx.same (same_upd nT (o := .tup [.ref ax, .ref ay]))
            have ly' := ly.same (same_upd nT (o := .tup [.ref ax, .ref ay]))
            obtain ⟨dx, ex⟩ := id lx'
            obtain ⟨dy, ey⟩ := id ly'
            refine ⟨T0, _, rfl, SqT.of upd_same, rfl, _, _, rfl, _, _, rfl, rfl, ?_⟩
            refine ⟨_, rfl, ax, C, dx, _, _, rfl, ex, T.cl, T.nS, f_s vi, _, rfl, ay, C, dy, _, _, rfl, ey, T.cl, T.nS, f_s vj, vi, vj, rfl, _, rfl, ax, C, dx, _, _, rfl, ex, T.cl, T.nS, f_s vi, _, rfl, ay, C, dy, _, _, rfl, ey, T.cl, T.nS, f_s vj, vi, vj, rfl, _, _, rfl, rfl, ?_⟩
            have ld : ((if vj > vi then vj else vi) - (if vj < vi then vj else vi)).natAbs.log2 < 1920 := lg (by split <;> split <;> omega) (by split <;> split <;> omega)
            refine ⟨_, rfl, _, rfl, ax, ay, vi, vj, rfl, lx', ly', ?_⟩
            rw [apart_due]
            refine ⟨_, rfl, ld, _, rfl, _, rfl, ld, rfl, false, by rw [decide_eq_true rfl]; rfl, iteF ?_⟩
            refine ⟨_, rfl, _, rfl, rfl, rfl, ay, ax, vj, vi, rfl, ly', lx', ?_⟩
            rw [apart_due2]
            refine ⟨_, rfl, ld, _, rfl, _, rfl, ld, rfl, false, by rw [decide_eq_true rfl]; rfl, iteF ?_⟩
            exact ⟨⟨_, _, _, rfl⟩, mj, same_upd nT _ _ el', same_upd nT _ _ ep⟩
          · rintro i σ H8 ⟨⟨c8, c9, c10, rfl⟩, m8, _, _⟩
            exact ⟨⟨c8, c9, c10, rfl⟩, m8⟩
    rintro σ H8 ⟨⟨c8, c9, c10, rfl⟩, m8⟩
    refine ⟨_, rfl, _, rfl, 0, l, 0, _, xs, ns, rfl, (Int.zero_add _).symm, by decide, sl, by decide, fun _ => rfl, m8.sq, m8.ln, by omega, pos, fun H9 s9 => ⟨true, rfl, iteT ?_⟩⟩
    have m9 := m8.same s9
    have eqs : ∀ (zs : List Int) (Hx : Hp), Paired (EqV K Hx 1) (zs.map V.int) (zs.map V.int) := fun zs Hx => by
      induction zs with
      | nil => exact .nil
      | cons z r ih => exact .cons (.inl ⟨rfl, rfl⟩) ih
    have done : ∀ (L9 : Addr) (Hx : Hp), L2.Same H9 Hx → Hx L9 = some (.lst (ns.map V.int)) → rEqV K (.ref L9) (.ref D) Hx fun v Hy => Q v Hy := fun L9 Hx sx eL9 =>
      ⟨1, by decide, .inl ⟨L9, D, _, _, rfl, rfl, SqL.of eL9, SqL.of (sx _ _ m9.dr), eqs ns Hx⟩, q _ (m9.same sx).bt⟩
    rcases m9.sq with el | el
    · refine .inl ⟨_, rfl, l, rfl, ⟨_, SqL.of el⟩, fun L9 n9 => lc_list (K := K) (a := l) (xs := xs) (fun i Hi => L2.Same H9 Hi ∧ Hi L9 = some (.lst ((ns.take i).map V.int))) ⟨same_upd n9, upd_same⟩ (fun i Hi _ z => SqL.of (z.1 _ _ el)) ?_ ?_⟩
      · rintro i x Hi hx ⟨sm, hD⟩
        obtain ⟨y, z, rfl, hz, dy, ey⟩ := m9.ln.get hx
        refine ⟨rfl, ?_⟩
        unfold tYes
        refine iteT ⟨_, rfl, y, C, dy, _, _, rfl, sm _ _ ey, T.cl, T.nS, f_s z, _, hD, ?_, fun b o eb => ?_, ?_⟩
        · rw [List.length_map]
          exact small1000 (by have := List.length_take_le' i ns; omega)
        · rw [upd_ne (ne_of_none eb n9)]
          exact sm _ _ eb
        · rw [upd_same, List.take_add_one, hz, List.map_append]
          rfl
      · rintro Hx ⟨sx, eL9⟩
        rw [m9.ln.len, List.take_length] at eL9
        exact ⟨_, rfl, done L9 Hx sx eL9⟩
    · refine .inr ⟨_, rfl, l, rfl, ⟨_, SqT.of el⟩, fun L9 n9 => lc_tup (K := K) (a := l) (xs := xs) (fun i Hi => L2.Same H9 Hi ∧ Hi L9 = some (.lst ((ns.take i).map V.int))) ⟨same_upd n9, upd_same⟩ (fun i Hi _ z => SqT.of (z.1 _ _ el)) ?_ ?_⟩
      · rintro i x Hi hx ⟨sm, hD⟩
        obtain ⟨y, z, rfl, hz, dy, ey⟩ := m9.ln.get hx
        refine ⟨rfl, ?_⟩
        unfold tYes
        refine iteT ⟨_, rfl, y, C, dy, _, _, rfl, sm _ _ ey, T.cl, T.nS, f_s z, _, hD, ?_, fun b o eb => ?_, ?_⟩
        · rw [List.length_map]
          exact small1000 (by have := List.length_take_le' i ns; omega)
        · rw [upd_ne (ne_of_none eb n9)]
          exact sm _ _ eb
        · rw [upd_same, List.take_add_one, hz, List.map_append]
          rfl
      · rintro Hx ⟨sx, eL9⟩
        rw [m9.ln.len, List.take_length] at eL9
        exact ⟨_, rfl, done L9 Hx sx eL9⟩
end
end K6
set_option Elab.async false
set_option linter.all false
set_option maxRecDepth 100000
set_option maxHeartbeats 4000000
set_option pp.maxSteps 400
set_option pp.deepTerms false
namespace K6
open PySem PySem.Spec PyProof.Rows L2
open Xk
section
variable {P : Program} {w : World} {K : PySem.W.Frag} {mg : Str → Option Value} {base : Heap} {C : Addr}
def spLaw (K : PySem.W.Frag) : Sp := fun vs H Q _ => ∃ (a : Addr) (ns : List Int), vs = [.ref a] ∧ SqL K H a (ns.map V.int) ∧ ns.length ≤ 63 ∧ ∀ H', Q (.bl true) H'
theorem ok_law {f : Addr} {fd : FuncData} {e : Ex} (D : Df K mg "law" ["_law_script"] sLaw f fd) (T : Txt K mg C e) (cH : Ca P w K mg base 1 "_law_hand" ["_law_script", "_law_k"] (spHand K))
    (cR : Ca P w K mg base 8 "_law_right" ["_law_hand_here"] spRight) : FnOk P w K mg base CX0 9 f fd ["_law_script"] (spLaw K) := by
  refine D.fn.ok scLaw (fun vs H Q E h => ?_) (fun cdv A outer s H vs Q E hr h => ?_)
  · obtain ⟨a, ns, rfl, _⟩ := h
    rfl
  · obtain ⟨a, ns, rfl, hS, hlen, q⟩ := h
    refine ⟨_, pss_one (ps_ret (pe_callB (cr_all (by rfl)) (by rfl) T.all (by decide +kernel) (pa_cons (pe_lc (own := [("_law_k", 1)]) (g := gName 1) (tt := tYes) (by rfl) scLaw.nd
      (pi_range1 (by rfl) T.range (pa_cons (pe_op op_add pe_int (pe_callB (call_min2 (by rfl)) (by rfl) T.min (by decide +kernel) (pa_cons pe_int (pa_cons (pe_callB call_len_seq (by rfl) T.len PySem.boot_len (pa_cons (pv 0) pa_nil)) pa_nil)))) pa_nil))
      (blkOk_by (own := [("_law_k", 1)]) (N := ["_law_script", "_law_k"]) (sc := defScope sLaw) (by decide +kernel))
      (fun _ _ _ _ _ => pg_name (i := 1) scLaw.nd rfl (.inl rfl)) (fun _ _ _ _ _ => pts_nil)
      (fun _ _ _ _ _ => pe_ca cR hr (by decide) (by rfl) (pa_cons (pe_ca cH hr (by decide) (by rfl) (pa_cons (pv 0) (pa_cons (pv 1) pa_nil))) pa_nil))) pa_nil))), ?_⟩
    refine ⟨_, rfl, a, _, rfl, .inl hS, 6, _, rfl, 2, _, rfl, rfl, _, rfl, ?_, ?_, fun L nL => ?_⟩
    · rw [List.length_map]
      split <;> omega
    · rw [List.length_map]
      split <;> omega
    · refine lc_range (lo := 0) (fun i Hi => Same H Hi ∧ Hi L = some (.lst ((List.replicate i true).map V.bl))) ⟨same_upd nL, upd_same⟩ ?_ ?_
      · rintro i Hi hi ⟨sm, hL⟩
        refine ⟨rfl, ?_⟩
        unfold tYes
        refine iteT ?_
        refine ⟨_, rfl, _, rfl, a, 0 + (i : Int), ns, rfl, by omega, sm.seq hS, fun p g m np g0 m0 m1 => ?_⟩
        refine ⟨p, rfl, ⟨g, m, 0, upd_same, g0, m0, m1, Int.le_refl _, Int.le_refl _⟩, fun H' bt => ?_⟩
        have nLp : L ≠ p := ne_of_none hL np
        refine ⟨_, bt L _ nLp (same_upd np _ _ hL), ?_, fun b o e => ?_, ?_⟩
        · rw [List.length_map, List.length_replicate]
          refine small1000 ?_
          have : i < (2 + (if ((ns.map V.int).length : Int) < 6 then ((ns.map V.int).length : Int) else 6)).toNat := hi
          rw [List.length_map] at this
          split at this <;> omega
        · rw [upd_ne (ne_of_none e nL)]
          have e2 := sm _ _ e
          exact bt _ _ (ne_of_none e2 np) (same_upd np _ _ e2)
        · rw [upd_same, List.replicate_succ', List.map_append]
          rfl
      · rintro He ⟨sm, hL⟩
        refine ⟨L, _, rfl, SqL.of hL, ?_⟩
        rw [show (List.replicate _ true).all id = true from List.all_eq_true.mpr fun b hb => (List.mem_replicate.mp hb).2]
        exact q _
end
end K6
set_option Elab.async false
set_option linter.all false
set_option maxRecDepth 100000
set_option maxHeartbeats 4000000
set_option pp.maxSteps 400
set_option pp.deepTerms false
namespace K6
open PySem PySem.Spec PyProof.Rows L2
open Xk
theorem kit_self {K : PySem.W.Frag} {C : Addr} : PySem.W.kitOne K (.ref C) (.ref C) = some true := by
  unfold PySem.W.kitOne
  simp
theorem kit_in {K : PySem.W.Frag} {t : Value} {c : Addr} {b : Bool} (ic : PySem.W.isClsIn K c = true) (ty : PySem.W.typeIn K (.ref c) = some (.type "type")) (sb : PySem.W.subIn K t (.ref c) = some b) : PySem.W.kitCls K t (.ref c) = some b := by
  have h : ((PySem.W.clsIn K c).isSome && PySem.W.typeIn K (.ref c) == some (.type "type")) = true := by
    rw [show (PySem.W.clsIn K c).isSome = true from ic, ty]
    rfl
  unfold PySem.W.kitCls
  simp only [h, if_true]
  exact sb
theorem kit_no {K : PySem.W.Frag} {a c : Addr} (ic : PySem.W.isClsIn K c = true) (ty : PySem.W.typeIn K (.ref c) = some (.type "type")) (sb : PySem.W.subIn K (.ref a) (.ref c) = some false) (me : PySem.W.subIn K (.ref a) (.ref a) = some true) :
    PySem.W.kitOne K (.ref a) (.ref c) = some false := by
  have ne : ((Value.ref a == Value.ref c) = true) = False := by
    refine propext ⟨fun z => ?_, False.elim⟩
    have z2 : a = c := Value.ref.inj (beq_iff_eq.mp z)
    rw [← z2, me] at sb
    cases sb
  unfold PySem.W.kitOne
  simp only [ne, if_false]
  exact kit_in ic ty sb
theorem kit_yes {K : PySem.W.Frag} {a c : Addr} (ic : PySem.W.isClsIn K c = true) (ty : PySem.W.typeIn K (.ref c) = some (.type "type")) (sb : PySem.W.subIn K (.ref a) (.ref c) = some true) : PySem.W.kitOne K (.ref a) (.ref c) = some true := by
  unfold PySem.W.kitOne
  split
  · rfl
  · exact kit_in ic ty sb
theorem kit_ve {K : PySem.W.Frag} {a : Addr} (sb : PySem.W.subIn K (.ref a) (.type "ValueError") = some true) : PySem.W.kitOne K (.ref a) (.type "ValueError") = some true := by
  have h : PySem.W.kitMeta "ValueError" = true := by decide +kernel
  unfold PySem.W.kitOne PySem.W.kitCls
  split
  · rfl
  · simp only [h, if_true]
    exact sb
theorem kit_skip {K : PySem.W.Frag} {t c : Value} {r : List Value} {b : Bool} (h : PySem.W.kitOne K t c = some false) (hr : PySem.W.kitAny K t r = some b) : PySem.W.kitAny K t (c :: r) = some b := by
  unfold PySem.W.kitAny
  rw [h]
  exact hr
theorem exm_is {K : PySem.W.Frag} {t : Value} {c : Addr} {b : Bool} (ic : PySem.W.isClsIn K c = true) (ty : PySem.W.typeIn K (.ref c) = some (.type "type")) (be : PySem.W.subIn K (.ref c) (.type "BaseException") = some true) (sb : PySem.W.subIn K t (.ref c) = some b) :
    PySem.W.exmOne K t (.ref c) = some b := by
  unfold PySem.W.exmOne
  rw [be, if_pos (by decide)]
  exact kit_in ic ty sb
theorem exm_3 {K : PySem.W.Frag} {t c1 c2 c3 : Value} {b2 b3 : Bool} (h1 : PySem.W.exmOne K t c1 = some true) (h2 : PySem.W.exmOne K t c2 = some b2) (h3 : PySem.W.exmOne K t c3 = some b3) : PySem.W.exmAny K t [c1, c2, c3] = some true := by
  unfold PySem.W.exmAny PySem.W.exmAny PySem.W.exmAny PySem.W.exmAny
  rw [h1, h2, h3]
  rfl
theorem all_mk {l : PySem.W.OpenLaw} {w : World} {K : PySem.W.Frag} {h : Heap} {mg : Str → Option Value} {fa cLength cNotSuch cLost cTaken cNoCustom cNoDay cNoDisc cNoEntry cNoKey cNoLine cNoName cNoNumber cNoPath cNoText cSame cStruck cTwice cNoLength f0 f1 f2 f3 f4 t4 f5 f6 f7 f8 f9 f10 f11 f12 f13 : Addr}
    {od0 an0 od1 an1 od2 an2 od3 an3 od4 an4 odT4 od5 an5 od6 an6 od7 an7 od8 an8 od9 an9 od10 an10 od11 an11 od12 an12 od13 an13 : Option Addr}
    {sl0 sl1 sl2 sl3 sl4 slT4 sl5 sl6 sl7 sl8 sl9 sl10 sl11 sl12 sl13 : Array (Option Value)}
    {oc0 kV0 dc0 pm0 cd0 ct0 oc1 kV1 dc1 pm1 cd1 ct1 oc2 kV2 dc2 pm2 cd2 ct2 oc3 kV3 dc3 pm3 cd3 ct3 oc4 kV4 dc4 pm4 cd4 ct4 ocT4 oc5 kV5 dc5 pm5 cd5 ct5 oc6 kV6 dc6 pm6 cd6 ct6 oc7 kV7 dc7 pm7 cd7 ct7 oc8 kV8 dc8 pm8 cd8 ct8 oc9 kV9 dc9 pm9 cd9 ct9 oc10 kV10 dc10 pm10 cd10 ct10 oc11 kV11 dc11 pm11 cd11 ct11 oc12 kV12 dc12 pm12 cd12 ct12 oc13 kV13 dc13 pm13 cd13 ct13 : Value}
    {nT4 : Nat}
    {tD4_0 u_MOST_SECONDS : Tok}
    {nmX qX : Str} {NX : Addr} {bsX bmX : List Value} {snX : List Str} {subX : List Value} {abX : Bool} {colX : Option Bool} {ddX : Option Addr} {k0X k1X k2X k3X k5X : Option Value}
     (X : K.In h) (G : h.Ns mainGlobals mg) (hfa : mg "law" = some (.ref fa))
    (a_Length : PySem.W.nsIn K mainGlobals "Length" = some (some (.ref cLength)))
    (a_NotSuch : PySem.W.nsIn K mainGlobals "NotSuch" = some (some (.ref cNotSuch)))
    (a_Lost : PySem.W.nsIn K mainGlobals "Lost" = some (some (.ref cLost)))
    (a_Taken : PySem.W.nsIn K mainGlobals "Taken" = some (some (.ref cTaken)))
    (a_NoCustom : PySem.W.nsIn K mainGlobals "NoCustom" = some (some (.ref cNoCustom)))
    (a_NoDay : PySem.W.nsIn K mainGlobals "NoDay" = some (some (.ref cNoDay)))
    (a_NoDisc : PySem.W.nsIn K mainGlobals "NoDisc" = some (some (.ref cNoDisc)))
    (a_NoEntry : PySem.W.nsIn K mainGlobals "NoEntry" = some (some (.ref cNoEntry)))
    (a_NoKey : PySem.W.nsIn K mainGlobals "NoKey" = some (some (.ref cNoKey)))
    (a_NoLine : PySem.W.nsIn K mainGlobals "NoLine" = some (some (.ref cNoLine)))
    (a_NoName : PySem.W.nsIn K mainGlobals "NoName" = some (some (.ref cNoName)))
    (a_NoNumber : PySem.W.nsIn K mainGlobals "NoNumber" = some (some (.ref cNoNumber)))
    (a_NoPath : PySem.W.nsIn K mainGlobals "NoPath" = some (some (.ref cNoPath)))
    (a_NoText : PySem.W.nsIn K mainGlobals "NoText" = some (some (.ref cNoText)))
    (a_Same : PySem.W.nsIn K mainGlobals "Same" = some (some (.ref cSame)))
    (a_Struck : PySem.W.nsIn K mainGlobals "Struck" = some (some (.ref cStruck)))
    (a_Twice : PySem.W.nsIn K mainGlobals "Twice" = some (some (.ref cTwice)))
    (a_NoLength : PySem.W.nsIn K mainGlobals "NoLength" = some (some (.ref cNoLength)))
    (a0 : PySem.W.findIn K (.ref cNoLength) "__init__" = some (some (.ref f0)))
    (i0 : PySem.W.isFn K (.ref f0) = true)
    (l0 : K.lookup f0 = some ⟨oc0, od0, .func (PySem.W.fnOf "__init__" "NoLength.__init__" (defArgs sNoLengthInit) (defBody sNoLengthInit) (defScope sNoLengthInit) .none kV0 dc0 pm0 an0 cd0 ct0), sl0⟩)
    (c0 : PySem.W.codeIn K cd0 "NoLength.__init__" = true)
    (k0 : PySem.W.keepIn K (.ref f0) = true)
    (a1 : PySem.W.nsIn K mainGlobals "is_whole" = some (some (.ref f1)))
    (l1 : K.lookup f1 = some ⟨oc1, od1, .func (PySem.W.fnOf "is_whole" "is_whole" (defArgs sIsWhole) (defBody sIsWhole) (defScope sIsWhole) .none kV1 dc1 pm1 an1 cd1 ct1), sl1⟩)
    (c1 : PySem.W.codeIn K cd1 "is_whole" = true)
    (k1 : PySem.W.keepIn K (.ref f1) = true)
    (a2 : PySem.W.nsIn K mainGlobals "is_within" = some (some (.ref f2)))
    (l2 : K.lookup f2 = some ⟨oc2, od2, .func (PySem.W.fnOf "is_within" "is_within" (defArgs sIsWithin) (defBody sIsWithin) (defScope sIsWithin) .none kV2 dc2 pm2 an2 cd2 ct2), sl2⟩)
    (c2 : PySem.W.codeIn K cd2 "is_within" = true)
    (k2 : PySem.W.keepIn K (.ref f2) = true)
    (a3 : PySem.W.findIn K (.ref cLength) "__init__" = some (some (.ref f3)))
    (i3 : PySem.W.isFn K (.ref f3) = true)
    (l3 : K.lookup f3 = some ⟨oc3, od3, .func (PySem.W.fnOf "__init__" "Length.__init__" (defArgs sLengthInit) (defBody sLengthInit) (defScope sLengthInit) .none kV3 dc3 pm3 an3 cd3 ct3), sl3⟩)
    (c3 : PySem.W.codeIn K cd3 "Length.__init__" = true)
    (k3 : PySem.W.keepIn K (.ref f3) = true)
    (a4 : PySem.W.nsIn K mainGlobals "together" = some (some (.ref f4)))
    (l4 : K.lookup f4 = some ⟨oc4, od4, .func (PySem.W.fnOf "together" "together" (defArgs sTogether) (defBody sTogether) (defScope sTogether) (.ref t4) kV4 dc4 pm4 an4 cd4 ct4), sl4⟩)
    (c4 : PySem.W.codeIn K cd4 "together" = true)
    (k4 : PySem.W.keepIn K (.ref f4) = true)
    (d4 : K.lookup t4 = some ⟨ocT4, odT4, .seq #[Value.int 0 tD4_0] nT4, slT4⟩)
    (a5 : PySem.W.nsIn K mainGlobals "apart" = some (some (.ref f5)))
    (l5 : K.lookup f5 = some ⟨oc5, od5, .func (PySem.W.fnOf "apart" "apart" (defArgs sApart) (defBody sApart) (defScope sApart) .none kV5 dc5 pm5 an5 cd5 ct5), sl5⟩)
    (c5 : PySem.W.codeIn K cd5 "apart" = true)
    (k5 : PySem.W.keepIn K (.ref f5) = true)
    (a6 : PySem.W.nsIn K mainGlobals "_law_hand" = some (some (.ref f6)))
    (l6 : K.lookup f6 = some ⟨oc6, od6, .func (PySem.W.fnOf "_law_hand" "_law_hand" (defArgs sHand) (defBody sHand) (defScope sHand) .none kV6 dc6 pm6 an6 cd6 ct6), sl6⟩)
    (c6 : PySem.W.codeIn K cd6 "_law_hand" = true)
    (k6 : PySem.W.keepIn K (.ref f6) = true)
    (a7 : PySem.W.nsIn K mainGlobals "_law_take" = some (some (.ref f7)))
    (l7 : K.lookup f7 = some ⟨oc7, od7, .func (PySem.W.fnOf "_law_take" "_law_take" (defArgs sTake) (defBody sTake) (defScope sTake) .none kV7 dc7 pm7 an7 cd7 ct7), sl7⟩)
    (c7 : PySem.W.codeIn K cd7 "_law_take" = true)
    (k7 : PySem.W.keepIn K (.ref f7) = true)
    (a8 : PySem.W.nsIn K mainGlobals "_law_pick" = some (some (.ref f8)))
    (l8 : K.lookup f8 = some ⟨oc8, od8, .func (PySem.W.fnOf "_law_pick" "_law_pick" (defArgs sPick) (defBody sPick) (defScope sPick) .none kV8 dc8 pm8 an8 cd8 ct8), sl8⟩)
    (c8 : PySem.W.codeIn K cd8 "_law_pick" = true)
    (k8 : PySem.W.keepIn K (.ref f8) = true)
    (a9 : PySem.W.nsIn K mainGlobals "_law_alone" = some (some (.ref f9)))
    (l9 : K.lookup f9 = some ⟨oc9, od9, .func (PySem.W.fnOf "_law_alone" "_law_alone" (defArgs sAlone) (defBody sAlone) (defScope sAlone) .none kV9 dc9 pm9 an9 cd9 ct9), sl9⟩)
    (c9 : PySem.W.codeIn K cd9 "_law_alone" = true)
    (k9 : PySem.W.keepIn K (.ref f9) = true)
    (a10 : PySem.W.nsIn K mainGlobals "_law_caught" = some (some (.ref f10)))
    (l10 : K.lookup f10 = some ⟨oc10, od10, .func (PySem.W.fnOf "_law_caught" "_law_caught" (defArgs sCaught) (defBody sCaught) (defScope sCaught) .none kV10 dc10 pm10 an10 cd10 ct10), sl10⟩)
    (c10 : PySem.W.codeIn K cd10 "_law_caught" = true)
    (k10 : PySem.W.keepIn K (.ref f10) = true)
    (a11 : PySem.W.nsIn K mainGlobals "_law_sum_right" = some (some (.ref f11)))
    (l11 : K.lookup f11 = some ⟨oc11, od11, .func (PySem.W.fnOf "_law_sum_right" "_law_sum_right" (defArgs sSumRight) (defBody sSumRight) (defScope sSumRight) .none kV11 dc11 pm11 an11 cd11 ct11), sl11⟩)
    (c11 : PySem.W.codeIn K cd11 "_law_sum_right" = true)
    (k11 : PySem.W.keepIn K (.ref f11) = true)
    (a12 : PySem.W.nsIn K mainGlobals "_law_right" = some (some (.ref f12)))
    (l12 : K.lookup f12 = some ⟨oc12, od12, .func (PySem.W.fnOf "_law_right" "_law_right" (defArgs sRight) (defBody sRight) (defScope sRight) .none kV12 dc12 pm12 an12 cd12 ct12), sl12⟩)
    (c12 : PySem.W.codeIn K cd12 "_law_right" = true)
    (k12 : PySem.W.keepIn K (.ref f12) = true)
    (a13 : PySem.W.nsIn K mainGlobals "law" = some (some (.ref f13)))
    (l13 : K.lookup f13 = some ⟨oc13, od13, .func (PySem.W.fnOf "law" "law" (defArgs sLaw) (defBody sLaw) (defScope sLaw) .none kV13 dc13 pm13 an13 cd13 ct13), sl13⟩)
    (c13 : PySem.W.codeIn K cd13 "law" = true)
    (k13 : PySem.W.keepIn K (.ref f13) = true)
    (g_MOST_SECONDS : PySem.W.nsIn K mainGlobals "MOST_SECONDS" = some (some (.int 359999 u_MOST_SECONDS)))
    (ic_NotSuch : PySem.W.isClsIn K cNotSuch = true)
    (ty_NotSuch : PySem.W.typeIn K (.ref cNotSuch) = some (.type "type"))
    (sb_NotSuch : PySem.W.subIn K (.ref cNoLength) (.ref cNotSuch) = some true)
    (ic_Lost : PySem.W.isClsIn K cLost = true)
    (ty_Lost : PySem.W.typeIn K (.ref cLost) = some (.type "type"))
    (sb_Lost : PySem.W.subIn K (.ref cNoLength) (.ref cLost) = some false)
    (ic_Taken : PySem.W.isClsIn K cTaken = true)
    (ty_Taken : PySem.W.typeIn K (.ref cTaken) = some (.type "type"))
    (sb_Taken : PySem.W.subIn K (.ref cNoLength) (.ref cTaken) = some false)
    (ic_NoCustom : PySem.W.isClsIn K cNoCustom = true)
    (ty_NoCustom : PySem.W.typeIn K (.ref cNoCustom) = some (.type "type"))
    (sb_NoCustom : PySem.W.subIn K (.ref cNoLength) (.ref cNoCustom) = some false)
    (ic_NoDay : PySem.W.isClsIn K cNoDay = true)
    (ty_NoDay : PySem.W.typeIn K (.ref cNoDay) = some (.type "type"))
    (sb_NoDay : PySem.W.subIn K (.ref cNoLength) (.ref cNoDay) = some false)
    (ic_NoDisc : PySem.W.isClsIn K cNoDisc = true)
    (ty_NoDisc : PySem.W.typeIn K (.ref cNoDisc) = some (.type "type"))
    (sb_NoDisc : PySem.W.subIn K (.ref cNoLength) (.ref cNoDisc) = some false)
    (ic_NoEntry : PySem.W.isClsIn K cNoEntry = true)
    (ty_NoEntry : PySem.W.typeIn K (.ref cNoEntry) = some (.type "type"))
    (sb_NoEntry : PySem.W.subIn K (.ref cNoLength) (.ref cNoEntry) = some false)
    (ic_NoKey : PySem.W.isClsIn K cNoKey = true)
    (ty_NoKey : PySem.W.typeIn K (.ref cNoKey) = some (.type "type"))
    (sb_NoKey : PySem.W.subIn K (.ref cNoLength) (.ref cNoKey) = some false)
    (ic_NoLine : PySem.W.isClsIn K cNoLine = true)
    (ty_NoLine : PySem.W.typeIn K (.ref cNoLine) = some (.type "type"))
    (sb_NoLine : PySem.W.subIn K (.ref cNoLength) (.ref cNoLine) = some false)
    (ic_NoName : PySem.W.isClsIn K cNoName = true)
    (ty_NoName : PySem.W.typeIn K (.ref cNoName) = some (.type "type"))
    (sb_NoName : PySem.W.subIn K (.ref cNoLength) (.ref cNoName) = some false)
    (ic_NoNumber : PySem.W.isClsIn K cNoNumber = true)
    (ty_NoNumber : PySem.W.typeIn K (.ref cNoNumber) = some (.type "type"))
    (sb_NoNumber : PySem.W.subIn K (.ref cNoLength) (.ref cNoNumber) = some false)
    (ic_NoPath : PySem.W.isClsIn K cNoPath = true)
    (ty_NoPath : PySem.W.typeIn K (.ref cNoPath) = some (.type "type"))
    (sb_NoPath : PySem.W.subIn K (.ref cNoLength) (.ref cNoPath) = some false)
    (ic_NoText : PySem.W.isClsIn K cNoText = true)
    (ty_NoText : PySem.W.typeIn K (.ref cNoText) = some (.type "type"))
    (sb_NoText : PySem.W.subIn K (.ref cNoLength) (.ref cNoText) = some false)
    (ic_Same : PySem.W.isClsIn K cSame = true)
    (ty_Same : PySem.W.typeIn K (.ref cSame) = some (.type "type"))
    (sb_Same : PySem.W.subIn K (.ref cNoLength) (.ref cSame) = some false)
    (ic_Struck : PySem.W.isClsIn K cStruck = true)
    (ty_Struck : PySem.W.typeIn K (.ref cStruck) = some (.type "type"))
    (sb_Struck : PySem.W.subIn K (.ref cNoLength) (.ref cStruck) = some false)
    (ic_Twice : PySem.W.isClsIn K cTwice = true)
    (ty_Twice : PySem.W.typeIn K (.ref cTwice) = some (.type "type"))
    (sb_Twice : PySem.W.subIn K (.ref cNoLength) (.ref cTwice) = some false)
    (ic_NoLength : PySem.W.isClsIn K cNoLength = true)
    (ty_NoLength : PySem.W.typeIn K (.ref cNoLength) = some (.type "type"))
    (sb_NoLength : PySem.W.subIn K (.ref cNoLength) (.ref cNoLength) = some true)
    (be_NotSuch : PySem.W.subIn K (.ref cNotSuch) (.type "BaseException") = some true)
    (be_Lost : PySem.W.subIn K (.ref cLost) (.type "BaseException") = some true)
    (be_Taken : PySem.W.subIn K (.ref cTaken) (.type "BaseException") = some true)
    (sVE : PySem.W.subIn K (.ref cNoLength) (.type "ValueError") = some true)
    (oX : K.lookup cNoLength = some (excClassObj nmX qX cNoLength NX bsX bmX true snX subX abX colX ddX k0X k1X k2X k3X k5X "ValueError.__new__"))
    (hbX : PySem.HandSPX.refsVE bmX = true)
    (saX : PySem.W.findIn K (.ref cNoLength) "__setattr__" = some (some (.builtin "object.__setattr__")))
    (exX : PySem.W.subIn K (.ref cNoLength) (.type "BaseException") = some true)
    (kX : PySem.W.keepIn K (.ref cNoLength) = true)
    (gaX : PySem.W.findIn K (.ref cNoLength) "__getattribute__" = some (some (.builtin "BaseException.__getattribute__")))
    (ggX : PySem.W.findIn K (.ref cNoLength) "__getattr__" = some none)
    (hdX : PySem.W.hasDictIn K cNoLength = true)
    (haX : PySem.W.findIn K (.ref cNoLength) "__class__" = some (some (.builtin "object.__class__")))
    (hmX : PySem.W.mroIn K cNoLength (.type "object") = some true)
    (fldX : PySem.W.findIn K (.ref cNoLength) "seconds" = some none)
    (tyF : PySem.W.typeIn K (.ref f0) = some (.type "function"))
    (rdN : PySem.W.readsIn K cNotSuch (.type "type") = true)
    (spN : PySem.W.specialIn K (.ref cNotSuch) "__getattribute__" = some (some (.builtin "type.__getattribute__")))
    (fiN : PySem.W.findCls K (.ref cNotSuch) (.type "type") "__init__" = some (.val (.builtin "ValueError.__init__")))
    (pg : PySem.W.plainGet K cLength Str.empty = true)
    (hd : PySem.W.hasDictIn K cLength = true)
    (po : PySem.W.plainOver K cLength = true)
    (sa : PySem.W.findIn K (.ref cLength) "__setattr__" = some (some (.builtin "object.__setattr__")))
    (mk : PySem.W.makesIn K cLength = true)
    (kc : PySem.W.keepIn K (.ref cLength) = true)
    (nS : PySem.W.findIn K (.ref cLength) "seconds" = some none)
    (ha : PySem.W.findIn K (.ref cLength) "__class__" = some (some (.builtin "object.__class__")))
    (hn : PySem.W.specialIn K (.builtin "object.__class__") "__get__" = some (some (.builtin "getset_descriptor.__get__")))
    (ht : PySem.W.takesIn K (.builtin "object.__class__") = some true)
    (hm : PySem.W.mroIn K cLength (.type "object") = some true)
    (z_isinstance : PySem.W.nsIn K mainGlobals "isinstance" = some none)
    (z_int : PySem.W.nsIn K mainGlobals "int" = some none)
    (z_bool : PySem.W.nsIn K mainGlobals "bool" = some none)
    (z_len : PySem.W.nsIn K mainGlobals "len" = some none)
    (z_abs : PySem.W.nsIn K mainGlobals "abs" = some none)
    (z_max : PySem.W.nsIn K mainGlobals "max" = some none)
    (z_min : PySem.W.nsIn K mainGlobals "min" = some none)
    (z_all : PySem.W.nsIn K mainGlobals "all" = some none)
    (z_zip : PySem.W.nsIn K mainGlobals "zip" = some none)
    (z_range : PySem.W.nsIn K mainGlobals "range" = some none)
    (z_repr : PySem.W.nsIn K mainGlobals "repr" = some none)
    (z_sum : PySem.W.nsIn K mainGlobals "sum" = some none)
    (z_tuple : PySem.W.nsIn K mainGlobals "tuple" = some none)
    (z_ValueError : PySem.W.nsIn K mainGlobals "ValueError" = some none)
    : ∃ fd : FuncData, (∀ (s : Shared) (v : Value), BindsTo s fd ⟨[v], []⟩ [("_law_script", v)]) ∧
      ∀ base : Heap, K.In base → base.Ns mainGlobals mg → FnOk l.prog w K mg base CX0 9 fa fd ["_law_script"] (spLaw K) := by
  have e := hfa.symm.trans (PySem.W.mg_of X G a13)
  cases e
  have F0 := fun_mk (st := sNoLengthInit) l0 c0 k0
  have B0 := F0.binds (ps := ["self", "seconds"]) fun _ _ _ _ _ _ us hl => match us, hl with | [_, _], _ => rfl
  have F1 := fun_mk (st := sIsWhole) l1 c1 k1
  have D1 : Df K mg "is_whole" ["thing"] sIsWhole f1 _ := ⟨F1, PySem.W.mg_of X G a1, F1.binds (ps := ["thing"]) fun _ _ _ _ _ _ us hl => match us, hl with | [_], _ => rfl⟩
  have F2 := fun_mk (st := sIsWithin) l2 c2 k2
  have D2 : Df K mg "is_within" ["thing", "least", "most"] sIsWithin f2 _ := ⟨F2, PySem.W.mg_of X G a2, F2.binds (ps := ["thing", "least", "most"]) fun _ _ _ _ _ _ us hl => match us, hl with | [_, _, _], _ => rfl⟩
  have F3 := fun_mk (st := sLengthInit) l3 c3 k3
  have B3 := F3.binds (ps := ["self", "seconds"]) fun _ _ _ _ _ _ us hl => match us, hl with | [_, _], _ => rfl
  have F4 : FunD K "together" "together" (defArgs sTogether) (defBody sTogether) (defScope sTogether) [.int 0] [] f4 _ :=
    ⟨⟨_, _, _, _, _, _, _, _, _, _, rfl, l4, c4, .inr ⟨by simp, t4, _, [Value.int 0 tD4_0], _, rfl, d4, rfl, .cons ⟨_, rfl⟩ .nil⟩, .inl rfl⟩, k4⟩
  have F5 := fun_mk (st := sApart) l5 c5 k5
  have D5 : Df K mg "apart" ["one", "other"] sApart f5 _ := ⟨F5, PySem.W.mg_of X G a5, F5.binds (ps := ["one", "other"]) fun _ _ _ _ _ _ us hl => match us, hl with | [_, _], _ => rfl⟩
  have F6 := fun_mk (st := sHand) l6 c6 k6
  have D6 : Df K mg "_law_hand" ["_law_script", "_law_k"] sHand f6 _ := ⟨F6, PySem.W.mg_of X G a6, F6.binds (ps := ["_law_script", "_law_k"]) fun _ _ _ _ _ _ us hl => match us, hl with | [_, _], _ => rfl⟩
  have F7 := fun_mk (st := sTake) l7 c7 k7
  have D7 : Df K mg "_law_take" ["_law_hand_here", "_law_many"] sTake f7 _ := ⟨F7, PySem.W.mg_of X G a7, F7.binds (ps := ["_law_hand_here", "_law_many"]) fun _ _ _ _ _ _ us hl => match us, hl with | [_, _], _ => rfl⟩
  have F8 := fun_mk (st := sPick) l8 c8 k8
  have D8 : Df K mg "_law_pick" ["_law_hand_here", "_law_some"] sPick f8 _ := ⟨F8, PySem.W.mg_of X G a8, F8.binds (ps := ["_law_hand_here", "_law_some"]) fun _ _ _ _ _ _ us hl => match us, hl with | [_, _], _ => rfl⟩
  have F9 := fun_mk (st := sAlone) l9 c9 k9
  have D9 : Df K mg "_law_alone" ["_law_e"] sAlone f9 _ := ⟨F9, PySem.W.mg_of X G a9, F9.binds (ps := ["_law_e"]) fun _ _ _ _ _ _ us hl => match us, hl with | [_], _ => rfl⟩
  have F10 := fun_mk (st := sCaught) l10 c10 k10
  have D10 : Df K mg "_law_caught" ["_law_way", "_law_handed", "_law_begin"] sCaught f10 _ := ⟨F10, PySem.W.mg_of X G a10, F10.binds (ps := ["_law_way", "_law_handed", "_law_begin"]) fun _ _ _ _ _ _ us hl => match us, hl with | [_, _, _], _ => rfl⟩
  have F11 := fun_mk (st := sSumRight) l11 c11 k11
  have D11 : Df K mg "_law_sum_right" ["_law_way", "_law_handed", "_law_begin", "_law_count"] sSumRight f11 _ := ⟨F11, PySem.W.mg_of X G a11, F11.binds (ps := ["_law_way", "_law_handed", "_law_begin", "_law_count"]) fun _ _ _ _ _ _ us hl => match us, hl with | [_, _, _, _], _ => rfl⟩
  have F12 := fun_mk (st := sRight) l12 c12 k12
  have D12 : Df K mg "_law_right" ["_law_hand_here"] sRight f12 _ := ⟨F12, PySem.W.mg_of X G a12, F12.binds (ps := ["_law_hand_here"]) fun _ _ _ _ _ _ us hl => match us, hl with | [_], _ => rfl⟩
  have F13 := fun_mk (st := sLaw) l13 c13 k13
  have D13 : Df K mg "law" ["_law_script"] sLaw fa _ := ⟨F13, PySem.W.mg_of X G a13, F13.binds (ps := ["_law_script"]) fun _ _ _ _ _ _ us hl => match us, hl with | [_], _ => rfl⟩
  let e : Ex := ⟨cNotSuch, cLost, cTaken, cNoCustom, cNoDay, cNoDisc, cNoEntry, cNoKey, cNoLine, cNoName, cNoNumber, cNoPath, cNoText, cSame, cStruck, cTwice, cNoLength⟩
  have no : ∀ {c : Addr}, PySem.W.isClsIn K c = true → PySem.W.typeIn K (.ref c) = some (.type "type") → PySem.W.subIn K (.ref cNoLength) (.ref c) = some false → PySem.W.kitOne K (.ref cNoLength) (.ref c) = some false := fun a b d => kit_no a b d sb_NoLength
  have exs : ∀ {c : Addr} {b : Bool}, PySem.W.isClsIn K c = true → PySem.W.typeIn K (.ref c) = some (.type "type") → PySem.W.subIn K (.ref c) (.type "BaseException") = some true → PySem.W.subIn K (.ref cNoLength) (.ref c) = some b → PySem.W.exmOne K (.ref cNoLength) (.ref c) = some b := fun a b d g => exm_is a b d g
  have T : Txt K mg cLength e := ⟨⟨pg, hd, po, sa⟩,
    nS,
    PySem.W.mg_of X G a_Length,
    ⟨⟨pg, hd, po, sa⟩, ha, hn, ht, hm, kit_self⟩,
    ⟨_, PySem.W.mg_of X G g_MOST_SECONDS⟩,
    PySem.W.mg_of X G a_NotSuch,
    PySem.W.mg_of X G a_Lost,
    PySem.W.mg_of X G a_Taken,
    PySem.W.mg_of X G a_NoCustom,
    PySem.W.mg_of X G a_NoDay,
    PySem.W.mg_of X G a_NoDisc,
    PySem.W.mg_of X G a_NoEntry,
    PySem.W.mg_of X G a_NoKey,
    PySem.W.mg_of X G a_NoLine,
    PySem.W.mg_of X G a_NoName,
    PySem.W.mg_of X G a_NoNumber,
    PySem.W.mg_of X G a_NoPath,
    PySem.W.mg_of X G a_NoText,
    PySem.W.mg_of X G a_Same,
    PySem.W.mg_of X G a_Struck,
    PySem.W.mg_of X G a_Twice,
    PySem.W.mg_of X G a_NoLength,
    PySem.W.mg_none_of X G z_isinstance,
    PySem.W.mg_none_of X G z_int,
    PySem.W.mg_none_of X G z_bool,
    PySem.W.mg_none_of X G z_len,
    PySem.W.mg_none_of X G z_abs,
    PySem.W.mg_none_of X G z_max,
    PySem.W.mg_none_of X G z_min,
    PySem.W.mg_none_of X G z_all,
    PySem.W.mg_none_of X G z_zip,
    PySem.W.mg_none_of X G z_range,
    PySem.W.mg_none_of X G z_repr,
    PySem.W.mg_none_of X G z_sum,
    PySem.W.mg_none_of X G z_tuple,
    PySem.W.mg_none_of X G z_ValueError,
    ⟨⟨nmX, qX, NX, bsX, bmX, snX, subX, abX, colX, ddX, k0X, k1X, k2X, k3X, k5X, oX, hbX⟩, saX, exX, ty_NoLength, kX⟩,
    ⟨ic_NoLength, gaX, ggX, exX, hdX, haX, hn, ht, hmX⟩,
    ⟨rdN, spN, fiN⟩,
    fldX,
    exm_3 (exs ic_NotSuch ty_NotSuch be_NotSuch sb_NotSuch) (exs ic_Lost ty_Lost be_Lost sb_Lost) (exs ic_Taken ty_Taken be_Taken sb_Taken),
    kit_skip (no ic_Lost ty_Lost sb_Lost) (kit_skip (no ic_Taken ty_Taken sb_Taken) (kit_skip (no ic_NoCustom ty_NoCustom sb_NoCustom) (kit_skip (no ic_NoDay ty_NoDay sb_NoDay) (kit_skip (no ic_NoDisc ty_NoDisc sb_NoDisc) (kit_skip (no ic_NoEntry ty_NoEntry sb_NoEntry) (kit_skip (no ic_NoKey ty_NoKey sb_NoKey) (kit_skip (no ic_NoLine ty_NoLine sb_NoLine) (rfl)))))))),
    kit_skip (no ic_NoName ty_NoName sb_NoName) (kit_skip (no ic_NoNumber ty_NoNumber sb_NoNumber) (kit_skip (no ic_NoPath ty_NoPath sb_NoPath) (kit_skip (no ic_NoText ty_NoText sb_NoText) (kit_skip (no ic_Same ty_Same sb_Same) (kit_skip (no ic_Struck ty_Struck sb_Struck) (kit_skip (no ic_Twice ty_Twice sb_Twice) (rfl))))))),
    kit_self,
    kit_yes ic_NotSuch ty_NotSuch sb_NotSuch,
    kit_ve sVE⟩
  refine ⟨PySem.W.fnOf "law" "law" (defArgs sLaw) (defBody sLaw) (defScope sLaw) .none kV13 dc13 pm13 an13 cd13 ct13, fun s v => .of_eq rfl, fun base kb gb => ?g⟩
  case g =>
    have N : Nl l.prog w K mg base e f0 _ := ⟨ok_nl (P := l.prog) (w := w) (base := base) F0 T, a0, tyF, B0⟩
    have cW := D1.ca (ok_whole (P := l.prog) (w := w) (base := base) D1 T)
    have cI := D2.ca (ok_within D2 cW)
    have M : Mk K cLength f3 := ⟨mk, a3, i3, kc⟩
    have LL := ok_len F3 T N cI
    have G2 := tg_mk F4 (PySem.W.mg_of X G a4) (ok_together F4 T N cW M LL B3)
    have A1 : Ap l.prog w K mg base cLength f5 _ := ⟨ok_apart (P := l.prog) (w := w) (base := base) D5 T, D5.mgf, D5.fn.kp, D5.bd, ⟨fun s us ws _ l1 l2 => match us, ws, l1, l2 with | [], [_, _], _, _ => .of_eq rfl, fun r1 r2 => Vals.append r1 r2⟩⟩
    have cH := D6.ca (ok_hand (P := l.prog) (w := w) (base := base) D6 T)
    have cT := D7.ca (ok_take (P := l.prog) (w := w) (base := base) D7)
    have cP := D8.ca (ok_pick D8 T cT)
    have cA := D9.ca (ok_alone (P := l.prog) (w := w) (base := base) D9 T)
    have cC := D10.ca (ok_caught D10 T G2)
    have cS := D11.ca (ok_sum D11 T cA cC)
    have cR := D12.ca (ok_right D12 T cT cP cS M LL B3 A1)
    exact ok_law D13 T cH cR
end K6
open PySem PySem.W PyProof.Rows L2
set_option maxRecDepth 100000 in
set_option maxHeartbeats 0 in
theorem PySem.Challenge.cw_takesworks_k06_lengths_together_holds : PySem.Challenge.rw_takesworks_k06_lengths_together.Holds := by
  w_on; o_law; k_head; (case hw => w_witness2)
  k_fill
  refine walk_of (l := PySem.Challenge.rw_takesworks_k06_lengths_together) (n := 63) (k := 9) (x := "_law_script") (CX := fun _ => CX0) (sp := fun w => K6.spLaw _) rfl (by decide) rfl ⟨rfl, by decide, by decide⟩ (fun w h Y => PySem.W.kIn_of Y) ?F
    (fun w H a ns hl _ hS => ⟨a, ns, rfl, hS, hl, fun _ => rfl⟩) (fun _ _ _ _ _ z => z)
  case F =>
    intro w mg fa h KX G hmg
    refine' K6.all_mk KX G hmg ?a_Length ?a_NotSuch ?a_Lost ?a_Taken ?a_NoCustom ?a_NoDay ?a_NoDisc ?a_NoEntry ?a_NoKey ?a_NoLine ?a_NoName ?a_NoNumber ?a_NoPath ?a_NoText ?a_Same ?a_Struck ?a_Twice ?a_NoLength ?a0 ?i0 ?l0 ?c0 ?k0 ?a1 ?l1 ?c1 ?k1 ?a2 ?l2 ?c2 ?k2 ?a3 ?i3 ?l3 ?c3 ?k3 ?a4 ?l4 ?c4 ?k4 ?d4 ?a5 ?l5 ?c5 ?k5 ?a6 ?l6 ?c6 ?k6 ?a7 ?l7 ?c7 ?k7 ?a8 ?l8 ?c8 ?k8 ?a9 ?l9 ?c9 ?k9 ?a10 ?l10 ?c10 ?k10 ?a11 ?l11 ?c11 ?k11 ?a12 ?l12 ?c12 ?k12 ?a13 ?l13 ?c13 ?k13 ?g_MOST_SECONDS ?ic_NotSuch ?ty_NotSuch ?sb_NotSuch ?ic_Lost ?ty_Lost ?sb_Lost ?ic_Taken ?ty_Taken ?sb_Taken ?ic_NoCustom ?ty_NoCustom ?sb_NoCustom ?ic_NoDay ?ty_NoDay ?sb_NoDay ?ic_NoDisc ?ty_NoDisc ?sb_NoDisc ?ic_NoEntry ?ty_NoEntry ?sb_NoEntry ?ic_NoKey ?ty_NoKey ?sb_NoKey ?ic_NoLine ?ty_NoLine ?sb_NoLine ?ic_NoName ?ty_NoName ?sb_NoName ?ic_NoNumber ?ty_NoNumber ?sb_NoNumber ?ic_NoPath ?ty_NoPath ?sb_NoPath ?ic_NoText ?ty_NoText ?sb_NoText ?ic_Same ?ty_Same ?sb_Same ?ic_Struck ?ty_Struck ?sb_Struck ?ic_Twice ?ty_Twice ?sb_Twice ?ic_NoLength ?ty_NoLength ?sb_NoLength ?be_NotSuch ?be_Lost ?be_Taken ?sVE ?oX ?hbX ?saX ?exX ?kX ?gaX ?ggX ?hdX ?haX ?hmX ?fldX ?tyF ?rdN ?spN ?fiN ?pg ?hd ?po ?sa ?mk ?kc ?nS ?ha ?hn ?ht ?hm ?z_isinstance ?z_int ?z_bool ?z_len ?z_abs ?z_max ?z_min ?z_all ?z_zip ?z_range ?z_repr ?z_sum ?z_tuple ?z_ValueError
    (case a_Length => k_is)
    (case a_NotSuch => k_is)
    (case a_Lost => k_is)
    (case a_Taken => k_is)
    (case a_NoCustom => k_is)
    (case a_NoDay => k_is)
    (case a_NoDisc => k_is)
    (case a_NoEntry => k_is)
    (case a_NoKey => k_is)
    (case a_NoLine => k_is)
    (case a_NoName => k_is)
    (case a_NoNumber => k_is)
    (case a_NoPath => k_is)
    (case a_NoText => k_is)
    (case a_Same => k_is)
    (case a_Struck => k_is)
    (case a_Twice => k_is)
    (case a_NoLength => k_is)
    (case a0 => k_is)
    (case i0 => k_is)
    (case l0 => k_is)
    (case c0 => k_is)
    (case k0 => k_is)
    (case a1 => k_is)
    (case l1 => k_is)
    (case c1 => k_is)
    (case k1 => k_is)
    (case a2 => k_is)
    (case l2 => k_is)
    (case c2 => k_is)
    (case k2 => k_is)
    (case a3 => k_is)
    (case i3 => k_is)
    (case l3 => k_is)
    (case c3 => k_is)
    (case k3 => k_is)
    (case a4 => k_is)
    (case l4 => k_is)
    (case c4 => k_is)
    (case k4 => k_is)
    (case d4 => k_is)
    (case a5 => k_is)
    (case l5 => k_is)
    (case c5 => k_is)
    (case k5 => k_is)
    (case a6 => k_is)
    (case l6 => k_is)
    (case c6 => k_is)
    (case k6 => k_is)
    (case a7 => k_is)
    (case l7 => k_is)
    (case c7 => k_is)
    (case k7 => k_is)
    (case a8 => k_is)
    (case l8 => k_is)
    (case c8 => k_is)
    (case k8 => k_is)
    (case a9 => k_is)
    (case l9 => k_is)
    (case c9 => k_is)
    (case k9 => k_is)
    (case a10 => k_is)
    (case l10 => k_is)
    (case c10 => k_is)
    (case k10 => k_is)
    (case a11 => k_is)
    (case l11 => k_is)
    (case c11 => k_is)
    (case k11 => k_is)
    (case a12 => k_is)
    (case l12 => k_is)
    (case c12 => k_is)
    (case k12 => k_is)
    (case a13 => k_is)
    (case l13 => k_is)
    (case c13 => k_is)
    (case k13 => k_is)
    (case g_MOST_SECONDS => k_is)
    (case ic_NotSuch => k_is)
    (case ty_NotSuch => k_is)
    (case sb_NotSuch => k_is)
    (case ic_Lost => k_is)
    (case ty_Lost => k_is)
    (case sb_Lost => k_is)
    (case ic_Taken => k_is)
    (case ty_Taken => k_is)
    (case sb_Taken => k_is)
    (case ic_NoCustom => k_is)
    (case ty_NoCustom => k_is)
    (case sb_NoCustom => k_is)
    (case ic_NoDay => k_is)
    (case ty_NoDay => k_is)
    (case sb_NoDay => k_is)
    (case ic_NoDisc => k_is)
    (case ty_NoDisc => k_is)
    (case sb_NoDisc => k_is)
    (case ic_NoEntry => k_is)
    (case ty_NoEntry => k_is)
    (case sb_NoEntry => k_is)
    (case ic_NoKey => k_is)
    (case ty_NoKey => k_is)
    (case sb_NoKey => k_is)
    (case ic_NoLine => k_is)
    (case ty_NoLine => k_is)
    (case sb_NoLine => k_is)
    (case ic_NoName => k_is)
    (case ty_NoName => k_is)
    (case sb_NoName => k_is)
    (case ic_NoNumber => k_is)
    (case ty_NoNumber => k_is)
    (case sb_NoNumber => k_is)
    (case ic_NoPath => k_is)
    (case ty_NoPath => k_is)
    (case sb_NoPath => k_is)
    (case ic_NoText => k_is)
    (case ty_NoText => k_is)
    (case sb_NoText => k_is)
    (case ic_Same => k_is)
    (case ty_Same => k_is)
    (case sb_Same => k_is)
    (case ic_Struck => k_is)
    (case ty_Struck => k_is)
    (case sb_Struck => k_is)
    (case ic_Twice => k_is)
    (case ty_Twice => k_is)
    (case sb_Twice => k_is)
    (case ic_NoLength => k_is)
    (case ty_NoLength => k_is)
    (case sb_NoLength => k_is)
    (case be_NotSuch => k_is)
    (case be_Lost => k_is)
    (case be_Taken => k_is)
    (case sVE => k_is)
    (case oX => k_is)
    (case hbX => decide +kernel)
    (case saX => k_is)
    (case exX => k_is)
    (case kX => k_is)
    (case gaX => k_is)
    (case ggX => k_is)
    (case hdX => k_is)
    (case haX => k_is)
    (case hmX => k_is)
    (case fldX => k_is)
    (case tyF => k_is)
    (case rdN => k_is)
    (case spN => k_is)
    (case fiN => k_is)
    (case pg => k_is)
    (case hd => k_is)
    (case po => k_is)
    (case sa => k_is)
    (case mk => k_is)
    (case kc => k_is)
    (case nS => k_is)
    (case ha => k_is)
    (case hn => k_is)
    (case ht => k_is)
    (case hm => k_is)
    (case z_isinstance => k_is)
    (case z_int => k_is)
    (case z_bool => k_is)
    (case z_len => k_is)
    (case z_abs => k_is)
    (case z_max => k_is)
    (case z_min => k_is)
    (case z_all => k_is)
    (case z_zip => k_is)
    (case z_range => k_is)
    (case z_repr => k_is)
    (case z_sum => k_is)
    (case z_tuple => k_is)
    (case z_ValueError => k_is)
