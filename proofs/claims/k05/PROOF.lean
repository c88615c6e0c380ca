import PyProof.Rows.All
import Wide.All
import OpenK.AllK
import Wide.FinOn
import HandS.ForMost
import HandS.ForExc
import HandS.Wide
import HandS.Flow
import HandS.IsInst
import HandS.Codes
import HandS.ExcInit
import HandS.ExcField
import HandS.ExcIs
import HandS.CallSlots
import HandS.Defaults
import HandS.MakeKw
import HandS.MakeKwOnly
import KE.KExcIs
import KE.KTryMore
import HandS.RaiseMore
import HandS.FStrTup
import PyProof.ReprRoads
import HandS.TupLe
import HandS.Zip
import HandS.Walk
import HandS.OwnEq
import HandS.FStr
import KE.KCallOwn
import HandS.TupAny
import PyProof.StrLawsRepr
import PySem.Challenge.RW_takesworks_k05_lengths_told
set_option Elab.async false
set_option linter.all false
set_option maxRecDepth 100000
set_option maxHeartbeats 4000000
set_option pp.maxSteps 400
set_option pp.deepTerms false
/-! A caught exception that is kept: tracked as an object of its own, with its class and its dict. -/
namespace Xk
open PySem PySem.Spec PyProof.Rows L2
/-- at a: an exception of the class cls, its dict at d (if it has one) -/
def ExK (cls : Value) (d : Option Addr) (a : Addr) : HO := .ext fun h => ∃ oe : Obj, h.get? a = some oe ∧ Zc cls d oe ∧ ∃ vs, oe.data = .fields vs
theorem exK_ok {P : Program} {w : World} {H : Hp} {h : Heap} {a : Addr} {cls : Value} {d : Option Addr} {oe : Obj} {vs : Array Value}
    (e : h.get? a = some oe) (z : Zc cls d oe) (hd : oe.data = .fields vs) : ObjOk P w H h a (ExK cls d a) :=
  ⟨⟨oe, e, z, vs, hd⟩, ⟨oe, e⟩, fun _ _ y k => by
    obtain ⟨o, q, r⟩ := y
    exact ⟨o, k o q, r⟩⟩
theorem exK_at {P : Program} {w : World} {H : Hp} {h : Heap} {a : Addr} {cls : Value} {d : Option Addr} (hok : HOk P w H h) (e : H a = some (ExK cls d a)) :
    ∃ oe : Obj, h.get? a = some oe ∧ Zc cls d oe ∧ ∃ vs, oe.data = .fields vs := by
  have z : ObjOk P w H h a (.ext fun h => ∃ oe : Obj, h.get? a = some oe ∧ Zc cls d oe ∧ ∃ vs, oe.data = .fields vs) := hok a _ e
  exact z.1
section
variable {X : Cx} {pins : List (Addr × Obj)} {σ : L2.St} {H : Hp} {s : Shared}
/-- an object that came during the call, untracked as yet, is tracked from here on -/
theorem track {a : Addr} {o : HO} (I : Inv X pins σ H s) (h0 : X.s_0.heap.get? a = none) (na : H a = none) (nL : a ≠ X.env.locals)
    (nC : ∀ x c, X.env.cells.lookup x = some c → c ≠ a) (nP : ∀ p ∈ X.pn ++ pins, p.1 ≠ a) (new : ObjOk X.prog X.w (upd H a o) s.heap a o) : Inv X pins σ (upd H a o) s := by
  have n0 : ∀ {b : Addr} {u : Obj}, X.s_0.heap.get? b = some u → b ≠ a := fun {b u} e z => by
    rw [z, h0] at e
    cases e
  refine ⟨I.ok, I.os, I.bare, ⟨I.base.keep, I.base.slot, fun b u e n hx => ?_, I.base.there, fun b xs e => ?_, fun b u v e => ?_, fun b ps e => ?_⟩, I.loc, I.cell, ?_, fun x c e => ?_, fun p hp => ?_, fun b u e => ?_, I.len⟩
  · rw [upd_ne (n0 e)]
    exact I.base.free b u e n hx
  · have q := I.base.tups b xs e
    rw [upd_ne (ne_of_none q na)]
    exact q
  · have q := I.base.frzs b u v e
    rw [upd_ne (ne_of_none q na)]
    exact q
  · obtain ⟨m, q⟩ := I.base.tbls b ps e
    exact ⟨m, by rw [upd_ne (ne_of_none q na)]; exact q⟩
  · rw [upd_ne (Ne.symm nL)]
    exact I.free
  · rw [upd_ne (nC x c e)]
    exact I.freeC x c e
  · obtain ⟨e1, e2, e3⟩ := I.pin p hp
    exact ⟨e1, by rw [upd_ne (nP p hp)]; exact e2, e3⟩
  · by_cases hb : b = a
    · subst hb
      rw [upd_same] at e
      cases e
      exact new
    · rw [upd_ne hb] at e
      refine (I.hok b u e).stay (fun _ _ _ q => q) (fun c q => ?_) fun c xs q => ?_
      · rw [upd_ne (ne_of_none q na)]
        exact q
      · rw [upd_ne (ne_of_none q na)]
        exact q
end
theorem flying_kept {B h h' : Heap} {l : List Env} {a : Addr} {Z : Obj → Prop} (f : HandSPX.FlyingZ B l a Z h) (k : ∀ b o, h.get? b = some o → h'.get? b = some o) : HandSPX.FlyingZ B l a Z h' := by
  obtain ⟨f1, f2, f3, oe, vs, T, oT, ts, t1, t2, t3, t4, t5, t6, t7, t8, t9⟩ := f
  exact ⟨fun b o e => k b o (f1 b o e), f2, f3.of_keeps fun b o e _ => ⟨o, k b o e, rfl⟩, oe, vs, T, oT, ts, k _ _ t1, t2, t3, t4, t5, t6, k _ _ t7, t8, t9⟩
/-- what the clause 'except (A, B, C) as n' wishes of an exception of the body: slot i is n's; the exception is tracked -/
def wKeep (K : PySem.W.Frag) (cs : List Value) (i : Nat) (ts : Addr → TS) (Wout : WX) (D : Ends) : WX := fun cls d σ H =>
  ∃ b, PySem.W.exmAny K cls cs = some b ∧
    (b = true → ∀ a, H a = none → ts a { nx := fun σ' H' => D.nx (σ'.set i none) H', rt := D.rt, bk := fun σ' H' => D.bk (σ'.set i none) H', ct := fun σ' H' => D.ct (σ'.set i none) H' } (σ.set i (some (.ref a))) (upd H a (ExK cls d a))) ∧
    (b = false → Wout cls d σ H)
/-- a module's own class by its name -/
structure Nm (X : Cx) (x : Str) (C : Addr) : Prop where
  gl : Gl X x
  db : (x == ("__debug__" : Str)) = false
  mg : X.mg x = some (.ref C)
section
variable {X : Cx} {x1 x2 x3 n : Str} {C1 C2 C3 : Addr} {i : Nat} {body suite : List Stmt} {b₀ : Stmt} {p1 p2 p3 tp pos pos' : Pos} {tb : WX → TS} {ts : Addr → TS} {Wout : WX} {cx}
theorem ps_try_keep (hs : X.stack = X.env :: X.outer) (hf : X.env.frame = some X.env.locals) (hex : X.ex = []) (hN : X.N.Nodup) (hi : X.N[i]? = some n) (hln : X.env.kindOf n = some .local)
    (n1 : Nm X x1 C1) (n2 : Nm X x2 C2) (n3 : Nm X x3 C3) (tk : Takes X Wout)
    (hb : ∀ (W : WX) (pn : List (Addr × Obj)) (xe : Value → Shared → Prop), Takes (X.tr pn xe) W → PassesOwn (model X.prog X.w) X.A X.env xe → PSs (X.tr pn xe) body (tb W))
    (hsu : ∀ (a : Addr) (pn : List (Addr × Obj)), PSs (X.suite a pn) (b₀ :: suite) (ts a)) :
    PS X (.Try body [.ExceptHandler (some (.Tuple [.Name x1 p1, .Name x2 p2, .Name x3 p3] cx tp)) (some n) (b₀ :: suite) pos'] [] [] pos) (fun D σ H => tb (wKeep X.K [.ref C1, .ref C2, .ref C3] i ts Wout D) D σ H) := by
  refine ⟨fun pins s σ H D I h => ?_⟩
  have ok := I.ok
  have frs2 : X.A.frames = some (X.env :: X.outer) := by rw [ok.frames, hs]
  refine wpAny_Try_except ?_
  refine wpAny_mono ((hb (wKeep X.K [.ref C1, .ref C2, .ref C3] i ts Wout D) (X.pn ++ pins)
    (fun e s₁ => wpAny (model X.prog X.w) X.A (noteFrame e X.env) (fun _ s₂ => wpAny (model X.prog X.w) X.A (setFlight e none) (fun _ s₃ => wpAny (model X.prog X.w) X.A
      (handleBy e X.env [.ExceptHandler (some (.Tuple [.Name x1 p1, .Name x2 p2, .Name x3 p3] cx tp)) (some n) (b₀ :: suite) pos']) (SP X pins D) X.xe s₃) X.xe s₂) X.xe s₁)
    (fun u s' air => ?_) PassesOwn.looking).run [] s σ H D (I.toTry _) h) (fun f s1 hsp => ?_) (fun e s1 he => he)
  · obtain ⟨a, B, sI, pins', σ', H', cls, d, rfl, J', nb, up, sky, na, os, ag, b, hb1, hyes, hno⟩ := air
    have J : Inv X pins σ' H' sI := J'.ofTry ok
    have sky2 : Sky B (X.env :: X.outer) a (Zc cls d) X.env.locals s'.heap := by
      rw [← hs]
      exact sky
    refine Sky.land Zc.steady frs2 hf sky2 fun h3 fl3 up3 => ?_
    obtain ⟨oe3, vs3, he3, hz3, hd3⟩ := fl3.there
    have nfr : a ∉ frs (X.env :: X.outer) := fun hm => by
      obtain ⟨_, o', e', hnf⟩ := fl3.2.2.1.mem hm
      rw [he3] at e'
      cases e'
      exact hnf _ hd3
    have nL : a ≠ X.env.locals := fun z => nfr (List.mem_filterMap.mpr ⟨X.env, List.mem_cons_self, by rw [hf, z]⟩)
    have nF : a ∉ X.fs := fun hm => by
      obtain ⟨e, he, q⟩ := List.mem_filterMap.mp hm
      exact nfr (List.mem_filterMap.mpr ⟨e, List.mem_cons_of_mem _ he, q⟩)
    -- it was not there when the call began
    have aI : sI.heap.get? a = none := by
      cases e : sI.heap.get? a with
      | none => rfl
      | some o =>
        have z := nb a o e (by rw [hs]; exact nfr)
        rw [fl3.2.1] at z
        cases z
    have a0 : X.s_0.heap.get? a = none := by
      cases e : X.s_0.heap.get? a with
      | none => rfl
      | some o =>
        obtain ⟨o', z⟩ := J.base.there a o e (by rw [hex]; exact fun z => nomatch z)
        rw [aI] at z
        cases z
    have nP : ∀ p ∈ X.pn ++ pins, p.1 ≠ a := fun p hp z => by
      have q := (J.pin p hp).1
      rw [z, aI] at q
      cases q
    have trk : ∀ {h4 : Heap} {s4 : Shared}, s4.heap = h4 → HandSPX.FlyingZ B (X.env :: X.outer) a (Zc cls d) h4 → Inv X pins σ' H' s4 → Inv X pins σ' (upd H' a (ExK cls d a)) s4 := fun {h4 s4} e4 fl4 J4 => by
      subst e4
      obtain ⟨oe4, vs4, he4, hz4, hd4⟩ := fl4.there
      refine track J4 a0 na nL (fun x c e z => ?_) nP (exK_ok he4 hz4 hd4)
      obtain ⟨v, o, eo, ed⟩ := J4.cell x c e
      rw [z, he4] at eo
      cases eo
      rw [hd4] at ed
      cases ed
    have J3 : Inv X pins σ' H' { s' with heap := h3 } := J.landed nb fl3.1 (up.trans up3) os ag
    have S3 : Inv (X.suite a (X.pn ++ pins)) [] σ' H' { s' with heap := h3 } :=
      ⟨J3.ok.suite _ _, J3.os, J3.bare, J3.base, J3.loc, J3.cell, J3.free, J3.freeC, fun p hp => J3.pin p (by rw [List.append_nil] at hp; exact hp), J3.hok, J3.len⟩
    refine wpAny_handleBy_cons (codeAny_handlers_test ?_) (by intro q; cases q)
    have own : ∀ {x : Str} {C : Addr} {p : Pos} {Q : Value → Shared → Prop} {E : Value → Shared → Prop}, Nm X x C → Q (.ref C) { s' with heap := h3 } →
        wpAny (model X.prog X.w) (X.A.mark (some (.ref a))) (eval (.Name x p) X.env) Q E { s' with heap := h3 } := fun {x C p Q E} z q => ld_glob (X := X.suite a (X.pn ++ pins)) S3 z.gl z.mg q z.db
    have tup : ∀ {Q : Value → Shared → Prop} {E : Value → Shared → Prop}, Q (.ref h3.objs.size) { s' with heap := h3.push { cls := .type "tuple", data := .seq [Value.ref C1, .ref C2, .ref C3].toArray } } →
        wpAny (model X.prog X.w) (X.A.mark (some (.ref a))) (eval (.Tuple [.Name x1 p1, .Name x2 p2, .Name x3 p3] cx tp) X.env) Q E { s' with heap := h3 } := fun {Q E} q => by
      refine wpAny_Tuple_spliced ?_
      show wpAny _ _ (spliced ((false, eval (.Name x1 p1) X.env) :: (false, eval (.Name x2 p2) X.env) :: (false, eval (.Name x3 p3) X.env) :: [])) _ _ _
      exact Calls.spliced_cons (own n1 (Calls.spliced_cons (own n2 (Calls.spliced_cons (own n3 (Calls.spliced_nil ⟨by show 3 ≤ sizeLine; decide, q⟩))))))
    refine tup ?_
    have k4 : ∀ b o, h3.get? b = some o → (h3.push { cls := .type "tuple", data := .seq [Value.ref C1, .ref C2, .ref C3].toArray }).get? b = some o := fun b o e => Heap.get?_push_of_some _ e
    have t4 := Heap.get?_push_size h3 (o := { cls := .type "tuple", data := .seq [Value.ref C1, .ref C2, .ref C3].toArray }) rfl
    generalize h3.push { cls := .type "tuple", data := .seq [Value.ref C1, .ref C2, .ref C3].toArray } = h4 at k4 t4 ⊢
    have fl4 := flying_kept fl3 k4
    have J4 : Inv X pins σ' H' { s' with heap := h4 } := J3.kept k4
    have LT : PySem.W.Looks (model X.prog X.w) h4 (typeOf (.ref a)) cls := fun A Q E s k q => wpAny_typeOf_ref (k _ _ (k4 _ _ he3)) (by rw [hz3.1]; exact q)
    refine (PySem.W.exm_tup3 (M := model X.prog X.w) J4.kIn LT t4 hb1).here ?_
    cases b with
    | true =>
      refine codeAny_handlers_suite_as ?_
      refine HandSPX.lands_againZ fl4 fun h5 fl5 up5 => ?_
      have J5 : Inv X pins σ' H' { s' with heap := h5 } := J.landed nb fl5.1 ((up.trans up3).trans ((Heap.UpToSlots.of_keeps k4).trans up5)) os ag
      have T5 := trk rfl fl5 J5
      have S5 : Inv (X.suite a (X.pn ++ pins)) [] σ' (upd H' a (ExK cls d a)) { s' with heap := h5 } :=
        ⟨T5.ok.suite _ _, T5.os, T5.bare, T5.base, T5.loc, T5.cell, T5.free, T5.freeC, fun p hp => T5.pin p (by rw [List.append_nil] at hp; exact hp), T5.hok, T5.len⟩
      refine store_ok (X := X.suite a (X.pn ++ pins)) (v := .ref a) S5 hN hi (.inl hln) rfl (fun s6 S6 => ?_) (.inr hln)
      refine wpAny_mono ((hsu a (X.pn ++ pins)).run [] s6 _ _ _ S6 (hyes rfl a na)) (fun f s7 hsp => ?_) (fun _ _ z => False.elim z)
      have back : ∀ {σ7 : L2.St} {H7 : Hp}, Inv (X.suite a (X.pn ++ pins)) [] σ7 H7 s7 → Inv X pins σ7 H7 s7 := fun {σ7 H7} S7 =>
        ⟨ok, S7.os, S7.bare, S7.base, S7.loc, S7.cell, S7.free, S7.freeC, fun p hp => S7.pin p (by rw [List.append_nil]; exact hp), S7.hok, S7.len⟩
      cases f with
      | next =>
        obtain ⟨σ7, H7, S7, q7⟩ := hsp
        exact gone_ok (back S7) hN hi hln fun s8 J8 => ⟨_, _, J8, q7⟩
      | brk =>
        obtain ⟨σ7, H7, S7, q7⟩ := hsp
        exact gone_ok (back S7) hN hi hln fun s8 J8 => ⟨_, _, J8, q7⟩
      | cont =>
        obtain ⟨σ7, H7, S7, q7⟩ := hsp
        exact gone_ok (back S7) hN hi hln fun s8 J8 => ⟨_, _, J8, q7⟩
      | ret u =>
        obtain ⟨v7, σ7, H7, S7, r7, q7⟩ := hsp
        exact gone_ok (back S7) hN hi hln fun s8 J8 => ⟨_, _, _, J8, r7, q7⟩
    | false =>
      refine wpAny_handleBy_nil ?_
      obtain ⟨k1, k2, k3, oe, vs, T, oT, ts', he, hz, hd, h1, hr⟩ := id fl4
      unfold PySem.passOn
      refine wpAny_bind (wpAny_field he hd h1 ?_)
      rw [if_neg (by simp : ¬ ((Value.ref T == Value.none) = true))]
      have fin : wpAny (model X.prog X.w) X.A (setFlight (.ref a) X.env.frame) (fun _ s5 => wpAny (model X.prog X.w) X.A (throw (.ref a) : Sem Flow) (SP X pins D) X.xe s5) X.xe { s' with heap := h4 } := by
        rw [hf]
        refine HandSPX.setFlight_upZ fl4 fun h5 hh5 up5 => wpAny_throw (tk _ _ ?_)
        exact ⟨a, B, sI, pins, σ', H', cls, d, rfl, J, nb, (up.trans up3).trans ((Heap.UpToSlots.of_keeps k4).trans up5), .inr (.inr (by rw [hs]; exact hh5)), na, os, ag, hno rfl⟩
      first
        | exact wpAny_bind (wpAny_pure (wpAny_bind fin))
        | exact wpAny_bind fin
  · cases f with
    | next =>
      obtain ⟨σ', H', J', q⟩ := hsp
      exact wpAny_execs_nil ⟨σ', H', J'.ofTry ok, q⟩
    | brk =>
      obtain ⟨σ', H', J', q⟩ := hsp
      exact ⟨σ', H', J'.ofTry ok, q⟩
    | cont =>
      obtain ⟨σ', H', J', q⟩ := hsp
      exact ⟨σ', H', J'.ofTry ok, q⟩
    | ret u =>
      obtain ⟨v, σ', H', J', r, q⟩ := hsp
      exact ⟨v, σ', H', J'.ofTry ok, r, q⟩
end
end Xk
set_option Elab.async false
set_option linter.all false
set_option maxRecDepth 100000
set_option maxHeartbeats 4000000
set_option pp.maxSteps 400
set_option pp.deepTerms false
namespace Xk
open PySem PySem.Spec PyProof.Rows L2
/-- what an own exception class says, so that its kept instances are read and asked -/
structure XcC (K : PySem.W.Frag) (C : Addr) : Prop where
  cl : (PySem.W.clsIn K C).isSome = true
  ga : PySem.W.findIn K (.ref C) "__getattribute__" = some (some (.builtin "BaseException.__getattribute__"))
  gg : PySem.W.findIn K (.ref C) "__getattr__" = some none
  sb : PySem.W.subIn K (.ref C) (.type "BaseException") = some true
  hd : PySem.W.hasDictIn K C = true
  ha : PySem.W.findIn K (.ref C) "__class__" = some (some (.builtin "object.__class__"))
  hn : PySem.W.specialIn K (.builtin "object.__class__") "__get__" = some (some (.builtin "getset_descriptor.__get__"))
  ht : PySem.W.takesIn K (.builtin "object.__class__") = some true
  hm : PySem.W.mroIn K C (.type "object") = some true
/-- a kept exception of the class at C with the fields fs -/
def Kept (H : Hp) (a C : Addr) (fs : List (Str × V)) : Prop := ∃ d, H a = some (ExK (.ref C) (some d) a) ∧ H d = some (.xd fs)
theorem Kept.same {H H' : Hp} {a C : Addr} {fs : List (Str × V)} (k : Kept H a C fs) (s : L2.Same H H') : Kept H' a C fs := by
  obtain ⟨d, e1, e2⟩ := k
  exact ⟨d, s _ _ e1, s _ _ e2⟩
section
variable {X : Cx} {pins : List (Addr × Obj)} {σ : L2.St} {H : Hp} {s : Shared}
theorem Kept.inst {a C : Addr} {fs : List (Str × V)} (I : Inv X pins σ H s) (k : Kept H a C fs) :
    ∃ (oe od : Obj) (mA : Str → Option Value), PySem.W.InstAt s.heap a oe C (some od) ∧ (∀ n, PySem.W.lookIn n od = some (mA n)) ∧ ∀ f, RelO (fs.lookup f) (mA f) := by
  obtain ⟨d, e1, e2⟩ := k
  obtain ⟨oe, he, hz, vs, hv⟩ := exK_at I.hok e1
  have hx : ObjOk X.prog X.w H s.heap d (.xd fs) := I.hok d _ e2
  obtain ⟨mA, hns, hr⟩ := hx
  obtain ⟨od, ho, hl⟩ := lookIn_ns hns
  refine ⟨oe, od, mA, ⟨he, hz.1, by unfold PySem.W.notCls; rw [hv] <;> rfl, by rw [hz.2]; exact ho⟩, hl, hr⟩
end
/-- e.f of a kept exception -/
def tKf (C : Addr) (f : Str) (te : TE) : TE := fun σ H Q => te σ H fun x H1 => ∃ (a : Addr) (fs : List (Str × V)) (v : V), x = .ref a ∧ Kept H1 a C fs ∧ fs.lookup f = some v ∧ Q v H1
theorem pe_kf {X : Cx} {C : Addr} {e : Expr} {te : TE} {pos : Pos} {n : Str} (T : XcC X.K C) (hno : PySem.W.findIn X.K (.ref C) n = some none) (he : PE X e te)
    (hb : attributeBase e n X.env (eval e X.env) = eval e X.env := by rfl) : PE X (.Attribute e n pos) (tKf C n te) := by
  refine ⟨fun pins s σ H Q I h => attr_of hb (thn (he.run pins s σ H _ I h) fun u s1 z => ?_)⟩
  obtain ⟨x, H1, I1, rx, a, fs, v, ex, k, l, q⟩ := z
  subst ex
  obtain rfl : u = Value.ref a := rx
  obtain ⟨oe, od, mA, J, hl, hr⟩ := k.inst I1
  obtain ⟨y, hy, ry⟩ := RelO.some_of (v := v) (o := mA n) (by rw [← l]; exact hr n)
  exact HandSPX.exc_get I1.kIn J T.ga T.gg T.sb (PySem.W.findObj_own T.hd hno rfl (by rw [hl, hy])) (handed_of ry) ⟨v, H1, I1.tok _, ry, q⟩
/-- isinstance(e, c), isinstance(e, (c1, ..)) of a kept exception -/
def rIsK (K : PySem.W.Frag) (C : Addr) : List V → Hp → VK → Prop := fun xs H Q => ∃ (a : Addr) (fs : List (Str × V)) (c : V) (u : Value) (b : Bool), xs = [.ref a, c] ∧ Kept H a C fs ∧ ClsV c u ∧ PySem.W.kitOne K (.ref C) u = some b ∧ Q (.bl b) H
def rIsKT (K : PySem.W.Frag) (C : Addr) : List V → Hp → VK → Prop := fun xs H Q => ∃ (a tp : Addr) (fs : List (Str × V)) (cs : List V) (us : List Value) (b : Bool), xs = [.ref a, .ref tp] ∧ Kept H a C fs ∧
  H tp = some (.tup cs) ∧ Paired ClsV cs us ∧ PySem.W.kitAny K (.ref C) us = some b ∧ Q (.bl b) H
theorem call_isK {X : Cx} {C : Addr} (T : XcC X.K C) : CallR X (.builtin "isinstance") (rIsK X.K C) := by
  intro pins s σ H xs us Q I r h
  obtain ⟨a, fs, c, u, b, rfl, k, hc, e, q⟩ := h
  obtain ⟨u1, u2, rfl, r1, r2⟩ := vals2 r
  have e2 := hc.eq r2
  subst e2
  cases (show u1 = Value.ref a from r1)
  obtain ⟨oe, od, mA, J, _, _⟩ := k.inst I
  exact PySem.W.kia_one (PySem.W.kitx_exc (ox := oe) (od := some od) T.cl T.ga T.gg T.sb T.ha T.hn T.ht T.hm) I.kIn J e (fun z => nomatch z) fun tk => ⟨.bl b, H, I.tok tk, rfl, q⟩
theorem call_isKT {X : Cx} {C : Addr} (T : XcC X.K C) : CallR X (.builtin "isinstance") (rIsKT X.K C) := by
  intro pins s σ H xs us Q I r h
  obtain ⟨a, tp, fs, cs, ws, b, rfl, k, hT, hc, e, q⟩ := h
  obtain ⟨u1, u2, rfl, r1, r2⟩ := vals2 r
  cases (show u1 = Value.ref a from r1)
  cases (show u2 = Value.ref tp from r2)
  obtain ⟨oe, od, mA, J, _, _⟩ := k.inst I
  have ht : ObjOk X.prog X.w H s.heap tp (.tup cs) := I.hok tp _ hT
  obtain ⟨_, its, rv, o, h1, h2, n, h3⟩ := ht
  have e3 := ClsV.all hc rv
  subst e3
  obtain ⟨oc, od2, dt, sl⟩ := o
  simp only at h2 h3
  subst h2 h3
  exact PySem.W.kia_tup (PySem.W.kitx_exc (ox := oe) (od := some od) T.cl T.ga T.gg T.sb T.ha T.hn T.ht T.hm) I.kIn J h1 e (fun z => nomatch z) fun tk => ⟨.bl b, H, I.tok tk, rfl, q⟩
/-! ### B.__init__(self, ..), B an own class over ValueError without own __init__ -/
structure BiC (K : PySem.W.Frag) (B : Addr) : Prop where
  rd : PySem.W.readsIn K B (.type "type") = true
  sp : PySem.W.specialIn K (.ref B) "__getattribute__" = some (some (.builtin "type.__getattribute__"))
  fi : PySem.W.findCls K (.ref B) (.type "type") "__init__" = some (.val (.builtin "ValueError.__init__"))
theorem pe_binit {X : Cx} {B : Addr} {x : Str} {e : Expr} {es : List Expr} {ta : TA} {p1 p2 pos : Pos} {pl : Sem Bool} (T : BiC X.K B) (gl : Gl X x) (mg : X.mg x = some (.ref B)) (ha : PA X (e :: es) ta) (hdb : (x == ("__debug__" : Str)) = false := by decide)
    (hc : eval (.Call (.Attribute (.Name x p1) "__init__" p2) (e :: es) [] pos) X.env = (do
      let ov ← eval (.Name x p1) X.env
      standAt p2.atName
      let (f, first) ← holding [ov] (getMethod ov "__init__" pl)
      callWith pos f first (backTo pos (starEach (e :: es) X.env)) (backToKw pos (keywordEach [] X.env))) := by rfl)
    (he : starEach (e :: es) X.env = (false, eval e X.env) :: starEach es X.env := by rfl) (hpl : (backTo pos (starEach es X.env)).any (·.1) = false := by rfl) :
    PE X (.Call (.Attribute (.Name x p1) "__init__" p2) (e :: es) [] pos) (tVeI X.K ta) := by
  refine ⟨fun pins s σ H Q I h => PySem.W.methodCall_KW (ld_glob I gl mg ?_ hdb) hc⟩
  refine PySem.W.method_cls I.kIn T.sp (PySem.W.cls_value I.kIn T.rd T.fi (by decide +kernel) ?_)
  show wpAny _ _ (callWith pos (Value.builtin "ValueError.__init__") [] (backTo pos (starEach (e :: es) X.env)) []) _ _ _
  refine PyProof.Rows.callWith_method1 (thn (ha.run pos pins _ σ H _ (I.tok _) h) fun us s1 z => ?_) he hpl
  obtain ⟨vs, H1, I1, r1, a, C, ws, ev, hl, Tx, ea, q⟩ := z
  subst ev
  cases r1 with
  | @cons _ u0 _ ur ra rw' =>
    obtain rfl : u0 = Value.ref a := ra
    refine oinit_ok Tx I1 ea ?_ fun s' J => ⟨.non, H1, J, rfl, q⟩
    rw [← Paired.length rw', sizeLine_eq]
    omega
/-! ### calls in a try's body: what is raised is wished for at the slots -/
section
variable {X : Cx} {CX : CXT} {k n : Nat} {f C : Addr} {fd : FuncData} {ps ks : List Str} {sp : Sp} {dvs : List V} {ds : List Value} {E : L2.St → XK} {x : Str} {p pos : Pos} {e : Expr} {es : List Expr} {kws : List Keyword} {t tk : TA}
  {g : List Value → List Value → List Value} {gV : List V → List V → List V}
def tMakeS (C : Addr) (sp : Sp) (dvs : List V) (E : L2.St → XK) (t : TA) : TE := fun σ H Q => t σ H fun vs H1 => ∀ x dx, H1 x = none → H1 dx = none → dx ≠ x →
  sp (.ref x :: (vs ++ dvs)) (upd (upd H1 dx (.own x)) x (.ins C dx [])) (fun v H2 => v = .non ∧ Q (.ref x) H2) (E σ)
theorem pe_makeS (M : Mk X.K C f) (F : FnOk X.prog X.w X.K X.mg X.base CX k f fd ps sp) (room : Room (k + 1) X.A) (gl : Gl X x) (mg : X.mg x = some (.ref C)) (bd : Binds X.K fd ps ds) (rd : Vals dvs ds) (px : ∀ σ, PassesAt CX X σ (E σ))
    (ha : PA X (e :: es) t) (hdb : (x == ("__debug__" : Str)) = false := by decide) (he : starEach (e :: es) X.env = (false, eval e X.env) :: starEach es X.env := by rfl) (hpl : (backTo pos (starEach es X.env)).any (·.1) = false := by rfl) :
    PE X (.Call (.Name x p) (e :: es) [] pos) (tMakeS C sp dvs E t) := by
  refine ⟨fun pins s σ H Q I h => wpAny_Call_Name_kw (ld_glob I gl mg ?_ hdb)⟩
  refine PySem.W.callWith_K (h₀ := X.base) I.ok.mod.kin M.kp (thn (ha.run pos pins s σ H _ I h) fun us s1 z => ?_) he hpl
  obtain ⟨vs, H1, I1, r, q⟩ := z
  refine ⟨I1.kIn, ?_⟩
  have q1 := q (s1.heap.objs.size + 1) s1.heap.objs.size (I1.hok.fresh (Nat.le_succ _)) (I1.hok.fresh (Nat.le_refl _)) (Nat.ne_of_lt (Nat.lt_succ_self _))
  have I2 := Inv.made (C := C) I1
  have r2 : Vals (V.ref (s1.heap.objs.size + 1) :: (vs ++ dvs)) (Value.ref (s1.heap.objs.size + 1) :: (us ++ ds)) := .cons rfl (r.append rd)
  have many : (Value.ref (s1.heap.objs.size + 1) :: us ++ ds).length = ps.length := (r2.length.symm.trans (F.len _ _ _ _ q1))
  refine wpAny_call (make_map (f := f) I1.kIn M.makes M.init (beq_iff_eq.mp M.fn) (codeAny_mono (F.run _ X.stack _ _ ⟨Value.ref (s1.heap.objs.size + 1) :: us, []⟩ (Value.ref (s1.heap.objs.size + 1) :: (us ++ ds)) _ _ (E σ)
    (room.make C us []) (I2.env0.make C us []) (bd _ (Value.ref (s1.heap.objs.size + 1) :: us) I2.kIn many) r2 q1) fun r s' z => ?_))
  cases r with
  | error e => exact px σ pins _ _ e s' I2 z
  | ok fl =>
    cases fl with
    | ret u =>
      obtain ⟨v, H', I3, rv, ev, q3⟩ := I2.after z
      subst ev
      exact ⟨rv, ⟨V.ref (s1.heap.objs.size + 1), H', I3, rfl, q3⟩⟩
    | next => exact False.elim z
    | brk => exact False.elim z
    | cont => exact False.elim z
def tMakeKS (C : Addr) (m : Nat) (sp : Sp) (gV : List V → List V → List V) (E : L2.St → XK) (tk : TA) : TE := fun σ H Q => tk σ H fun zs H2 => zs.length = m ∧
  ∀ x dx, H2 x = none → H2 dx = none → dx ≠ x → sp (gV [.ref x] zs) (upd (upd H2 dx (.own x)) x (.ins C dx [])) (fun v H3 => v = .non ∧ Q (.ref x) H3) (E σ)
theorem pe_makeKS (M : Mk X.K C f) (F : FnOk X.prog X.w X.K X.mg X.base CX k f fd ps sp) (room : Room (k + 1) X.A) (gl : Gl X x) (mg : X.mg x = some (.ref C)) (kb : KBn X.K fd ps 1 ks g gV) (px : ∀ σ, PassesAt CX X σ (E σ)) (pk : PK X kws tk)
    (hall : (backToKw pos (keywordEach kws X.env)).all (·.1.isSome) = true := by rfl) (hks : (backToKw pos (keywordEach kws X.env)).filterMap (·.1) = ks := by rfl) (hdb : (x == ("__debug__" : Str)) = false := by decide)
    (hpl : ((backTo pos (starEach [] X.env)).any (·.1) || (backToKw pos (keywordEach kws X.env)).any (·.1.isNone)) = false := by rfl) :
    PE X (.Call (.Name x p) [] kws pos) (tMakeKS C ks.length sp gV E tk) := by
  refine ⟨fun pins s σ H Q I h => wpAny_Call_Name_kw (ld_glob I gl mg ?_ hdb)⟩
  refine PySem.W.callWith_KW0 (h₀ := X.base) I.ok.mod.kin M.kp hall (thn (pk.run pos pins s σ H _ I h) fun ws s1 z => ?_) hpl
  obtain ⟨zs, H1, I1, rz, l2, q⟩ := z
  refine ⟨I1.kIn, ?_⟩
  rw [hks]
  have q1 := q (s1.heap.objs.size + 1) s1.heap.objs.size (I1.hok.fresh (Nat.le_succ _)) (I1.hok.fresh (Nat.le_refl _)) (Nat.ne_of_lt (Nat.lt_succ_self _))
  have I2 := Inv.made (C := C) I1
  have r1 : Vals [V.ref (s1.heap.objs.size + 1)] [Value.ref (s1.heap.objs.size + 1)] := .cons rfl .nil
  have r2 := kb.rel r1 rz
  refine wpAny_call (make_map (f := f) I1.kIn M.makes M.init (beq_iff_eq.mp M.fn) (codeAny_mono (F.run _ X.stack _ _ ⟨[Value.ref (s1.heap.objs.size + 1)], ks.zip ws⟩ (g [Value.ref (s1.heap.objs.size + 1)] ws) _ _ (E σ)
    (room.make C [] (ks.zip ws)) (I2.env0.make C [] (ks.zip ws)) (kb.to _ [Value.ref (s1.heap.objs.size + 1)] ws I2.kIn rfl (rz.length.symm.trans l2)) r2 q1) fun r s' z => ?_))
  cases r with
  | error e => exact px σ pins _ _ e s' I2 z
  | ok fl =>
    cases fl with
    | ret u =>
      obtain ⟨v, H', I3, rv, ev, q3⟩ := I2.after z
      subst ev
      exact ⟨rv, ⟨V.ref (s1.heap.objs.size + 1), H', I3, rfl, q3⟩⟩
    | next => exact False.elim z
    | brk => exact False.elim z
    | cont => exact False.elim z
def tCallKS (m : Nat) (sp : Sp) (gV : List V → List V → List V) (E : L2.St → XK) (tk : TA) : TE := fun σ H Q => tk σ H fun zs H2 => zs.length = m ∧ sp (gV [] zs) H2 Q (E σ)
theorem pe_callKS (F : FnOk X.prog X.w X.K X.mg X.base CX k f fd ps sp) (room : Room k X.A) (gl : Gl X x) (mg : X.mg x = some (.ref f)) (kp : PySem.W.keepIn X.K (.ref f) = true) (kb : KBn X.K fd ps 0 ks g gV) (px : ∀ σ, PassesAt CX X σ (E σ)) (pk : PK X kws tk)
    (hall : (backToKw pos (keywordEach kws X.env)).all (·.1.isSome) = true := by rfl) (hks : (backToKw pos (keywordEach kws X.env)).filterMap (·.1) = ks := by rfl) (hdb : (x == ("__debug__" : Str)) = false := by decide)
    (hpl : ((backTo pos (starEach [] X.env)).any (·.1) || (backToKw pos (keywordEach kws X.env)).any (·.1.isNone)) = false := by rfl) :
    PE X (.Call (.Name x p) [] kws pos) (tCallKS ks.length sp gV E tk) := by
  refine ⟨fun pins s σ H Q I h => wpAny_Call_Name_kw (ld_glob I gl mg ?_ hdb)⟩
  refine PySem.W.callWith_KW0 (h₀ := X.base) I.ok.mod.kin kp hall (thn (pk.run pos pins s σ H _ I h) fun ws s1 z => ?_) hpl
  obtain ⟨zs, H1, I1, rz, l2, q⟩ := z
  refine ⟨I1.kIn, ?_⟩
  rw [hks]
  have rn : Vals [] [] := .nil
  have r2 := kb.rel rn rz
  refine wpAny_call (codeAny_mono (F.run X.A X.stack s1 H1 ⟨[], ks.zip ws⟩ (g [] ws) (gV [] zs) Q (E σ) room I1.env0 (kb.to s1 [] ws I1.kIn rfl (rz.length.symm.trans l2)) r2 q) fun r s' z => ?_)
  cases r with
  | error e => exact px σ pins _ _ e s' I1 z
  | ok fl =>
    cases fl with
    | ret u => exact I1.after z
    | next => exact False.elim z
    | brk => exact False.elim z
    | cont => exact False.elim z
end
end Xk
set_option Elab.async false
set_option linter.all false
set_option maxRecDepth 100000
set_option maxHeartbeats 4000000
set_option pp.maxSteps 400
set_option pp.deepTerms false
/-! Things of any kind: texts, numbers, truths, None, and lists, tuples, dicts of these, at any depth. -/
namespace Az
open PySem PySem.Spec PyProof.Rows L2
def keyD : Key → PyData
  | .inl i => .int i
  | .inr x => .str x
mutual
inductive Dz (K : PySem.W.Frag) (H : Hp) : V → PyData → Prop
  | non : Dz K H .non .none
  | bl (b : Bool) : Dz K H (.bl b) (.bool b)
  | int (i : Int) : Dz K H (.int i) (.int i)
  | str (x : Str) : Dz K H (.str x) (.str x)
  | lst {a : Addr} {xs : List V} {ds : List PyData} : H a = some (.lst xs) → a ≠ sysModules → DzAll K H xs ds → Dz K H (.ref a) (.list ds)
  | tup {a : Addr} {xs : List V} {ds : List PyData} : H a = some (.tup xs) → DzAll K H xs ds → Dz K H (.ref a) (.tuple ds)
  | dct {a : Addr} {kvs : List (Key × V)} {ds : List (PyData × PyData)} : H a = some (.dK kvs) → DzKv K H kvs ds → Dz K H (.ref a) (.dict ds)
inductive DzAll (K : PySem.W.Frag) (H : Hp) : List V → List PyData → Prop
  | nil : DzAll K H [] []
  | cons {v : V} {vs : List V} {d : PyData} {ds : List PyData} : Dz K H v d → DzAll K H vs ds → DzAll K H (v :: vs) (d :: ds)
inductive DzKv (K : PySem.W.Frag) (H : Hp) : List (Key × V) → List (PyData × PyData) → Prop
  | nil : DzKv K H [] []
  | cons {k : Key} {v : V} {kvs : List (Key × V)} {d : PyData} {ds : List (PyData × PyData)} : Dz K H v d → DzKv K H kvs ds → DzKv K H ((k, v) :: kvs) ((keyD k, d) :: ds)
end
section
variable {K : PySem.W.Frag} {H H' : Hp}
mutual
/-- what is read of a thing stays while its objects do -/
theorem Dz.keep (s : ∀ b o, H b = some o → (∀ x, o ≠ .own x) → H' b = some o) : ∀ {v : V} {d : PyData}, Dz K H v d → Dz K H' v d
  | _, _, .non => .non
  | _, _, .bl b => .bl b
  | _, _, .int i => .int i
  | _, _, .str x => .str x
  | _, _, .lst e n r => .lst (s _ _ e (fun _ z => by cases z)) n (DzAll.keep s r)
  | _, _, .tup e r => .tup (s _ _ e (fun _ z => by cases z)) (DzAll.keep s r)
  | _, _, .dct e r => .dct (s _ _ e (fun _ z => by cases z)) (DzKv.keep s r)
theorem DzAll.keep (s : ∀ b o, H b = some o → (∀ x, o ≠ .own x) → H' b = some o) : ∀ {v : List V} {d : List PyData}, DzAll K H v d → DzAll K H' v d
  | _, _, .nil => .nil
  | _, _, .cons h r => .cons (Dz.keep s h) (DzAll.keep s r)
theorem DzKv.keep (s : ∀ b o, H b = some o → (∀ x, o ≠ .own x) → H' b = some o) : ∀ {v : List (Key × V)} {d : List (PyData × PyData)}, DzKv K H v d → DzKv K H' v d
  | _, _, .nil => .nil
  | _, _, .cons h r => .cons (Dz.keep s h) (DzKv.keep s r)
end
theorem Dz.same {v : V} {d : PyData} (h : Dz K H v d) (s : L2.Same H H') : Dz K H' v d := h.keep fun b o e _ => s b o e
theorem DzAll.same {v : List V} {d : List PyData} (h : DzAll K H v d) (s : L2.Same H H') : DzAll K H' v d := h.keep fun b o e _ => s b o e
/-- the kind of a thing -/
def kindD : PyData → String
  | .none => "NoneType"
  | .bool _ => "bool"
  | .int _ => "int"
  | .str _ => "str"
  | .list _ => "list"
  | .tuple _ => "tuple"
  | .dict _ => "dict"
theorem Dz.ty {v : V} {d : PyData} (h : Dz K H v d) : TyX K H v (.type (kindD d)) := by
  cases h with
  | non => exact .base .non
  | bl b => exact .base (.bl b)
  | int i => exact .base (.int i)
  | str x => exact .base (.str x)
  | lst e _ _ => exact .base (.lst e)
  | tup e _ => exact .base (.tup e)
  | dct e _ => exact .base (.dK e)
end
section
variable {X : Cx} {pins : List (Addr × Obj)} {σ : L2.St} {H : Hp} {s : Shared}
theorem pairs_keys {P : Program} {w : World} : ∀ {es : List DictEntry} {vs : List (Key × Value)}, PySem.Pairs (mixKind P w) es vs → ∃ as, ReadsAll s.heap (es.map (·.key)) (vs.map fun p => keyD p.1) as ∧ as = []
  | _, _, .nil => ⟨[], .nil, rfl⟩
  | e :: es, (k, u) :: vs, .cons h1 h2 r => by
    obtain ⟨as, q, rfl⟩ := pairs_keys r
    rcases keyIs_shape (show keyIs k e.key = true from h1) with ⟨i, t, rfl, ek⟩ | ⟨x, t, rfl, ek⟩
    · refine ⟨[] ++ [], .cons ?_ q, rfl⟩
      show Reads s.heap e.key (.int i) []
      rw [ek]
      exact .int i t
    · refine ⟨[] ++ [], .cons ?_ q, rfl⟩
      show Reads s.heap e.key (.str x) []
      rw [ek]
      exact .str x t
theorem pairs_vals {P : Program} {w : World} : ∀ {es : List DictEntry} {vs : List (Key × Value)}, PySem.Pairs (mixKind P w) es vs → es.map (·.val) = vs.map (·.2)
  | _, _, .nil => rfl
  | e :: es, (k, u) :: vs, .cons h1 h2 r => by
    rw [List.map_cons, List.map_cons, pairs_vals r, h2]
mutual
theorem Dz.reads (I : Inv X pins σ H s) : ∀ (d : PyData) (v : V) (u : Value), Dz X.K H v d → RelV v u → ∃ as, Reads s.heap u d as ∧ sysModules ∉ as
  | .none, _, _, h, r => by
    cases h
    cases r
    exact ⟨[], .none, by simp⟩
  | .bool b, _, _, h, r => by
    cases h
    cases r
    exact ⟨[], .bool b, by simp⟩
  | .int i, _, _, h, r => by
    cases h
    obtain ⟨t, rfl⟩ := r
    exact ⟨[], .int i t, by simp⟩
  | .str x, _, _, h, r => by
    cases h
    obtain ⟨t, rfl⟩ := r
    exact ⟨[], .str x t, by simp⟩
  | .list ds, _, _, h, r => by
    cases h with
    | @lst a xs _ e ne ha =>
      cases r
      have ok : ObjOk X.prog X.w H s.heap a (.lst xs) := I.hok a _ e
      obtain ⟨_, its, n, rv, eh⟩ := ok
      obtain ⟨as, q, na⟩ := DzAll.reads I ds xs its ha rv
      refine ⟨a :: as, .list eh rfl rfl (by simpa using q), fun m => ?_⟩
      rcases List.mem_cons.mp m with z | z
      · exact ne z.symm
      · exact na z
  | .tuple ds, _, _, h, r => by
    cases h with
    | @tup a xs _ e ha =>
      cases r
      have ok : ObjOk X.prog X.w H s.heap a (.tup xs) := I.hok a _ e
      obtain ⟨_, its, rv, o, eh, ec, n, ed⟩ := ok
      obtain ⟨as, q, na⟩ := DzAll.reads I ds xs its ha rv
      exact ⟨as, .tuple eh ec ed (by simpa using q), na⟩
  | .dict ds, _, _, h, r => by
    cases h with
    | @dct a kvs _ e ha =>
      cases r
      obtain ⟨_, ne, vs, rel, o, es, ep, eh, ex, ed, _, pr, _⟩ := dk_of I.hok e
      obtain ⟨as, q1, rfl⟩ := pairs_keys (s := s) pr
      obtain ⟨bs, q2, nb⟩ := DzKv.reads I ds kvs vs ha rel
      have hk : (vs.map fun p => keyD p.1) = ds.map (·.1) := DzKv.keys ha rel
      rw [hk] at q1
      refine ⟨a :: [] ++ bs, .dict eh ex.1 ed q1 (by rw [pairs_vals pr]; exact q2), fun m => ?_⟩
      rcases List.mem_cons.mp m with z | z
      · rw [← z] at ne
        simp at ne
      · exact nb z
theorem DzAll.reads (I : Inv X pins σ H s) : ∀ (ds : List PyData) (vs : List V) (us : List Value), DzAll X.K H vs ds → Vals vs us → ∃ as, ReadsAll s.heap us ds as ∧ sysModules ∉ as
  | [], _, _, h, r => by
    cases h
    cases r
    exact ⟨[], .nil, by simp⟩
  | d :: ds, _, _, h, r => by
    cases h with
    | cons h1 h2 =>
      cases r with
      | cons r1 r2 =>
        obtain ⟨as, q1, n1⟩ := Dz.reads I d _ _ h1 r1
        obtain ⟨bs, q2, n2⟩ := DzAll.reads I ds _ _ h2 r2
        exact ⟨as ++ bs, .cons q1 q2, fun m => (List.mem_append.mp m).elim n1 n2⟩
theorem DzKv.reads (I : Inv X pins σ H s) : ∀ (ds : List (PyData × PyData)) (kvs : List (Key × V)) (vs : List (Key × Value)), DzKv X.K H kvs ds → KV kvs vs → ∃ as, ReadsAll s.heap (vs.map (·.2)) (ds.map (·.2)) as ∧ sysModules ∉ as
  | [], _, _, h, r => by
    cases h
    cases r
    exact ⟨[], .nil, by simp⟩
  | (_, d) :: ds, _, _, h, r => by
    cases h with
    | cons h1 h2 =>
      cases r with
      | cons r1 r2 =>
        obtain ⟨as, q1, n1⟩ := Dz.reads I d _ _ h1 r1.2
        obtain ⟨bs, q2, n2⟩ := DzKv.reads I ds _ _ h2 r2
        exact ⟨as ++ bs, .cons q1 q2, fun m => (List.mem_append.mp m).elim n1 n2⟩
theorem DzKv.keys {K : PySem.W.Frag} : ∀ {ds : List (PyData × PyData)} {kvs : List (Key × V)} {vs : List (Key × Value)}, DzKv K H kvs ds → KV kvs vs → (vs.map fun p => keyD p.1) = ds.map (·.1)
  | [], _, _, h, r => by
    cases h
    cases r
    rfl
  | (_, d) :: ds, _, _, h, r => by
    cases h with
    | cons h1 h2 =>
      cases r with
      | cons r1 r2 =>
        rw [List.map_cons, List.map_cons, DzKv.keys h2 r2, ← r1.1]
end
/-- repr of a thing -/
def rReprZ (K : PySem.W.Frag) : List V → Hp → VK → Prop := fun xs H Q => ∃ (v : V) (d : PyData), xs = [v] ∧ Dz K H v d ∧ d.showable = true ∧ d.depth ≤ 60 ∧ d.shown.length ≤ sizeLine ∧ Q (.str d.shown) H
theorem cr_reprZ {k : Nat} (quiet : X.A.guards = some []) (room : Room k X.A) : CallR X (.builtin "repr") (rReprZ X.K) := by
  intro pins s σ H xs us Q I r h
  obtain ⟨v, d, rfl, hd, hs, hp, hz, q⟩ := h
  obtain ⟨u, rfl, rx⟩ := vals1 r
  have hu := room.units
  cases hd with
  | non =>
    cases rx
    exact PySem.P.repr_of_none ⟨.str _, H, I.tok _, ⟨_, rfl⟩, q⟩
  | bl b =>
    cases rx
    exact PySem.P.repr_of_bool ⟨.str _, H, I.tok _, ⟨_, rfl⟩, q⟩
  | int i =>
    obtain ⟨t, rfl⟩ := rx
    exact PySem.P.repr_of_int (by simpa [PyData.showable] using hs) ⟨.str _, H, I.tok _, ⟨_, rfl⟩, q⟩
  | str x =>
    obtain ⟨t, rfl⟩ := rx
    exact PySem.P.repr_of_str ⟨.str _, H, I.tok _, ⟨_, rfl⟩, q⟩ hz
  | lst e n ha =>
    obtain ⟨as, rd, na⟩ := Dz.reads I _ _ u (.lst e n ha) rx
    cases rx
    exact repr_of_reads' rd hs (fun _ => na) quiet (by omega) (fun _ _ z => z) (fun h' u tk kept => ⟨.str _, H, I.kept kept, ⟨u, rfl⟩, q⟩) hz
  | tup e ha =>
    obtain ⟨as, rd, na⟩ := Dz.reads I _ _ u (.tup e ha) rx
    cases rx
    exact repr_of_reads' rd hs (fun _ => na) quiet (by omega) (fun _ _ z => z) (fun h' u tk kept => ⟨.str _, H, I.kept kept, ⟨u, rfl⟩, q⟩) hz
  | dct e ha =>
    obtain ⟨as, rd, na⟩ := Dz.reads I _ _ u (.dct e ha) rx
    cases rx
    exact repr_of_reads' rd hs (fun _ => na) quiet (by omega) (fun _ _ z => z) (fun h' u tk kept => ⟨.str _, H, I.kept kept, ⟨u, rfl⟩, q⟩) hz
/-- a list of written items: new, and no table of modules -/
def tLstZ (t : TA) : TE := fun σ H Q => t σ H fun xs H1 => xs.length ≤ sizeLine ∧ ∀ p, H1 p = none → p ≠ sysModules → Q (.ref p) (upd H1 p (.lst xs))
theorem pe_lstZ {es : List Expr} {t : TA} {pos : Pos} (h : PA X es t) : PE X (.List es pos) (tLstZ t) := by
  refine ⟨fun pins s σ H Q I hq => wpAny_List_spliced (thn (h.run pos pins s σ H _ I hq) fun us s1 z => ?_)⟩
  obtain ⟨xs, H1, I1, r, z, q⟩ := z
  refine ⟨by rw [← r.length]; exact z, ?_⟩
  have new : H1 s1.heap.objs.size = none := I1.hok.fresh (Nat.le_refl _)
  refine ⟨.ref s1.heap.objs.size, upd H1 s1.heap.objs.size (.lst xs), I1.laid (t' := s1.toks) (fun b u e => Heap.get?_push_of_some _ e) (Nat.le_refl _) ?_, rfl, q _ new (Nat.ne_of_gt I1.big)⟩
  exact ⟨z, us, 0, r, Heap.get?_push_size _ rfl⟩
end
end Az
namespace Az
open PySem PySem.Spec PyProof.Rows L2
/-- a thing that is shown in n signs at most, at most k deep -/
structure Nice (d : PyData) (k n : Nat) : Prop where
  sh : d.showable = true
  dp : d.depth ≤ k
  sz : d.shown.length ≤ n
theorem Nice.mono {d : PyData} {k k' n n' : Nat} (h : Nice d k n) (hk : k ≤ k') (hn : n ≤ n') : Nice d k' n' := ⟨h.sh, Nat.le_trans h.dp hk, Nat.le_trans h.sz hn⟩
theorem nice_int {i : Int} {n : Nat} (h : i.natAbs.log2 < 1920) (hn : (Str.ofString (toString i)).length ≤ n) : Nice (.int i) 0 n :=
  ⟨by simpa [PyData.showable] using h, by simp [PyData.depth], by simpa [PyData.shown] using hn⟩
theorem nice_none : Nice .none 0 4 := ⟨by simp [PyData.showable], by simp [PyData.depth], by simp only [PyData.shown]; decide +kernel⟩
theorem nice_bool (b : Bool) : Nice (.bool b) 0 5 := ⟨by simp [PyData.showable], by simp [PyData.depth], by simp only [PyData.shown]; cases b <;> decide +kernel⟩
theorem nice_str {x : Str} {n : Nat} (h : (reprText x).length ≤ n) : Nice (.str x) 0 n := ⟨by simp [PyData.showable], by simp [PyData.depth], by simpa [PyData.shown] using h⟩
theorem list_le : ∀ ts : List Str, (listText ts).length ≤ piled ts + 2
  | [] => by decide +kernel
  | t :: ts => by
    have e : (textFrom 0 "[" (t :: ts)).length = 1 + t.length + piled ts := by
      show (textFrom 1 (("[" : Str) ++ ((if 0 > 0 then ", " else "" : String) : Str) ++ t) ts).length = _
      rw [textFrom_length_pos ts 1 _ (by decide), strLen_append, strLen_append]
      rfl
    unfold listText
    rw [strLen_append, e, piled_cons]
    show 1 + t.length + piled ts + 1 ≤ _
    omega
theorem dict_le (ps : List Str) : (dictText ps).length ≤ piled ps + 2 := by
  unfold dictText
  rw [strLen_append, strLen_append]
  show 1 + (Str.join ", " ps).length + 1 ≤ _
  cases ps with
  | nil => decide
  | cons p r =>
    have := join_length_add (p :: r) (by simp)
    omega
theorem nice_tup1 {d : PyData} {k n : Nat} (h : Nice d k n) : Nice (.tuple [d]) (k + 1) (n + 4) := by
  refine ⟨by simp [PyData.showable, PyData.showableAll, h.sh], ?_, ?_⟩
  · simp only [PyData.depth, PyData.depthAll]
    have := h.dp
    omega
  · simp only [PyData.shown, PyData.shownAll]
    have a := fmt_text [d.shown]
    simp only [piled_cons, piled_nil] at a
    have := h.sz
    omega
theorem nice_lst1 {d : PyData} {k n : Nat} (h : Nice d k n) : Nice (.list [d]) (k + 1) (n + 4) := by
  refine ⟨by simp [PyData.showable, PyData.showableAll, h.sh], ?_, ?_⟩
  · simp only [PyData.depth, PyData.depthAll]
    have := h.dp
    omega
  · simp only [PyData.shown, PyData.shownAll]
    have a := list_le [d.shown]
    simp only [piled_cons, piled_nil] at a
    have := h.sz
    omega
theorem nice_dct1 {d : PyData} {k n m : Nat} {x : Str} (hx : (reprText x).length ≤ m) (h : Nice d k n) : Nice (.dict [(.str x, d)]) (k + 1) (n + m + 6) := by
  refine ⟨by simp [PyData.showable, PyData.showableKv, h.sh], ?_, ?_⟩
  · simp only [PyData.depth, PyData.depthKv]
    have := h.dp
    omega
  · simp only [PyData.shown, PyData.shownKv]
    have a := dict_le [reprText x ++ ": " ++ d.shown]
    simp only [piled_cons, piled_nil, strLen_append] at a
    have c : ((": " : Str)).length = 2 := by decide +kernel
    have := h.sz
    omega
theorem nice_tup0 : Nice (.tuple []) 1 2 := ⟨by simp [PyData.showable, PyData.showableAll], by simp [PyData.depth, PyData.depthAll], by simp only [PyData.shown, PyData.shownAll]; decide +kernel⟩
theorem nice_lst0 : Nice (.list []) 1 2 := ⟨by simp [PyData.showable, PyData.showableAll], by simp [PyData.depth, PyData.depthAll], by simp only [PyData.shown, PyData.shownAll]; decide +kernel⟩
theorem nice_dct0 : Nice (.dict []) 1 2 := ⟨by simp [PyData.showable, PyData.showableKv], by simp [PyData.depth, PyData.depthKv], by simp only [PyData.shown, PyData.shownKv]; decide +kernel⟩
end Az
set_option Elab.async false
set_option linter.all false
set_option maxRecDepth 100000
set_option maxHeartbeats 4000000
namespace K5
open PySem PySem.Spec PyProof.Rows L2
/-! ## defs that show things: promises where no showing is under way -/
structure Gn (P : Program) (w : World) (K : PySem.W.Frag) (mg : Str → Option Value) (base : Heap) (k : Nat) (f : Addr) (fd : FuncData) (ps : List Str) (sp : Sp) : Prop where
  many : ∀ vs H Q E, sp vs H Q E → vs.length = ps.length
  go : ∀ (A : Around) (outer : List Env) (s : Shared) (H : Hp) (args : Args) (us : List Value) (vs : List V) (Q : VK) (E : XK), A.guards = some [] → Room k A →
    Env0 P w K mg base A outer s H → BindsTo s fd args (ps.zip us) → Vals vs us → sp vs H Q E → codeAny (model P w) A (.call (.ref f) args) (CR CX0 outer P w H s Q E) s
section
variable {P : Program} {w : World} {K : PySem.W.Frag} {mg : Str → Option Value} {base : Heap}
theorem gn_body {x qual : Str} {st : Stmt} {f : Addr} {fd : FuncData} {N ps : List Str} {k : Nat} {sp : Sp} (F : Fun K x qual st f fd) (S : FnScope N ps (defScope st))
    (many : ∀ vs H Q E, sp vs H Q E → vs.length = ps.length)
    (body : ∀ (cdv : Value) (A : Around) (outer : List Env) (s : Shared) (H : Hp) (vs : List V) (Q : VK) (E : XK), A.guards = some [] →
      Room k (A.deeper (envOfC qual (defScope st) s.heap.objs.size f cdv)) → sp vs H Q E →
      ∃ t, PSs (cxOf CX0 P w K mg base N qual (defScope st) f cdv A outer s H E).nox (defBody st) t ∧ t { nx := fun _ H' => Q .non H', rt := Q } (start N vs) H) :
    Gn P w K mg base (k + 1) f fd ps sp := by
  obtain ⟨oc, od, kV, doc, pm, an, cdv, ct, osl, rfl, lk, hcd⟩ := F.ex
  refine ⟨many, fun A outer s H args us vs Q E hg room en bd rv hsp => ?_⟩
  have kin : K.In s.heap := en.mod.kin.keeps fun b o q => (en.bs b o q).1
  refine Att.call_fn kin (en.mod.nolimit.keeps fun b o q => (en.bs b o q).1) lk hcd room.depth bd ?_ (fun s1 inc => ?_) S.co S.gen S.kind
  · refine List.all_eq_true.mpr fun y hy => ?_
    rcases S.par y.1 (List.of_mem_zip (a := y.1) (b := y.2) hy).1 with q | q
    · rw [q]; rfl
    · rw [q]; rfl
  · obtain ⟨t, ht, hq⟩ := body cdv A outer s H vs Q E hg (room.deeper _) hsp
    have I := inv_start (CX := CX0) (E := E) S room.hd en (many _ _ _ _ hsp) rv inc
    refine wpAny_mono (ht.nox.run [] s1 _ H _ I hq) (fun fl s' hs => ?_) fun _ _ z => z
    cases fl with
    | ret u =>
      obtain ⟨v, _, H', J, r, q⟩ := hs
      exact ⟨v, H', J.os, J.bare, J.base, J.hok, r, q⟩
    | next =>
      obtain ⟨_, H', J, q⟩ := hs
      exact ⟨.non, H', J.os, J.bare, J.base, J.hok, rfl, q⟩
    | brk =>
      obtain ⟨_, _, _, z⟩ := hs
      exact False.elim z
    | cont =>
      obtain ⟨_, _, _, z⟩ := hs
      exact False.elim z
end
section
variable {X : Cx} {k : Nat} {f : Addr} {fd : FuncData} {ps : List Str} {sp : Sp} {x : Str} {p pos : Pos} {e : Expr} {es : List Expr} {t : TA}
theorem pe_gn (F : Gn X.prog X.w X.K X.mg X.base k f fd ps sp) (quiet : X.A.guards = some []) (room : Room k X.A) (gl : Gl X x) (mgf : X.mg x = some (.ref f))
    (kp : PySem.W.keepIn X.K (.ref f) = true) (bd : Binds X.K fd ps []) (ha : PA X (e :: es) t) (hdb : (x == ("__debug__" : Str)) = false := by decide)
    (he : starEach (e :: es) X.env = (false, eval e X.env) :: starEach es X.env := by rfl) (hpl : (backTo pos (starEach es X.env)).any (·.1) = false := by rfl) :
    PE X (.Call (.Name x p) (e :: es) [] pos) (tCall sp [] E0 t) := by
  refine ⟨fun pins s σ H Q I h => wpAny_Call_Name_kw (ld_glob I gl mgf ?_ hdb)⟩
  refine PySem.W.callWith_K (h₀ := X.base) I.ok.mod.kin kp ?_ he hpl
  refine thn (ha.run pos pins s σ H _ I h) fun us s1 z => ?_
  obtain ⟨vs, H1, I1, rv, q⟩ := z
  have q' : sp vs H1 Q E0 := by
    have z := q
    rw [List.append_nil] at z
    exact z
  have many : us.length = ps.length := rv.length.symm.trans (F.many _ _ _ _ q')
  have b1 := bd s1 us I1.kIn (by rw [List.append_nil]; exact many)
  rw [List.append_nil] at b1
  refine ⟨I1.kIn, wpAny_call (codeAny_mono (F.go X.A X.stack s1 H1 ⟨us, []⟩ us vs Q E0 quiet room I1.env0 b1 rv q') fun r s' hr => ?_)⟩
  cases r with
  | error z => exact False.elim hr
  | ok fl =>
    cases fl with
    | ret u => exact I1.after hr
    | next => exact False.elim hr
    | brk => exact False.elim hr
    | cont => exact False.elim hr
/-- repr of data at any depth -/
theorem cr_reprD (quiet : X.A.guards = some []) (room : Room k X.A) : CallR X (.builtin "repr") (fun xs H Q => ∃ (a : Addr) (d : PyData), xs = [.ref a] ∧ Dp X.K H (.ref a) d ∧ d.showable = true ∧ d.hasDict = false ∧
    d.depth ≤ 50 ∧ d.shown.length ≤ sizeLine ∧ Q (.str d.shown) H) := by
  intro pins s σ H xs us Q I r h
  obtain ⟨a, d, rfl, hd, hs, hn, hp, hz, q⟩ := h
  obtain ⟨u, rfl, rx⟩ := vals1 r
  obtain ⟨as, rd⟩ := Dp.reads I d _ u hd rx
  cases rx
  have hu := room.units
  exact repr_of_reads' rd hs (fun z => absurd (hn.symm.trans z) Bool.false_ne_true) quiet (by omega) (fun _ _ z => z) (fun h' u tk kept => ⟨.str d.shown, H, I.kept kept, ⟨u, rfl⟩, q⟩) hz
theorem cr_repr_bl : CallR X (.builtin "repr") (fun xs H Q => ∃ b : Bool, xs = [.bl b] ∧ Q (.str (if b then "True" else "False")) H) := by
  intro pins s σ H xs us Q I r h
  obtain ⟨b, rfl, q⟩ := h
  obtain ⟨u, rfl, rx⟩ := vals1 r
  cases rx
  exact PySem.P.repr_of_bool ⟨.str _, H, I.tok _, ⟨_, rfl⟩, q⟩
end
end K5
set_option Elab.async false
set_option linter.all false
set_option maxRecDepth 100000
set_option maxHeartbeats 4000000
namespace K5
open PySem PySem.Spec PyProof.Rows L2
theorem law_go {P : Program} {w : World} {K : PySem.W.Frag} {mg mb : Str → Option Value} {k : Nat} {fa a : Addr} {fd : FuncData} {x : Str} {sp : Sp} {z : Shared} {vs : List Value} {ns : List Int}
    (kin : K.In z.heap) (nsG : z.heap.Ns mainGlobals mg) (nsB : z.heap.Ns builtinsNs mb) (same : ∀ y : Str, y ≠ "__name__" → mb y = bootBuiltins y) (lim : z.heap.NoLimit) (dig : z.heap.NoDigits) (no : z.gens = #[])
    (at_ : z.heap.get? a = some { cls := .type "list", data := .seq vs.toArray }) (intsA : IntsAre vs ns) (many : ns.length ≤ sizeLine) (room : Room k callerA)
    (F : ∀ base : Heap, K.In base → base.Ns mainGlobals mg → base.NoDigits → Gn P w K mg base k fa fd [x] sp) (bind : ∀ (s : Shared) (u : Value), BindsTo s fd ⟨[u], []⟩ [(x, u)])
    (hsp : ∀ H : Hp, SqL K H a (ns.map V.int) → sp [.ref a] H (fun v _ => v = .bl true) fun _ _ _ => False) :
    codeAny (model P w) callerA (.call (.ref fa) ⟨[.ref a], []⟩) (fun r s' => r = .ok (.ret (.bool true)) ∧ OldK z.heap s'.heap ∧ s'.os = z.os ∧ AllBare s'.gens) z := by
  have rv : Vals (ns.map V.int) vs := vals_ints intsA
  have sz : (ns.map V.int).length ≤ sizeLine := by rw [List.length_map]; exact many
  -- what is tracked: the script, unless it is the module's own
  let u : HO := .frz { cls := .type "list", data := .seq vs.toArray } (.lst (ns.map V.int))
  let H : Hp := fun b => if b = a ∧ K.lookup a = none then some u else none
  have only : ∀ b o, H b = some o → b = a ∧ K.lookup a = none ∧ o = u := fun b o e => by
    by_cases c : b = a ∧ K.lookup a = none
    · have e2 : H b = some u := if_pos c
      rw [e2] at e
      exact ⟨c.1, c.2, (Option.some.inj e).symm⟩
    · have e2 : H b = none := if_neg c
      rw [e2] at e
      cases e
  have sq : SqL K H a (ns.map V.int) := by
    cases hk : K.lookup a with
    | none => exact .inl (.inr ⟨_, if_pos ⟨rfl, hk⟩⟩)
    | some o =>
      have e := kin a o hk
      rw [at_] at e
      cases e
      exact .inr ⟨_, vs.toArray, _, hk, rfl, rfl, rfl, by rw [List.size_toArray, ← rv.length]; exact sz, by simpa using rv⟩
  have hok : HOk P w H z.heap := fun b o e => by
    obtain ⟨rfl, _, rfl⟩ := only b o e
    exact ⟨at_, sz, vs, _, rv, at_⟩
  have dictFree : ∀ {b : Addr} {o : Obj} {es : Array DictEntry} {ep : Nat}, z.heap.get? b = some o → o.data = .dict es ep → H b = none := fun {b o es ep} e d => by
    cases q : H b with
    | none => rfl
    | some v =>
      obtain ⟨rfl, _, _⟩ := only b v q
      rw [at_] at e
      cases e
      cases (show Data.seq vs.toArray _ = Data.dict es ep from d)
  have nsK : ∀ {b : Addr} {m : Str → Option Value}, z.heap.Ns b m → (hidT z.heap H).Ns b m := fun {b m} q => by
    obtain ⟨o, es, ep, e, d, r⟩ := q
    exact ⟨o, es, ep, hidT_get e (dictFree e d), d, r⟩
  have kb : K.In (hidT z.heap H) := fun b o e => by
    refine hidT_get (kin b o e) ?_
    cases q : H b with
    | none => rfl
    | some v =>
      obtain ⟨rfl, n, _⟩ := only b v q
      rw [n] at e
      cases e
  have limB : (hidT z.heap H).NoLimit := by
    obtain ⟨mc, h1, h2⟩ := lim
    exact ⟨mc, nsK h1, h2⟩
  have digB : (hidT z.heap H).NoDigits := by
    obtain ⟨mc, h1, h2⟩ := dig
    exact ⟨mc, nsK h1, h2⟩
  have en : Env0 P w K mg (hidT z.heap H) callerA [] z H :=
    ⟨rfl, ⟨kb, nsK nsG, ⟨mb, nsK nsB, same⟩, limB⟩, fun _ _ e => of_hidT e, Nat.le_of_eq (hidT_size _ _), trivial, (fun b hb => absurd (show b ∈ ([] : List Addr) from hb) List.not_mem_nil), hok, .of_eq no⟩
  refine codeAny_mono ((F _ kb (nsK nsG) digB).go callerA [] z H ⟨[.ref a], []⟩ [.ref a] [.ref a] _ _ rfl room en (bind z (.ref a)) (.cons rfl .nil) (hsp H sq)) fun r s' h => ?_
  match r, h with
  | .error e, h => exact False.elim h
  | .ok .next, h => exact False.elim h
  | .ok .brk, h => exact False.elim h
  | .ok .cont, h => exact False.elim h
  | .ok (.ret y), h =>
    obtain ⟨v, H', os, bare, un, hok', r', q⟩ := h
    obtain rfl : v = .bl true := q
    obtain rfl : y = Value.bool true := r'
    refine ⟨rfl, OldK.of_keep fun b o e => ?_, os, bare⟩
    cases q : H b with
    | none => exact un.keep b o e q (fun y => by cases y) (fun y => by cases y)
    | some v =>
      obtain ⟨rfl, _, rfl⟩ := only b v q
      have e2 := (hok' _ _ (un.frzs _ _ _ q)).1
      rw [at_] at e
      cases e
      exact e2
theorem walk_go {l : PySem.W.OpenLaw} {n k : Nat} {q : Program} {loose : List Str} {XP : (Str → Option Value) → Heap → Prop} {YP : World → Heap → Prop} {d : DefRec} {K : Params → PySem.W.Frag} {sp : PySem.W.Frag → Sp} {x : Str}
    (most : l.most = some n) (small : n ≤ sizeLine) (nodef : d.params.defaults = []) (room : Room k callerA) (hY : ∀ (w : World) (h : Heap), YP w h → (K w.params).In h)
    (F : ∀ (w : World) (mg : Str → Option Value) (fa : Addr) (h : Heap), (K w.params).In h → h.Ns mainGlobals mg → mg d.name = some (.ref fa) →
      ∃ fd : FuncData, (∀ (s : Shared) (u : Value), BindsTo s fd ⟨[u], []⟩ [(x, u)]) ∧ ∀ base : Heap, (K w.params).In base → base.Ns mainGlobals mg → base.NoDigits →
        Gn l.prog w (K w.params) mg base k fa fd [x] (sp (K w.params)))
    (hsp : ∀ (K : PySem.W.Frag) (H : Hp) (a : Addr) (ns : List Int), ns.length ≤ n → SqL K H a (ns.map V.int) → sp K [.ref a] H (fun v _ => v = .bl true) fun _ _ _ => False) :
    PySem.W.WalkO q loose XP YP l.row.toRowW d [] (fun f vs => PySem.call f vs) := by
  refine Att.attach_call most nodef fun w s₀ s₁ mg mb fa o pm cd doc a vs ns G Y _ _ _ hmg hobj hints hlen hg => ?_
  have kin := hY w _ Y
  obtain ⟨fd, hb, hF⟩ := F w mg fa _ kin G.T.g hmg
  exact law_go kin G.T.g G.T.b G.T.builtins G.T.nolimit G.T.nodigits hg hobj hints (Nat.le_trans hlen small) room hF hb fun H hS => hsp _ H a ns hlen hS
end K5
set_option Elab.async false
set_option linter.all false
set_option maxRecDepth 100000
set_option maxHeartbeats 4000000
set_option pp.maxSteps 400
set_option pp.deepTerms false
namespace K5
open PySem PySem.Spec PyProof.Rows L2
/-! ## == by a class's own __eq__, either way about -/
/-- what the written part says of the class -/
structure OwnC (K : PySem.W.Frag) (C f : Addr) : Prop where
  eq : PySem.W.findIn K (.ref C) "__eq__" = some (some (.ref f))
  fn : PySem.W.isFn K (.ref f) = true
  ne : PySem.W.findIn K (.ref C) "__ne__" = some (some (.builtin "object.__ne__"))
  mo : PySem.W.mroIn K C (.type "object") = some true
  sInt : PySem.W.subIn K (.ref C) (.type "int") = some false
  sStr : PySem.W.subIn K (.ref C) (.type "str") = some false
  sNon : PySem.W.subIn K (.ref C) (.type "NoneType") = some false
  sTup : PySem.W.subIn K (.ref C) (.type "tuple") = some false
  sLst : PySem.W.subIn K (.ref C) (.type "list") = some false
section
variable {X : Cx} {pins : List (Addr × Obj)} {σ : L2.St} {H : Hp} {n : Nat} {f C : Addr} {fd : FuncData} {ps : List Str} {sp : Sp}
/-- the end of such a comparison: a truth -/
def BP (X : Cx) (pins : List (Addr × Obj)) (σ : L2.St) (Q : Bool → Hp → Prop) (u : Value) (s' : Shared) : Prop := ∃ b H', u = .bool b ∧ Inv X pins σ H' s' ∧ Q b H'
theorem own_call {A : Around} {s : Shared} {a : Addr} {y : V} {v : Value} {Q : Bool → Hp → Prop} {E : Value → Shared → Prop} (fr : A.frames = some X.stack) (room : Room n A) (F : FnOk X.prog X.w X.K X.mg X.base CX0 n f fd ps sp) (bd : Binds X.K fd ps [])
    (I : Inv X pins σ H s) (rv : RelV y v) (hsp : sp [.ref a, y] H (fun z H' => ∃ b, z = .bl b ∧ Q b H') E0) : wpAny (model X.prog X.w) A (call (.ref f) [.ref a, v]) (BP X pins σ Q) E s := by
  have en : Env0 X.prog X.w X.K X.mg X.base A X.stack s H := by
    have z := I.env0
    exact ⟨fr, z.mod, z.bs, z.bsz, z.funs, z.frf, z.hok, z.bare⟩
  have hl : [V.ref a, y].length = ps.length := F.len _ _ _ _ hsp
  have b1 := bd s [.ref a, v] I.kIn (by simpa using hl)
  rw [List.append_nil] at b1
  refine wpAny_call (codeAny_mono (F.run A X.stack s H ⟨[.ref a, v], []⟩ [.ref a, v] [.ref a, y] _ E0 room en b1 (.cons rfl (.cons rv .nil)) hsp) fun r s2 hr => ?_)
  match r, hr with
  | .error z, hr => exact False.elim hr
  | .ok .next, hr => exact False.elim hr
  | .ok .brk, hr => exact False.elim hr
  | .ok .cont, hr => exact False.elim hr
  | .ok (.ret u), hr =>
    obtain ⟨z, H2, I2, rz, b, rfl, q⟩ := I.after hr
    cases rz
    exact ⟨b, H2, rfl, I2, q⟩
theorem rc_L {A : Around} {s : Shared} {a dx : Addr} {fs : List (Str × V)} {y : V} {v tb : Value} {Q : Bool → Hp → Prop} {E : Value → Shared → Prop} (W : OwnC X.K C f) (fr : A.frames = some X.stack) (room : Room n A)
    (F : FnOk X.prog X.w X.K X.mg X.base CX0 n f fd ps sp) (bd : Binds X.K fd ps []) (I : Inv X pins σ H s) (ha : H a = some (.ins C dx fs)) (rv : RelV y v) (hb : PySem.W.Looks (model X.prog X.w) s.heap (typeOf v) tb)
    (nf : PySem.W.notFirst X.K C tb = true) (hsp : sp [.ref a, y] H (fun z H' => ∃ b, z = .bl b ∧ Q b H') E0) : wpAny (model X.prog X.w) A (richCompare .Eq (.ref a) v) (BP X pins σ Q) E s := by
  obtain ⟨mA, J, _⟩ := ins_get I.hok ha
  obtain ⟨od, J, _⟩ := J.look
  obtain ⟨m, hF⟩ := I.fr
  refine PySem.W.cmp_K (op := .Eq) room.units0 hF I.ok.mod.kin J hb nf W.eq W.fn (wpAny_mono (own_call fr room F bd I rv hsp) (fun u s' hu => ?_) fun _ _ z => z)
  obtain ⟨b, H', rfl, I', q⟩ := hu
  exact ⟨b, H', rfl, I', q⟩
/-- a builtin's own == has no answer, then the class's own is asked -/
theorem rc_R {A : Around} {s : Shared} {a dx : Addr} {fs : List (Str × V)} {y : V} {v : Value} {T id : String} {Q : Bool → Hp → Prop} {E : Value → Shared → Prop} (W : OwnC X.K C f) (fr : A.frames = some X.stack) (room : Room n A)
    (F : FnOk X.prog X.w X.K X.mg X.base CX0 n f fd ps sp) (bd : Binds X.K fd ps []) (I : Inv X pins σ H s) (ha : H a = some (.ins C dx fs)) (rv : RelV y v) (hT : s.TypeIs v T) (one : oneThing? .Eq v (.ref a) = none)
    (sub : PySem.W.subIn X.K (.ref C) (.type T) = some false) (slot : Slot T "__eq__" id) (dec : ∀ E', wpAny (model X.prog X.w) A (call (.builtin id) [v, .ref a]) (fun u s' => u = .notImplemented ∧ s' = s) E' s)
    (hsp : sp [.ref a, y] H (fun z H' => ∃ b, z = .bl b ∧ Q b H') E0) : wpAny (model X.prog X.w) A (richCompare .Eq v (.ref a)) (BP X pins σ Q) E s := by
  obtain ⟨mA, J, _⟩ := ins_get I.hok ha
  obtain ⟨od, J, _⟩ := J.look
  have two : wpAny (model X.prog X.w) A (tryCompare (.ref a) "__eq__" v) (fun r s' => ∃ u, r = some u ∧ BP X pins σ Q u s') E s := by
    unfold tryCompare
    refine wpAny_bind (PySem.W.ifBound_K I.kIn J W.eq W.fn (wpAny_mono (own_call fr room F bd I rv hsp) (fun u s' hu => ?_) fun _ _ z => z))
    obtain ⟨b, H', rfl, I', q⟩ := hu
    exact wpAny_pure ⟨_, rfl, b, H', rfl, I', q⟩
  have first : wpAny (model X.prog X.w) A (tryCompare v "__eq__" (.ref a)) (fun r s' => r = none ∧ s' = s) E s :=
    wpAny_tryCompare_declines hT slot (wpAny_mono (dec E) (fun u s' z => ⟨z.1, rfl, z.2⟩) fun _ _ z => z)
  simp only [richCompare, cmpInfo_Eq, one]
  refine wpAny_holding (wpAny_bind (wpAny_cRoomFor room.units0 ?_))
  refine wpAny_bind (wpAny_typeOf hT (wpAny_bind (J.type.here ?_)))
  split
  · refine wpAny_bind ((PySem.W.looks_subIn I.kIn sub).here ?_)
    simp only [Bool.false_eq_true, if_false, Bool.not_false, if_true]
    refine wpAny_bind (m := tryCompare v _ (.ref a)) (wpAny_mono first (fun r s1 z => ?_) fun _ _ e => e)
    obtain ⟨z1, z2⟩ := z
    subst z1
    subst z2
    refine wpAny_bind (m := tryCompare (.ref a) _ v) (wpAny_mono two (fun r s2 z => ?_) fun _ _ e => e)
    obtain ⟨u, rfl, q⟩ := z
    exact wpAny_pure q
  · rename_i q
    exact absurd (by simp) q
end
end K5
set_option Elab.async false
set_option linter.all false
set_option maxRecDepth 100000
set_option maxHeartbeats 4000000
set_option pp.maxSteps 400
set_option pp.deepTerms false
namespace K5
open PySem PySem.Spec PyProof.Rows L2
section
variable {prog : Program} {w : World} {A : Around} {E : Value → Shared → Prop} {s : Shared} {a C dx : Addr} {K : PySem.W.Frag} {ox : Obj} {od : Option Obj}
theorem dec_none : wpAny (model prog w) A (call (.builtin "NoneType.__eq__") [.none, .ref a]) (fun u s' => u = .notImplemented ∧ s' = s) E s := by
  refine GQ.call_here F.slot_NoneType_eq (T := "NoneType") rfl F.entry_NoneType_eq (F.args_NoneType_eq_2 _ _) ?_
  wp_walk
  exact ⟨rfl, rfl⟩
theorem dec_int {i : Int} {t : Tok} (ho : s.heap.get? a = some (PySem.W.instObj C dx)) : wpAny (model prog w) A (call (.builtin "int.__eq__") [.int i t, .ref a]) (fun u s' => u = .notImplemented ∧ s' = s) E s := by
  refine GQ.call_here F.slot_int_eq (typeIs_int _ _ _) F.entry_int_eq (F.args_int_eq_2 _ _) ?_
  wp_walk using wpAny_load ho
  exact ⟨rfl, rfl⟩
theorem dec_str {i : Str} {t : Tok} (ho : s.heap.get? a = some (PySem.W.instObj C dx)) : wpAny (model prog w) A (call (.builtin "str.__eq__") [.str i t, .ref a]) (fun u s' => u = .notImplemented ∧ s' = s) E s := by
  refine GQ.call_here F.slot_str_eq (typeIs_str _ _ _) F.entry_str_eq (F.args_str_eq_2 _ _) ?_
  wp_walk using wpAny_load ho
  exact ⟨rfl, rfl⟩
theorem isi_no {T : String} {Q : Bool → Shared → Prop} (J : PySem.W.InstAt s.heap a ox C od) (kin : K.In s.heap) (sub : PySem.W.subIn K (.ref C) (.type T) = some false) (h : Q false s) : wpAny (model prog w) A (isInstance (.ref a) (.type T)) Q E s := by
  unfold isInstance
  exact wpAny_bind (J.type.here ((PySem.W.looks_subIn kin sub).here h))
theorem dec_tup {t : Addr} (hT : s.TypeIs (.ref t) "tuple") (J : PySem.W.InstAt s.heap a ox C od) (kin : K.In s.heap) (sub : PySem.W.subIn K (.ref C) (.type "tuple") = some false) :
    wpAny (model prog w) A (call (.builtin "tuple.__eq__") [.ref t, .ref a]) (fun u s' => u = .notImplemented ∧ s' = s) E s := by
  refine GQ.call_here F.slot_tuple_eq hT F.entry_tuple_eq (F.args_tuple_eq_2 _ _) ?_
  wp_walk using isi_no J kin sub
  exact ⟨rfl, rfl⟩
theorem dec_lst {t : Addr} (hT : s.TypeIs (.ref t) "list") (J : PySem.W.InstAt s.heap a ox C od) (kin : K.In s.heap) (sub : PySem.W.subIn K (.ref C) (.type "list") = some false) :
    wpAny (model prog w) A (call (.builtin "list.__eq__") [.ref t, .ref a]) (fun u s' => u = .notImplemented ∧ s' = s) E s := by
  refine GQ.call_here F.slot_list_eq hT F.entry_list_eq (F.args_list_eq_2 _ _) ?_
  wp_walk using isi_no J kin sub
  exact ⟨rfl, rfl⟩
end
section
variable {X : Cx} {pins : List (Addr × Obj)} {σ : L2.St} {H : Hp} {n : Nat} {f C : Addr} {fd : FuncData} {ps : List Str} {sp : Sp}
/-- != of two instances -/
theorem rc_N {A : Around} {s : Shared} {a dx : Addr} {fs : List (Str × V)} {y : V} {v tb : Value} {Q : Bool → Hp → Prop} {E : Value → Shared → Prop} (W : OwnC X.K C f) (fr : A.frames = some X.stack) (room : Room (n + 1) A)
    (F : FnOk X.prog X.w X.K X.mg X.base CX0 n f fd ps sp) (bd : Binds X.K fd ps []) (I : Inv X pins σ H s) (ha : H a = some (.ins C dx fs)) (rv : RelV y v) (hb : PySem.W.Looks (model X.prog X.w) s.heap (typeOf v) tb)
    (nf : PySem.W.notFirst X.K C tb = true) (hsp : sp [.ref a, y] H (fun z H' => ∃ b, z = .bl b ∧ Q (!b) H') E0) : wpAny (model X.prog X.w) A (richCompare .NotEq (.ref a) v) (BP X pins σ Q) E s := by
  obtain ⟨mA, J, _⟩ := ins_get I.hok ha
  obtain ⟨od, J, _⟩ := J.look
  have inner : wpAny (model X.prog X.w) A.in1 (Builtin.«object.__ne__» ⟨[.ref a, v], []⟩) (fun fl s' => ∃ u, fl = .done (.ret u) ∧ u ≠ .notImplemented ∧ BP X pins σ Q u s') E s := by
    unfold Builtin.«object.__ne__»
    refine wpAny_bind (m := slotArgs "__ne__" 1 _) (wpAny_pure ?_)
    dsimp only
    refine wpAny_bind (wpAny_cRoomFor room.in1.units0 ?_)
    refine wpAny_bind (PySem.W.ifBound_K I.kIn J W.eq W.fn (wpAny_mono (own_call (A := A.in1) fr room.in1 F bd I rv hsp) (fun u s' hu => ?_) fun _ _ z => z))
    obtain ⟨b, H', rfl, I', q⟩ := hu
    dsimp only
    refine wpAny_bind (m := truthy (.bool b)) (wpAny_truthy_bool ?_)
    exact wpAny_pure ⟨_, rfl, by simp, !b, H', rfl, I', q⟩
  have call_ : wpAny (model X.prog X.w) A (call (.builtin "object.__ne__") [.ref a, v]) (fun u s' => u ≠ .notImplemented ∧ BP X pins σ Q u s') E s := by
    refine wpAny_call (codeAny_call_builtin PySem.F.cmp_object.ne.plain PySem.F.cmpEntry_ne (PySem.W.check_slot PySem.F.cmpKind_ne PySem.F.cmpSplit_ne (J.type.andThen (PySem.W.looks_mroIn I.kIn W.mo)) (PySem.F.cmpArgs_ne _ _) (wpAny_mono inner (fun fl s' z => ?_) fun _ _ z => z)))
    obtain ⟨u, rfl, z1, z2⟩ := z
    exact ⟨z1, z2⟩
  have one : wpAny (model X.prog X.w) A (tryCompare (.ref a) "__ne__" v) (fun r s' => ∃ u, r = some u ∧ BP X pins σ Q u s') E s := by
    unfold tryCompare
    refine wpAny_bind ?_
    simp only [callSpecialIfBound?, bindSpecialIfBound?]
    refine wpAny_holding (wpAny_bind (wpAny_bind (wpAny_bind (J.type.here ((PySem.W.looks_findIn I.kIn W.ne).here ?_)))))
    refine wpAny_bind (wpAny_askSetting (wpAny_ite ?_))
    have fin : wpAny (model X.prog X.w) A (call (.builtin "object.__ne__") ([.ref a] ++ [v]) >>= fun z => pure (some z)) (fun r s1 => wpAny (model X.prog X.w) A (match r with
        | some .notImplemented => pure none
        | none => pure none
        | some z => pure (some z)) (fun r s' => ∃ u, r = some u ∧ BP X pins σ Q u s') E s1) E s := by
      refine wpAny_bind (wpAny_mono call_ (fun u s' z => wpAny_pure ?_) fun _ _ z => z)
      obtain ⟨z1, b, H', rfl, z2⟩ := z
      exact wpAny_pure ⟨_, rfl, b, H', rfl, z2⟩
    split
    · exact wpAny_bind (wpAny_of_eq (PySem.F.cmp_object.ne.bind _) (wpAny_pure (by exact fin)))
    · exact wpAny_tryCatch (wpAny_bind (wpAny_of_eq (PySem.F.cmp_object.ne.bind _) (wpAny_pure (by exact fin))))
  unfold richCompare
  simp only [oneThing_ref]
  refine wpAny_holding (wpAny_bind (wpAny_cRoomFor room.units0 ?_))
  refine wpAny_bind (J.type.here (wpAny_bind (hb.here ?_)))
  split
  · rename_i d
    have no : PySem.W.subIn X.K tb (.ref C) = some false := by
      rcases Bool.or_eq_true_iff.mp nf with z | z
      · rw [beq_iff_eq.mp z] at d
        simp at d
      · exact beq_iff_eq.mp z
    refine wpAny_bind ((PySem.W.looks_subIn I.kIn no).here ?_)
    simp only [Bool.false_eq_true, if_false]
    refine wpAny_bind (m := tryCompare (.ref a) _ v) (wpAny_mono one (fun r s' z => ?_) fun _ _ z => z)
    obtain ⟨u, rfl, q⟩ := z
    exact wpAny_pure q
  · refine wpAny_bind (wpAny_pure ?_)
    simp only [Bool.false_eq_true, if_false]
    refine wpAny_bind (m := tryCompare (.ref a) _ v) (wpAny_mono one (fun r s' z => ?_) fun _ _ z => z)
    obtain ⟨u, rfl, q⟩ := z
    exact wpAny_pure q
end
end K5
set_option Elab.async false
set_option linter.all false
set_option maxRecDepth 100000
set_option maxHeartbeats 4000000
set_option pp.maxSteps 400
set_option pp.deepTerms false
namespace K5
open PySem PySem.Spec PyProof.Rows L2
open AutoSeq1 (wpAny_loadPart')
section
variable {prog : Program} {w : World} {A : Around}
theorem in_loop {l x : Addr} {as : List Addr} {e : Addr → Bool} {J : Nat → Shared → Prop} {Y : Shared → Prop} {R : Result → Shared → Prop} (hl : ∀ i s, J i s → ∃ n, s.heap.get? l = some { cls := .type "list", data := .seq (as.map Value.ref).toArray n })
    (turn : ∀ i c s, as[i]? = some c → J i s → wpAny (model prog w) A.in1 (eqBool (.ref c) (.ref x)) (fun r s' => r = e c ∧ (e c = true → Y s') ∧ (e c = false → J (i + 1) s')) (fun z s' => R (.error z) s') s)
    (yes : ∀ s, Y s → R (.ok (.ret (.bool true))) s) (no : ∀ s, J as.length s → R (.ok (.ret (.bool false))) s) (k : Nat) :
    ∀ i : Nat, as.length - i = k → i ≤ as.length → ∀ s, J i s → wpAny (model prog w) A.in1 (Builtin.«list.__contains__.loop» ⟨[.ref l, .ref x, rawInt i], []⟩) (GQ.FinOf prog w A R) (fun z s' => R (.error z) s') s := by
  induction k with
  | zero =>
    intro i hk hi s h
    obtain ⟨n, e1⟩ := hl i s h
    have he : i = as.length := by omega
    have fin := no s (he ▸ h)
    obtain ⟨hp, g, d, tk, os⟩ := s
    wp_walk using wpAny_loadPart' e1
    have none_ : (as.map Value.ref).toArray[((i : Nat) : Int).toNat]? = none := by simp; omega
    rw [none_]
    wp_walk
    exact fin
  | succ k ih =>
    intro i hk hi s h
    obtain ⟨n, e1⟩ := hl i s h
    have lt : i < as.length := by omega
    have ht := turn i as[i] s (List.getElem?_eq_getElem lt) h
    obtain ⟨hp, g, d, tk, os⟩ := s
    wp_walk using wpAny_loadPart' e1
    have some_ : (as.map Value.ref).toArray[((i : Nat) : Int).toNat]? = some (.ref as[i]) := by simp [lt]
    have hc : ((i : Int) + 1) = ((i + 1 : Nat) : Int) := by omega
    rw [some_]
    refine wpAny_bind (wpAny_mono ht (fun r s2 h2 => ?_) fun _ _ z => z)
    obtain ⟨hr, h3, h4⟩ := h2
    subst hr
    cases hb : e as[i] with
    | true =>
      have y2 := yes s2 (h3 hb)
      obtain ⟨hp2, g2, d2, tk2, os2⟩ := s2
      wp_walk
      exact y2
    | false =>
      have rec_ := ih (i + 1) (by omega) (by omega) s2 (h4 hb)
      obtain ⟨hp2, g2, d2, tk2, os2⟩ := s2
      wp_walk
      rw [hc]
      exact ⟨plainId_quiet MeetsSeq.plain_contains_loop _, codeAny_builtin MeetsSeq.entry_contains_loop (by
        rw [Around.under_plainId MeetsSeq.plain_contains_loop _]
        exact rec_)⟩
end
section
variable {X : Cx} {n : Nat} {f C : Addr} {fd : FuncData} {ps : List Str} {sp : Sp}
/-- what is asked of the items and of what is looked for -/
structure InD (sp : Sp) (C : Addr) (H : Hp) (a l : Addr) (as : List Addr) (e : Addr → Bool) : Prop where
  ha : ∃ dx fs, H a = some (.ins C dx fs)
  hl : H l = some (.lst (as.map V.ref))
  ne : ∀ c ∈ as, c ≠ a
  it : ∀ c ∈ as, ∃ dx fs, H c = some (.ins C dx fs)
  ask : ∀ c ∈ as, ∀ (H' : Hp) (Q : Bool → Hp → Prop), Same H H' → (∀ H2, Same H' H2 → Q (e c) H2) → sp [.ref c, .ref a] H' (fun z H2 => ∃ b, z = .bl b ∧ Q b H2) E0
theorem as_ref : ∀ {as : List Addr} {its : List Value}, Vals (as.map V.ref) its → its = as.map Value.ref
  | [], _, .nil => rfl
  | a :: as, _, .cons r t => by
    cases r
    rw [as_ref t]
    rfl
theorem contains_own (W : OwnC X.K C f) (room : Room (n + 2) X.A) (F : FnOk X.prog X.w X.K X.mg X.base CX0 n f fd ps sp) (bd : Binds X.K fd ps []) {pins : List (Addr × Obj)} {σ : L2.St} {H : Hp} {s : Shared} {a l : Addr} {as : List Addr} {e : Addr → Bool}
    {E : Value → Shared → Prop} {Q : Bool → Shared → Prop} (I : Inv X pins σ H s) (d : InD sp C H a l as e) (q : ∀ H' s', Inv X pins σ H' s' → Same H H' → Q (as.any e) s') :
    wpAny (model X.prog X.w) X.A (call (.builtin "list.__contains__") [.ref l, .ref a]) (fun u s' => ∃ b, u = .bool b ∧ Q b s') E s := by
  have at_ : ∀ {s' : Shared} {H' : Hp}, Inv X pins σ H' s' → Same H H' → ∃ n, s'.heap.get? l = some { cls := .type "list", data := .seq (as.map Value.ref).toArray n } := fun {s' H'} I' sm => by
    obtain ⟨_, its, m, r, e1⟩ := I'.hok l _ (sm _ _ d.hl)
    rw [as_ref r] at e1
    exact ⟨m, e1⟩
  obtain ⟨m0, e0⟩ := at_ I (Same.refl H)
  refine GQ.call_here PySem.F.slot_list_contains ⟨_, e0, rfl⟩ PySem.F.entry_list_contains (PySem.F.args_list_contains_2 _ _) ?_
  have loop := in_loop (prog := X.prog) (w := X.w) (A := X.A) (l := l) (x := a) (as := as) (e := e) (J := fun i s' => ∃ H', Inv X pins σ H' s' ∧ Same H H' ∧ (as.take i).any e = false) (Y := fun s' => ∃ H', Inv X pins σ H' s' ∧ Same H H' ∧ as.any e = true)
    (R := wants (fun u s' => ∃ b, u = .bool b ∧ Q b s') E) (fun i s' z => by
      obtain ⟨H', I', sm, _⟩ := z
      exact at_ I' sm) (fun i c s' hc z => ?_) (fun s' z => ?_) (fun s' z => ?_) as.length 0 (by omega) (Nat.zero_le _) s ⟨H, I, Same.refl H, by simp⟩
  · obtain ⟨hp, g, dd, tk, os⟩ := s
    wp_walk using wpAny_loadPart' e0
    exact ⟨plainId_quiet MeetsSeq.plain_contains_loop _, codeAny_builtin MeetsSeq.entry_contains_loop (by
      rw [Around.under_plainId MeetsSeq.plain_contains_loop _]
      exact loop)⟩
  · obtain ⟨H', I', sm, no⟩ := z
    have cm : c ∈ as := List.mem_of_getElem? hc
    obtain ⟨dx, fs, ec⟩ := d.it c cm
    obtain ⟨dxa, fsa, ea⟩ := d.ha
    obtain ⟨mB, JB, _⟩ := ins_get I'.hok (sm _ _ ea)
    obtain ⟨oB, JB, _⟩ := JB.look
    refine GQ.eqBool_refG (d.ne c cm) (wpAny_mono (rc_L (A := X.A.in1) (n := n) W (by show X.A.frames = some X.stack; exact I.ok.frames) (room.in1.mono (Nat.le_succ _)) F bd I' (sm _ _ ec) (y := .ref a) rfl JB.type (by simp [PySem.W.notFirst])
      (d.ask c cm H' (fun b H2 => b = e c ∧ Same H' H2) sm fun H2 s2 => ⟨rfl, s2⟩)) (fun u s2 hu => ?_) fun _ _ z => z)
    obtain ⟨b, H2, rfl, I2, rfl, s2⟩ := hu
    refine ⟨_, rfl, rfl, fun y => ⟨H2, I2, sm.trans s2, List.any_eq_true.mpr ⟨c, cm, y⟩⟩, fun y => ⟨H2, I2, sm.trans s2, ?_⟩⟩
    rw [List.take_add_one, hc, List.any_append, no]
    simp [y]
  · obtain ⟨H', I', sm, y⟩ := z
    refine ⟨true, rfl, ?_⟩
    have r := q H' s' I' sm
    rw [y] at r
    exact r
  · obtain ⟨H', I', sm, y⟩ := z
    rw [List.take_length] at y
    refine ⟨false, rfl, ?_⟩
    have r := q H' s' I' sm
    rw [y] at r
    exact r
def rInO (sp : Sp) (C : Addr) (neg : Bool) : R2 := fun x y H Q => ∃ (a l : Addr) (as : List Addr) (e : Addr → Bool), x = .ref a ∧ y = .ref l ∧ InD sp C H a l as e ∧ ∀ H', Same H H' → Q (.bl (if neg = true then !as.any e else as.any e)) H'
theorem op_inO (W : OwnC X.K C f) (room : Room (n + 2) X.A) (F : FnOk X.prog X.w X.K X.mg X.base CX0 n f fd ps sp) (bd : Binds X.K fd ps []) : OpR X (compareOp .In) (rInO sp C false) := by
  intro pins s σ H x y u v Q I rx ry h
  obtain ⟨a, l, as, e, rfl, rfl, d, q⟩ := h
  cases rx
  cases ry
  obtain ⟨_, its, m, r, e1⟩ := I.hok l _ d.hl
  show wpAny (model X.prog X.w) X.A (do return Value.bool (← contains (.ref l) (.ref a))) _ _ s
  refine wpAny_bind (wpAny_contains_slot ⟨_, e1, rfl⟩ PySem.F.slot_list_contains (wpAny_mono (contains_own (Q := fun b s' => EP X pins σ Q (.bool b) s') W room F bd I d fun H' s' I' sm => ⟨.bl (as.any e), H', I', rfl, q H' sm⟩) (fun z s' hz => ?_) fun _ _ z => z))
  obtain ⟨b, rfl, hq⟩ := hz
  exact wpAny_truthy_bool (wpAny_pure hq)
theorem op_notInO (W : OwnC X.K C f) (room : Room (n + 2) X.A) (F : FnOk X.prog X.w X.K X.mg X.base CX0 n f fd ps sp) (bd : Binds X.K fd ps []) : OpR X (compareOp .NotIn) (rInO sp C true) := by
  intro pins s σ H x y u v Q I rx ry h
  obtain ⟨a, l, as, e, rfl, rfl, d, q⟩ := h
  cases rx
  cases ry
  obtain ⟨_, its, m, r, e1⟩ := I.hok l _ d.hl
  show wpAny (model X.prog X.w) X.A (do return Value.bool (!(← contains (.ref l) (.ref a)))) _ _ s
  refine wpAny_bind (wpAny_contains_slot ⟨_, e1, rfl⟩ PySem.F.slot_list_contains (wpAny_mono (contains_own (Q := fun b s' => EP X pins σ Q (.bool (!b)) s') W room F bd I d fun H' s' I' sm => ⟨.bl (!as.any e), H', I', rfl, q H' sm⟩) (fun z s' hz => ?_) fun _ _ z => z))
  obtain ⟨b, rfl, hq⟩ := hz
  exact wpAny_truthy_bool (wpAny_pure hq)
end
end K5
set_option Elab.async false
set_option linter.all false
set_option maxRecDepth 100000
set_option maxHeartbeats 4000000
set_option pp.maxSteps 400
set_option pp.deepTerms false
namespace K5
open PySem PySem.Spec PyProof.Rows L2
open Xk Az
def top (i : Nat) : Stmt := PySem.Challenge.pw_takesworks_k05_lengths_told.main.body.getD i (.Pass ⟨0, 0, 0, 0⟩)
abbrev sNoLengthInit : Stmt := inClass (top 5) 0
abbrev sIsWhole : Stmt := top 19
abbrev sIsWithin : Stmt := top 20
abbrev sBeyondMinutes : Stmt := top 23
abbrev sLengthInit : Stmt := inClass (top 24) 0
abbrev sLengthEq : Stmt := inClass (top 24) 1
abbrev sLengthStr : Stmt := inClass (top 24) 2
abbrev sLengthRepr : Stmt := inClass (top 24) 3
abbrev sHand : Stmt := top 26
abbrev sTake : Stmt := top 27
abbrev sPick : Stmt := top 28
abbrev sSeconds : Stmt := top 29
abbrev sText : Stmt := top 30
abbrev sOdd : Stmt := top 31
abbrev sAlone : Stmt := top 32
abbrev sCaught : Stmt := top 33
abbrev sRefused : Stmt := top 34
abbrev sRight : Stmt := top 35
abbrev sLaw : Stmt := top 36
theorem scNoLengthInit : FnScope ["self", "seconds"] ["self", "seconds"] (defScope sNoLengthInit) := ⟨rfl, rfl, rfl, by decide +kernel, rfl, by decide +kernel, by decide +kernel⟩
theorem scIsWhole : FnScope ["thing"] ["thing"] (defScope sIsWhole) := ⟨rfl, rfl, rfl, by decide +kernel, rfl, by decide +kernel, by decide +kernel⟩
theorem scIsWithin : FnScope ["thing", "least", "most"] ["thing", "least", "most"] (defScope sIsWithin) := ⟨rfl, rfl, rfl, by decide +kernel, rfl, by decide +kernel, by decide +kernel⟩
theorem scBeyondMinutes : FnScope ["seconds"] ["seconds"] (defScope sBeyondMinutes) := ⟨rfl, rfl, rfl, by decide +kernel, rfl, by decide +kernel, by decide +kernel⟩
theorem scLengthInit : FnScope ["self", "seconds"] ["self", "seconds"] (defScope sLengthInit) := ⟨rfl, rfl, rfl, by decide +kernel, rfl, by decide +kernel, by decide +kernel⟩
theorem scLengthEq : FnScope ["self", "other"] ["self", "other"] (defScope sLengthEq) := ⟨rfl, rfl, rfl, by decide +kernel, rfl, by decide +kernel, by decide +kernel⟩
theorem scLengthStr : FnScope ["self"] ["self"] (defScope sLengthStr) := ⟨rfl, rfl, rfl, by decide +kernel, rfl, by decide +kernel, by decide +kernel⟩
theorem scLengthRepr : FnScope ["self"] ["self"] (defScope sLengthRepr) := ⟨rfl, rfl, rfl, by decide +kernel, rfl, by decide +kernel, by decide +kernel⟩
theorem scHand : FnScope ["_law_script", "_law_k", "_law_cell", "_law_great"] ["_law_script", "_law_k"] (defScope sHand) := ⟨rfl, rfl, rfl, by decide +kernel, rfl, by decide +kernel, by decide +kernel⟩
theorem scTake : FnScope ["_law_hand_here", "_law_many", "_law_digit", "_law_mixed"] ["_law_hand_here", "_law_many"] (defScope sTake) := ⟨rfl, rfl, rfl, by decide +kernel, rfl, by decide +kernel, by decide +kernel⟩
theorem scPick : FnScope ["_law_hand_here", "_law_some"] ["_law_hand_here", "_law_some"] (defScope sPick) := ⟨rfl, rfl, rfl, by decide +kernel, rfl, by decide +kernel, by decide +kernel⟩
theorem scSeconds : FnScope ["_law_hand_here", "_law_near"] ["_law_hand_here"] (defScope sSeconds) := ⟨rfl, rfl, rfl, by decide +kernel, rfl, by decide +kernel, by decide +kernel⟩
theorem scText : FnScope ["_law_count", "_law_minutes", "_law_part"] ["_law_count"] (defScope sText) := ⟨rfl, rfl, rfl, by decide +kernel, rfl, by decide +kernel, by decide +kernel⟩
theorem scOdd : FnScope ["_law_hand_here", "_law_count", "_law_deep", "_law_turn", "_law_some"] ["_law_hand_here", "_law_count"] (defScope sOdd) := ⟨rfl, rfl, rfl, by decide +kernel, rfl, by decide +kernel, by decide +kernel⟩
theorem scAlone : FnScope ["_law_e"] ["_law_e"] (defScope sAlone) := ⟨rfl, rfl, rfl, by decide +kernel, rfl, by decide +kernel, by decide +kernel⟩
theorem scCaught : FnScope ["_law_way", "_law_thing", "_law_caught_here", "_law_e"] ["_law_way", "_law_thing"] (defScope sCaught) := ⟨rfl, rfl, rfl, by decide +kernel, rfl, by decide +kernel, by decide +kernel⟩
theorem scRefused : FnScope ["_law_hand_here", "_law_odd_here", "_law_caught_here"] ["_law_hand_here", "_law_odd_here"] (defScope sRefused) := ⟨rfl, rfl, rfl, by decide +kernel, rfl, by decide +kernel, by decide +kernel⟩
theorem scRight : FnScope ["_law_hand_here", "_law_count", "_law_one", "_law_other", "_law_near", "_law_rest", "_law_strange", "_law_some", "_law_turn"] ["_law_hand_here"] (defScope sRight) := ⟨rfl, rfl, rfl, by decide +kernel, rfl, by decide +kernel, by decide +kernel⟩
theorem scLaw : FnScope ["_law_script", "_law_k"] ["_law_script"] (defScope sLaw) := ⟨rfl, rfl, rfl, by decide +kernel, rfl, by decide +kernel, by decide +kernel⟩
/-! ## objects -/
/-- all that was tracked stands but for the hand -/
def But (h : Addr) (H H' : Hp) : Prop := ∀ b o, b ≠ h → H b = some o → H' b = some o
theorem But.refl (h : Addr) (H : Hp) : But h H H := fun _ _ _ e => e
theorem But.trans {h : Addr} {H H1 H2 : Hp} (p : But h H H1) (q : But h H1 H2) : But h H H2 := fun b o n e => q b o n (p b o n e)
theorem Same.but {H H' : Hp} (s : Same H H') (h : Addr) : But h H H' := fun b o _ e => s b o e
theorem But.seqT {K : PySem.W.Frag} {h : Addr} {H H' : Hp} (s : But h H H') {t : Addr} {xs : List V} (n : t ≠ h) (q : SqT K H t xs) : SqT K H' t xs := by
  rcases q with (q | ⟨o, q⟩) | q
  · exact .inl (.inl (s _ _ n q))
  · exact .inl (.inr ⟨o, s _ _ n q⟩)
  · exact .inr q
theorem But.seqL {K : PySem.W.Frag} {h : Addr} {H H' : Hp} (s : But h H H') {t : Addr} {xs : List V} (n : t ≠ h) (q : SqL K H t xs) : SqL K H' t xs := by
  rcases q with (q | ⟨o, q⟩) | q
  · exact .inl (.inl (s _ _ n q))
  · exact .inl (.inr ⟨o, s _ _ n q⟩)
  · exact .inr q
theorem Same.seqT {K : PySem.W.Frag} {H H' : Hp} (s : Same H H') {t : Addr} {xs : List V} (q : SqT K H t xs) : SqT K H' t xs := by
  rcases q with (q | ⟨o, q⟩) | q
  · exact .inl (.inl (s _ _ q))
  · exact .inl (.inr ⟨o, s _ _ q⟩)
  · exact .inr q
theorem same_upd {H : Hp} {p : Addr} {o : HO} (h : H p = none) : Same H (upd H p o) := fun b x e => by
  rw [upd_ne (ne_of_none e h)]
  exact e
theorem but_upd {H : Hp} {p : Addr} {o : HO} : But p H (upd H p o) := fun b x n e => by
  rw [upd_ne n]
  exact e
/-- the hand: what is left of the cell, what it is mixed of, how often it was asked -/
def Hand (n : Int) (H : Hp) (a : Addr) : Prop := ∃ g m c : Int, H a = some (.lst [.int g, .int m, .int c]) ∧ 0 ≤ g ∧ 0 ≤ m ∧ m < 2305843009213693951 ∧ 0 ≤ c ∧ c ≤ n
theorem Hand.mono {n n' : Int} {H : Hp} {a : Addr} (h : Hand n H a) (l : n ≤ n') : Hand n' H a := by
  obtain ⟨g, m, c, e, h1, h2, h3, h4, h5⟩ := h
  exact ⟨g, m, c, e, h1, h2, h3, h4, Int.le_trans h5 l⟩
theorem Hand.same {n : Int} {H H' : Hp} {a : Addr} (h : Hand n H a) (s : Same H H') : Hand n H' a := by
  obtain ⟨g, m, c, e, r⟩ := h
  exact ⟨g, m, c, s _ _ e, r⟩
theorem Hand.at_ {n : Int} {H : Hp} {a : Addr} (h : Hand n H a) : ∃ xs, H a = some (.lst xs) := by
  obtain ⟨g, m, c, e, r⟩ := h
  exact ⟨_, e⟩
theorem Hand.ne_tup {K : PySem.W.Frag} {n : Int} {H : Hp} {a t : Addr} {xs : List V} (h : Hand n H a) (e : H t = some (.tup xs)) : t ≠ a := by
  obtain ⟨ys, e2⟩ := h.at_
  exact ne_of e e2 (by intro z; cases z)
theorem But.free {h l : Addr} {H H' : Hp} (b : But h H H') (ne : l ≠ h) (e : H' l = none) : H l = none := by
  cases q : H l with
  | none => rfl
  | some o =>
    rw [b l o ne q] at e
    cases e
theorem Hand.fresh {n : Int} {H : Hp} {a l : Addr} (h : Hand n H a) (e : H l = none) : l ≠ a := by
  obtain ⟨xs, q⟩ := h.at_
  exact (ne_of_none q e).symm
/-- a Length -/
def LenAt (C : Addr) (H : Hp) (x : Addr) (i : Int) : Prop := ∃ dx, H x = some (.ins C dx [("seconds", .int i)])
theorem LenAt.same {C : Addr} {H H' : Hp} {x : Addr} {i : Int} (h : LenAt C H x i) (s : L2.Same H H') : LenAt C H' x i := by
  obtain ⟨dx, e⟩ := h
  exact ⟨dx, s _ _ e⟩
theorem LenAt.but {C h : Addr} {n : Int} {H H' : Hp} {x : Addr} {i : Int} (q : LenAt C H x i) (hh : Hand n H h) (s : But h H H') : LenAt C H' x i := by
  obtain ⟨dx, e⟩ := q
  obtain ⟨ys, e2⟩ := hh.at_
  exact ⟨dx, s _ _ (ne_of e e2 (by intro z; cases z)) e⟩
theorem f_s (i : Int) : ([(("seconds" : Str), V.int i)] : List (Str × V)).lookup ("seconds" : Str) = some (.int i) := by rw [List.lookup_cons_self]
/-- an exception's making ends so -/
theorem made_x {H : Hp} {a d : Addr} {o1 o2 o3 o4 : HO} (na : H a = none) (nd : H d = none) (ne : d ≠ a) : upd (del (upd (upd (upd H a o1) d o2) a o3) a) d o4 = upd H d o4 := by
  funext b
  by_cases hd : b = d
  · rw [hd, upd_same, upd_same]
  · rw [upd_ne hd, upd_ne hd]
    by_cases ha : b = a
    · rw [ha, del_same, na]
    · rw [del_ne ha, upd_ne ha, upd_ne hd, upd_ne ha]
section
variable {X : Cx}
theorem cr_alt {f : Value} {r1 r2 : List V → Hp → VK → Prop} (h1 : CallR X f r1) (h2 : CallR X f r2) : CallR X f (fun xs H Q => r1 xs H Q ∨ r2 xs H Q) :=
  fun pins s σ H xs us Q I r h => h.elim (h1 pins s σ H xs us Q I r) (h2 pins s σ H xs us Q I r)
theorem pi_alt {tg e : Expr} {w1 w2 : TI} (h1 : PI X tg e w1) (h2 : PI X tg e w2) : PI X tg e (fun σ H R => w1 σ H R ∨ w2 σ H R) :=
  ⟨fun pins s σ H R I h => h.elim (h1.run pins s σ H R I) (h2.run pins s σ H R I)⟩
theorem pe_alt {e : Expr} {t1 t2 : TE} (h1 : PE X e t1) (h2 : PE X e t2) : PE X e (fun σ H Q => t1 σ H Q ∨ t2 σ H Q) :=
  ⟨fun pins s σ H Q I h => h.elim (h1.run pins s σ H Q I) (h2.run pins s σ H Q I)⟩
theorem sl_alt {r1 r2 : V → Option Int → Option Int → Hp → VK → Prop} (h1 : SlR X r1) (h2 : SlR X r2) : SlR X (fun x lo hi H Q => r1 x lo hi H Q ∨ r2 x lo hi H Q) :=
  fun pins s σ H x v vl vu lo hi sl Q I rx hs pl pu h => h.elim (h1 pins s σ H x v vl vu lo hi sl Q I rx hs pl pu) (h2 pins s σ H x v vl vu lo hi sl Q I rx hs pl pu)
end
/-- things of the built-in kinds that are asked -/
inductive Odd (H : Hp) : V → String → Prop where
  | int (i : Int) : Odd H (.int i) "int"
  | str (x : Str) : Odd H (.str x) "str"
  | non : Odd H .non "NoneType"
  | tup {a : Addr} {xs : List V} (e : H a = some (.tup xs)) : Odd H (.ref a) "tuple"
  | lst {a : Addr} {xs : List V} (e : H a = some (.lst xs)) : Odd H (.ref a) "list"
abbrev OddT (t : String) : Prop := t = "int" ∨ t = "str" ∨ t = "NoneType" ∨ t = "tuple" ∨ t = "list"
theorem Odd.one {H : Hp} {o : V} {t : String} (h : Odd H o t) : OddT t := by
  cases h <;> simp [OddT]
theorem Odd.ty {K : PySem.W.Frag} {H : Hp} {o : V} {t : String} (h : Odd H o t) : TyX K H o (.type t) := by
  cases h with
  | int i => exact .base (.int i)
  | str x => exact .base (.str x)
  | non => exact .base .non
  | tup e => exact .base (.tup e)
  | lst e => exact .base (.lst e)
theorem Odd.same {H H' : Hp} {o : V} {t : String} (h : Odd H o t) (s : Same H H') : Odd H' o t := by
  cases h with
  | int i => exact .int i
  | str x => exact .str x
  | non => exact .non
  | tup e => exact .tup (s _ _ e)
  | lst e => exact .lst (s _ _ e)
structure KitC (K : PySem.W.Frag) (C : Addr) : Prop where
  me : PySem.W.kitOne K (.ref C) (.ref C) = some true
  no : ∀ t : String, OddT t → PySem.W.kitOne K (.type t) (.ref C) = some false
  sub : ∀ t : String, OddT t → PySem.W.subIn K (.type t) (.ref C) = some false
theorem kitC_mk {K : PySem.W.Frag} {C : Addr} (ty : PySem.W.typeIn K (.ref C) = some (.type "type")) (mo : PySem.W.mroIn K C (.type "object") = some true) (s1 : PySem.W.subIn K (.type "int") (.ref C) = some false)
    (s2 : PySem.W.subIn K (.type "str") (.ref C) = some false) (s3 : PySem.W.subIn K (.type "NoneType") (.ref C) = some false) (s4 : PySem.W.subIn K (.type "tuple") (.ref C) = some false) (s5 : PySem.W.subIn K (.type "list") (.ref C) = some false) : KitC K C := by
  have cl : (PySem.W.clsIn K C).isSome = true := by
    unfold PySem.W.mroIn at mo
    cases e : PySem.W.clsIn K C with
    | none => rw [e] at mo; cases mo
    | some c => rfl
  have sub : ∀ t : String, OddT t → PySem.W.subIn K (.type t) (.ref C) = some false := fun t ht => by
    rcases ht with rfl | rfl | rfl | rfl | rfl
    · exact s1
    · exact s2
    · exact s3
    · exact s4
    · exact s5
  refine ⟨?_, fun t ht => ?_, sub⟩
  · unfold PySem.W.kitOne
    simp
  · have q : (Value.type t == Value.ref C) = false := rfl
    unfold PySem.W.kitOne
    rw [q]
    simp only [Bool.false_eq_true, if_false]
    unfold PySem.W.kitCls
    dsimp only
    rw [cl, ty]
    simp only [beq_self_eq_true, Bool.and_self, if_true]
    exact sub t ht
section
variable {X : Cx} {pins : List (Addr × Obj)} {σ : L2.St} {H : Hp} {s : Shared} {n : Nat} {f C : Addr} {fd : FuncData} {ps : List Str} {sp : Sp}
/-- a def of the written part is run somewhere below -/
theorem own_run {A : Around} {vs : List V} {us : List Value} {Q : VK} {E : Value → Shared → Prop} (fr : A.frames = some X.stack) (room : Room n A) (F : FnOk X.prog X.w X.K X.mg X.base CX0 n f fd ps sp) (bd : Binds X.K fd ps [])
    (I : Inv X pins σ H s) (rv : Vals vs us) (hsp : sp vs H Q E0) : wpAny (model X.prog X.w) A (call (.ref f) us) (EP X pins σ Q) E s := by
  have en : Env0 X.prog X.w X.K X.mg X.base A X.stack s H := by
    have z := I.env0
    exact ⟨fr, z.mod, z.bs, z.bsz, z.funs, z.frf, z.hok, z.bare⟩
  have hl : vs.length = ps.length := F.len _ _ _ _ hsp
  have b1 := bd s us I.kIn (by simpa [← rv.length] using hl)
  rw [List.append_nil] at b1
  refine wpAny_call (codeAny_mono (F.run A X.stack s H ⟨us, []⟩ us vs _ E0 room en b1 rv hsp) fun r s2 hr => ?_)
  match r, hr with
  | .error z, hr => exact False.elim hr
  | .ok .next, hr => exact False.elim hr
  | .ok .brk, hr => exact False.elim hr
  | .ok .cont, hr => exact False.elim hr
  | .ok (.ret u), hr => exact I.after hr
theorem odd_looks {y : V} {v : Value} {t : String} (I : Inv X pins σ H s) (rv : RelV y v) (o : Odd H y t) : PySem.W.Looks (model X.prog X.w) s.heap (typeOf v) (.type t) := by
  obtain ⟨P, Z, p, _⟩ := kit_of I rv (o.ty (K := X.K))
  exact Z.ty _ _ I.kIn p
/-- day == thing -/
def rEqL (C : Addr) (sp : Sp) : R2 := fun x y H Q => ∃ (a dx : Addr) (fs : List (Str × V)), x = .ref a ∧ H a = some (.ins C dx fs) ∧ ((∃ t, Odd H y t) ∨ ∃ b dz gs, y = .ref b ∧ H b = some (.ins C dz gs)) ∧
  sp [.ref a, y] H (fun z H' => ∃ b, z = .bl b ∧ Q (.bl b) H') E0
theorem op_eqL (W : OwnC X.K C f) (Z : KitC X.K C) (room : Room n X.A) (F : FnOk X.prog X.w X.K X.mg X.base CX0 n f fd ps sp) (bd : Binds X.K fd ps []) : OpR X (compareOp .Eq) (rEqL C sp) := by
  intro pins s σ H x y u v Q I rx ry h
  obtain ⟨a, dx, fs, rfl, ha, hy, hsp⟩ := h
  cases rx
  have fin : ∀ tb, PySem.W.Looks (model X.prog X.w) s.heap (typeOf v) tb → PySem.W.notFirst X.K C tb = true → wpAny (model X.prog X.w) X.A (compareOp .Eq (.ref a) v) (EP X pins σ Q) X.xe s := fun tb hb nf => by
    show wpAny (model X.prog X.w) X.A (richCompare .Eq (.ref a) v) _ _ s
    refine wpAny_mono (rc_L (Q := fun b H' => Q (.bl b) H') W I.ok.frames room F bd I ha ry hb nf hsp) (fun z s' hz => ?_) fun _ _ z => z
    obtain ⟨b, H', rfl, I', q⟩ := hz
    exact ⟨.bl b, H', I', rfl, q⟩
  rcases hy with ⟨t, o⟩ | ⟨b, dz, gs, rfl, hb⟩
  · refine fin _ (odd_looks I ry o) ?_
    unfold PySem.W.notFirst
    rw [Z.sub t o.one]
    simp
  · cases ry
    obtain ⟨mB, JB, _⟩ := ins_get I.hok hb
    obtain ⟨oB, JB, _⟩ := JB.look
    exact fin _ JB.type (by simp [PySem.W.notFirst])
/-- day != day -/
def rNeL (C : Addr) (sp : Sp) : R2 := fun x y H Q => ∃ (a dx : Addr) (fs : List (Str × V)) (b dz : Addr) (gs : List (Str × V)), x = .ref a ∧ H a = some (.ins C dx fs) ∧ y = .ref b ∧ H b = some (.ins C dz gs) ∧
  sp [.ref a, y] H (fun z H' => ∃ b, z = .bl b ∧ Q (.bl (!b)) H') E0
theorem op_neL (W : OwnC X.K C f) (room : Room (n + 1) X.A) (F : FnOk X.prog X.w X.K X.mg X.base CX0 n f fd ps sp) (bd : Binds X.K fd ps []) : OpR X (compareOp .NotEq) (rNeL C sp) := by
  intro pins s σ H x y u v Q I rx ry h
  obtain ⟨a, dx, fs, b, dz, gs, rfl, ha, rfl, hb, hsp⟩ := h
  cases rx
  cases ry
  obtain ⟨mB, JB, _⟩ := ins_get I.hok hb
  obtain ⟨oB, JB, _⟩ := JB.look
  show wpAny (model X.prog X.w) X.A (richCompare .NotEq (.ref a) (.ref b)) _ _ s
  refine wpAny_mono (rc_N (Q := fun b H' => Q (.bl b) H') (y := .ref b) W I.ok.frames room F bd I ha rfl JB.type (by simp [PySem.W.notFirst]) hsp) (fun z s' hz => ?_) fun _ _ z => z
  obtain ⟨b, H', rfl, I', q⟩ := hz
  exact ⟨.bl b, H', I', rfl, q⟩
/-- thing == day -/
def rEqR (C : Addr) (sp : Sp) : R2 := fun x y H Q => ∃ (a dx : Addr) (fs : List (Str × V)), y = .ref a ∧ H a = some (.ins C dx fs) ∧
  (((∃ t, Odd H x t) ∧ sp [.ref a, x] H (fun z H' => ∃ b, z = .bl b ∧ Q (.bl b) H') E0) ∨ ∃ b dz gs, x = .ref b ∧ H b = some (.ins C dz gs) ∧ sp [.ref b, .ref a] H (fun z H' => ∃ b, z = .bl b ∧ Q (.bl b) H') E0)
theorem op_eqR (W : OwnC X.K C f) (room : Room n X.A) (F : FnOk X.prog X.w X.K X.mg X.base CX0 n f fd ps sp) (bd : Binds X.K fd ps []) : OpR X (compareOp .Eq) (rEqR C sp) := by
  intro pins s σ H x y u v Q I rx ry h
  obtain ⟨a, dx, fs, rfl, ha, h⟩ := h
  cases ry
  show wpAny (model X.prog X.w) X.A (richCompare .Eq u (.ref a)) _ _ s
  have fin : ∀ {A : Around} {z : Value} {s' : Shared}, BP X pins σ (fun b H' => Q (.bl b) H') z s' → EP X pins σ Q z s' := fun {A z s'} hz => by
    obtain ⟨b, H', rfl, I', q⟩ := hz
    exact ⟨.bl b, H', I', rfl, q⟩
  obtain ⟨mA, J, eI⟩ := ins_get I.hok ha
  obtain ⟨oA, J', _⟩ := J.look
  rcases h with ⟨⟨t, o⟩, hsp⟩ | ⟨b, dz, gs, rfl, hb, hsp⟩
  · cases o with
    | int i =>
      obtain ⟨tk, rfl⟩ := rx
      refine wpAny_mono (rc_R (Q := fun b H' => Q (.bl b) H') (y := .int i) W I.ok.frames room F bd I ha ⟨tk, rfl⟩ (typeIs_int _ _ _) rfl W.sInt PySem.F.slot_int_eq (fun E' => dec_int J.obj) hsp) (fun z s' hz => fin (A := X.A) hz) fun _ _ z => z
    | str i =>
      obtain ⟨tk, rfl⟩ := rx
      refine wpAny_mono (rc_R (Q := fun b H' => Q (.bl b) H') (y := .str i) W I.ok.frames room F bd I ha ⟨tk, rfl⟩ (typeIs_str _ _ _) rfl W.sStr PySem.F.slot_str_eq (fun E' => dec_str J.obj) hsp) (fun z s' hz => fin (A := X.A) hz) fun _ _ z => z
    | non =>
      cases rx
      refine wpAny_mono (rc_R (Q := fun b H' => Q (.bl b) H') (y := .non) W I.ok.frames room F bd I ha rfl (T := "NoneType") rfl rfl W.sNon PySem.F.slot_NoneType_eq (fun E' => dec_none) hsp) (fun z s' hz => fin (A := X.A) hz) fun _ _ z => z
    | @tup b xs e =>
      cases rx
      obtain ⟨_, _, _, ob, h1, h2, _⟩ := (show ObjOk X.prog X.w H s.heap b (.tup xs) from I.hok b _ e)
      refine wpAny_mono (rc_R (Q := fun b H' => Q (.bl b) H') (y := .ref b) W I.ok.frames room F bd I ha rfl (T := "tuple") ⟨ob, h1, h2⟩ rfl W.sTup PySem.F.slot_tuple_eq (fun E' => dec_tup ⟨ob, h1, h2⟩ J' I.kIn W.sTup) hsp) (fun z s' hz => fin (A := X.A) hz) fun _ _ z => z
    | @lst b xs e =>
      cases rx
      obtain ⟨_, _, k, _, h1⟩ := (show ObjOk X.prog X.w H s.heap b (.lst xs) from I.hok b _ e)
      refine wpAny_mono (rc_R (Q := fun b H' => Q (.bl b) H') (y := .ref b) W I.ok.frames room F bd I ha rfl (T := "list") ⟨_, h1, rfl⟩ rfl W.sLst PySem.F.slot_list_eq (fun E' => dec_lst ⟨_, h1, rfl⟩ J' I.kIn W.sLst) hsp) (fun z s' hz => fin (A := X.A) hz) fun _ _ z => z
  · cases rx
    refine wpAny_mono (rc_L (Q := fun b H' => Q (.bl b) H') (y := .ref a) W I.ok.frames room F bd I hb rfl J'.type (by simp [PySem.W.notFirst]) hsp) (fun z s' hz => fin (A := X.A) hz) fun _ _ z => z
/-- str(o) by its own __str__ -/
theorem cr_strO (hs : PySem.W.findIn X.K (.ref C) "__str__" = some (some (.ref f))) (hf : PySem.W.isFn X.K (.ref f) = true) (room : Room (n + 2) X.A) (F : FnOk X.prog X.w X.K X.mg X.base CX0 n f fd ps sp) (bd : Binds X.K fd ps []) :
    CallR X (.type "str") (fun xs H Q => ∃ (a dx : Addr) (fs : List (Str × V)), xs = [.ref a] ∧ H a = some (.ins C dx fs) ∧ sp [.ref a] H (fun z H' => ∃ y, z = .str y ∧ Q (.str y) H') E0) := by
  intro pins s σ H xs us Q I r h
  obtain ⟨a, dx, fs, rfl, ha, hsp⟩ := h
  obtain ⟨u, rfl, rx⟩ := vals1 r
  cases rx
  obtain ⟨mA, J, _⟩ := ins_get I.hok ha
  obtain ⟨oA, J, _⟩ := J.look
  refine PySem.W.kso_call room.in1.in1.units0 I.kIn J hs hf (wpAny_mono (own_run (A := X.A.in1.in1) (vs := [.ref a]) I.ok.frames room.in1.in1 F bd I (.cons rfl .nil) hsp) (fun v s' hv => ?_) fun _ _ z => z)
  obtain ⟨v', H', I', rv, y, rfl, q⟩ := hv
  obtain ⟨tk, rfl⟩ := rv
  exact ⟨.str y, H', I', ⟨tk, rfl⟩, q⟩
/-- repr(o) by its own __repr__ -/
theorem cr_reprO (hs : PySem.W.findIn X.K (.ref C) "__repr__" = some (some (.ref f))) (hf : PySem.W.isFn X.K (.ref f) = true) (room : Room (n + 1) X.A) (F : FnOk X.prog X.w X.K X.mg X.base CX0 n f fd ps sp) (bd : Binds X.K fd ps []) :
    CallR X (.builtin "repr") (fun xs H Q => ∃ (a dx : Addr) (fs : List (Str × V)), xs = [.ref a] ∧ H a = some (.ins C dx fs) ∧ sp [.ref a] H (fun z H' => ∃ y, z = .str y ∧ Q (.str y) H') E0) := by
  intro pins s σ H xs us Q I r h
  obtain ⟨a, dx, fs, rfl, ha, hsp⟩ := h
  obtain ⟨u, rfl, rx⟩ := vals1 r
  cases rx
  obtain ⟨mA, J, _⟩ := ins_get I.hok ha
  obtain ⟨oA, J, _⟩ := J.look
  refine Calls.call_function_entry PySem.F.kind_repr PySem.F.plain_repr PySem.F.entry_repr (PySem.F.args_repr1 _) ?_
  unfold Builtin.«repr»
  refine wpAny_bind (m := oneArg "repr" _) (wpAny_pure ?_)
  refine wpAny_bind (wpAny_cRoomFor room.in1.units0 ?_)
  refine wpAny_bind (wpAny_bind (J.type.here ((PySem.W.looks_findIn I.kIn hs).here ?_)))
  refine wpAny_bind (m := callSpecialIfBound? (.ref a) (Str.ofString "__repr__") _) (PySem.W.ifBound_K I.kIn J hs hf (wpAny_mono (own_run (A := X.A.in1) (vs := [.ref a]) I.ok.frames room.in1 F bd I (.cons rfl .nil) hsp) (fun v s' hv => ?_) fun _ _ z => z))
  obtain ⟨v', H', I', rv, y, rfl, q⟩ := hv
  obtain ⟨tk, rfl⟩ := rv
  refine wpAny_bind (wpAny_isInstance (T := "str") (b := true) rfl isSubtype_str_str ?_)
  exact wpAny_pure ⟨_, rfl, .str y, H', I', ⟨tk, rfl⟩, q⟩
end
def zeros (n : Nat) : Str := ⟨(List.replicate n 48).toArray⟩
def nDig (i : Int) : Nat := (Nat.toDigits 10 i.natAbs).length
def zpad (W : Nat) (i : Int) : Str := zeros (W - nDig i) ++ Str.ofString (toString i)
theorem len_text {i : Int} (h : 0 ≤ i) : (Str.ofString (toString i)).length = nDig i := by
  obtain ⟨m, rfl⟩ := Int.eq_ofNat_of_zero_le h
  have e := text_ofNat m
  have e2 : Str.ofString (toString ((m : Nat) : Int)) = ⟨((Nat.toDigits 10 m).map Char.toNat).toArray⟩ := e
  rw [e2]
  show ((Nat.toDigits 10 m).map Char.toNat).toArray.size = _
  rw [List.size_toArray, List.length_map]
  rfl
def Tiny (i : Int) : Prop := 0 ≤ i ∧ i < 10000
theorem nDig_le {i : Int} (h : Tiny i) : nDig i ≤ 4 := (digitsFacts10 i.natAbs).lt10000 (by have := h.1; have := h.2; omega)
theorem nDig_le2 {i : Int} (h : 0 ≤ i) (h2 : i < 100) : nDig i ≤ 2 := (digitsFacts10 i.natAbs).lt100 (by omega)
theorem zeros_len (n : Nat) : (zeros n).length = n := by
  show (List.replicate n 48).toArray.size = n
  simp
theorem zpad_len {W : Nat} {i : Int} (hW : W ≤ 4) (h : Tiny i) : (zpad W i).length ≤ 4 := by
  unfold zpad
  rw [strLen_append, zeros_len, len_text h.1]
  have := nDig_le h
  omega
section
variable {X : Cx}
/-- {i:0Wd} -/
def tFmtS (W : Nat) (te : TE) : TE := fun σ H Q => te σ H fun x H1 => ∃ i : Int, x = .int i ∧ Tiny i ∧ Q (.str (zpad W i)) H1
theorem pe_fmtS {e sp : Expr} {te : TE} {spec : Str} {W : Nat} {pos : Pos} (nd : X.base.NoDigits) (hok : intSpecOk spec = true) (hW : intSpecWidthOf spec = W) (hz : intSpecZeroOf spec = true) (hsz : spec.length ≤ sizeLine) (he : PE X e te)
    (hs : PE X sp (tC (.str spec))) : PE X (.FormattedValue e (-1) (some sp) pos) (tFmtS W te) := by
  refine ⟨fun pins s σ H Q I h => ?_⟩
  refine wpAny_FormattedValue_spec (thn (he.run pins s σ H _ I h) fun v s1 hv => ?_)
  obtain ⟨x, H1, I1, r1, i, rfl, hi, q⟩ := hv
  obtain ⟨t, rfl⟩ := r1
  refine thn (hs.run pins s1 σ H1 (fun v H' => v = .str spec ∧ H' = H1) I1 ⟨rfl, rfl⟩) fun r s2 hr => ?_
  obtain ⟨v, H2, I2, r2, rfl, rfl⟩ := hr
  obtain ⟨t2, rfl⟩ := r2
  have a := hi.1
  have b := hi.2
  refine ⟨spec, t2, rfl, formatField_int_specOf (nd.keeps fun b o z => (I2.env0.bs b o z).1) (lt_digitLimit_of_lt (by omega)) hok (fun W' hW' F => ?_) hsz⟩
  have e : intSpecTextOf spec i = zpad W i := by
    rw [F.zeroG hz a, hW', hW]
    rfl
  rw [e]
  exact ⟨.str (zpad W i), H2, I2.tok _, ⟨_, rfl⟩, q⟩
/-- "0" * n -/
theorem op_zeros : OpR X (binaryOp .Mult) (fun x y H Q => ∃ n : Nat, x = .str "0" ∧ y = .int n ∧ n ≤ 4 ∧ Q (.str (zeros n)) H) := by
  intro pins s σ H x y v u Q I rx ry h
  obtain ⟨n, rfl, rfl, hn, q⟩ := h
  obtain ⟨t, rfl⟩ := rx
  obtain ⟨t2, rfl⟩ := ry
  have z0 : ("0" : Str) = ⟨#[48]⟩ := by decide +kernel
  match n, hn, q with
  | 0, _, q => exact PySem.P.mul_str_none (by decide) (by decide) ⟨.str (zeros 0), H, I.tok _, ⟨_, rfl⟩, q⟩
  | 1, _, q =>
    refine PySem.P.mul_str (by decide) (fun _ z => by cases z) (fun _ z => by cases z) ?_
    show EP X pins σ Q (.str "0" t) s
    refine ⟨.str (zeros 1), H, I, ⟨t, by rw [z0]; rfl⟩, q⟩
  | 2, _, q => exact PySem.P.mul_str (by decide) (fun _ _ => by decide +kernel) (fun _ _ => by decide +kernel) ⟨by decide +kernel, .str (zeros 2), H, I.tok _, ⟨_, by rw [z0]; rfl⟩, q⟩
  | 3, _, q => exact PySem.P.mul_str (by decide) (fun _ _ => by decide +kernel) (fun _ _ => by decide +kernel) ⟨by decide +kernel, .str (zeros 3), H, I.tok _, ⟨_, by rw [z0]; rfl⟩, q⟩
  | 4, _, q => exact PySem.P.mul_str (by decide) (fun _ _ => by decide +kernel) (fun _ _ => by decide +kernel) ⟨by decide +kernel, .str (zeros 4), H, I.tok _, ⟨_, by rw [z0]; rfl⟩, q⟩
end
end K5
set_option Elab.async false
set_option linter.all false
set_option maxRecDepth 100000
set_option maxHeartbeats 4000000
set_option pp.maxSteps 400
set_option pp.deepTerms false
namespace K5
open PySem PySem.Spec PyProof.Rows L2
open Xk Az
section
variable {P : Program} {w : World} {K : PySem.W.Frag} {mg : Str → Option Value} {base : Heap} {C : Addr}
/-- a def that may be called by its name -/
structure Ca (P : Program) (w : World) (K : PySem.W.Frag) (mg : Str → Option Value) (base : Heap) (k : Nat) (x : Str) (ps : List Str) (sp : Sp) : Prop where
  ex : ∃ (f : Addr) (fd : FuncData), FnOk P w K mg base CX0 k f fd ps sp ∧ mg x = some (.ref f) ∧ PySem.W.keepIn K (.ref f) = true ∧ Binds K fd ps []
/-- a def of the text, as the head finds it -/
structure Df (K : PySem.W.Frag) (mg : Str → Option Value) (x : Str) (ps : List Str) (st : Stmt) (f : Addr) (fd : FuncData) : Prop where
  fn : Fun K x x st f fd
  mgf : mg x = some (.ref f)
  bd : Binds K fd ps []
theorem Df.ca {k : Nat} {x : Str} {ps : List Str} {st : Stmt} {f : Addr} {fd : FuncData} {sp : Sp} (d : Df K mg x ps st f fd)
    (h : FnOk P w K mg base CX0 k f fd ps sp) : Ca P w K mg base k x ps sp := ⟨f, fd, h, d.mgf, d.fn.kp, d.bd⟩
section
variable {X : Cx} {k j : Nat} {x : Str} {ps : List Str} {sp : Sp} {p pos : Pos} {e : Expr} {es : List Expr} {t : TA}
theorem pe_ca (c : Ca X.prog X.w X.K X.mg X.base k x ps sp) (hr : Room j X.A) (hk : k ≤ j) (hg : Gl X x) (ha : PA X (e :: es) t) (hdb : (x == ("__debug__" : Str)) = false := by decide)
    (he : starEach (e :: es) X.env = (false, eval e X.env) :: starEach es X.env := by rfl) (hpl : (backTo pos (starEach es X.env)).any (·.1) = false := by rfl) :
    PE X (.Call (.Name x p) (e :: es) [] pos) (tCall sp [] E0 t) := by
  obtain ⟨f, fd, F, hm, kp, b⟩ := c.ex
  exact pe_call F (hr.mono hk) hg hm kp b .nil pass0 ha hdb he hpl
end
/-- the refusals: where their classes stand -/
structure Ex where
  NotSuch : Addr
  Lost : Addr
  Taken : Addr
  NoCustom : Addr
  NoDay : Addr
  NoDisc : Addr
  NoEntry : Addr
  NoKey : Addr
  NoLine : Addr
  NoName : Addr
  NoNumber : Addr
  NoPath : Addr
  NoText : Addr
  Same : Addr
  Struck : Addr
  Twice : Addr
  NoLength : Addr
/-- what the top has left, besides the defs -/
structure Txt (K : PySem.W.Frag) (mg : Str → Option Value) (C : Addr) (e : Ex) : Prop where
  cl : Cls K C
  nS : NoAttr K C "seconds"
  mgC : mg "Length" = some (.ref C)
  ins : C8.InsC K C
  ms : ∃ t, mg "MOST_SECONDS" = some (.int 359999 t)
  mNotSuch : mg "NotSuch" = some (.ref e.NotSuch)
  mLost : mg "Lost" = some (.ref e.Lost)
  mTaken : mg "Taken" = some (.ref e.Taken)
  mNoCustom : mg "NoCustom" = some (.ref e.NoCustom)
  mNoDay : mg "NoDay" = some (.ref e.NoDay)
  mNoDisc : mg "NoDisc" = some (.ref e.NoDisc)
  mNoEntry : mg "NoEntry" = some (.ref e.NoEntry)
  mNoKey : mg "NoKey" = some (.ref e.NoKey)
  mNoLine : mg "NoLine" = some (.ref e.NoLine)
  mNoName : mg "NoName" = some (.ref e.NoName)
  mNoNumber : mg "NoNumber" = some (.ref e.NoNumber)
  mNoPath : mg "NoPath" = some (.ref e.NoPath)
  mNoText : mg "NoText" = some (.ref e.NoText)
  mSame : mg "Same" = some (.ref e.Same)
  mStruck : mg "Struck" = some (.ref e.Struck)
  mTwice : mg "Twice" = some (.ref e.Twice)
  mNoLength : mg "NoLength" = some (.ref e.NoLength)
  isi : mg "isinstance" = none
  int : mg "int" = none
  bool : mg "bool" = none
  len : mg "len" = none
  abs : mg "abs" = none
  max : mg "max" = none
  min : mg "min" = none
  all : mg "all" = none
  any : mg "any" = none
  range : mg "range" = none
  repr : mg "repr" = none
  str : mg "str" = none
  ValueError : mg "ValueError" = none
  oex : OexC K e.NoLength
  xc : XcC K e.NoLength
  bi : BiC K e.NotSuch
  fld : PySem.W.findIn K (.ref e.NoLength) "seconds" = some none
  exm : PySem.W.exmAny K (.ref e.NoLength) [.ref e.NotSuch, .ref e.Lost, .ref e.Taken] = some true
  kit1 : PySem.W.kitAny K (.ref e.NoLength) [.ref e.Lost, .ref e.Taken, .ref e.NoCustom, .ref e.NoDay, .ref e.NoDisc, .ref e.NoEntry, .ref e.NoKey, .ref e.NoLine] = some false
  kit2 : PySem.W.kitAny K (.ref e.NoLength) [.ref e.NoName, .ref e.NoNumber, .ref e.NoPath, .ref e.NoText, .ref e.Same, .ref e.Struck, .ref e.Twice] = some false
  kit3 : PySem.W.kitOne K (.ref e.NoLength) (.ref e.NoLength) = some true
  kit4 : PySem.W.kitOne K (.ref e.NoLength) (.ref e.NotSuch) = some true
  int5 : PySem.W.kitOne K (.ref C) (.type "int") = some false
  kit5 : PySem.W.kitOne K (.ref e.NoLength) (.type "ValueError") = some true
/-! ## promises of the program's defs -/
/-- a thing of any kind: plain, or a Length -/
inductive Th (K : PySem.W.Frag) (C : Addr) (H : Hp) : V → Option PyData → Prop
  | dat {v : V} {d : PyData} (h : Dz K H v d) : Th K C H v (some d)
  | len {a : Addr} {i : Int} (h : LenAt C H a i) (h0 : 0 ≤ i) (h1 : i ≤ 359999) : Th K C H (.ref a) none
theorem Th.same {H H' : Hp} {v : V} {o : Option PyData} (h : Th K C H v o) (s : L2.Same H H') : Th K C H' v o := by
  cases h with
  | dat h => exact .dat (h.same s)
  | len h h0 h1 => exact .len (h.same s) h0 h1
/-- the number of a thing that is a whole one -/
def wh : Option PyData → Option Int
  | some (.int i) => some i
  | _ => none
def spWhole (K : PySem.W.Frag) (C : Addr) : Sp := fun vs H Q _ => ∃ (v : V) (o : Option PyData), vs = [v] ∧ Th K C H v o ∧ Q (.bl (wh o).isSome) H
def okS (o : Option PyData) : Bool := match wh o with
  | some i => decide (0 ≤ i) && decide (i ≤ 359999)
  | none => false
def spWithin (K : PySem.W.Frag) (C : Addr) : Sp := fun vs H Q _ => ∃ (v : V) (o : Option PyData), vs = [v, .int 0, .int 359999] ∧ Th K C H v o ∧ Q (.bl (okS o)) H
def spNL (e : Ex) : Sp := fun vs H Q _ => ∃ (a : Addr) (v : V), vs = [.ref a, v] ∧ H a = some (exo a e.NoLength none) ∧
  ∀ d, H d = none → d ≠ a → Q .non (upd (upd H d (exd d [("seconds", v)])) a (exo a e.NoLength (some d)))
/-- what is raised: NoLength with the value v -/
def Rz (e : Ex) (H : Hp) (v : V) (E : XK) : Prop := ∀ (d : Addr) (H' : Hp), L2.Same H H' → H' d = some (.xd [("seconds", v)]) → E (.ref e.NoLength) (some d) H'
def spLen (K : PySem.W.Frag) (C : Addr) (e : Ex) : Sp := fun vs H Q E => ∃ (x dx : Addr) (v : V) (o : Option PyData), vs = [.ref x, v] ∧ H x = some (.ins C dx []) ∧ Th K C H v o ∧
  (∀ i, v = .int i → okS o = true → ∀ H' : Hp, (∀ b o, H b = some o → b ≠ x → H' b = some o) → LenAt C H' x i → Q .non H') ∧ (okS o = false → Rz e H v E)
def spBey : Sp := fun vs H Q _ => ∃ i : Int, vs = [.int i] ∧ Q (.int (i % 60)) H
def lenText (i : Int) : Str := Str.ofString (toString (i / 60)) ++ ":" ++ zpad 2 (i % 60)
def lenRepr (i : Int) : Str := "Length(" ++ Str.ofString (toString i) ++ ")"
def spStrL (C : Addr) : Sp := fun vs H Q _ => ∃ (a : Addr) (i : Int), vs = [.ref a] ∧ LenAt C H a i ∧ 0 ≤ i ∧ i ≤ 359999 ∧ Q (.str (lenText i)) H
def spReprL (C : Addr) : Sp := fun vs H Q _ => ∃ (a : Addr) (i : Int), vs = [.ref a] ∧ LenAt C H a i ∧ 0 ≤ i ∧ i ≤ 359999 ∧ Q (.str (lenRepr i)) H
def spEqL (C : Addr) : Sp := fun vs H Q _ => ∃ (a : Addr) (o : V) (i : Int), vs = [.ref a, o] ∧ LenAt C H a i ∧
  ((∃ t, Odd H o t ∧ Q (.bl false) H) ∨ ∃ (b : Addr) (j : Int), o = .ref b ∧ LenAt C H b j ∧ Q (.bl (decide (i = j))) H)
theorem dInt (i j : Int) : decide (V.int i = V.int j) = decide (i = j) := decide_eq_decide.mpr ⟨fun z => V.int.inj z, fun z => by rw [z]⟩
theorem fitN {n : Nat} (h : n ≤ 1000) : n ≤ sizeLine := Nat.le_of_lt (small1000 h)
theorem lg {i : Int} (h0 : -(10 ^ 31) < i) (h1 : i < 10 ^ 31) : i.natAbs.log2 < 1920 := by
  have h2 : i.natAbs < 2 ^ 110 := by
    have : (10 : Int) ^ 31 < 2 ^ 110 := by decide
    omega
  exact Nat.lt_of_lt_of_le (PySem.Flt.log2_lt_of (by decide) h2) (by decide)
theorem tx_len {i : Int} (h0 : 0 ≤ i) (h1 : i < 10 ^ 9) : (Str.ofString (toString i)).length ≤ 9 := toString_length_le h0 (by decide) h1
theorem ok_whole {f : Addr} {fd : FuncData} {e : Ex} (D : Df K mg "is_whole" ["thing"] sIsWhole f fd) (T : Txt K mg C e) : FnOk P w K mg base CX0 1 f fd ["thing"] (spWhole K C) := by
  refine D.fn.ok scIsWhole (fun vs H Q E h => ?_) (fun cdv A outer s H vs Q E hr h => ?_)
  · obtain ⟨v, o, rfl, h, q⟩ := h
    rfl
  · obtain ⟨v, o, rfl, h, q⟩ := h
    refine ⟨_, (pss_one (ps_ret (pe_and (pe_callB call_isi (by rfl) T.isi (by decide +kernel) (pa_cons (pv 0) (pa_cons (pe_bltn (v := .ty "int") (by rfl) T.int (by decide +kernel) rfl) pa_nil))) (pe_one (pe_not (pe_callB call_isi (by rfl) T.isi (by decide +kernel) (pa_cons (pv 0) (pa_cons (pe_bltn (v := .ty "bool") (by rfl) T.bool (by decide +kernel) rfl) pa_nil)))))))), ?_⟩
    cases h with
    | len h _ _ =>
      obtain ⟨dx, ha⟩ := h
      exact ⟨_, rfl, _, _, _, _, false, rfl, .ty _, .base (.ins ha T.cl T.ins.ha T.ins.hn T.ins.htk T.ins.hm), T.int5, false, rfl, iteF q⟩
    | @dat _ d h =>
      cases d with
      | int i =>
        have ty : TyX K H v (.type "int") := h.ty
        refine ⟨_, rfl, _, _, _, _, true, rfl, .ty _, ty, kit_ty (by decide +kernel), true, rfl, iteT ?_⟩
        exact ⟨_, rfl, _, _, _, _, false, rfl, .ty _, ty, kit_ty (by decide +kernel), false, rfl, q⟩
      | bool b =>
        have ty : TyX K H v (.type "bool") := h.ty
        refine ⟨_, rfl, _, _, _, _, true, rfl, .ty _, ty, kit_ty (by decide +kernel), true, rfl, iteT ?_⟩
        exact ⟨_, rfl, _, _, _, _, true, rfl, .ty _, ty, kit_ty (by decide +kernel), true, rfl, q⟩
      | none =>
        have ty : TyX K H v (.type "NoneType") := h.ty
        exact ⟨_, rfl, _, _, _, _, false, rfl, .ty _, ty, kit_ty (by decide +kernel), false, rfl, iteF q⟩
      | str x =>
        have ty : TyX K H v (.type "str") := h.ty
        exact ⟨_, rfl, _, _, _, _, false, rfl, .ty _, ty, kit_ty (by decide +kernel), false, rfl, iteF q⟩
      | list ds =>
        have ty : TyX K H v (.type "list") := h.ty
        exact ⟨_, rfl, _, _, _, _, false, rfl, .ty _, ty, kit_ty (by decide +kernel), false, rfl, iteF q⟩
      | tuple ds =>
        have ty : TyX K H v (.type "tuple") := h.ty
        exact ⟨_, rfl, _, _, _, _, false, rfl, .ty _, ty, kit_ty (by decide +kernel), false, rfl, iteF q⟩
      | dict ds =>
        have ty : TyX K H v (.type "dict") := h.ty
        exact ⟨_, rfl, _, _, _, _, false, rfl, .ty _, ty, kit_ty (by decide +kernel), false, rfl, iteF q⟩
theorem ok_within {f : Addr} {fd : FuncData} (D : Df K mg "is_within" ["thing", "least", "most"] sIsWithin f fd) (cW : Ca P w K mg base 1 "is_whole" ["thing"] (spWhole K C)) : FnOk P w K mg base CX0 2 f fd ["thing", "least", "most"] (spWithin K C) := by
  refine D.fn.ok scIsWithin (fun vs H Q E h => ?_) (fun cdv A outer s H vs Q E hr h => ?_)
  · obtain ⟨v, o, rfl, h, q⟩ := h
    rfl
  · obtain ⟨v, o, rfl, h, q⟩ := h
    refine ⟨_, (pss_one (ps_ret (pe_and (pe_ca cW hr (by decide) (by rfl) (pa_cons (pv 0) pa_nil)) (pe_one (pe_chain op_le op_le (pv 1) (pv 0) (pv 2)))))), ?_⟩
    refine ⟨_, rfl, v, o, rfl, h, _, rfl, ?_⟩
    cases w0 : wh o with
    | none =>
      unfold okS at q
      rw [w0] at q
      exact iteF q
    | some i =>
      have ev : v = .int i := by
        cases h with
        | len _ _ _ => cases w0
        | @dat _ d h =>
          cases h <;> simp [wh] at w0
          rw [w0]
      subst ev
      unfold okS at q
      rw [w0] at q
      dsimp only at q
      refine iteT ⟨_, rfl, _, rfl, 0, i, rfl, rfl, _, rfl, ?_⟩
      cases e : decide ((0 : Int) ≤ i) with
      | true =>
        rw [e, Bool.true_and] at q
        exact iteT ⟨_, rfl, i, 359999, rfl, rfl, q⟩
      | false =>
        rw [e, Bool.false_and] at q
        exact iteF q
theorem ok_bey {f : Addr} {fd : FuncData} (D : Df K mg "beyond_minutes" ["seconds"] sBeyondMinutes f fd)  : FnOk P w K mg base CX0 1 f fd ["seconds"] spBey := by
  refine D.fn.ok scBeyondMinutes (fun vs H Q E h => ?_) (fun cdv A outer s H vs Q E hr h => ?_)
  · obtain ⟨i, rfl, q⟩ := h
    rfl
  · obtain ⟨i, rfl, q⟩ := h
    refine ⟨_, (pss_one (ps_ret (pe_op op_mod (pv 0) pe_int))), ?_⟩
    exact ⟨_, rfl, i, 60, rfl, rfl, (by show (0 : Int) < 60; decide), q⟩
theorem ok_nl {f : Addr} {fd : FuncData} {e : Ex} (F : Fun K "__init__" "NoLength.__init__" sNoLengthInit f fd) (T : Txt K mg C e) : FnOk P w K mg base CX0 1 f fd ["self", "seconds"] (spNL e) := by
  refine F.ok scNoLengthInit (fun vs H Q E h => ?_) (fun cdv A outer s H vs Q E hr h => ?_)
  · obtain ⟨a, v, rfl, ha, q⟩ := h
    rfl
  · obtain ⟨a, v, rfl, ha, q⟩ := h
    refine ⟨_, (pss_cons (ps_expr (pe_binit T.bi (by rfl) T.mNotSuch (pa_cons (pv 0) (pa_cons pe_str pa_nil))))
      (pss_one (ps_ost (pv 0) (pv 1)))), ?_⟩
    refine ⟨_, rfl, a, e.NoLength, [.str "no such length"], rfl, (by show 1 ≤ 1000; decide), T.oex, ha, ?_⟩
    exact ⟨_, rfl, _, rfl, a, e.NoLength, rfl, T.oex, T.fld, .inl ⟨ha, q⟩⟩
/-- what raising NoLength asks -/
structure Nl (P : Program) (w : World) (K : PySem.W.Frag) (mg : Str → Option Value) (base : Heap) (e : Ex) (f : Addr) (fd : FuncData) : Prop where
  ok : FnOk P w K mg base CX0 1 f fd ["self", "seconds"] (spNL e)
  at_ : PySem.W.findIn K (.ref e.NoLength) "__init__" = some (some (.ref f))
  ty : PySem.W.typeIn K (.ref f) = some (.type "function")
  bd : Binds K fd ["self", "seconds"] []
theorem raised {e : Ex} {H : Hp} {v : V} {E : XK} (q : Rz e H v E) : ∀ a, H a = none → spNL e [.ref a, v] (upd H a (exo a e.NoLength none))
    (fun z H2 => z = .non ∧ ∃ (d : Addr) (fs : List (Str × V)), H2 a = some (exo a e.NoLength (some d)) ∧ H2 d = some (exd d fs) ∧ H d = none ∧ E (.ref e.NoLength) (some d) (upd (del H2 a) d (.xd fs))) E0 := fun a na => by
  refine ⟨a, _, rfl, upd_same, fun d nd ne => ⟨rfl, d, _, upd_same, by rw [upd_ne ne, upd_same], ?_, ?_⟩⟩
  · rw [upd_ne ne] at nd
    exact nd
  · rw [upd_ne ne] at nd
    rw [made_x na nd ne]
    exact q d _ (same_upd nd) upd_same
theorem ok_len {f : Addr} {fd : FuncData} {e : Ex} {fN : Addr} {fdN : FuncData} (F : Fun K "__init__" "Length.__init__" sLengthInit f fd) (T : Txt K mg C e) (N : Nl P w K mg base e fN fdN) (cI : Ca P w K mg base 2 "is_within" ["thing", "least", "most"] (spWithin K C)) : FnOk P w K mg base (L2.CX P w) 3 f fd ["self", "seconds"] (spLen K C e) := by
  obtain ⟨tMS, gMS⟩ := T.ms
  refine F.okX scLengthInit (fun vs H Q E h => ?_) (fun cdv A outer s H vs Q E hr h => ?_)
  · obtain ⟨x, dx, v, o, rfl, hx, ht, q1, q2⟩ := h
    rfl
  · obtain ⟨x, dx, v, o, rfl, hx, ht, q1, q2⟩ := h
    refine ⟨_, (pss_cons (ps_if (pt_not (pt_val (pe_ca cI hr (by decide) (by rfl) (pa_cons (pv 1) (pa_cons pe_int (pa_cons (pe_glob (v := .int 359999) (by rfl) gMS ⟨_, rfl⟩) pa_nil)))))) (pss_one (ps_raise rfl (takes_of rfl rfl rfl rfl) (pmk_oex T.oex N.at_ N.ty N.ok (hr.mono (by decide)) N.bd .nil pass0 (by rfl) T.mNoLength (pa_cons (pv 1) pa_nil)))) pss_nil)
      (pss_one (ps_fld (pv 0) (pv 1) rfl))), ?_⟩
    refine ⟨_, rfl, v, o, rfl, ht, _, rfl, ?_⟩
    cases c : okS o with
    | true =>
      obtain ⟨i, rfl⟩ : ∃ i, v = .int i := by
        cases ht with
        | len _ _ _ => cases c
        | @dat _ d h =>
          cases h <;> simp [okS, wh] at c
          exact ⟨_, rfl⟩
      refine iteF ⟨_, rfl, _, rfl, x, C, dx, [], rfl, hx, T.cl, T.nS, (by decide), ?_⟩
      exact q1 i rfl c _ (fun b o e n => by rw [upd_ne n]; exact e) ⟨dx, upd_same⟩
    | false => exact iteT ⟨_, rfl, (by show 1 ≤ 1000; decide), raised (q2 c)⟩
theorem ok_eq {f : Addr} {fd : FuncData} {e : Ex} (F : Fun K "__eq__" "Length.__eq__" sLengthEq f fd) (T : Txt K mg C e) (Z : KitC K C) : FnOk P w K mg base CX0 1 f fd ["self", "other"] (spEqL C) := by
  refine F.ok scLengthEq (fun vs H Q E h => ?_) (fun cdv A outer s H vs Q E hr h => ?_)
  · obtain ⟨a, o, i, rfl, ⟨dx, ha⟩, h⟩ := h
    rfl
  · obtain ⟨a, o, i, rfl, ⟨dx, ha⟩, h⟩ := h
    refine ⟨_, (pss_one (ps_ret (pe_and (pe_callB call_isi (by rfl) T.isi (by decide +kernel) (pa_cons (pv 1) (pa_cons (pe_glob (v := .ref C) (by rfl) T.mgC rfl) pa_nil))) (pe_one (pe_cmpR op_eq (pe_fld (pv 0) rfl) (pe_fld (pv 1) rfl) (nomark _)))))), ?_⟩
    rcases h with ⟨t, ho, q⟩ | ⟨b, j, rfl, ⟨dz, hb⟩, q⟩
    · exact ⟨_, rfl, _, _, _, _, false, rfl, .own C, ho.ty, Z.no t ho.one, false, rfl, iteF q⟩
    · refine ⟨_, rfl, _, _, _, _, true, rfl, .own C, .base (.ins hb T.cl T.ins.ha T.ins.hn T.ins.htk T.ins.hm), Z.me, true, rfl, iteT ?_⟩
      refine ⟨_, rfl, a, C, dx, _, _, rfl, ha, T.cl, T.nS, f_s i, _, rfl, b, C, dz, _, _, rfl, hb, T.cl, T.nS, f_s j, rfl, ?_⟩
      rw [dInt]
      exact q
theorem ok_str {f : Addr} {fd : FuncData} {e : Ex} (F : Fun K "__str__" "Length.__str__" sLengthStr f fd) (T : Txt K mg C e) (nd : base.NoDigits) (cB : Ca P w K mg base 1 "beyond_minutes" ["seconds"] spBey) : FnOk P w K mg base CX0 2 f fd ["self"] (spStrL C) := by
  refine F.ok scLengthStr (fun vs H Q E h => ?_) (fun cdv A outer s H vs Q E hr h => ?_)
  · obtain ⟨a, i, rfl, ⟨dx, ha⟩, h0, h1, q⟩ := h
    rfl
  · obtain ⟨a, i, rfl, ⟨dx, ha⟩, h0, h1, q⟩ := h
    refine ⟨_, (pss_one (ps_ret (pe_joined (.cons (pe_fmt (pe_op op_fdiv (pe_fld (pv 0) rfl) pe_int)) (.cons pe_str (.cons (pe_fmtS (spec := "02d") (W := 2) nd (by decide +kernel) (by decide +kernel) (by decide +kernel) (by decide +kernel) (pe_ca cB hr (by decide) (by rfl) (pa_cons (pe_fld (pv 0) rfl) pa_nil)) (pe_joined1 pe_str)) .nil)))))), ?_⟩
    have t6 : Tiny (i % 60) := ⟨by omega, by omega⟩
    have l2 := zpad_len (W := 2) (by decide) t6
    have l1 := tx_len (i := i / 60) (by omega) (by omega)
    have c1 : (":" : Str).length = 1 := by decide +kernel
    have e0 : Str.empty.length = 0 := rfl
    refine ⟨_, rfl, a, C, dx, _, _, rfl, ha, T.cl, T.nS, f_s i, i, 60, rfl, rfl, ⟨by decide, by decide⟩, .inr ⟨_, rfl, lg (by omega) (by omega), ?_⟩⟩
    refine ⟨_, rfl, fitN ?_, _, rfl, fitN ?_, _, rfl, a, C, dx, _, _, rfl, ha, T.cl, T.nS, f_s i, i, rfl, _, rfl, t6, _, rfl, fitN ?_, ?_⟩
    · rw [strLen_append, e0]; omega
    · rw [strLen_append, strLen_append, e0, c1]; omega
    · rw [strLen_append, strLen_append, strLen_append, e0, c1]; omega
    · show Q (V.str (Str.empty ++ Str.ofString (toString (i / 60)) ++ ":" ++ zpad 2 (i % 60))) H
      rw [Str.empty_append]
      exact q
theorem ok_repr {f : Addr} {fd : FuncData} {e : Ex} (F : Fun K "__repr__" "Length.__repr__" sLengthRepr f fd) (T : Txt K mg C e) : FnOk P w K mg base CX0 1 f fd ["self"] (spReprL C) := by
  refine F.ok scLengthRepr (fun vs H Q E h => ?_) (fun cdv A outer s H vs Q E hr h => ?_)
  · obtain ⟨a, i, rfl, ⟨dx, ha⟩, h0, h1, q⟩ := h
    rfl
  · obtain ⟨a, i, rfl, ⟨dx, ha⟩, h0, h1, q⟩ := h
    refine ⟨_, (pss_one (ps_ret (pe_joined (.cons pe_str (.cons (pe_fmt (pe_fld (pv 0) rfl)) (.cons pe_str .nil)))))), ?_⟩
    have l1 := tx_len (i := i) (by omega) (by omega)
    have c1 : ("Length(" : Str).length = 7 := by decide +kernel
    have c2 : (")" : Str).length = 1 := by decide +kernel
    have e0 : Str.empty.length = 0 := rfl
    refine ⟨_, rfl, fitN ?_, _, rfl, a, C, dx, _, _, rfl, ha, T.cl, T.nS, f_s i, .inr ⟨_, rfl, lg (by omega) (by omega), _, rfl, fitN ?_, _, rfl, fitN ?_, ?_⟩⟩
    · rw [strLen_append, e0, c1]; omega
    · rw [strLen_append, strLen_append, e0, c1]; omega
    · rw [strLen_append, strLen_append, strLen_append, e0, c1, c2]; omega
    · show Q (V.str (Str.empty ++ "Length(" ++ Str.ofString (toString i) ++ ")")) H
      rw [Str.empty_append]
      exact q
end
end K5
set_option Elab.async false
set_option linter.all false
set_option maxRecDepth 100000
set_option maxHeartbeats 4000000
set_option pp.maxSteps 400
set_option pp.deepTerms false
namespace K5
open PySem PySem.Spec PyProof.Rows L2
open Xk Az
section
variable {P : Program} {w : World} {K : PySem.W.Frag} {mg : Str → Option Value} {base : Heap} {C : Addr}
abbrev far : Int := 1000000
def spHand (K : PySem.W.Frag) : Sp := fun vs H Q _ => ∃ (a : Addr) (k : Int) (ns : List Int), vs = [.ref a, .int k] ∧ 0 ≤ k ∧ SqL K H a (ns.map V.int) ∧
  ∀ p g m, H p = none → 0 ≤ g → 0 ≤ m → m < 2305843009213693951 → Q (.ref p) (upd H p (.lst [.int g, .int m, .int 0]))
def spTake : Sp := fun vs H Q _ => ∃ (h : Addr) (many n : Int), vs = [.ref h, .int many] ∧ 0 < many ∧ many < 10 ^ 30 ∧ Hand n H h ∧ n ≤ far ∧
  ∀ d H', 0 ≤ d → d < many → Hand (n + 1) H' h → But h H H' → Q (.int d) H'
def spPick : Sp := fun vs H Q _ => ∃ (h l : Addr) (xs : List V) (n : Int), vs = [.ref h, .ref l] ∧ H l = some (.lst xs) ∧ l ≠ h ∧ xs ≠ [] ∧ xs.length < 1000 ∧ Hand n H h ∧ n ≤ far ∧
  ∀ v H', v ∈ xs → Hand (n + 1) H' h → But h H H' → Q v H'
theorem wide30 {g many : Int} (m1 : 0 < many) (m2 : many < 10 ^ 30) : CDivW g many := by
  have h : (10 : Int) ^ 30 < 2 ^ 110 := by decide
  exact wide_div (b := 110) m1 (by omega) (by decide) (by decide)
theorem nDig_60 {i : Int} (h0 : 0 ≤ i) (h1 : i < 60) : nDig i = if i < 10 then 1 else 2 := by
  obtain ⟨k, rfl⟩ : ∃ k : Nat, i = (k : Int) := ⟨i.toNat, by omega⟩
  have hk : k < 60 := by omega
  have all : ∀ k : Nat, k < 60 → nDig (k : Int) = if (k : Int) < 10 then 1 else 2 := by decide +kernel
  exact all k hk
theorem b01 (b : Bool) : -(2 ^ 64) < (if b = true then (1 : Int) else 0) ∧ (if b = true then (1 : Int) else 0) < 2 ^ 64 := by cases b <;> decide
theorem b0 (b : Bool) : 0 ≤ (if b = true then (1 : Int) else 0) := by cases b <;> decide
theorem ok_hand {f : Addr} {fd : FuncData} {e : Ex} (D : Df K mg "_law_hand" ["_law_script", "_law_k"] sHand f fd) (T : Txt K mg C e) : FnOk P w K mg base CX0 1 f fd ["_law_script", "_law_k"] (spHand K) := by
  refine D.fn.ok scHand (fun vs H Q E h => ?_) (fun cdv A outer s H vs Q E hr h => ?_)
  · obtain ⟨a, k, ns, rfl, _⟩ := h
    rfl
  · obtain ⟨a, k, ns, rfl, hk, hS, q⟩ := h
    refine ⟨_, pss_cons (ps_set (i := 2) scHand.nd rfl (.inl rfl) (pe_ifExp (pt_cmpR op_lt (pv 1) (pe_callB call_len_seq (by rfl) T.len PySem.boot_len (pa_cons (pv 0) pa_nil)) (nomark _)) (pe_ix ix_list (pv 0) (pv 1) (fun _ _ => rfl)) pe_int))
      (pss_cons (ps_set (i := 3) scHand.nd rfl (.inl rfl) (pe_op op_mul (pe_op op_mod (pe_callB call_abs (by rfl) T.abs (by decide +kernel) (pa_cons (pv 2) pa_nil)) (pe_op op_mulW (pe_op op_pow pe_int pe_int) (pe_op op_pow pe_int pe_int)))
        (pe_callTy call_int1 (by rfl) T.int (by decide +kernel) (pa_cons (pe_cmpR op_ge (pe_callB call_abs (by rfl) T.abs (by decide +kernel) (pa_cons (pv 2) pa_nil)) (pe_op op_pow pe_int pe_int) (nomark _)) pa_nil))))
      (pss_one (ps_ret (pe_lst (pa_cons (pv 3) (pa_cons (pe_op op_mod (pe_op op_add (pe_op op_add (pe_op op_mod (pv 2) pe_int) (pe_op op_mul pe_int (pv 1))) pe_int) pe_int) (pa_cons pe_int pa_nil))))))), ?_⟩
    refine ⟨_, rfl, _, rfl, a, _, rfl, .inl hS, k, _, rfl, rfl, _, rfl, ?_⟩
    refine ite2 (fun e => ?_) (fun e => ?_)
    · have hlt : k < ((ns.map V.int).length : Int) := of_decide_eq_true e
      rw [List.length_map] at hlt
      obtain ⟨j, rfl⟩ : ∃ j : Nat, k = (j : Int) := ⟨k.toNat, by omega⟩
      have hj : j < ns.length := by omega
      have hat : atI (ns.map V.int) ((j : Nat) : Int) = some (.int ns[j]) := atI_nat (by rw [List.getElem?_map, List.getElem?_eq_getElem hj]; rfl)
      refine ⟨_, rfl, _, rfl, a, _, _, _, rfl, rfl, hS, hat, ?_⟩
      refine ⟨_, rfl, ns[j], rfl, 10, 60, rfl, rfl, ⟨by decide, by decide, by decide⟩, 10, 60, rfl, rfl, ⟨by decide, by decide, by decide⟩, _, _, rfl, rfl, ?_, _, _, rfl, rfl, ?_, ?_⟩
      · exact wide_mul (a := 300) (b := 300) (by decide +kernel) (by decide +kernel) (by decide) (by decide) (by decide)
      · show (0 : Int) < 10 ^ (60 : Int).toNat * 10 ^ (60 : Int).toNat
        decide +kernel
      · refine ⟨_, rfl, ns[j], rfl, 10, 18, rfl, rfl, ⟨by decide, by decide, by decide⟩, _, _, rfl, rfl, .inr ⟨_, rfl, _, _, rfl, rfl, .inr ?_, ?_⟩⟩
        · exact b01 _
        · refine ⟨_, rfl, _, rfl, ns[j], 2305843009213693951, rfl, rfl, (by show (0 : Int) < 2305843009213693951; decide), _, rfl, 7919, _, rfl, rfl, .inl (by decide), _, _, rfl, rfl, _, _, rfl, rfl, _, _, rfl, rfl, (by show (0 : Int) < 2305843009213693951; decide), (by show 3 ≤ sizeLine; decide), fun p np => ?_⟩
          refine q p _ _ np ?_ (Int.emod_nonneg _ (by decide)) (Int.emod_lt_of_pos _ (by decide))
          refine Int.mul_nonneg (Int.emod_nonneg _ (by decide +kernel)) ?_
          exact b0 _
    · refine ⟨_, rfl, 0, rfl, 10, 60, rfl, rfl, ⟨by decide, by decide, by decide⟩, 10, 60, rfl, rfl, ⟨by decide, by decide, by decide⟩, _, _, rfl, rfl, ?_, _, _, rfl, rfl, ?_, ?_⟩
      · exact wide_mul (a := 300) (b := 300) (by decide +kernel) (by decide +kernel) (by decide) (by decide) (by decide)
      · show (0 : Int) < 10 ^ (60 : Int).toNat * 10 ^ (60 : Int).toNat
        decide +kernel
      · refine ⟨_, rfl, 0, rfl, 10, 18, rfl, rfl, ⟨by decide, by decide, by decide⟩, _, _, rfl, rfl, .inr ⟨_, rfl, _, _, rfl, rfl, .inr ?_, ?_⟩⟩
        · exact b01 _
        · refine ⟨_, rfl, _, rfl, 0, 2305843009213693951, rfl, rfl, (by show (0 : Int) < 2305843009213693951; decide), _, rfl, 7919, _, rfl, rfl, .inl (by decide), _, _, rfl, rfl, _, _, rfl, rfl, _, _, rfl, rfl, (by show (0 : Int) < 2305843009213693951; decide), (by show 3 ≤ sizeLine; decide), fun p np => ?_⟩
          refine q p _ _ np ?_ (Int.emod_nonneg _ (by decide)) (Int.emod_lt_of_pos _ (by decide))
          refine Int.mul_nonneg (Int.emod_nonneg _ (by decide +kernel)) ?_
          exact b0 _
theorem ok_take {f : Addr} {fd : FuncData} (D : Df K mg "_law_take" ["_law_hand_here", "_law_many"] sTake f fd) : FnOk P w K mg base CX0 1 f fd ["_law_hand_here", "_law_many"] spTake := by
  refine D.fn.ok scTake (fun vs H Q E h => ?_) (fun cdv A outer s H vs Q E hr h => ?_)
  · obtain ⟨h, many, n, rfl, _⟩ := h
    rfl
  · obtain ⟨h, many, n, rfl, m1, m2, ⟨g, m, c, hh, g0, k0, k1, c0, c1⟩, hn, q⟩ := h
    refine ⟨_, pss_cons (ps_if (pt_cmpR op_gt (pe_ix ix_list (pv 0) pe_int (fun _ _ => rfl)) pe_int (nomark _))
        (pss_cons (ps_set (i := 2) scTake.nd rfl (.inl rfl) (pe_op op_mod (pe_ix ix_list (pv 0) pe_int (fun _ _ => rfl)) (pv 1)))
        (pss_cons (ps_asg (pe_op op_fdivW (pe_ix ix_list (pv 0) pe_int (fun _ _ => rfl)) (pv 1)) (pg_sub (pv 0) pe_int set_list))
        (pss_one (ps_ret (pv 2))))) pss_nil)
      (pss_cons (ps_asg (pe_op op_add (pe_ix ix_list (pv 0) pe_int (fun _ _ => rfl)) pe_int) (pg_sub (pv 0) pe_int set_list))
      (pss_cons (ps_set (i := 3) scTake.nd rfl (.inl rfl) (pe_op op_mod (pe_op op_mul (pe_op op_add (pe_op op_add (pe_ix ix_list (pv 0) pe_int (fun _ _ => rfl))
          (pe_op op_mul (pe_op op_mul pe_int (pe_ix ix_list (pv 0) pe_int (fun _ _ => rfl))) (pe_ix ix_list (pv 0) pe_int (fun _ _ => rfl)))) pe_int) pe_int) pe_int))
      (pss_cons (ps_set (i := 3) scTake.nd rfl (.inl rfl) (pe_op op_mod (pe_op op_mul (pv 3) (pe_op op_add (pe_op op_mod (pv 3) pe_int) (pe_op op_mul pe_int (pe_ix ix_list (pv 0) pe_int (fun _ _ => rfl))))) pe_int))
      (pss_one (ps_ret (pe_op op_mod (pe_op op_add (pe_op op_fdiv (pv 3) pe_int) (pe_op op_fdiv (pv 3) pe_int)) (pv 1))))))), ?_⟩
    have far' : n ≤ 1000000 := hn
    refine ⟨_, rfl, h, _, 0, _, rfl, rfl, SqL.of hh, atI_nat (j := 0) rfl, g, 0, rfl, rfl, _, rfl, ite2 (fun e => ?_) (fun e => ?_)⟩
    · refine ⟨_, rfl, h, _, 0, _, rfl, rfl, SqL.of hh, atI_nat (j := 0) rfl, _, rfl, g, many, rfl, rfl, m1, ?_⟩
      refine ⟨_, rfl, h, _, 0, _, rfl, rfl, SqL.of hh, atI_nat (j := 0) rfl, _, rfl, g, many, rfl, rfl, wide30 m1 m2, _, rfl, h, _, 0, 0, rfl, rfl, hh, rfl, ?_⟩
      refine ⟨_, rfl, ?_⟩
      exact q _ _ (Int.emod_nonneg _ (by omega)) (Int.emod_lt_of_pos _ m1) ⟨g / many, m, c, upd_same, Int.ediv_nonneg g0 (by omega), k0, k1, c0, by omega⟩ but_upd
    · refine ⟨_, rfl, h, _, 2, _, rfl, rfl, SqL.of hh, atI_nat (j := 2) rfl, c, 1, rfl, rfl, _, rfl, h, _, 2, 2, rfl, rfl, hh, rfl, ?_⟩
      have h2 : (upd H h (.lst [.int g, .int m, .int (c + 1)])) h = some (.lst [.int g, .int m, .int (c + 1)]) := upd_same
      have s2 := SqL.of (K := K) h2
      refine ⟨_, rfl, h, _, 1, _, rfl, rfl, s2, atI_nat (j := 1) rfl, _, rfl, h, _, 2, _, rfl, rfl, s2, atI_nat (j := 2) rfl, 65537, c + 1, rfl, rfl, .inl (by decide), _, rfl, h, _, 2, _, rfl, rfl, s2, atI_nat (j := 2) rfl, _, c + 1, rfl, rfl, .inr (by omega),
        m, _, rfl, rfl, _, 11, rfl, rfl, _, 48271, rfl, rfl, .inr (by decide), _, 2305843009213693921, rfl, rfl, (by show (0 : Int) < 2305843009213693921; decide), ?_⟩
      generalize (m + 65537 * (c + 1) * (c + 1) + 11) * 48271 = z
      have z0 : 0 ≤ z % 2305843009213693921 := Int.emod_nonneg _ (by decide)
      have z1 : z % 2305843009213693921 < 2305843009213693921 := Int.emod_lt_of_pos _ (by decide)
      refine ⟨_, rfl, _, rfl, _, 1000003, rfl, rfl, (by show (0 : Int) < 1000003; decide), _, rfl, h, _, 2, _, rfl, rfl, s2, atI_nat (j := 2) rfl, 99991, c + 1, rfl, rfl, .inl (by decide), _, _, rfl, rfl, _, _, rfl, rfl, .inl (by omega),
        _, 2305843009213693907, rfl, rfl, (by show (0 : Int) < 2305843009213693907; decide), ?_⟩
      refine ⟨_, rfl, _, 97, rfl, rfl, ⟨by decide, by decide⟩, _, rfl, _, 1000033, rfl, rfl, ⟨by decide, by decide⟩, _, _, rfl, rfl, _, rfl, _, many, rfl, rfl, m1, ?_⟩
      exact q _ _ (Int.emod_nonneg _ (by omega)) (Int.emod_lt_of_pos _ m1) ⟨g, m, c + 1, h2, g0, k0, k1, by omega, by omega⟩ but_upd
theorem ok_pick {f : Addr} {fd : FuncData} {e : Ex} (D : Df K mg "_law_pick" ["_law_hand_here", "_law_some"] sPick f fd) (T : Txt K mg C e) (cT : Ca P w K mg base 1 "_law_take" ["_law_hand_here", "_law_many"] spTake) :
    FnOk P w K mg base CX0 2 f fd ["_law_hand_here", "_law_some"] spPick := by
  refine D.fn.ok scPick (fun vs H Q E h => ?_) (fun cdv A outer s H vs Q E hr h => ?_)
  · obtain ⟨h, l, xs, n, rfl, _⟩ := h
    rfl
  · obtain ⟨h, l, xs, n, rfl, hl, nl, ne, few, hh, hn, q⟩ := h
    refine ⟨_, pss_one (ps_ret (pe_ix ix_list (pv 1) (pe_ca cT hr (by decide) (by rfl) (pa_cons (pv 0) (pa_cons (pe_callB call_len_seq (by rfl) T.len PySem.boot_len (pa_cons (pv 1) pa_nil)) pa_nil))) (fun _ _ => rfl))), ?_⟩
    have pos : 0 < xs.length := List.length_pos_iff.mpr ne
    refine ⟨_, rfl, _, rfl, _, rfl, l, xs, rfl, .inl (SqL.of hl), h, (xs.length : Int), n, rfl, by omega, by omega, hh, hn, fun d H' d0 d1 hh' bt => ?_⟩
    obtain ⟨j, rfl⟩ : ∃ j : Nat, d = (j : Int) := ⟨d.toNat, by omega⟩
    have hj : j < xs.length := by omega
    refine ⟨l, xs, _, xs[j], rfl, rfl, SqL.of (bt _ _ nl hl), atI_nat (List.getElem?_eq_getElem hj), ?_⟩
    exact q _ H' (List.getElem_mem hj) hh' bt
def spSeconds : Sp := fun vs H Q _ => ∃ (h : Addr) (n : Int), vs = [.ref h] ∧ Hand n H h ∧ n + 10 ≤ far ∧ ∀ i H', 0 ≤ i → i ≤ 359999 → Hand (n + 4) H' h → But h H H' → Q (.int i) H'
def spText : Sp := fun vs H Q _ => ∃ i : Int, vs = [.int i] ∧ 0 ≤ i ∧ i ≤ 359999 ∧ ∀ H', L2.Same H H' → Q (.str (lenText i)) H'
theorem ok_seconds {f : Addr} {fd : FuncData} {e : Ex} (D : Df K mg "_law_seconds" ["_law_hand_here"] sSeconds f fd) (T : Txt K mg C e) (cT : Ca P w K mg base 1 "_law_take" ["_law_hand_here", "_law_many"] spTake) (cP : Ca P w K mg base 2 "_law_pick" ["_law_hand_here", "_law_some"] spPick) : FnOk P w K mg base CX0 3 f fd ["_law_hand_here"] spSeconds := by
  refine D.fn.ok scSeconds (fun vs H Q E h => ?_) (fun cdv A outer s H vs Q E hr h => ?_)
  · obtain ⟨h, n, rfl, hh, hn, q⟩ := h
    rfl
  · obtain ⟨h, n, rfl, hh, hn, q⟩ := h
    refine ⟨_, (pss_cons (ps_set (i := 1) scSeconds.nd rfl (.inl rfl) (pe_callB (call_max2 (by rfl)) (by rfl) T.max (by decide +kernel) (pa_cons pe_int (pa_cons (pe_op op_sub (pe_op op_add (pe_op op_mul pe_int (pe_ca cT hr (by decide) (by rfl) (pa_cons (pv 0) (pa_cons pe_int pa_nil)))) (pe_ca cT hr (by decide) (by rfl) (pa_cons (pv 0) (pa_cons pe_int pa_nil)))) pe_int) pa_nil))))
      (pss_one (ps_ret (pe_ca cP hr (by decide) (by rfl) (pa_cons (pv 0) (pa_cons (pe_lst (pa_cons (pe_ca cT hr (by decide) (by rfl) (pa_cons (pv 0) (pa_cons pe_int pa_nil))) (pa_cons (pv 1) (pa_cons (pv 1) (pa_cons pe_int (pa_cons pe_int (pa_cons pe_int (pa_cons pe_int (pa_cons pe_int (pa_cons pe_int (pa_cons pe_int (pa_cons pe_int pa_nil)))))))))))) pa_nil)))))), ?_⟩
    have fr : n + 10 ≤ 1000000 := hn
    refine ⟨_, rfl, h, 6000, n, rfl, by decide, by decide, hh, by show n ≤ 1000000; omega, fun a1 H1 a10 a11 h1 b1 => ?_⟩
    refine ⟨60, a1, rfl, rfl, .inl (by decide), _, rfl, h, 3, n + 1, rfl, by decide, by decide, h1, by show n + 1 ≤ 1000000; omega, fun a2 H2 a20 a21 h2 b2 => ?_⟩
    refine ⟨60 * a1, a2, rfl, rfl, 60 * a1 + a2, 1, rfl, rfl, 0, 60 * a1 + a2 - 1, rfl, ?_⟩
    obtain ⟨z, ez, z0, z1⟩ : ∃ z : Int, z = (if 60 * a1 + a2 - 1 > 0 then 60 * a1 + a2 - 1 else 0) ∧ 0 ≤ z ∧ z ≤ 359999 := ⟨_, rfl, by split <;> omega, by split <;> omega⟩
    rw [← ez]
    refine ⟨_, rfl, _, rfl, h, 360000, n + 1 + 1, rfl, by decide, by decide, h2, by show n + 1 + 1 ≤ 1000000; omega, fun a3 H3 a30 a31 h3 b3 => ?_⟩
    refine ⟨_, rfl, _, rfl, (by show 11 ≤ sizeLine; decide), fun l nl => ?_⟩
    refine ⟨h, l, _, n + 1 + 1 + 1, rfl, upd_same, h3.fresh nl, by simp, by show 11 < 1000; decide, h3.same (same_upd nl), by show n + 1 + 1 + 1 ≤ 1000000; omega, fun v H4 mv h4 b4 => ?_⟩
    obtain ⟨i, rfl, i0, i1⟩ : ∃ i : Int, v = .int i ∧ 0 ≤ i ∧ i ≤ 359999 := by
      simp only [List.mem_cons, List.not_mem_nil, or_false] at mv
      rcases mv with e | e | e | e | e | e | e | e | e | e | e
      · exact ⟨_, e, by omega, by omega⟩
      · exact ⟨_, e, z0, z1⟩
      · exact ⟨_, e, z0, z1⟩
      all_goals exact ⟨_, e, by decide, by decide⟩
    exact q i H4 i0 i1 (h4.mono (by omega)) (((b1.trans b2).trans b3).trans ((Same.but (same_upd nl) h).trans b4))
theorem ok_text {f : Addr} {fd : FuncData} {e : Ex} (D : Df K mg "_law_text" ["_law_count"] sText f fd) (T : Txt K mg C e) : FnOk P w K mg base CX0 1 f fd ["_law_count"] spText := by
  refine D.fn.ok scText (fun vs H Q E h => ?_) (fun cdv A outer s H vs Q E hr h => ?_)
  · obtain ⟨i, rfl, h0, h1, q⟩ := h
    rfl
  · obtain ⟨i, rfl, h0, h1, q⟩ := h
    refine ⟨_, (pss_cons (ps_set (i := 1) scText.nd rfl (.inl rfl) pe_int)
      (pss_cons (ps_for PassesOwn.never rfl (pi_tup (pe_tup (pa_cons pe_int (pa_cons pe_int (pa_cons pe_int (pa_cons pe_int pa_nil)))))) (pg_name (i := 2) scText.nd rfl (.inl rfl)) (pss_one (ps_while PassesOwn.never (pt_cmpR op_ge (pv 0) (pv 2) (nomark _)) (pss_one (ps_par (i := 1) (j := 0) (by rfl) scText.nd rfl rfl (by decide) rfl rfl (pa_cons (pe_op op_add (pv 1) (pe_op op_fdiv (pv 2) pe_int)) (pa_cons (pe_op op_sub (pv 0) (pv 2)) pa_nil)) (by rfl))))))
      (pss_one (ps_ret (pe_op op_add_str (pe_op op_add_str (pe_op op_add_str (pe_callTy call_str_int (by rfl) T.str (by decide +kernel) (pa_cons (pv 1) pa_nil)) pe_str) (pe_op op_zeros pe_str (pe_callTy call_int1 (by rfl) T.int (by decide +kernel) (pa_cons (pe_cmpR op_lt (pv 0) pe_int (nomark _)) pa_nil)))) (pe_callTy call_str_int (by rfl) T.str (by decide +kernel) (pa_cons (pv 0) pa_nil))))))), ?_⟩
    refine ⟨(by show 4 ≤ sizeLine; decide), fun t nt => ⟨t, rfl, ⟨_, SqT.of upd_same⟩, ?_⟩⟩
    have parts : ∀ (k : Nat) (x : V), ([V.int 60000, .int 6000, .int 600, .int 60] : List V)[k]? = some x → ∃ p : Int, x = .int p ∧ 0 < p ∧ p < 1073741824 ∧ p % 60 = 0 ∧ (k = 3 → p = 60) := fun k x e => by
      match k, e with
      | 0, e => cases e; exact ⟨_, rfl, by decide, by decide, by decide, by decide⟩
      | 1, e => cases e; exact ⟨_, rfl, by decide, by decide, by decide, by decide⟩
      | 2, e => cases e; exact ⟨_, rfl, by decide, by decide, by decide, by decide⟩
      | 3, e => cases e; exact ⟨_, rfl, by decide, by decide, by decide, fun _ => rfl⟩
    refine for_tup (K := K) (a := t) (xs := [.int 60000, .int 6000, .int 600, .int 60]) (fun k σ Hi => Hi = upd H t (.tup [.int 60000, .int 6000, .int 600, .int 60]) ∧ ∃ (c m : Int) (p : Option V), σ = [some (.int c), some (.int m), p] ∧ 0 ≤ c ∧ m * 60 + c = i ∧ (k = 4 → c < 60))
      ⟨rfl, i, 0, none, rfl, h0, by omega, fun z => nomatch z⟩ (fun k σ Hi _ z => by rw [z.1]; exact SqT.of upd_same) ?_ ?_
    · rintro k x σ Hi hx ⟨rfl, c, m, pv0, rfl, c0, cm, _⟩
      obtain ⟨p, rfl, p0, p1, p2, p3⟩ := parts k x hx
      refine while_by (fun σ Hi => Hi = upd H t (.tup [.int 60000, .int 6000, .int 600, .int 60]) ∧ ∃ (c m : Int), σ = [some (.int c), some (.int m), some (.int p)] ∧ 0 ≤ c ∧ m * 60 + c = i) (fun σ _ => match σ with | some (.int c) :: _ => c.toNat | _ => 0)
        ⟨rfl, c, m, rfl, c0, cm⟩ ?_ ?_
      · rintro σ Hi ⟨rfl, c, m, rfl, c0, cm⟩
        refine ⟨_, rfl, _, rfl, c, p, rfl, rfl, _, rfl, ?_⟩
        refine ite2 (fun g => ?_) (fun g => ?_)
        · have gp : p ≤ c := by simpa using g
          refine ⟨_, rfl, _, rfl, p, 60, rfl, rfl, ⟨by decide, by decide⟩, m, p / 60, rfl, rfl, _, rfl, _, rfl, c, p, rfl, rfl, _, _, rfl, ⟨⟨rfl, c - p, m + p / 60, rfl, by omega, by omega⟩, ?_⟩⟩
          show (c - p).toNat < c.toNat
          omega
        · have gp : ¬ p ≤ c := by simpa using g
          exact ⟨rfl, c, m, _, rfl, c0, cm, fun e => by have := p3 (by omega); omega⟩
      · intro σ Hi Q1 Q2 imp z
        obtain ⟨a, ea, b, eb, i1, j1, e1, e2, b1, e3, z⟩ := z
        exact ⟨a, ea, b, eb, i1, j1, e1, e2, b1, e3, imp _ _ z⟩
    rintro σ Hi ⟨rfl, c, m, p, rfl, c0, cm, c6⟩
    have c60 : c < 60 := c6 rfl
    have em : m = i / 60 := by omega
    have ec : c = i % 60 := by omega
    subst em ec
    have l1 := tx_len (i := i / 60) (by omega) (by omega)
    have l2 := tx_len (i := i % 60) (by omega) (by omega)
    have k1 : (":" : Str).length = 1 := by decide +kernel
    have zt : zpad 2 (i % 60) = zeros (if decide (i % 60 < 10) = true then 1 else 0) ++ Str.ofString (toString (i % 60)) := by
      unfold zpad
      congr 2
      have nd : nDig (i % 60) = if i % 60 < 10 then 1 else 2 := nDig_60 (by omega) c60
      rw [nd]
      by_cases g : i % 60 < 10
      · simp [g]
      · simp [g]
    refine ⟨_, rfl, _, rfl, lg (by omega) (by omega), _, _, rfl, rfl, fitN ?_, ?_⟩
    · rw [k1]; omega
    have zl := zeros_len (if decide (i % 60 < 10) = true then 1 else 0)
    have z1 : (if decide (i % 60 < 10) = true then 1 else 0) ≤ 1 := by split <;> decide
    refine ⟨_, rfl, i % 60, 10, rfl, rfl, .inr ⟨_, rfl, if decide (i % 60 < 10) = true then 1 else 0, rfl, ?_, by omega, _, _, rfl, rfl, fitN ?_, _, rfl, _, rfl, lg (by omega) (by omega), _, _, rfl, rfl, fitN ?_, ?_⟩⟩
    · split <;> rfl
    · rw [strLen_append, zl, k1]; omega
    · rw [strLen_append, strLen_append, zl, k1]; omega
    · have z := q _ (same_upd nt (o := .tup [.int 60000, .int 6000, .int 600, .int 60]))
      unfold lenText at z
      rw [zt, ← Str.append_assoc] at z
      exact z
end
end K5
set_option Elab.async false
set_option linter.all false
set_option maxRecDepth 100000
set_option maxHeartbeats 4000000
set_option pp.maxSteps 400
set_option pp.deepTerms false
namespace K5
open PySem PySem.Spec PyProof.Rows L2
open Xk Az
section
variable {P : Program} {w : World} {K : PySem.W.Frag} {mg : Str → Option Value} {base : Heap} {C : Addr}
theorem off_all {h : Addr} {H : Hp} : L2.Same (del H h) H := fun b o e => by
  by_cases z : b = h
  · rw [z, del_same] at e
    cases e
  · rw [del_ne z] at e
    exact e
theorem off_but {h : Addr} {H H' : Hp} (s : But h H H') : L2.Same (del H h) (del H' h) := fun b o e => by
  by_cases z : b = h
  · rw [z, del_same] at e
    cases e
  · rw [del_ne z] at e
    rw [del_ne z]
    exact s b o z e
theorem off_new {h p : Addr} {H : Hp} {o : HO} (ne : p ≠ h) : del (upd H p o) h p = some o := by rw [del_ne ne, upd_same]
theorem off_at {h p : Addr} {H : Hp} {o : HO} (ne : p ≠ h) (e : H p = some o) : del H h p = some o := by rw [del_ne ne, e]
def NiceO (o : Option PyData) : Prop := ∀ d, o = some d → Nice d 32 1000
/-- the thing does not lean on the hand at h -/
def spOdd (K : PySem.W.Frag) (C : Addr) : Sp := fun vs H Q _ => ∃ (h : Addr) (i n : Int), vs = [.ref h, .int i] ∧ 0 ≤ i ∧ i ≤ 359999 ∧ Hand n H h ∧ n + 100 ≤ far ∧
  ∀ v o H', Th K C (del H' h) v o → okS o = false → NiceO o → Hand (n + 40) H' h → But h H H' → Q v H'
theorem okS_true {i : Int} (h0 : 0 ≤ i) (h1 : i ≤ 359999) : okS (some (.int i)) = true := by
  show (decide (0 ≤ i) && decide (i ≤ 359999)) = true
  rw [decide_eq_true h0, decide_eq_true h1]
  rfl
theorem okS_neg {i : Int} (h : i < 0 ∨ 359999 < i) : okS (some (.int i)) = false := by
  show (decide (0 ≤ i) && decide (i ≤ 359999)) = false
  rcases h with h | h
  · rw [decide_eq_false (show ¬ 0 ≤ i by omega)]
    rfl
  · rw [decide_eq_false (show ¬ i ≤ 359999 by omega), Bool.and_false]
theorem okS_not {d : PyData} (h : wh (some d) = none) : okS (some d) = false := by
  unfold okS
  rw [h]
theorem repr_le {x : Str} (h : ∀ c ∈ x.cps.toList, c < 16 ^ 8) : (reprText x).length ≤ 10 * x.length + 2 := PySem.StrLaws.reprText_len x h
theorem asc_of (s : String) : ∀ c ∈ (Str.ofString s).cps.toList, c < 16 ^ 8 := fun c hc => by
  rw [Str.ofString_eq_toList] at hc
  simp only [List.mem_map] at hc
  obtain ⟨k, _, rfl⟩ := hc
  exact Nat.lt_of_lt_of_le (UInt32.toNat_lt k.val) (by decide)
theorem asc_int (i : Int) : ∀ c ∈ (Str.ofString (toString i)).cps.toList, c < 16 ^ 8 := asc_of _
theorem asc_add {x y : Str} (h1 : ∀ c ∈ x.cps.toList, c < 16 ^ 8) (h2 : ∀ c ∈ y.cps.toList, c < 16 ^ 8) : ∀ c ∈ (x ++ y).cps.toList, c < 16 ^ 8 := fun c hc => by
  rw [Str.cps_append, Array.toList_append, List.mem_append] at hc
  exact hc.elim (h1 c) (h2 c)
theorem asc_zeros (n : Nat) : ∀ c ∈ (zeros n).cps.toList, c < 16 ^ 8 := fun c hc => by
  have z : c ∈ List.replicate n 48 := by simpa [zeros] using hc
  rw [(List.mem_replicate.mp z).2]
  decide
theorem asc_text (i : Int) : ∀ c ∈ (lenText i).cps.toList, c < 16 ^ 8 := asc_add (asc_add (asc_int _) (asc_of ":")) (asc_add (asc_zeros _) (asc_int _))
theorem lenText_len {i : Int} (h0 : 0 ≤ i) (h1 : i ≤ 359999) : (lenText i).length ≤ 20 := by
  have t6 : Tiny (i % 60) := ⟨by omega, by omega⟩
  have l2 := zpad_len (W := 2) (by decide) t6
  have l1 := tx_len (i := i / 60) (by omega) (by omega)
  have c1 : (":" : Str).length = 1 := by decide +kernel
  unfold lenText
  rw [strLen_append, strLen_append, c1]
  omega
theorem big39 : (10 : Int) ^ 30 < 10 ^ 39 := by decide
theorem tx_le {i : Int} (h0 : -(10 ^ 30) ≤ i) (h1 : i ≤ 10 ^ 30) : (Str.ofString (toString i)).length ≤ 40 := by
  have b := big39
  cases i with
  | ofNat m =>
    have c : (Int.ofNat m) = (m : Int) := rfl
    exact Nat.le_trans (toString_length_le (v := (m : Int)) (by omega) (k := 39) (by decide) (by omega)) (by decide)
  | negSucc m =>
    have c : Int.negSucc m = -((m : Int) + 1) := rfl
    have z := toString_length_le (v := ((m + 1 : Nat) : Int)) (by omega) (k := 39) (by decide) (by omega)
    rw [PySem.ofString_length] at z ⊢
    have z2 : (toString (m + 1)).length ≤ 39 := z
    show ("-" ++ toString (m + 1)).length ≤ 40
    rw [String.length_append]
    have : "-".length = 1 := rfl
    omega
theorem ok_odd {f : Addr} {fd : FuncData} {e : Ex} {fL : Addr} {fdL : FuncData} (D : Df K mg "_law_odd" ["_law_hand_here", "_law_count"] sOdd f fd) (T : Txt K mg C e) (cT : Ca P w K mg base 1 "_law_take" ["_law_hand_here", "_law_many"] spTake) (cP : Ca P w K mg base 2 "_law_pick" ["_law_hand_here", "_law_some"] spPick) (cX : Ca P w K mg base 1 "_law_text" ["_law_count"] spText) (M : Mk K C fL) (L : FnOk P w K mg base (L2.CX P w) 3 fL fdL ["self", "seconds"] (spLen K C e)) (bL : Binds K fdL ["self", "seconds"] []) : FnOk P w K mg base CX0 5 f fd ["_law_hand_here", "_law_count"] (spOdd K C) := by
  refine D.fn.ok scOdd (fun vs H Q E h => ?_) (fun cdv A outer s H vs Q E hr h => ?_)
  · obtain ⟨h, i, n, rfl, i0, i1, hh, hn, q⟩ := h
    rfl
  · obtain ⟨h, i, n, rfl, i0, i1, hh, hn, q⟩ := h
    refine ⟨_, (pss_cons (ps_set (i := 2) scOdd.nd rfl (.inl rfl) (pv 1))
      (pss_cons (ps_for PassesOwn.never rfl (pi_range1 (by rfl) T.range (pa_cons (pe_ca cP hr (by decide) (by rfl) (pa_cons (pv 0) (pa_cons (pe_lst (pa_cons pe_int (pa_cons pe_int (pa_cons pe_int pa_nil)))) pa_nil))) pa_nil)) (pg_name (i := 3) scOdd.nd rfl (.inl rfl)) (pss_one (ps_set (i := 2) scOdd.nd rfl (.inl rfl) (pe_ix ix_list (pe_lst (pa_cons (pe_tup (pa_cons (pv 2) pa_nil)) (pa_cons (pe_lstZ (pa_cons (pv 2) pa_nil)) (pa_cons (pe_disp (pps_cons pe_str (pv 2) pps_nil) rfl rfl (by simp) (by decide)) pa_nil)))) (pe_ca cT hr (by decide) (by rfl) (pa_cons (pv 0) (pa_cons pe_int pa_nil))) (fun _ _ => rfl)))))
      (pss_cons (ps_set (i := 4) scOdd.nd rfl (.inl rfl) (pe_lst (pa_cons (pe_un un_neg pe_int) (pa_cons pe_int (pa_cons (pe_op op_sub (pe_op op_sub pe_int pe_int) (pe_ca cT hr (by decide) (by rfl) (pa_cons (pv 0) (pa_cons (pe_op op_pow pe_int pe_int) pa_nil)))) (pa_cons (pe_op op_add pe_int (pe_ca cT hr (by decide) (by rfl) (pa_cons (pv 0) (pa_cons (pe_op op_pow pe_int pe_int) pa_nil)))) (pa_cons pe_bl (pa_cons pe_bl (pa_cons pe_non pa_nil)))))))))
      (pss_one (ps_ret (pe_ca cP hr (by decide) (by rfl) (pa_cons (pv 0) (pa_cons (pe_op op_cat (pv 4) (pe_lst (pa_cons (pe_callTy call_str_int (by rfl) T.str (by decide +kernel) (pa_cons (pv 1) pa_nil)) (pa_cons (pv 2) (pa_cons (pv 2) (pa_cons (pe_tup pa_nil) (pa_cons (pe_lstZ pa_nil) (pa_cons pe_dnewK (pa_cons pe_str (pa_cons (pe_ca cX hr (by decide) (by rfl) (pa_cons (pv 1) pa_nil)) (pa_cons (pe_make M L (hr.mono (by decide)) (by rfl) T.mgC bL .nil passL (pa_cons (pv 1) pa_nil)) pa_nil))))))))))) pa_nil)))))))), ?_⟩
    have fr : n + 100 ≤ 1000000 := hn
    refine ⟨_, rfl, _, rfl, (by show 3 ≤ sizeLine; decide), fun l nl => ?_⟩
    refine ⟨h, l, _, n, rfl, upd_same, hh.fresh nl, by simp, by show 3 < 1000; decide, hh.same (same_upd nl), by show n ≤ 1000000; omega, fun v1 H1 mv h1 b1 => ?_⟩
    obtain ⟨r, rfl, r1, r2⟩ : ∃ r : Nat, v1 = .int (r : Int) ∧ 1 ≤ r ∧ r ≤ 28 := by
      simp only [List.mem_cons, List.not_mem_nil, or_false] at mv
      rcases mv with e | e | e
      · exact ⟨1, e, by decide, by decide⟩
      · exact ⟨2, e, by decide, by decide⟩
      · exact ⟨28, e, by decide, by decide⟩
    have b1' : But h H H1 := (Same.but (same_upd nl) h).trans b1
    refine ⟨_, rfl, by omega, by omega, for_range (lo := 0) (n := ((r : Int)).toNat) (fun k σ Hi => ∃ (v : V) (d : PyData) (c3 : Option V), σ = [some (.ref h), some (.int i), some v, c3, none] ∧ Dz K (del Hi h) v d ∧ Nice d k (9 + 20 * k) ∧ (1 ≤ k → wh (some d) = none) ∧ Hand (n + 1 + k) Hi h ∧ But h H Hi) ?_ ?_ ?_⟩
    · exact ⟨.int i, .int i, none, rfl, .int i, nice_int (lg (by omega) (by omega)) (tx_len i0 (by omega)), fun z => absurd z (by decide), h1.mono (by omega), b1'⟩
    · rintro k σ Hi hk ⟨v, d, c3, rfl, dz, nc, _, hdi, bi⟩
      have k28 : k < 28 := by omega
      refine ⟨_, rfl, (by show 1 ≤ sizeLine; decide), fun t1 n1 => ?_⟩
      refine ⟨_, rfl, (by show 1 ≤ sizeLine; decide), fun l1 n2 ne2 => ?_⟩
      intro p n3
      have s1 := same_upd n1 (o := .tup [v])
      have s2 := same_upd n2 (o := .lst [v])
      have hd2 := (hdi.same s1).same s2
      have t1h := hdi.fresh n1
      have l1h := (hdi.same s1).fresh n2
      have ph := hd2.fresh n3
      refine ⟨_, rfl, upd_same, [(Sum.inr "long", v)], rfl, (by show 1 ≤ 15; decide), (by show 3 ≤ sizeLine; decide), fun l2 n4 => ?_⟩
      have s3 : L2.Same (upd (upd Hi t1 (.tup [v])) l1 (.lst [v])) (upd (upd (upd (upd Hi t1 (.tup [v])) l1 (.lst [v])) p (.dK [])) p (.dK (mergeK [] [(Sum.inr "long", v)]))) := by
        rw [upd_upd]
        exact same_upd n3
      have s4 := same_upd n4 (o := .lst [.ref t1, .ref l1, .ref p])
      have hd4 := (hd2.same s3).same s4
      refine ⟨_, rfl, h, 3, _, rfl, by decide, by decide, hd4, by show n + 1 + (k : Int) ≤ 1000000; omega, fun a H5 a0 a1 h5 b5 => ?_⟩
      have l2h := (hd2.same s3).fresh n4
      have al : L2.Same Hi (upd (upd (upd (upd (upd Hi t1 (.tup [v])) l1 (.lst [v])) p (.dK [])) p (.dK (mergeK [] [(Sum.inr "long", v)]))) l2 (.lst [.ref t1, .ref l1, .ref p])) := ((s1.trans s2).trans s3).trans s4
      have bt : But h Hi H5 := (Same.but al h).trans b5
      have dz5 : Dz K (del H5 h) v d := dz.same (off_but bt)
      have e1 : H5 t1 = some (.tup [v]) := b5 _ _ t1h (s4 _ _ (s3 _ _ (s2 _ _ upd_same)))
      have e2 : H5 l1 = some (.lst [v]) := b5 _ _ l1h (s4 _ _ (s3 _ _ upd_same))
      have e3 : H5 p = some (.dK [(Sum.inr "long", v)]) := b5 _ _ ph (s4 _ _ upd_same)
      have e4 : H5 l2 = some (.lst [.ref t1, .ref l1, .ref p]) := b5 _ _ l2h upd_same
      have nx : ∀ (x : Addr) (d' : PyData), Dz K (del H5 h) (.ref x) d' → Nice d' (k + 1) (9 + 20 * (k + 1)) → wh (some d') = none → ∃ (v : V) (d : PyData) (c3 : Option V), [some (.ref h), some (.int i), some (V.ref x), some (.int (0 + (k : Int))), none] = [some (.ref h), some (.int i), some v, c3, none] ∧
          Dz K (del H5 h) v d ∧ Nice d (k + 1) (9 + 20 * (k + 1)) ∧ (1 ≤ k + 1 → wh (some d) = none) ∧ Hand (n + 1 + ((k + 1 : Nat) : Int)) H5 h ∧ But h H H5 :=
        fun x d' q1 q2 q3 => ⟨_, d', _, rfl, q1, q2, fun _ => q3, h5.mono (by omega), bi.trans bt⟩
      have hl : (reprText ("long" : Str)).length ≤ 6 := by decide +kernel
      obtain ⟨j, rfl⟩ : ∃ j : Nat, a = (j : Int) := ⟨a.toNat, by omega⟩
      have hj : j < 3 := by omega
      match j, hj with
      | 0, _ => exact ⟨l2, _, _, _, rfl, rfl, SqL.of e4, atI_nat (j := 0) rfl, nx t1 (.tuple [d]) (.tup (off_at t1h e1) (.cons dz5 .nil)) ((nice_tup1 nc).mono (by omega) (by omega)) rfl⟩
      | 1, _ => exact ⟨l2, _, _, _, rfl, rfl, SqL.of e4, atI_nat (j := 1) rfl, nx l1 (.list [d]) (.lst (off_at l1h e2) ne2 (.cons dz5 .nil)) ((nice_lst1 nc).mono (by omega) (by omega)) rfl⟩
      | 2, _ => exact ⟨l2, _, _, _, rfl, rfl, SqL.of e4, atI_nat (j := 2) rfl, nx p (.dict [(.str "long", d)]) (.dct (off_at ph e3) (.cons (k := Sum.inr "long") dz5 .nil)) ((nice_dct1 hl nc).mono (by omega) (by omega)) rfl⟩
    rintro σ H2 ⟨v, d, c3, rfl, dz, nc, nw, h2, b2⟩
    have nwd : wh (some d) = none := nw (by omega)
    have ncd : Nice d 32 1000 := nc.mono (by omega) (by omega)
    have h2' : Hand (n + 29) H2 h := h2.mono (by omega)
    clear h2
    -- some
    refine ⟨1, rfl, 0, 1, rfl, rfl, _, rfl, 10, 29, rfl, rfl, ⟨by decide, by decide, by decide⟩, h, _, n + 29, rfl, by decide, by decide, h2', by show n + 29 ≤ 1000000; omega, fun a3 H3 a30 a31 h3 b3 => ?_⟩
    have a31' : a3 < 10 ^ 29 := a31
    refine ⟨0 - 1, a3, rfl, rfl, _, rfl, 10, 29, rfl, rfl, ⟨by decide, by decide, by decide⟩, h, _, n + 29 + 1, rfl, by decide, by decide, h3, by show n + 29 + 1 ≤ 1000000; omega, fun a4 H4 a40 a41 h4 b4 => ?_⟩
    have a41' : a4 < 10 ^ 29 := a41
    refine ⟨360000, a4, rfl, rfl, (by show 7 ≤ sizeLine; decide), fun l3 n3 => ?_⟩
    have s5 := same_upd n3 (o := .lst [.int (-1), .int 360000, .int (0 - 1 - a3), .int (360000 + a4), .bl true, .bl false, .non])
    have h5 := h4.same s5
    have l3h := h4.fresh n3
    have e5 : (upd H4 l3 (.lst [.int (-1), .int 360000, .int (0 - 1 - a3), .int (360000 + a4), .bl true, .bl false, .non])) l3 = some (.lst [.int (-1), .int 360000, .int (0 - 1 - a3), .int (360000 + a4), .bl true, .bl false, .non]) := upd_same
    have b5 : But h H2 (upd H4 l3 (.lst [.int (-1), .int 360000, .int (0 - 1 - a3), .int (360000 + a4), .bl true, .bl false, .non])) := (b3.trans b4).trans (Same.but s5 h)
    generalize upd H4 l3 (.lst [.int (-1), .int 360000, .int (0 - 1 - a3), .int (360000 + a4), .bl true, .bl false, .non]) = H5 at e5 b5 h5 ⊢
    -- the rest of them
    refine ⟨_, rfl, _, rfl, _, rfl, _, rfl, lg (by omega) (by omega), _, rfl, _, rfl, (by show 0 ≤ sizeLine; decide), fun t6 n6 => ⟨(by show 0 ≤ sizeLine; decide), fun l7 n7 ne7 => fun p8 n8 => ?_⟩⟩
    have s8 := ((same_upd n6 (o := .tup [])).trans (same_upd n7 (o := .lst []))).trans (same_upd n8 (o := .dK []))
    have t6h := h5.fresh n6
    have l7h := (h5.same (same_upd n6)).fresh n7
    have p8h := ((h5.same (same_upd n6)).same (same_upd n7)).fresh n8
    have e6 : (upd (upd (upd H5 t6 (.tup [])) l7 (.lst [])) p8 (.dK [])) t6 = some (.tup []) := same_upd n8 _ _ (same_upd n7 _ _ upd_same)
    have e7 : (upd (upd (upd H5 t6 (.tup [])) l7 (.lst [])) p8 (.dK [])) l7 = some (.lst []) := same_upd n8 _ _ upd_same
    have e8 : (upd (upd (upd H5 t6 (.tup [])) l7 (.lst [])) p8 (.dK [])) p8 = some (.dK []) := upd_same
    have h8 := h5.same s8
    generalize upd (upd (upd H5 t6 (.tup [])) l7 (.lst [])) p8 (.dK []) = H8 at e6 e7 e8 s8 h8 ⊢
    refine ⟨_, rfl, i, rfl, i0, i1, fun H9 s9 => ?_⟩
    refine ⟨_, rfl, fun x dx nx nd nex => ⟨x, dx, .int i, some (.int i), rfl, upd_same, .dat (.int i), fun j ej _ HA k al => ⟨rfl, ?_⟩, fun c => absurd (okS_true i0 i1) (by rw [c]; decide)⟩⟩
    cases ej
    have sA : L2.Same H9 HA := Same.made nx nd k
    have sx := (s8.trans s9).trans sA
    refine ⟨(by show 9 ≤ sizeLine; decide), fun l9 n9 => ?_⟩
    have sB := same_upd n9 (o := .lst [.str (toString i), v, v, .ref t6, .ref l7, .ref p8, .str "", .str (lenText i), .ref x])
    have hB := (((h8.same s9).same sA).same sB)
    refine ⟨l3, l9, _, _, rfl, rfl, sB _ _ (sx _ _ e5), upd_same, (by show 16 ≤ sizeLine; decide), fun lc nc2 => ?_⟩
    have sC := same_upd nc2 (o := .lst ([.int (-1), .int 360000, .int (0 - 1 - a3), .int (360000 + a4), .bl true, .bl false, .non] ++ [.str (toString i), v, v, .ref t6, .ref l7, .ref p8, .str "", .str (lenText i), .ref x]))
    refine ⟨h, lc, _, n + 29 + 1 + 1, rfl, upd_same, hB.fresh nc2, by simp, by show 16 < 1000; decide, hB.same sC, by show n + 29 + 1 + 1 ≤ 1000000; omega, fun w HD mw hD bD => ?_⟩
    have bAll : But h H5 HD := (Same.but (((s8.trans (s9.trans sA)).trans sB).trans sC) h).trans bD
    have bF : But h H HD := (b2.trans b5).trans bAll
    have at_ : ∀ {b : Addr} {o : HO}, b ≠ h → H8 b = some o → del HD h b = some o := fun {b o} nb e => off_at nb (bD _ _ nb (sC _ _ (sB _ _ (sA _ _ (s9 _ _ e)))))
    have dzD : Dz K (del HD h) v d := dz.same (off_but (b5.trans bAll))
    have alD : LenAt C (del HD h) x i := by
      obtain ⟨dy, ey⟩ := al
      have xh : x ≠ h := (h8.same s9).fresh nx
      exact ⟨dy, off_at xh (bD _ _ xh (sC _ _ (sB _ _ ey)))⟩
    have fin : ∀ (o : Option PyData), Th K C (del HD h) w o → okS o = false → NiceO o → Q w HD := fun o q1 q2 q3 => q w o HD q1 q2 q3 (hD.mono (by omega)) bF
    have one : ∀ {d' : PyData}, Nice d' 32 1000 → NiceO (some d') := fun {d'} z d2 e => by cases e; exact z
    have l1 := tx_len i0 (show i < 10 ^ 9 by omega)
    simp only [List.cons_append, List.nil_append, List.mem_cons, List.not_mem_nil, or_false] at mw
    rcases mw with e | e | e | e | e | e | e | e | e | e | e | e | e | e | e | e
    · subst e
      exact fin _ (.dat (.int _)) (okS_neg (.inl (by decide))) (one ((nice_int (lg (by decide) (by decide)) (tx_le (by decide) (by decide))).mono (by decide) (by decide)))
    · subst e
      exact fin _ (.dat (.int _)) (okS_neg (.inr (by decide))) (one ((nice_int (lg (by decide) (by decide)) (tx_le (by decide) (by decide))).mono (by decide) (by decide)))
    · subst e
      exact fin _ (.dat (.int _)) (okS_neg (.inl (by omega))) (one ((nice_int (lg (by omega) (by omega)) (tx_le (by omega) (by omega))).mono (by decide) (by decide)))
    · subst e
      exact fin _ (.dat (.int _)) (okS_neg (.inr (by omega))) (one ((nice_int (lg (by omega) (by omega)) (tx_le (by omega) (by omega))).mono (by decide) (by decide)))
    · subst e
      exact fin _ (.dat (.bl true)) rfl (one ((nice_bool true).mono (by decide) (by decide)))
    · subst e
      exact fin _ (.dat (.bl false)) rfl (one ((nice_bool false).mono (by decide) (by decide)))
    · subst e
      exact fin _ (.dat .non) rfl (one (nice_none.mono (by decide) (by decide)))
    · subst e
      refine fin _ (.dat (.str _)) rfl (one ((nice_str (n := 1000) ?_).mono (by decide) (by decide)))
      exact Nat.le_trans (repr_le (asc_int i)) (by omega)
    · subst e
      exact fin _ (.dat dzD) (okS_not nwd) (one ncd)
    · subst e
      exact fin _ (.dat dzD) (okS_not nwd) (one ncd)
    · subst e
      exact fin _ (.dat (.tup (at_ t6h e6) .nil)) rfl (one (nice_tup0.mono (by decide) (by decide)))
    · subst e
      exact fin _ (.dat (.lst (at_ l7h e7) ne7 .nil)) rfl (one (nice_lst0.mono (by decide) (by decide)))
    · subst e
      exact fin _ (.dat (.dct (at_ p8h e8) .nil)) rfl (one (nice_dct0.mono (by decide) (by decide)))
    · subst e
      exact fin _ (.dat (.str "")) rfl (one ((nice_str (n := 1000) (by decide +kernel)).mono (by decide) (by decide)))
    · subst e
      refine fin _ (.dat (.str _)) rfl (one ((nice_str (n := 1000) ?_).mono (by decide) (by decide)))
      refine Nat.le_trans (repr_le (asc_text i)) ?_
      have := lenText_len i0 i1
      omega
    · subst e
      exact fin _ (.len alD i0 i1) rfl (fun d2 e2 => by cases e2)
end
end K5
set_option Elab.async false
set_option linter.all false
set_option maxRecDepth 100000
set_option maxHeartbeats 4000000
set_option pp.maxSteps 400
set_option pp.deepTerms false
namespace K5
open PySem PySem.Spec PyProof.Rows L2
open Xk Az
section
variable {P : Program} {w : World} {K : PySem.W.Frag} {mg : Str → Option Value} {base : Heap} {C : Addr}
def spAlone (e : Ex) : Sp := fun vs H Q _ => ∃ (a : Addr) (fs : List (Str × V)), vs = [.ref a] ∧ Kept H a e.NoLength fs ∧ ∀ H', L2.Same H H' → Q (.bl true) H'
def spCaught (K : PySem.W.Frag) (C : Addr) (e : Ex) : Sp := fun vs H Q _ => ∃ (way : Int) (v : V) (o : Option PyData), vs = [.int way, v] ∧ Th K C H v o ∧ okS o = false ∧
  ∀ (H' : Hp) (x : Addr), L2.Same H H' → Kept H' x e.NoLength [("seconds", v)] → Q (.ref x) H'
structure Ln (P : Program) (w : World) (K : PySem.W.Frag) (mg : Str → Option Value) (base : Heap) (C : Addr) (e : Ex) (f : Addr) (fd : FuncData) : Prop where
  mm : Mk K C f
  ok : FnOk P w K mg base (L2.CX P w) 3 f fd ["self", "seconds"] (spLen K C e)
  bd : Binds K fd ["self", "seconds"] []
  k1 : KBn K fd ["self", "seconds"] 1 ["seconds"] (fun us ws => us ++ ws) (fun vs zs => vs ++ zs)
theorem ok_alone {f : Addr} {fd : FuncData} {e : Ex} (D : Df K mg "_law_alone" ["_law_e"] sAlone f fd) (T : Txt K mg C e) : FnOk P w K mg base CX0 1 f fd ["_law_e"] (spAlone e) := by
  refine D.fn.ok scAlone (fun vs H Q E h => ?_) (fun cdv A outer s H vs Q E hr h => ?_)
  · obtain ⟨a, fs, rfl, k, q⟩ := h
    rfl
  · obtain ⟨a, fs, rfl, k, q⟩ := h
    refine ⟨_, (pss_cons (ps_if (pt_val (pe_callB (call_isKT T.xc) (by rfl) T.isi (by decide +kernel) (pa_cons (pv 0) (pa_cons (pe_tup (pa_cons (pe_glob (v := .ref e.Lost) (by rfl) T.mLost rfl) (pa_cons (pe_glob (v := .ref e.Taken) (by rfl) T.mTaken rfl) (pa_cons (pe_glob (v := .ref e.NoCustom) (by rfl) T.mNoCustom rfl) (pa_cons (pe_glob (v := .ref e.NoDay) (by rfl) T.mNoDay rfl) (pa_cons (pe_glob (v := .ref e.NoDisc) (by rfl) T.mNoDisc rfl) (pa_cons (pe_glob (v := .ref e.NoEntry) (by rfl) T.mNoEntry rfl) (pa_cons (pe_glob (v := .ref e.NoKey) (by rfl) T.mNoKey rfl) (pa_cons (pe_glob (v := .ref e.NoLine) (by rfl) T.mNoLine rfl) pa_nil))))))))) pa_nil)))) (pss_one (ps_ret pe_bl)) pss_nil)
      (pss_cons (ps_if (pt_val (pe_callB (call_isKT T.xc) (by rfl) T.isi (by decide +kernel) (pa_cons (pv 0) (pa_cons (pe_tup (pa_cons (pe_glob (v := .ref e.NoName) (by rfl) T.mNoName rfl) (pa_cons (pe_glob (v := .ref e.NoNumber) (by rfl) T.mNoNumber rfl) (pa_cons (pe_glob (v := .ref e.NoPath) (by rfl) T.mNoPath rfl) (pa_cons (pe_glob (v := .ref e.NoText) (by rfl) T.mNoText rfl) (pa_cons (pe_glob (v := .ref e.Same) (by rfl) T.mSame rfl) (pa_cons (pe_glob (v := .ref e.Struck) (by rfl) T.mStruck rfl) (pa_cons (pe_glob (v := .ref e.Twice) (by rfl) T.mTwice rfl) pa_nil)))))))) pa_nil)))) (pss_one (ps_ret pe_bl)) pss_nil)
      (pss_one (ps_ret (pe_and (pe_callB (call_isK T.xc) (by rfl) T.isi (by decide +kernel) (pa_cons (pv 0) (pa_cons (pe_glob (v := .ref e.NoLength) (by rfl) T.mNoLength rfl) pa_nil))) (pe_and (pe_callB (call_isK T.xc) (by rfl) T.isi (by decide +kernel) (pa_cons (pv 0) (pa_cons (pe_glob (v := .ref e.NotSuch) (by rfl) T.mNotSuch rfl) pa_nil))) (pe_one (pe_callB (call_isK T.xc) (by rfl) T.isi (by decide +kernel) (pa_cons (pv 0) (pa_cons (pe_bltn (v := .ty "ValueError") (by rfl) T.ValueError (by decide +kernel) rfl) pa_nil)))))))))), ?_⟩
    refine ⟨_, rfl, (by show 8 ≤ sizeLine; decide), fun t nt => ⟨a, t, fs, _, _, false, rfl, k.same (same_upd nt), upd_same, (.cons (.own _) (.cons (.own _) (.cons (.own _) (.cons (.own _) (.cons (.own _) (.cons (.own _) (.cons (.own _) (.cons (.own _) .nil)))))))), T.kit1, false, rfl, iteF ?_⟩⟩
    refine ⟨_, rfl, (by show 7 ≤ sizeLine; decide), fun u nu => ⟨a, u, fs, _, _, false, rfl, (k.same (same_upd nt)).same (same_upd nu), upd_same, (.cons (.own _) (.cons (.own _) (.cons (.own _) (.cons (.own _) (.cons (.own _) (.cons (.own _) (.cons (.own _) .nil))))))), T.kit2, false, rfl, iteF ?_⟩⟩
    have k2 := (k.same (same_upd nt (o := .tup [.ref e.Lost, .ref e.Taken, .ref e.NoCustom, .ref e.NoDay, .ref e.NoDisc, .ref e.NoEntry, .ref e.NoKey, .ref e.NoLine]))).same (same_upd nu (o := .tup [.ref e.NoName, .ref e.NoNumber, .ref e.NoPath, .ref e.NoText, .ref e.Same, .ref e.Struck, .ref e.Twice]))
    refine ⟨_, rfl, a, fs, _, _, true, rfl, k2, .own _, T.kit3, true, rfl, iteT ?_⟩
    refine ⟨_, rfl, a, fs, _, _, true, rfl, k2, .own _, T.kit4, true, rfl, iteT ?_⟩
    exact ⟨_, rfl, a, fs, _, _, true, rfl, k2, .ty _, T.kit5, q _ ((same_upd nt).trans (same_upd nu))⟩
theorem ok_caught {f : Addr} {fd : FuncData} {e : Ex} {fG : Addr} {fdG : FuncData} (D : Df K mg "_law_caught" ["_law_way", "_law_thing"] sCaught f fd) (T : Txt K mg C e) (G : Ln P w K mg base C e fG fdG) : FnOk P w K mg base CX0 5 f fd ["_law_way", "_law_thing"] (spCaught K C e) := by
  refine D.fn.ok scCaught (fun vs H Q E h => ?_) (fun cdv A outer s H vs Q E hr h => ?_)
  · obtain ⟨way, v, o, rfl, ht, ho, q⟩ := h
    rfl
  · obtain ⟨way, v, o, rfl, ht, ho, q⟩ := h
    refine ⟨_, (pss_cons (ps_set (i := 2) scCaught.nd rfl (.inl rfl) pe_non)
      (pss_cons (ps_try_keep (i := 3) (C1 := e.NotSuch) (C2 := e.Lost) (C3 := e.Taken) rfl rfl rfl scCaught.nd rfl rfl ⟨by rfl, by decide, T.mNotSuch⟩ ⟨by rfl, by decide, T.mLost⟩ ⟨by rfl, by decide, T.mTaken⟩ takes0 (fun W pn xe tk _ =>
        (pss_one (ps_if (pt_cmpR op_eq (pv 0) pe_int (nomark _)) (pss_one (ps_expr (pe_makeS G.mm G.ok (hr.mono (by decide)) (by rfl) T.mgC G.bd .nil (fun σ => passAt tk σ) (pa_cons (pv 1) pa_nil))))
        (pss_one (ps_expr (pe_makeKS G.mm G.ok (hr.mono (by decide)) (by rfl) T.mgC G.k1 (fun σ => passAt tk σ) (pk_cons (pv 1) pk_nil))))))) (fun a pn => pss_one (ps_set (i := 2) scCaught.nd rfl (.inl rfl) (pv 3))))
      (pss_one (ps_ret (pv 2))))), ?_⟩
    have mk2 : ∀ {x dx : Addr}, H x = none → H dx = none → L2.Same H (upd (upd H dx (.own x)) x (.ins C dx [])) := fun {x dx} nx nd b z e => by
      rw [upd_ne (ne_of_none e nx), upd_ne (ne_of_none e nd)]
      exact e
    refine ⟨_, rfl, rfl, _, rfl, ?_⟩
    refine ite2 (fun c => ?_) (fun c => ?_)
    · exact ⟨_, rfl, fun x dx nx nd ne => ⟨x, dx, v, o, rfl, upd_same, ht.same (mk2 nx nd), fun i _ c => absurd c (by rw [ho]; decide), fun _ d H' sm ed => ⟨true, T.exm, fun _ y ny => ⟨_, rfl, _, rfl, q _ y ((mk2 nx nd).trans (sm.trans (same_upd ny))) ⟨d, upd_same, same_upd ny _ _ ed⟩⟩, fun z => nomatch z⟩⟩⟩
    · exact ⟨_, rfl, rfl, fun x dx nx nd ne => ⟨x, dx, v, o, rfl, upd_same, ht.same (mk2 nx nd), fun i _ c => absurd c (by rw [ho]; decide), fun _ d H' sm ed => ⟨true, T.exm, fun _ y ny => ⟨_, rfl, _, rfl, q _ y ((mk2 nx nd).trans (sm.trans (same_upd ny))) ⟨d, upd_same, same_upd ny _ _ ed⟩⟩, fun z => nomatch z⟩⟩⟩
structure Own (P : Program) (w : World) (K : PySem.W.Frag) (mg : Str → Option Value) (base : Heap) (C fE fS fR : Addr) (fdE fdS fdR : FuncData) : Prop where
  W : OwnC K C fE
  Z : KitC K C
  okE : FnOk P w K mg base CX0 1 fE fdE ["self", "other"] (spEqL C)
  bdE : Binds K fdE ["self", "other"] []
  hs : PySem.W.findIn K (.ref C) "__str__" = some (some (.ref fS))
  sf : PySem.W.isFn K (.ref fS) = true
  okS : FnOk P w K mg base CX0 2 fS fdS ["self"] (spStrL C)
  bdS : Binds K fdS ["self"] []
  hr : PySem.W.findIn K (.ref C) "__repr__" = some (some (.ref fR))
  rf : PySem.W.isFn K (.ref fR) = true
  okR : FnOk P w K mg base CX0 1 fR fdR ["self"] (spReprL C)
  bdR : Binds K fdR ["self"] []
def spRefused (K : PySem.W.Frag) (C : Addr) : Sp := fun vs H Q _ => ∃ (h : Addr) (n : Int) (v : V) (o : Option PyData), vs = [.ref h, v] ∧ Th K C (del H h) v o ∧ okS o = false ∧ NiceO o ∧ Hand n H h ∧ n ≤ far ∧
  ∀ H', Hand (n + 1) H' h → But h H H' → Q (.bl true) H'
theorem f_v (v : V) : ([(("seconds" : Str), v)] : List (Str × V)).lookup ("seconds" : Str) = some v := by rw [List.lookup_cons_self]
theorem ok_refused {f : Addr} {fd : FuncData} {e : Ex} {fE fS fR : Addr} {fdE fdS fdR : FuncData} (D : Df K mg "_law_refused" ["_law_hand_here", "_law_odd_here"] sRefused f fd) (T : Txt K mg C e) (cT : Ca P w K mg base 1 "_law_take" ["_law_hand_here", "_law_many"] spTake) (cA : Ca P w K mg base 1 "_law_alone" ["_law_e"] (spAlone e)) (cC : Ca P w K mg base 5 "_law_caught" ["_law_way", "_law_thing"] (spCaught K C e)) (O : Own P w K mg base C fE fS fR fdE fdS fdR) : Gn P w K mg base 6 f fd ["_law_hand_here", "_law_odd_here"] (spRefused K C) := by
  refine gn_body D.fn scRefused (fun vs H Q E h => ?_) (fun cdv A outer s H vs Q E hg hr h => ?_)
  · obtain ⟨h, n, v, o, rfl, ht, ho, nc, hh, hn, q⟩ := h
    rfl
  · obtain ⟨h, n, v, o, rfl, ht, ho, nc, hh, hn, q⟩ := h
    have r2 := hr.mono (show 2 ≤ 5 by decide)
    refine ⟨_, (pss_cons (ps_set (i := 2) scRefused.nd rfl (.inl rfl) (pe_ca cC hr (by decide) (by rfl) (pa_cons (pe_ca cT hr (by decide) (by rfl) (pa_cons (pv 0) (pa_cons pe_int pa_nil))) (pa_cons (pv 1) pa_nil))))
      (pss_one (ps_ret (pe_and (pe_ca cA hr (by decide) (by rfl) (pa_cons (pv 2) pa_nil)) (pe_one (pe_cmpR op_eq (pe_callB (cr_alt (cr_reprZ hg hr) (cr_reprO O.hr O.rf r2 O.okR O.bdR)) (by rfl) T.repr (by decide +kernel) (pa_cons (pe_kf T.xc T.fld (pv 2)) pa_nil)) (pe_callB (cr_alt (cr_reprZ hg hr) (cr_reprO O.hr O.rf r2 O.okR O.bdR)) (by rfl) T.repr (by decide +kernel) (pa_cons (pv 1) pa_nil)) (nomark _))))))), ?_⟩
    refine ⟨_, rfl, h, 2, n, rfl, by decide, by decide, hh, hn, fun a H1 a0 a1 h1 b1 => ?_⟩
    have t1 : Th K C (del H1 h) v o := ht.same (off_but b1)
    have t1' : Th K C H1 v o := t1.same off_all
    refine ⟨_, rfl, a, v, o, rfl, t1', ho, fun H2 x s2 k => ?_⟩
    have t2 : Th K C H2 v o := t1'.same s2
    refine ⟨_, rfl, x, _, rfl, k, fun H3 s3 => ⟨true, rfl, iteT ?_⟩⟩
    have t3 : Th K C H3 v o := t2.same s3
    have qf : Q (.bl true) H3 := q H3 ((h1.same s2).same s3) (b1.trans ((Same.but s2 h).trans (Same.but s3 h)))
    refine ⟨_, rfl, x, _, v, rfl, k.same s3, f_v v, ?_⟩
    cases t3 with
    | @dat _ d dz =>
      have nd := nc d rfl
      have ask : ∀ {Q2 : VK}, Q2 (.str d.shown) H3 → rReprZ K [v] H3 Q2 := fun {Q2} z => ⟨v, d, rfl, dz, nd.sh, Nat.le_trans nd.dp (by decide), fitN nd.sz, z⟩
      refine .inl (ask ⟨_, rfl, .inl (ask ⟨rfl, ?_⟩)⟩)
      rw [← decide_eq_true (rfl : V.str d.shown = V.str d.shown)] at qf
      exact qf
    | @len a2 i al i0 i1 =>
      obtain ⟨dx, ha⟩ := al
      refine .inr ⟨a2, dx, _, rfl, ha, a2, i, rfl, ⟨dx, ha⟩, i0, i1, _, rfl, _, rfl, .inr ⟨a2, dx, _, rfl, ha, a2, i, rfl, ⟨dx, ha⟩, i0, i1, _, rfl, rfl, ?_⟩⟩
      rw [← decide_eq_true (rfl : V.str (lenRepr i) = V.str (lenRepr i))] at qf
      exact qf
end
end K5
set_option Elab.async false
set_option linter.all false
set_option maxRecDepth 100000
set_option maxHeartbeats 4000000
set_option pp.maxSteps 400
set_option pp.deepTerms false
namespace K5
open PySem PySem.Spec PyProof.Rows L2
open Xk Az
section
variable {P : Program} {w : World} {K : PySem.W.Frag} {mg : Str → Option Value} {base : Heap} {C : Addr}
theorem Paired.mem1 {α β : Type} {R : α → β → Prop} : ∀ {as : List α} {bs : List β}, Paired R as bs → ∀ a ∈ as, ∃ b ∈ bs, R a b
  | _, _, .nil, a, h => by cases h
  | _, _, .cons (b := b) r t, a, h => by
    rcases List.mem_cons.mp h with e | e
    · rw [e]
      exact ⟨b, List.mem_cons_self, r⟩
    · obtain ⟨c, h1, h2⟩ := Paired.mem1 t a e
      exact ⟨c, List.mem_cons_of_mem _ h1, h2⟩
theorem neStr {A B : Prop} {x y : Str} (q : x = y) (h : B) : if (!decide (V.str x = V.str y)) = true then A else B := by
  rw [q, decide_eq_true rfl]
  exact iteF h
theorem iteF_of {A B : Prop} {b : Bool} (e : b = false) (h : B) : if b = true then A else B := by
  rw [e]
  exact iteF h
theorem iteT_of {A B : Prop} {b : Bool} (e : b = true) (h : A) : if b = true then A else B := by
  rw [e]
  exact iteT h
theorem any_rep (n : Nat) : (List.replicate n false).any id = false := by
  induction n with
  | zero => rfl
  | succ n ih => rw [List.replicate_succ, List.any_cons, ih]; rfl
theorem Hand.updL {n : Int} {H : Hp} {a l : Addr} {o : HO} (h : Hand n H a) (ne : l ≠ a) : Hand n (upd H l o) a := by
  obtain ⟨g, m, c, e, r⟩ := h
  exact ⟨g, m, c, by rw [upd_ne ne.symm]; exact e, r⟩
theorem LenAt.uniq {C : Addr} {H : Hp} {a : Addr} {p q : Int} (h : LenAt C H a p) (k : LenAt C H a q) : p = q := by
  obtain ⟨dx, e⟩ := h
  obtain ⟨dz, e2⟩ := k
  rw [e] at e2
  have z := Option.some.inj e2
  injection z with _ _ z3
  simp only [List.cons.injEq, Prod.mk.injEq, true_and, and_true] at z3
  exact V.int.inj z3
/-- what stands ready when the strange things are asked -/
structure Rdy (C : Addr) (H : Hp) (i : Int) (a b L : Addr) (as : List Addr) (ps : List Int) : Prop where
  da : LenAt C H a i
  db : LenAt C H b i
  ab : b ≠ a
  hL : H L = some (.lst (as.map V.ref))
  ds : Paired (LenAt C H) as ps
  ne : ∀ p ∈ ps, p ≠ i
  few : as.length ≤ 10
theorem Rdy.same {C : Addr} {H H' : Hp} {i : Int} {a b L : Addr} {as : List Addr} {ps : List Int} (r : Rdy C H i a b L as ps) (s : L2.Same H H') : Rdy C H' i a b L as ps :=
  ⟨r.da.same s, r.db.same s, r.ab, s _ _ r.hL, Paired.mapP r.ds fun _ _ q => LenAt.same q s, r.ne, r.few⟩
theorem Rdy.other {C : Addr} {H : Hp} {i : Int} {a b L : Addr} {as : List Addr} {ps : List Int} (r : Rdy C H i a b L as ps) : ∀ c ∈ as, ∃ p, LenAt C H c p ∧ p ≠ i ∧ c ≠ a ∧ c ≠ b := fun c hc => by
  obtain ⟨p, hp, hd⟩ := Paired.mem1 r.ds c hc
  refine ⟨p, hd, r.ne p hp, fun z => ?_, fun z => ?_⟩
  · rw [z] at hd
    exact r.ne p hp (hd.uniq r.da)
  · rw [z] at hd
    exact r.ne p hp (hd.uniq r.db)
def spRight : Sp := fun vs H Q _ => ∃ h : Addr, vs = [.ref h] ∧ Hand 0 H h ∧ ∀ H', But h H H' → Q (.bl true) H'
theorem eq_ask {H : Hp} {Q : VK} {c a : Addr} {p q : Int} (hc : LenAt C H c p) (ha : LenAt C H a q) (h : Q (.bl (decide (p = q))) H) : spEqL C [.ref c, .ref a] H Q E0 :=
  ⟨c, .ref a, p, rfl, hc, .inr ⟨a, q, rfl, ha, h⟩⟩
theorem ok_right {f : Addr} {fd : FuncData} {e : Ex} {fE fS fR fL fF : Addr} {fdE fdS fdR fdL fdF : FuncData} (D : Df K mg "_law_right" ["_law_hand_here"] sRight f fd) (T : Txt K mg C e) (O : Own P w K mg base C fE fS fR fdE fdS fdR) (G : Ln P w K mg base C e fL fdL) (cQ : Ca P w K mg base 3 "_law_seconds" ["_law_hand_here"] spSeconds) (cX : Ca P w K mg base 1 "_law_text" ["_law_count"] spText) (cO : Ca P w K mg base 5 "_law_odd" ["_law_hand_here", "_law_count"] (spOdd K C)) (DF : Df K mg "_law_refused" ["_law_hand_here", "_law_odd_here"] sRefused fF fdF) (GF : Gn P w K mg base 6 fF fdF ["_law_hand_here", "_law_odd_here"] (spRefused K C)) : Gn P w K mg base 8 f fd ["_law_hand_here"] spRight := by
  refine gn_body D.fn scRight (fun vs H Q E h => ?_) (fun cdv A outer s H vs Q E hg hr h => ?_)
  · obtain ⟨h, rfl, hh, q⟩ := h
    rfl
  · obtain ⟨h, rfl, hh, q⟩ := h
    have r1 := hr.mono (show 1 ≤ 7 by decide)
    have r2 := hr.mono (show 2 ≤ 7 by decide)
    have r3 := hr.mono (show 3 ≤ 7 by decide)
    refine ⟨_, (pss_cons (ps_set (i := 1) scRight.nd rfl (.inr rfl) (pe_ca cQ hr (by decide) (by rfl) (pa_cons (pv 0) pa_nil)))
      (pss_cons (ps_asg (pe_tup (pa_cons (pe_make G.mm G.ok (hr.mono (by decide)) (by rfl) T.mgC G.bd .nil passL (pa_cons (pv 1) pa_nil)) (pa_cons (pe_makeK0 G.mm G.ok (hr.mono (by decide)) (by rfl) T.mgC G.k1 passL (pk_cons (pv 1) pk_nil)) pa_nil))) (pg_tup (by rfl) (pgs_cons (pg_name (i := 2) scRight.nd rfl (.inr rfl)) (pgs_cons (pg_name (i := 3) scRight.nd rfl (.inl rfl)) pgs_nil))))
      (pss_cons (ps_if (PW.pt (pw_or (pt_cmpR op_ne (pe_callB SkE.call_repr_int (by rfl) T.repr (by decide +kernel) (pa_cons (pe_fld (pv 2) rfl) pa_nil)) (pe_callB SkE.call_repr_int (by rfl) T.repr (by decide +kernel) (pa_cons (pv 1) pa_nil)) (nomark _)) (pw_or (pt_not (pt_cmpR (op_eqL O.W O.Z r1 O.okE O.bdE) (pv 2) (pv 3) (nomark _))) (pw_or (pt_cmpR (op_neL O.W r2 O.okE O.bdE) (pv 2) (pv 3) (nomark _)) (pw_or1 (pt_cmpR op_ne (pe_callTy (cr_strO O.hs O.sf (hr.mono (by decide)) O.okS O.bdS) (by rfl) T.str (by decide +kernel) (pa_cons (pv 2) pa_nil)) (pe_ca cX hr (by decide) (by rfl) (pa_cons (pv 1) pa_nil)) (nomark _))))))) (pss_one (ps_ret pe_bl)) pss_nil)
      (pss_cons (ps_setLc (i := 4) (own := [("_law_some", 7)]) (g := gName 7) (by rfl) scRight.nd rfl rfl (sw_true rfl rfl rfl (by decide +kernel)) (pi_tup (pe_tup (pa_cons (pe_op op_sub (pv 1) pe_int) (pa_cons (pe_op op_add (pv 1) pe_int) (pa_cons (pe_op op_fdiv (pv 1) pe_int) pa_nil))))) (blkOk_by (own := [("_law_some", 7)]) (N := ["_law_hand_here", "_law_count", "_law_one", "_law_other", "_law_near", "_law_rest", "_law_strange", "_law_some", "_law_turn"]) (sc := defScope sRight) (by decide +kernel)) (fun _ _ _ _ _ => pg_name (i := 7) scRight.nd rfl (.inl rfl)) (fun _ _ _ _ _ => (pts_one (pt_chain op_le op_le pe_int (pv 7) pe_int))) (fun _ _ _ _ _ => pv 7))
      (pss_cons (ps_setLc (i := 5) (own := [("_law_some", 7)]) (g := gName 7) (te := tMake C (spLen K C e) [] E0 (tCons (tVar 7) tNil)) (by rfl) scRight.nd rfl rfl (sw_true rfl rfl rfl (by decide +kernel)) (pi_list (pv 4)) (blkOk_by (own := [("_law_some", 7)]) (N := ["_law_hand_here", "_law_count", "_law_one", "_law_other", "_law_near", "_law_rest", "_law_strange", "_law_some", "_law_turn"]) (sc := defScope sRight) (by decide +kernel)) (fun _ _ _ _ _ => pg_name (i := 7) scRight.nd rfl (.inl rfl)) (fun _ _ _ _ _ => pts_one (pt_cmpR op_ne (pv 7) (pv 1) (nomark _))) (fun _ _ _ _ _ => pe_make G.mm G.ok (hr.mono (by decide)) (by rfl) T.mgC G.bd .nil passL (pa_cons (pv 7) pa_nil)))
      (pss_cons (ps_set (i := 6) scRight.nd rfl (.inl rfl) (pe_lst (pa_cons (pv 1) (pa_cons (pe_callTy (cr_strO O.hs O.sf (hr.mono (by decide)) O.okS O.bdS) (by rfl) T.str (by decide +kernel) (pa_cons (pv 2) pa_nil)) (pa_cons (pe_callB (cr_reprO O.hr O.rf r2 O.okR O.bdR) (by rfl) T.repr (by decide +kernel) (pa_cons (pv 2) pa_nil)) (pa_cons pe_non (pa_cons (pe_tup (pa_cons (pv 1) pa_nil)) (pa_cons (pe_tup pa_nil) pa_nil))))))))
      (pss_cons (ps_if (PW.pt (pw_or (pt_cmpR op_ne (pe_callB (cr_reprO O.hr O.rf r2 O.okR O.bdR) (by rfl) T.repr (by decide +kernel) (pa_cons (pv 2) pa_nil)) (pe_op op_add_str (pe_op op_add_str pe_str (pe_callTy call_str_int (by rfl) T.str (by decide +kernel) (pa_cons (pv 1) pa_nil))) pe_str) (nomark _)) (pw_or1 (pt_val (pe_callB (cr_any (by rfl)) (by rfl) T.any (by decide +kernel) (pa_cons (pe_lc (own := [("_law_some", 7)]) (g := gName 7) (tt := tYes) (te := tOrV (tOp (rEqL C (spEqL C)) (tVar 2) (tVar 7)) (tOp (rEqR C (spEqL C)) (tVar 7) (tVar 2))) (by rfl) scRight.nd (pi_list (pe_op op_cat (pv 5) (pv 6))) (blkOk_by (own := [("_law_some", 7)]) (N := ["_law_hand_here", "_law_count", "_law_one", "_law_other", "_law_near", "_law_rest", "_law_strange", "_law_some", "_law_turn"]) (sc := defScope sRight) (by decide +kernel)) (fun _ _ _ _ _ => pg_name (i := 7) scRight.nd rfl (.inl rfl)) (fun _ _ _ _ _ => pts_nil) (fun _ _ _ _ _ => pe_or (pe_cmpR (op_eqL O.W O.Z r1 O.okE O.bdE) (pv 2) (pv 7) (nomark _)) (pe_one (pe_cmpR (op_eqR O.W r1 O.okE O.bdE) (pv 7) (pv 2) (nomark _))))) pa_nil)))))) (pss_one (ps_ret pe_bl)) pss_nil)
      (pss_cons (ps_if (PW.pt (pw_or (pt_cmpR (op_notInO O.W r3 O.okE O.bdE) (pv 2) (pe_op op_cat (pv 5) (pe_lst (pa_cons (pv 3) pa_nil))) (by rfl)) (pw_or1 (pt_cmpR (op_inO O.W r3 O.okE O.bdE) (pv 2) (pv 5) (by rfl))))) (pss_one (ps_ret pe_bl)) pss_nil)
      (pss_one (ps_ret (pe_callB (cr_all (by rfl)) (by rfl) T.all (by decide +kernel) (pa_cons (pe_lc (own := [("_law_turn", 8)]) (g := gName 8) (tt := tYes) (te := tCall (spRefused K C) [] E0 (tCons (tVar 0) (tCons (tCall (spOdd K C) [] E0 (tCons (tVar 0) (tCons (tVar 1) tNil))) tNil))) (by rfl) scRight.nd (pi_range1 (by rfl) T.range (pa_cons pe_int pa_nil)) (blkOk_by (own := [("_law_turn", 8)]) (N := ["_law_hand_here", "_law_count", "_law_one", "_law_other", "_law_near", "_law_rest", "_law_strange", "_law_some", "_law_turn"]) (sc := defScope sRight) (by decide +kernel)) (fun _ _ _ _ _ => pg_name (i := 8) scRight.nd rfl (.inl rfl)) (fun _ _ _ _ _ => pts_nil) (fun _ _ _ _ _ => pe_gn GF hg (hr.mono (by decide)) (by rfl) DF.mgf DF.fn.kp DF.bd (pa_cons (pv 0) (pa_cons (pe_ca cO hr (by decide) (by rfl) (pa_cons (pv 0) (pa_cons (pv 1) pa_nil))) pa_nil)))) pa_nil)))))))))))), ?_⟩
    refine ⟨_, rfl, h, 0, rfl, hh, by decide, fun i H1 i0 i1 h1 b1 => ?_⟩
    have lz : i.natAbs.log2 < 1920 := lg (by omega) (by omega)
    have oki := okS_true i0 i1
    -- one, other
    refine ⟨_, rfl, fun a dxa na nda nea => ⟨a, dxa, .int i, some (.int i), rfl, upd_same, .dat (.int i), fun j ej _ H2 k2 da => ⟨rfl, ?_⟩, fun c => absurd oki (by rw [c]; decide)⟩⟩
    cases ej
    have s2 : L2.Same H1 H2 := Same.made na nda k2
    refine ⟨_, rfl, rfl, rfl, fun b dxb nb ndb neb => ⟨b, dxb, .int i, some (.int i), rfl, upd_same, .dat (.int i), fun j ej _ H3 k3 db => ⟨rfl, ?_⟩, fun c => absurd oki (by rw [c]; decide)⟩⟩
    cases ej
    have s3 : L2.Same H2 H3 := Same.made nb ndb k3
    have ab : b ≠ a := by
      obtain ⟨dx, e⟩ := da
      exact (ne_of_none e nb).symm
    refine ⟨(by show 2 ≤ sizeLine; decide), fun tp ntp => ?_⟩
    have s4 := same_upd ntp (o := .tup [.ref a, .ref b])
    refine ⟨tp, _, rfl, SqT.of upd_same, rfl, _, _, rfl, _, _, rfl, rfl, ?_⟩
    obtain ⟨dxa, ea⟩ := (da.same s3).same s4
    obtain ⟨dxb, eb⟩ := db.same s4
    have sA := (s2.trans s3).trans s4
    have h4 := h1.same sA
    have b4 : But h H (upd H3 tp (.tup [.ref a, .ref b])) := b1.trans (Same.but sA h)
    clear s2 s3 s4 sA k2 k3
    generalize upd H3 tp (.tup [.ref a, .ref b]) = H4 at *
    -- the value, ==, !=, str
    refine ⟨_, rfl, a, C, dxa, _, _, rfl, ea, T.cl, T.nS, f_s i, i, rfl, lz, _, rfl, i, rfl, lz, rfl, _, rfl, neStr rfl ?_⟩
    refine ⟨_, rfl, _, rfl, a, dxa, _, rfl, ea, .inr ⟨b, dxb, _, rfl, eb⟩, eq_ask (p := i) (q := i) ⟨dxa, ea⟩ ⟨dxb, eb⟩ ⟨_, rfl, _, rfl, ?_⟩⟩
    refine iteF_of (by show (!decide (i = i)) = false; simp) ?_
    refine ⟨_, rfl, _, rfl, a, dxa, _, b, dxb, _, rfl, ea, rfl, eb, eq_ask (p := i) (q := i) ⟨dxa, ea⟩ ⟨dxb, eb⟩ ⟨_, rfl, _, rfl, ?_⟩⟩
    refine iteF_of (by show (!decide (i = i)) = false; simp) ?_
    refine ⟨_, rfl, a, dxa, _, rfl, ea, ⟨a, i, rfl, ⟨dxa, ea⟩, i0, i1, _, rfl, ?_⟩⟩
    refine ⟨_, rfl, i, rfl, i0, i1, fun H5 s5 => ⟨rfl, _, rfl, neStr rfl ?_⟩⟩
    replace ea := s5 _ _ ea
    replace eb := s5 _ _ eb
    replace h4 := h4.same s5
    replace b4 := b4.trans (Same.but s5 h)
    -- near
    refine ⟨_, rfl, i, 1, rfl, rfl, _, rfl, i, 1, rfl, rfl, _, rfl, i, 60, rfl, rfl, ⟨by decide, by decide⟩, (by show 3 ≤ sizeLine; decide), fun t nt => ⟨t, rfl, ⟨_, SqT.of upd_same⟩, fun D nD => ?_⟩⟩
    have s6 := same_upd nt (o := .tup [.int (i - 1), .int (i + 1), .int (i / 60)])
    refine lc_tup (K := K) (a := t) (xs := [.int (i - 1), .int (i + 1), .int (i / 60)]) (fun k Hi => L2.Same (upd H5 t (.tup [.int (i - 1), .int (i + 1), .int (i / 60)])) Hi ∧ ∃ ns : List Int, Hi D = some (.lst (ns.map V.int)) ∧ ns.length ≤ k ∧ ∀ z ∈ ns, 0 ≤ z ∧ z ≤ 359999)
      ⟨same_upd nD, [], upd_same, Nat.le_refl _, fun z hz => nomatch hz⟩ (fun k Hi _ z => SqT.of (z.1 _ _ upd_same)) ?_ ?_
    · rintro k x Hi hx ⟨sm, ns, eD, ln, bd⟩
      obtain ⟨z, rfl⟩ : ∃ z : Int, x = .int z := by
        have mm := List.mem_of_getElem? hx
        simp only [List.mem_cons, List.not_mem_nil, or_false] at mm
        rcases mm with e | e | e <;> exact ⟨_, e⟩
      have k3 : k < 3 := (List.getElem?_eq_some_iff.mp hx).1
      have no : ∃ ns : List Int, Hi D = some (.lst (ns.map V.int)) ∧ ns.length ≤ k + 1 ∧ ∀ z ∈ ns, 0 ≤ z ∧ z ≤ 359999 := ⟨ns, eD, by omega, bd⟩
      refine ⟨rfl, _, rfl, 0, z, rfl, rfl, _, rfl, ?_⟩
      refine ite2 (fun c1 => ?_) (fun c1 => ?_)
      · refine ⟨z, 359999, rfl, rfl, _, rfl, ?_⟩
        refine ite2 (fun c2 => ?_) (fun c2 => ?_)
        · refine ⟨_, rfl, _, eD, small1000 (by rw [List.length_map]; omega), fun b o e => ?_, ns ++ [z], ?_, by rw [List.length_append]; show ns.length + 1 ≤ k + 1; omega, fun y hy => ?_⟩
          · rw [upd_ne (ne_of_none e nD)]
            exact sm _ _ e
          · rw [upd_same, List.map_append]
            rfl
          · rcases List.mem_append.mp hy with e | e
            · exact bd y e
            · have e' : y = z := by simpa using e
              rw [e']
              exact ⟨of_decide_eq_true c1, of_decide_eq_true c2⟩
        · exact ⟨sm, no⟩
      · exact ⟨_, rfl, iteF ⟨sm, no⟩⟩
    rintro H6 ⟨s7, ns, eD, ln, bd⟩
    have s67 := s6.trans s7
    replace ea := s67 _ _ ea
    replace eb := s67 _ _ eb
    replace h4 := h4.same s67
    replace b4 := b4.trans (Same.but s67 h)
    have ln3 : ns.length ≤ 3 := ln
    clear s6 s7 s67 s5
    -- the rest
    refine ⟨_, rfl, D, rfl, ⟨_, SqL.of eD⟩, fun L nL => ?_⟩
    refine lc_list (K := K) (a := D) (xs := ns.map V.int) (fun k Hi => L2.Same H6 Hi ∧ ∃ (as : List Addr) (ps : List Int), Hi L = some (.lst (as.map V.ref)) ∧ Paired (LenAt C Hi) as ps ∧ (∀ p ∈ ps, p ≠ i) ∧ as.length ≤ k)
      ⟨same_upd nL, [], [], upd_same, .nil, (fun p hp => nomatch hp), Nat.le_refl _⟩ (fun k Hi _ z => SqL.of (z.1 _ _ eD)) ?_ ?_
    · rintro k x Hi hx ⟨sm, as, ps, eL, pr, ne, lk⟩
      rw [List.getElem?_map] at hx
      obtain ⟨z, ez, rfl⟩ := Option.map_eq_some_iff.mp hx
      obtain ⟨z0, z1⟩ := bd z (List.mem_of_getElem? ez)
      have k3 : k < ns.length := (List.getElem?_eq_some_iff.mp ez).1
      refine ⟨rfl, _, rfl, _, rfl, rfl, _, rfl, ?_⟩
      rw [dInt]
      refine ite2 (fun c => ?_) (fun c => ?_)
      · have zi : z ≠ i := by simpa using c
        refine ⟨_, rfl, fun x dx nx nd nex => ⟨x, dx, .int z, some (.int z), rfl, upd_same, .dat (.int z), fun j ej _ H' kk al => ⟨rfl, ?_⟩, fun c => absurd (okS_true z0 z1) (by rw [c]; decide)⟩⟩
        cases ej
        have s' : L2.Same Hi H' := Same.made nx nd kk
        have eL' := s' _ _ eL
        have keep : ∀ v z, LenAt C H' v z → LenAt C (upd H' L (.lst (as.map V.ref ++ [.ref x]))) v z := fun v z q => by
          obtain ⟨dy, eq⟩ := q
          exact ⟨dy, by rw [upd_ne (ne_of eq eL' (by intro z; cases z))]; exact eq⟩
        refine ⟨_, eL', small1000 (by rw [List.length_map]; omega), fun b o e => ?_, as ++ [x], ps ++ [z], ?_, ?_, fun p hp => ?_, by rw [List.length_append]; show as.length + 1 ≤ k + 1; omega⟩
        · rw [upd_ne (ne_of_none e nL)]
          exact s' _ _ (sm _ _ e)
        · rw [upd_same, List.map_append]
          rfl
        · exact Paired.mapP (Paired.snoc (Paired.mapP pr fun v z q => LenAt.same q s') al) keep
        · rcases List.mem_append.mp hp with e | e
          · exact ne p e
          · have e' : p = z := by simpa using e
            rw [e']
            exact zi
      · exact ⟨sm, as, ps, eL, pr, ne, by omega⟩
    rintro H9 ⟨s9, as, ps, eL, pr, ne, lk⟩
    rw [List.length_map] at lk
    have b9 := b4.trans (Same.but s9 h)
    have h9 := h4.same s9
    have R : Rdy C H9 i a b L as ps := ⟨⟨dxa, s9 _ _ ea⟩, ⟨dxb, s9 _ _ eb⟩, ab, eL, pr, ne, by omega⟩
    clear ea eb h4 b4
    -- strange things
    obtain ⟨dxa, ea⟩ := R.da
    refine ⟨_, rfl, _, rfl, a, dxa, _, rfl, ea, ⟨a, i, rfl, ⟨dxa, ea⟩, i0, i1, _, rfl, ?_⟩⟩
    refine ⟨_, rfl, a, dxa, _, rfl, ea, ⟨a, i, rfl, ⟨dxa, ea⟩, i0, i1, _, rfl, ?_⟩⟩
    refine ⟨_, rfl, (by show 1 ≤ sizeLine; decide), fun q1 nq1 => ⟨(by show 0 ≤ sizeLine; decide), fun q2 nq2 => ⟨(by show 6 ≤ sizeLine; decide), fun S nS => ?_⟩⟩⟩
    have s10 := same_upd nq1 (o := .tup [.int i])
    have s11 := same_upd nq2 (o := .tup [])
    have s12 := same_upd nS (o := .lst [V.int i, V.str (lenText i), V.str (lenRepr i), V.non, V.ref q1, V.ref q2])
    have R12 := R.same (s10.trans (s11.trans s12))
    have eS : (upd (upd (upd H9 q1 (.tup [.int i])) q2 (.tup [])) S (.lst [V.int i, V.str (lenText i), V.str (lenRepr i), V.non, V.ref q1, V.ref q2])) S = some (.lst [V.int i, V.str (lenText i), V.str (lenRepr i), V.non, V.ref q1, V.ref q2]) := upd_same
    have eq1 := s12 _ _ (s11 _ _ (upd_same (H := H9) (a := q1) (o := .tup [.int i])))
    have eq2 := s12 _ _ (upd_same (H := upd H9 q1 (.tup [.int i])) (a := q2) (o := .tup []))
    have h12 := h9.same (s10.trans (s11.trans s12))
    have b12 := b9.trans (Same.but (s10.trans (s11.trans s12)) h)
    generalize upd (upd (upd H9 q1 (.tup [.int i])) q2 (.tup [])) S (.lst [V.int i, V.str (lenText i), V.str (lenRepr i), V.non, V.ref q1, V.ref q2]) = H12 at *
    obtain ⟨dxa, ea⟩ := R12.da
    have l1 := tx_len i0 (show i < 10 ^ 9 by omega)
    have c1 : ("Length(" : Str).length = 7 := by decide +kernel
    have c2 : (")" : Str).length = 1 := by decide +kernel
    refine ⟨_, rfl, a, dxa, _, rfl, ea, ⟨a, i, rfl, ⟨dxa, ea⟩, i0, i1, _, rfl, ?_⟩⟩
    refine ⟨_, rfl, i, rfl, lz, _, _, rfl, rfl, fitN ?_, _, _, rfl, rfl, fitN ?_, rfl, _, rfl, neStr rfl ?_⟩
    · rw [c1]; omega
    · rw [strLen_append, c1, c2]; omega
    refine ⟨_, rfl, _, rfl, L, S, as.map V.ref, _, rfl, rfl, R12.hL, eS, fitN ?_, fun cl ncl => ⟨cl, rfl, ⟨_, SqL.of upd_same⟩, fun Lb nLb => ?_⟩⟩
    · rw [List.length_map]
      have := R12.few
      show as.length + 6 ≤ 1000
      omega
    have s13 := same_upd ncl (o := .lst (as.map V.ref ++ [V.int i, V.str (lenText i), V.str (lenRepr i), V.non, V.ref q1, V.ref q2]))
    have R13 := R12.same s13
    have hcl := upd_same (H := H12) (a := cl) (o := .lst (as.map V.ref ++ [V.int i, V.str (lenText i), V.str (lenRepr i), V.non, V.ref q1, V.ref q2]))
    replace eq1 := s13 _ _ eq1
    replace eq2 := s13 _ _ eq2
    have b13 := b12.trans (Same.but s13 h)
    have h13 := h12.same s13
    generalize upd H12 cl (.lst (as.map V.ref ++ [V.int i, V.str (lenText i), V.str (lenRepr i), V.non, V.ref q1, V.ref q2])) = Hc at *
    have key : ∀ x ∈ as.map V.ref ++ [V.int i, V.str (lenText i), V.str (lenRepr i), V.non, V.ref q1, V.ref q2], (∃ tt, Odd Hc x tt) ∨ ∃ (c : Addr) (p : Int), x = .ref c ∧ LenAt C Hc c p ∧ p ≠ i := by
      intro x hx
      rcases List.mem_append.mp hx with hx | hx
      · obtain ⟨c, hc, rfl⟩ := List.mem_map.mp hx
        obtain ⟨p, h1, h2, _⟩ := R13.other c hc
        exact .inr ⟨c, p, rfl, h1, h2⟩
      · simp only [List.mem_cons, List.not_mem_nil, or_false] at hx
        rcases hx with rfl | rfl | rfl | rfl | rfl | rfl
        · exact .inl ⟨_, .int _⟩
        · exact .inl ⟨_, .str _⟩
        · exact .inl ⟨_, .str _⟩
        · exact .inl ⟨_, .non⟩
        · exact .inl ⟨_, .tup eq1⟩
        · exact .inl ⟨_, .tup eq2⟩
    have xlen : (as.map V.ref ++ [V.int i, V.str (lenText i), V.str (lenRepr i), V.non, V.ref q1, V.ref q2]).length ≤ 17 := by
      rw [List.length_append, List.length_map]
      have := R13.few
      show as.length + 6 ≤ 17
      omega
    generalize as.map V.ref ++ [V.int i, V.str (lenText i), V.str (lenRepr i), V.non, V.ref q1, V.ref q2] = XS at *
    refine lc_list (K := K) (a := cl) (xs := XS) (fun k Hi => L2.Same Hc Hi ∧ Hi Lb = some (.lst ((List.replicate k false).map V.bl))) ⟨same_upd nLb, upd_same⟩ (fun k Hi _ z => z.1.seq (SqL.of hcl)) ?_ ?_
    · rintro k x Hi hx ⟨sm, hLb⟩
      have ilt : k < XS.length := (List.getElem?_eq_some_iff.mp hx).1
      have Ri := R13.same sm
      obtain ⟨dxa, ea⟩ := Ri.da
      have fin : ∀ bb : Bool, bb = false → ∃ acc, Hi Lb = some (.lst acc) ∧ acc.length < sizeLine ∧ L2.Same Hc (upd Hi Lb (.lst (acc ++ [.bl bb]))) ∧ (upd Hi Lb (.lst (acc ++ [.bl bb]))) Lb = some (.lst ((List.replicate (k + 1) false).map V.bl)) := fun bb eb => by
        subst eb
        refine ⟨_, hLb, small1000 (by rw [List.length_map, List.length_replicate]; omega), fun b z e => ?_, ?_⟩
        · rw [upd_ne (ne_of_none e nLb)]
          exact sm _ _ e
        · rw [upd_same, List.replicate_succ', List.map_append]
          rfl
      refine ⟨rfl, ?_⟩
      unfold tYes
      refine iteT ?_
      rcases key x (List.mem_of_getElem? hx) with ⟨tt, od⟩ | ⟨c, p, rfl, dc, np⟩
      · have od' := od.same sm
        refine ⟨_, rfl, _, rfl, a, dxa, _, rfl, ea, .inl ⟨tt, od'⟩, ⟨a, x, i, rfl, ⟨dxa, ea⟩, .inl ⟨tt, od', ⟨_, rfl, _, rfl, iteF ?_⟩⟩⟩⟩
        exact ⟨_, rfl, _, rfl, a, dxa, _, rfl, ea, .inl ⟨⟨tt, od'⟩, ⟨a, x, i, rfl, ⟨dxa, ea⟩, .inl ⟨tt, od', _, rfl, fin false rfl⟩⟩⟩⟩
      · obtain ⟨dxc, ec⟩ := LenAt.same dc sm
        refine ⟨_, rfl, _, rfl, a, dxa, _, rfl, ea, .inr ⟨c, dxc, _, rfl, ec⟩, eq_ask (p := i) (q := p) ⟨dxa, ea⟩ ⟨dxc, ec⟩ ⟨_, rfl, _, rfl, ?_⟩⟩
        refine iteF_of (decide_eq_false np.symm) ?_
        exact ⟨_, rfl, _, rfl, a, dxa, _, rfl, ea, .inr ⟨c, dxc, _, rfl, ec, eq_ask (p := p) (q := i) ⟨dxc, ec⟩ ⟨dxa, ea⟩ ⟨_, rfl, fin _ (decide_eq_false np)⟩⟩⟩
    rintro H14 ⟨s14, hL14⟩
    refine ⟨Lb, List.replicate XS.length false, rfl, SqL.of hL14, ⟨_, rfl, iteF_of (any_rep _) ?_⟩⟩
    have R14 := R13.same s14
    -- not in, in
    refine ⟨_, rfl, _, rfl, _, rfl, (by show 1 ≤ sizeLine; decide), fun l1 nl1 => ?_⟩
    have s15 := same_upd nl1 (o := .lst [.ref b])
    have R15 := R14.same s15
    refine ⟨L, l1, as.map V.ref, [.ref b], rfl, rfl, R15.hL, upd_same, fitN ?_, fun l2 nl2 => ?_⟩
    · rw [List.length_map]
      have := R15.few
      show as.length + 1 ≤ 1000
      omega
    have s16 := same_upd nl2 (o := .lst (as.map V.ref ++ [.ref b]))
    have R16 := R15.same s16
    have hl2 := upd_same (H := upd H14 l1 (.lst [.ref b])) (a := l2) (o := .lst (as.map V.ref ++ [.ref b]))
    have b16 := b13.trans (Same.but (s14.trans (s15.trans s16)) h)
    have h16 := h13.same (s14.trans (s15.trans s16))
    generalize upd (upd H14 l1 (.lst [.ref b])) l2 (.lst (as.map V.ref ++ [.ref b])) = H16 at *
    obtain ⟨dxa, ea⟩ := R16.da
    obtain ⟨dxb, eb⟩ := R16.db
    refine ⟨a, l2, as ++ [b], fun c => decide (c = b), rfl, rfl, ⟨⟨dxa, _, ea⟩, by rw [List.map_append]; exact hl2, ?_, ?_, ?_⟩, fun H17 s17 => ⟨_, rfl, iteF_of ?_ ?_⟩⟩
    · intro c hc
      rcases List.mem_append.mp hc with hc | hc
      · obtain ⟨p, _, _, h3, _⟩ := R16.other c hc
        exact h3
      · rw [List.mem_singleton.mp hc]
        exact ab
    · intro c hc
      rcases List.mem_append.mp hc with hc | hc
      · obtain ⟨p, ⟨dx, e⟩, _⟩ := R16.other c hc
        exact ⟨dx, _, e⟩
      · rw [List.mem_singleton.mp hc]
        exact ⟨dxb, _, eb⟩
    · intro c hc H' Q' sm qq
      rcases List.mem_append.mp hc with hc | hc
      · obtain ⟨p, hd, np, _, cb⟩ := R16.other c hc
        refine eq_ask (p := p) (q := i) (LenAt.same hd sm) ⟨dxa, sm _ _ ea⟩ ⟨_, rfl, ?_⟩
        have z := qq H' (Same.refl H')
        rw [decide_eq_false cb] at z
        rw [decide_eq_false np]
        exact z
      · have cb := List.mem_singleton.mp hc
        subst cb
        refine eq_ask (p := i) (q := i) ⟨dxb, sm _ _ eb⟩ ⟨dxa, sm _ _ ea⟩ ⟨_, rfl, ?_⟩
        have z := qq H' (Same.refl H')
        rw [decide_eq_true rfl] at z
        rw [decide_eq_true rfl]
        exact z
    · simp
    have R17 := R16.same s17
    obtain ⟨dxa, ea⟩ := R17.da
    refine ⟨_, rfl, _, rfl, a, L, as, fun _ => false, rfl, rfl, ⟨⟨dxa, _, ea⟩, R17.hL, ?_, ?_, ?_⟩, fun H18 s18 => ⟨_, rfl, iteF_of ?_ ?_⟩⟩
    · intro c hc
      obtain ⟨p, _, _, h3, _⟩ := R17.other c hc
      exact h3
    · intro c hc
      obtain ⟨p, ⟨dx, e⟩, _⟩ := R17.other c hc
      exact ⟨dx, _, e⟩
    · intro c hc H' Q' sm qq
      obtain ⟨p, hd, np, _, cb⟩ := R17.other c hc
      refine eq_ask (p := p) (q := i) (LenAt.same hd sm) ⟨dxa, sm _ _ ea⟩ ⟨_, rfl, ?_⟩
      rw [decide_eq_false np]
      exact qq H' (Same.refl H')
    · simp
    -- what is none
    have b18 := b16.trans (Same.but (s17.trans s18) h)
    have h18 := (h16.same (s17.trans s18)).mono (show (0 : Int) + 4 ≤ 4 by decide)
    refine ⟨3, rfl, by decide, by decide, fun L3 nL3 => ?_⟩
    have L3h : L3 ≠ h := h18.fresh nL3
    have nL3H : H L3 = none := But.free b18 L3h nL3
    refine lc_range (lo := 0) (fun k Hi => But h H Hi ∧ Hand (4 + 50 * k) Hi h ∧ Hi L3 = some (.lst ((List.replicate k true).map V.bl))) ⟨b18.trans (Same.but (same_upd nL3) h), (h18.same (same_upd nL3)).mono (by decide), upd_same⟩ ?_ ?_
    · rintro k Hi hk ⟨bi, hi, eL3⟩
      have k3 : k < 3 := hk
      refine ⟨rfl, ?_⟩
      unfold tYes
      refine iteT ⟨_, rfl, _, rfl, _, rfl, h, i, 4 + 50 * k, rfl, i0, i1, hi, (by show (4 : Int) + 50 * k + 100 ≤ 1000000; omega), fun v o HA ht ho nc hA bA => ?_⟩
      refine ⟨h, _, v, o, rfl, ht, ho, nc, hA, (by show (4 : Int) + 50 * k + 40 ≤ 1000000; omega), fun HB hB bB => ?_⟩
      have e3 := bB _ _ L3h (bA _ _ L3h eL3)
      refine ⟨_, e3, small1000 (by rw [List.length_map, List.length_replicate]; omega), fun b z nb e => ?_, (hB.updL L3h).mono (by omega), ?_⟩
      · rw [upd_ne (ne_of_none e nL3H)]
        exact bB _ _ nb (bA _ _ nb (bi _ _ nb e))
      · rw [upd_same, List.replicate_succ', List.map_append]
        rfl
    rintro HE ⟨bE, hE, eL3⟩
    refine ⟨L3, _, rfl, SqL.of eL3, ?_⟩
    rw [show (List.replicate _ true).all id = true from List.all_eq_true.mpr fun b hb => (List.mem_replicate.mp hb).2]
    exact q _ bE
end
end K5
set_option Elab.async false
set_option linter.all false
set_option maxRecDepth 100000
set_option maxHeartbeats 4000000
set_option pp.maxSteps 400
set_option pp.deepTerms false
namespace K5
open PySem PySem.Spec PyProof.Rows L2
open Xk Az
section
variable {P : Program} {w : World} {K : PySem.W.Frag} {mg : Str → Option Value} {base : Heap} {C : Addr}
def spLaw (K : PySem.W.Frag) : Sp := fun vs H Q _ => ∃ (a : Addr) (ns : List Int), vs = [.ref a] ∧ SqL K H a (ns.map V.int) ∧ ns.length ≤ 63 ∧ ∀ H', Q (.bl true) H'
theorem ok_law {f fR : Addr} {fd fdR : FuncData} {e : Ex} (D : Df K mg "law" ["_law_script"] sLaw f fd) (T : Txt K mg C e) (cH : Ca P w K mg base 1 "_law_hand" ["_law_script", "_law_k"] (spHand K))
    (DR : Df K mg "_law_right" ["_law_hand_here"] sRight fR fdR) (GR : Gn P w K mg base 8 fR fdR ["_law_hand_here"] spRight) : Gn P w K mg base 9 f fd ["_law_script"] (spLaw K) := by
  refine gn_body D.fn scLaw (fun vs H Q E h => ?_) (fun cdv A outer s H vs Q E hg hr h => ?_)
  · obtain ⟨a, ns, rfl, _⟩ := h
    rfl
  · obtain ⟨a, ns, rfl, hS, hlen, q⟩ := h
    refine ⟨_, pss_one (ps_ret (pe_callB (cr_all (by rfl)) (by rfl) T.all (by decide +kernel) (pa_cons (pe_lc (own := [("_law_k", 1)]) (g := gName 1) (tt := tYes) (by rfl) scLaw.nd
      (pi_range1 (by rfl) T.range (pa_cons (pe_op op_add pe_int (pe_callB (call_min2 (by rfl)) (by rfl) T.min (by decide +kernel) (pa_cons pe_int (pa_cons (pe_callB call_len_seq (by rfl) T.len PySem.boot_len (pa_cons (pv 0) pa_nil)) pa_nil)))) pa_nil))
      (blkOk_by (own := [("_law_k", 1)]) (N := ["_law_script", "_law_k"]) (sc := defScope sLaw) (by decide +kernel))
      (fun _ _ _ _ _ => pg_name (i := 1) scLaw.nd rfl (.inl rfl)) (fun _ _ _ _ _ => pts_nil)
      (fun _ _ _ _ _ => pe_gn GR hg hr (by rfl) DR.mgf DR.fn.kp DR.bd (pa_cons (pe_ca cH hr (by decide) (by rfl) (pa_cons (pv 0) (pa_cons (pv 1) pa_nil))) pa_nil))) pa_nil))), ?_⟩
    refine ⟨_, rfl, a, _, rfl, .inl hS, 10, _, rfl, 2, _, rfl, rfl, _, rfl, ?_, ?_, fun L nL => ?_⟩
    · rw [List.length_map]
      split <;> omega
    · rw [List.length_map]
      split <;> omega
    · refine lc_range (lo := 0) (fun i Hi => Same H Hi ∧ Hi L = some (.lst ((List.replicate i true).map V.bl))) ⟨same_upd nL, upd_same⟩ ?_ ?_
      · rintro i Hi hi ⟨sm, hL⟩
        refine ⟨rfl, ?_⟩
        unfold tYes
        refine iteT ?_
        refine ⟨_, rfl, _, rfl, a, 0 + (i : Int), ns, rfl, by omega, sm.seq hS, fun p g m np g0 m0 m1 => ?_⟩
        refine ⟨p, rfl, ⟨g, m, 0, upd_same, g0, m0, m1, Int.le_refl _, Int.le_refl _⟩, fun H' bt => ?_⟩
        have nLp : L ≠ p := ne_of_none hL np
        refine ⟨_, bt L _ nLp (same_upd np _ _ hL), ?_, fun b o e => ?_, ?_⟩
        · rw [List.length_map, List.length_replicate]
          refine small1000 ?_
          have : i < (2 + (if ((ns.map V.int).length : Int) < 10 then ((ns.map V.int).length : Int) else 10)).toNat := hi
          rw [List.length_map] at this
          split at this <;> omega
        · rw [upd_ne (ne_of_none e nL)]
          have e2 := sm _ _ e
          exact bt _ _ (ne_of_none e2 np) (same_upd np _ _ e2)
        · rw [upd_same, List.replicate_succ', List.map_append]
          rfl
      · rintro He ⟨sm, hL⟩
        refine ⟨L, _, rfl, SqL.of hL, ?_⟩
        rw [show (List.replicate _ true).all id = true from List.all_eq_true.mpr fun b hb => (List.mem_replicate.mp hb).2]
        exact q _
end
end K5
set_option Elab.async false
set_option linter.all false
set_option maxRecDepth 100000
set_option maxHeartbeats 4000000
set_option pp.maxSteps 400
set_option pp.deepTerms false
namespace K5
open PySem PySem.Spec PyProof.Rows L2
open Xk Az
theorem kit_self {K : PySem.W.Frag} {C : Addr} : PySem.W.kitOne K (.ref C) (.ref C) = some true := by
  unfold PySem.W.kitOne
  simp
theorem kit_in {K : PySem.W.Frag} {t : Value} {c : Addr} {b : Bool} (ic : PySem.W.isClsIn K c = true) (ty : PySem.W.typeIn K (.ref c) = some (.type "type")) (sb : PySem.W.subIn K t (.ref c) = some b) : PySem.W.kitCls K t (.ref c) = some b := by
  have h : ((PySem.W.clsIn K c).isSome && PySem.W.typeIn K (.ref c) == some (.type "type")) = true := by
    rw [show (PySem.W.clsIn K c).isSome = true from ic, ty]
    rfl
  unfold PySem.W.kitCls
  simp only [h, if_true]
  exact sb
theorem kit_no {K : PySem.W.Frag} {a c : Addr} (ic : PySem.W.isClsIn K c = true) (ty : PySem.W.typeIn K (.ref c) = some (.type "type")) (sb : PySem.W.subIn K (.ref a) (.ref c) = some false) (me : PySem.W.subIn K (.ref a) (.ref a) = some true) :
    PySem.W.kitOne K (.ref a) (.ref c) = some false := by
  have ne : ((Value.ref a == Value.ref c) = true) = False := by
    refine propext ⟨fun z => ?_, False.elim⟩
    have z2 : a = c := Value.ref.inj (beq_iff_eq.mp z)
    rw [← z2, me] at sb
    cases sb
  unfold PySem.W.kitOne
  simp only [ne, if_false]
  exact kit_in ic ty sb
theorem kit_yes {K : PySem.W.Frag} {a c : Addr} (ic : PySem.W.isClsIn K c = true) (ty : PySem.W.typeIn K (.ref c) = some (.type "type")) (sb : PySem.W.subIn K (.ref a) (.ref c) = some true) : PySem.W.kitOne K (.ref a) (.ref c) = some true := by
  unfold PySem.W.kitOne
  split
  · rfl
  · exact kit_in ic ty sb
theorem kit_ve {K : PySem.W.Frag} {a : Addr} (sb : PySem.W.subIn K (.ref a) (.type "ValueError") = some true) : PySem.W.kitOne K (.ref a) (.type "ValueError") = some true := by
  have h : PySem.W.kitMeta "ValueError" = true := by decide +kernel
  unfold PySem.W.kitOne PySem.W.kitCls
  split
  · rfl
  · simp only [h, if_true]
    exact sb
theorem kit_skip {K : PySem.W.Frag} {t c : Value} {r : List Value} {b : Bool} (h : PySem.W.kitOne K t c = some false) (hr : PySem.W.kitAny K t r = some b) : PySem.W.kitAny K t (c :: r) = some b := by
  unfold PySem.W.kitAny
  rw [h]
  exact hr
theorem exm_is {K : PySem.W.Frag} {t : Value} {c : Addr} {b : Bool} (ic : PySem.W.isClsIn K c = true) (ty : PySem.W.typeIn K (.ref c) = some (.type "type")) (be : PySem.W.subIn K (.ref c) (.type "BaseException") = some true) (sb : PySem.W.subIn K t (.ref c) = some b) :
    PySem.W.exmOne K t (.ref c) = some b := by
  unfold PySem.W.exmOne
  rw [be, if_pos (by decide)]
  exact kit_in ic ty sb
theorem exm_3 {K : PySem.W.Frag} {t c1 c2 c3 : Value} {b2 b3 : Bool} (h1 : PySem.W.exmOne K t c1 = some true) (h2 : PySem.W.exmOne K t c2 = some b2) (h3 : PySem.W.exmOne K t c3 = some b3) : PySem.W.exmAny K t [c1, c2, c3] = some true := by
  unfold PySem.W.exmAny PySem.W.exmAny PySem.W.exmAny PySem.W.exmAny
  rw [h1, h2, h3]
  rfl
theorem kit_int {K : PySem.W.Frag} {a : Addr} (sb : PySem.W.subIn K (.ref a) (.type "int") = some false) : PySem.W.kitOne K (.ref a) (.type "int") = some false := by
  have h : PySem.W.kitMeta "int" = true := by decide +kernel
  have ne : (Value.ref a == Value.type "int") = false := rfl
  unfold PySem.W.kitOne PySem.W.kitCls
  rw [ne]
  simp only [h, if_true, Bool.false_eq_true, if_false]
  exact sb
theorem all_mk {l : PySem.W.OpenLaw} {w : World} {K : PySem.W.Frag} {h : Heap} {mg : Str → Option Value} {fa cLength cNotSuch cLost cTaken cNoCustom cNoDay cNoDisc cNoEntry cNoKey cNoLine cNoName cNoNumber cNoPath cNoText cSame cStruck cTwice cNoLength f0 f1 f2 f3 f4 f5 f6 f7 f8 f9 f10 f11 f12 f13 f14 f15 f16 f17 f18 : Addr}
    {od0 an0 od1 an1 od2 an2 od3 an3 od4 an4 od5 an5 od6 an6 od7 an7 od8 an8 od9 an9 od10 an10 od11 an11 od12 an12 od13 an13 od14 an14 od15 an15 od16 an16 od17 an17 od18 an18 : Option Addr}
    {sl0 sl1 sl2 sl3 sl4 sl5 sl6 sl7 sl8 sl9 sl10 sl11 sl12 sl13 sl14 sl15 sl16 sl17 sl18 : Array (Option Value)}
    {oc0 kV0 dc0 pm0 cd0 ct0 oc1 kV1 dc1 pm1 cd1 ct1 oc2 kV2 dc2 pm2 cd2 ct2 oc3 kV3 dc3 pm3 cd3 ct3 oc4 kV4 dc4 pm4 cd4 ct4 oc5 kV5 dc5 pm5 cd5 ct5 oc6 kV6 dc6 pm6 cd6 ct6 oc7 kV7 dc7 pm7 cd7 ct7 oc8 kV8 dc8 pm8 cd8 ct8 oc9 kV9 dc9 pm9 cd9 ct9 oc10 kV10 dc10 pm10 cd10 ct10 oc11 kV11 dc11 pm11 cd11 ct11 oc12 kV12 dc12 pm12 cd12 ct12 oc13 kV13 dc13 pm13 cd13 ct13 oc14 kV14 dc14 pm14 cd14 ct14 oc15 kV15 dc15 pm15 cd15 ct15 oc16 kV16 dc16 pm16 cd16 ct16 oc17 kV17 dc17 pm17 cd17 ct17 oc18 kV18 dc18 pm18 cd18 ct18 : Value}
    {u_MOST_SECONDS : Tok}
    {nmX qX : Str} {NX : Addr} {bsX bmX : List Value} {snX : List Str} {subX : List Value} {abX : Bool} {colX : Option Bool} {ddX : Option Addr} {k0X k1X k2X k3X k5X : Option Value}
     (X : K.In h) (G : h.Ns mainGlobals mg) (hfa : mg "law" = some (.ref fa))
    (a_Length : PySem.W.nsIn K mainGlobals "Length" = some (some (.ref cLength)))
    (a_NotSuch : PySem.W.nsIn K mainGlobals "NotSuch" = some (some (.ref cNotSuch)))
    (a_Lost : PySem.W.nsIn K mainGlobals "Lost" = some (some (.ref cLost)))
    (a_Taken : PySem.W.nsIn K mainGlobals "Taken" = some (some (.ref cTaken)))
    (a_NoCustom : PySem.W.nsIn K mainGlobals "NoCustom" = some (some (.ref cNoCustom)))
    (a_NoDay : PySem.W.nsIn K mainGlobals "NoDay" = some (some (.ref cNoDay)))
    (a_NoDisc : PySem.W.nsIn K mainGlobals "NoDisc" = some (some (.ref cNoDisc)))
    (a_NoEntry : PySem.W.nsIn K mainGlobals "NoEntry" = some (some (.ref cNoEntry)))
    (a_NoKey : PySem.W.nsIn K mainGlobals "NoKey" = some (some (.ref cNoKey)))
    (a_NoLine : PySem.W.nsIn K mainGlobals "NoLine" = some (some (.ref cNoLine)))
    (a_NoName : PySem.W.nsIn K mainGlobals "NoName" = some (some (.ref cNoName)))
    (a_NoNumber : PySem.W.nsIn K mainGlobals "NoNumber" = some (some (.ref cNoNumber)))
    (a_NoPath : PySem.W.nsIn K mainGlobals "NoPath" = some (some (.ref cNoPath)))
    (a_NoText : PySem.W.nsIn K mainGlobals "NoText" = some (some (.ref cNoText)))
    (a_Same : PySem.W.nsIn K mainGlobals "Same" = some (some (.ref cSame)))
    (a_Struck : PySem.W.nsIn K mainGlobals "Struck" = some (some (.ref cStruck)))
    (a_Twice : PySem.W.nsIn K mainGlobals "Twice" = some (some (.ref cTwice)))
    (a_NoLength : PySem.W.nsIn K mainGlobals "NoLength" = some (some (.ref cNoLength)))
    (a0 : PySem.W.findIn K (.ref cNoLength) "__init__" = some (some (.ref f0)))
    (i0 : PySem.W.isFn K (.ref f0) = true)
    (l0 : K.lookup f0 = some ⟨oc0, od0, .func (PySem.W.fnOf "__init__" "NoLength.__init__" (defArgs sNoLengthInit) (defBody sNoLengthInit) (defScope sNoLengthInit) .none kV0 dc0 pm0 an0 cd0 ct0), sl0⟩)
    (c0 : PySem.W.codeIn K cd0 "NoLength.__init__" = true)
    (k0 : PySem.W.keepIn K (.ref f0) = true)
    (a1 : PySem.W.nsIn K mainGlobals "is_whole" = some (some (.ref f1)))
    (l1 : K.lookup f1 = some ⟨oc1, od1, .func (PySem.W.fnOf "is_whole" "is_whole" (defArgs sIsWhole) (defBody sIsWhole) (defScope sIsWhole) .none kV1 dc1 pm1 an1 cd1 ct1), sl1⟩)
    (c1 : PySem.W.codeIn K cd1 "is_whole" = true)
    (k1 : PySem.W.keepIn K (.ref f1) = true)
    (a2 : PySem.W.nsIn K mainGlobals "is_within" = some (some (.ref f2)))
    (l2 : K.lookup f2 = some ⟨oc2, od2, .func (PySem.W.fnOf "is_within" "is_within" (defArgs sIsWithin) (defBody sIsWithin) (defScope sIsWithin) .none kV2 dc2 pm2 an2 cd2 ct2), sl2⟩)
    (c2 : PySem.W.codeIn K cd2 "is_within" = true)
    (k2 : PySem.W.keepIn K (.ref f2) = true)
    (a3 : PySem.W.nsIn K mainGlobals "beyond_minutes" = some (some (.ref f3)))
    (l3 : K.lookup f3 = some ⟨oc3, od3, .func (PySem.W.fnOf "beyond_minutes" "beyond_minutes" (defArgs sBeyondMinutes) (defBody sBeyondMinutes) (defScope sBeyondMinutes) .none kV3 dc3 pm3 an3 cd3 ct3), sl3⟩)
    (c3 : PySem.W.codeIn K cd3 "beyond_minutes" = true)
    (k3 : PySem.W.keepIn K (.ref f3) = true)
    (a4 : PySem.W.findIn K (.ref cLength) "__init__" = some (some (.ref f4)))
    (i4 : PySem.W.isFn K (.ref f4) = true)
    (l4 : K.lookup f4 = some ⟨oc4, od4, .func (PySem.W.fnOf "__init__" "Length.__init__" (defArgs sLengthInit) (defBody sLengthInit) (defScope sLengthInit) .none kV4 dc4 pm4 an4 cd4 ct4), sl4⟩)
    (c4 : PySem.W.codeIn K cd4 "Length.__init__" = true)
    (k4 : PySem.W.keepIn K (.ref f4) = true)
    (a5 : PySem.W.findIn K (.ref cLength) "__eq__" = some (some (.ref f5)))
    (i5 : PySem.W.isFn K (.ref f5) = true)
    (l5 : K.lookup f5 = some ⟨oc5, od5, .func (PySem.W.fnOf "__eq__" "Length.__eq__" (defArgs sLengthEq) (defBody sLengthEq) (defScope sLengthEq) .none kV5 dc5 pm5 an5 cd5 ct5), sl5⟩)
    (c5 : PySem.W.codeIn K cd5 "Length.__eq__" = true)
    (k5 : PySem.W.keepIn K (.ref f5) = true)
    (a6 : PySem.W.findIn K (.ref cLength) "__str__" = some (some (.ref f6)))
    (i6 : PySem.W.isFn K (.ref f6) = true)
    (l6 : K.lookup f6 = some ⟨oc6, od6, .func (PySem.W.fnOf "__str__" "Length.__str__" (defArgs sLengthStr) (defBody sLengthStr) (defScope sLengthStr) .none kV6 dc6 pm6 an6 cd6 ct6), sl6⟩)
    (c6 : PySem.W.codeIn K cd6 "Length.__str__" = true)
    (k6 : PySem.W.keepIn K (.ref f6) = true)
    (a7 : PySem.W.findIn K (.ref cLength) "__repr__" = some (some (.ref f7)))
    (i7 : PySem.W.isFn K (.ref f7) = true)
    (l7 : K.lookup f7 = some ⟨oc7, od7, .func (PySem.W.fnOf "__repr__" "Length.__repr__" (defArgs sLengthRepr) (defBody sLengthRepr) (defScope sLengthRepr) .none kV7 dc7 pm7 an7 cd7 ct7), sl7⟩)
    (c7 : PySem.W.codeIn K cd7 "Length.__repr__" = true)
    (k7 : PySem.W.keepIn K (.ref f7) = true)
    (a8 : PySem.W.nsIn K mainGlobals "_law_hand" = some (some (.ref f8)))
    (l8 : K.lookup f8 = some ⟨oc8, od8, .func (PySem.W.fnOf "_law_hand" "_law_hand" (defArgs sHand) (defBody sHand) (defScope sHand) .none kV8 dc8 pm8 an8 cd8 ct8), sl8⟩)
    (c8 : PySem.W.codeIn K cd8 "_law_hand" = true)
    (k8 : PySem.W.keepIn K (.ref f8) = true)
    (a9 : PySem.W.nsIn K mainGlobals "_law_take" = some (some (.ref f9)))
    (l9 : K.lookup f9 = some ⟨oc9, od9, .func (PySem.W.fnOf "_law_take" "_law_take" (defArgs sTake) (defBody sTake) (defScope sTake) .none kV9 dc9 pm9 an9 cd9 ct9), sl9⟩)
    (c9 : PySem.W.codeIn K cd9 "_law_take" = true)
    (k9 : PySem.W.keepIn K (.ref f9) = true)
    (a10 : PySem.W.nsIn K mainGlobals "_law_pick" = some (some (.ref f10)))
    (l10 : K.lookup f10 = some ⟨oc10, od10, .func (PySem.W.fnOf "_law_pick" "_law_pick" (defArgs sPick) (defBody sPick) (defScope sPick) .none kV10 dc10 pm10 an10 cd10 ct10), sl10⟩)
    (c10 : PySem.W.codeIn K cd10 "_law_pick" = true)
    (k10 : PySem.W.keepIn K (.ref f10) = true)
    (a11 : PySem.W.nsIn K mainGlobals "_law_seconds" = some (some (.ref f11)))
    (l11 : K.lookup f11 = some ⟨oc11, od11, .func (PySem.W.fnOf "_law_seconds" "_law_seconds" (defArgs sSeconds) (defBody sSeconds) (defScope sSeconds) .none kV11 dc11 pm11 an11 cd11 ct11), sl11⟩)
    (c11 : PySem.W.codeIn K cd11 "_law_seconds" = true)
    (k11 : PySem.W.keepIn K (.ref f11) = true)
    (a12 : PySem.W.nsIn K mainGlobals "_law_text" = some (some (.ref f12)))
    (l12 : K.lookup f12 = some ⟨oc12, od12, .func (PySem.W.fnOf "_law_text" "_law_text" (defArgs sText) (defBody sText) (defScope sText) .none kV12 dc12 pm12 an12 cd12 ct12), sl12⟩)
    (c12 : PySem.W.codeIn K cd12 "_law_text" = true)
    (k12 : PySem.W.keepIn K (.ref f12) = true)
    (a13 : PySem.W.nsIn K mainGlobals "_law_odd" = some (some (.ref f13)))
    (l13 : K.lookup f13 = some ⟨oc13, od13, .func (PySem.W.fnOf "_law_odd" "_law_odd" (defArgs sOdd) (defBody sOdd) (defScope sOdd) .none kV13 dc13 pm13 an13 cd13 ct13), sl13⟩)
    (c13 : PySem.W.codeIn K cd13 "_law_odd" = true)
    (k13 : PySem.W.keepIn K (.ref f13) = true)
    (a14 : PySem.W.nsIn K mainGlobals "_law_alone" = some (some (.ref f14)))
    (l14 : K.lookup f14 = some ⟨oc14, od14, .func (PySem.W.fnOf "_law_alone" "_law_alone" (defArgs sAlone) (defBody sAlone) (defScope sAlone) .none kV14 dc14 pm14 an14 cd14 ct14), sl14⟩)
    (c14 : PySem.W.codeIn K cd14 "_law_alone" = true)
    (k14 : PySem.W.keepIn K (.ref f14) = true)
    (a15 : PySem.W.nsIn K mainGlobals "_law_caught" = some (some (.ref f15)))
    (l15 : K.lookup f15 = some ⟨oc15, od15, .func (PySem.W.fnOf "_law_caught" "_law_caught" (defArgs sCaught) (defBody sCaught) (defScope sCaught) .none kV15 dc15 pm15 an15 cd15 ct15), sl15⟩)
    (c15 : PySem.W.codeIn K cd15 "_law_caught" = true)
    (k15 : PySem.W.keepIn K (.ref f15) = true)
    (a16 : PySem.W.nsIn K mainGlobals "_law_refused" = some (some (.ref f16)))
    (l16 : K.lookup f16 = some ⟨oc16, od16, .func (PySem.W.fnOf "_law_refused" "_law_refused" (defArgs sRefused) (defBody sRefused) (defScope sRefused) .none kV16 dc16 pm16 an16 cd16 ct16), sl16⟩)
    (c16 : PySem.W.codeIn K cd16 "_law_refused" = true)
    (k16 : PySem.W.keepIn K (.ref f16) = true)
    (a17 : PySem.W.nsIn K mainGlobals "_law_right" = some (some (.ref f17)))
    (l17 : K.lookup f17 = some ⟨oc17, od17, .func (PySem.W.fnOf "_law_right" "_law_right" (defArgs sRight) (defBody sRight) (defScope sRight) .none kV17 dc17 pm17 an17 cd17 ct17), sl17⟩)
    (c17 : PySem.W.codeIn K cd17 "_law_right" = true)
    (k17 : PySem.W.keepIn K (.ref f17) = true)
    (a18 : PySem.W.nsIn K mainGlobals "law" = some (some (.ref f18)))
    (l18 : K.lookup f18 = some ⟨oc18, od18, .func (PySem.W.fnOf "law" "law" (defArgs sLaw) (defBody sLaw) (defScope sLaw) .none kV18 dc18 pm18 an18 cd18 ct18), sl18⟩)
    (c18 : PySem.W.codeIn K cd18 "law" = true)
    (k18 : PySem.W.keepIn K (.ref f18) = true)
    (g_MOST_SECONDS : PySem.W.nsIn K mainGlobals "MOST_SECONDS" = some (some (.int 359999 u_MOST_SECONDS)))
    (ic_NotSuch : PySem.W.isClsIn K cNotSuch = true)
    (ty_NotSuch : PySem.W.typeIn K (.ref cNotSuch) = some (.type "type"))
    (sb_NotSuch : PySem.W.subIn K (.ref cNoLength) (.ref cNotSuch) = some true)
    (ic_Lost : PySem.W.isClsIn K cLost = true)
    (ty_Lost : PySem.W.typeIn K (.ref cLost) = some (.type "type"))
    (sb_Lost : PySem.W.subIn K (.ref cNoLength) (.ref cLost) = some false)
    (ic_Taken : PySem.W.isClsIn K cTaken = true)
    (ty_Taken : PySem.W.typeIn K (.ref cTaken) = some (.type "type"))
    (sb_Taken : PySem.W.subIn K (.ref cNoLength) (.ref cTaken) = some false)
    (ic_NoCustom : PySem.W.isClsIn K cNoCustom = true)
    (ty_NoCustom : PySem.W.typeIn K (.ref cNoCustom) = some (.type "type"))
    (sb_NoCustom : PySem.W.subIn K (.ref cNoLength) (.ref cNoCustom) = some false)
    (ic_NoDay : PySem.W.isClsIn K cNoDay = true)
    (ty_NoDay : PySem.W.typeIn K (.ref cNoDay) = some (.type "type"))
    (sb_NoDay : PySem.W.subIn K (.ref cNoLength) (.ref cNoDay) = some false)
    (ic_NoDisc : PySem.W.isClsIn K cNoDisc = true)
    (ty_NoDisc : PySem.W.typeIn K (.ref cNoDisc) = some (.type "type"))
    (sb_NoDisc : PySem.W.subIn K (.ref cNoLength) (.ref cNoDisc) = some false)
    (ic_NoEntry : PySem.W.isClsIn K cNoEntry = true)
    (ty_NoEntry : PySem.W.typeIn K (.ref cNoEntry) = some (.type "type"))
    (sb_NoEntry : PySem.W.subIn K (.ref cNoLength) (.ref cNoEntry) = some false)
    (ic_NoKey : PySem.W.isClsIn K cNoKey = true)
    (ty_NoKey : PySem.W.typeIn K (.ref cNoKey) = some (.type "type"))
    (sb_NoKey : PySem.W.subIn K (.ref cNoLength) (.ref cNoKey) = some false)
    (ic_NoLine : PySem.W.isClsIn K cNoLine = true)
    (ty_NoLine : PySem.W.typeIn K (.ref cNoLine) = some (.type "type"))
    (sb_NoLine : PySem.W.subIn K (.ref cNoLength) (.ref cNoLine) = some false)
    (ic_NoName : PySem.W.isClsIn K cNoName = true)
    (ty_NoName : PySem.W.typeIn K (.ref cNoName) = some (.type "type"))
    (sb_NoName : PySem.W.subIn K (.ref cNoLength) (.ref cNoName) = some false)
    (ic_NoNumber : PySem.W.isClsIn K cNoNumber = true)
    (ty_NoNumber : PySem.W.typeIn K (.ref cNoNumber) = some (.type "type"))
    (sb_NoNumber : PySem.W.subIn K (.ref cNoLength) (.ref cNoNumber) = some false)
    (ic_NoPath : PySem.W.isClsIn K cNoPath = true)
    (ty_NoPath : PySem.W.typeIn K (.ref cNoPath) = some (.type "type"))
    (sb_NoPath : PySem.W.subIn K (.ref cNoLength) (.ref cNoPath) = some false)
    (ic_NoText : PySem.W.isClsIn K cNoText = true)
    (ty_NoText : PySem.W.typeIn K (.ref cNoText) = some (.type "type"))
    (sb_NoText : PySem.W.subIn K (.ref cNoLength) (.ref cNoText) = some false)
    (ic_Same : PySem.W.isClsIn K cSame = true)
    (ty_Same : PySem.W.typeIn K (.ref cSame) = some (.type "type"))
    (sb_Same : PySem.W.subIn K (.ref cNoLength) (.ref cSame) = some false)
    (ic_Struck : PySem.W.isClsIn K cStruck = true)
    (ty_Struck : PySem.W.typeIn K (.ref cStruck) = some (.type "type"))
    (sb_Struck : PySem.W.subIn K (.ref cNoLength) (.ref cStruck) = some false)
    (ic_Twice : PySem.W.isClsIn K cTwice = true)
    (ty_Twice : PySem.W.typeIn K (.ref cTwice) = some (.type "type"))
    (sb_Twice : PySem.W.subIn K (.ref cNoLength) (.ref cTwice) = some false)
    (ic_NoLength : PySem.W.isClsIn K cNoLength = true)
    (ty_NoLength : PySem.W.typeIn K (.ref cNoLength) = some (.type "type"))
    (sb_NoLength : PySem.W.subIn K (.ref cNoLength) (.ref cNoLength) = some true)
    (be_NotSuch : PySem.W.subIn K (.ref cNotSuch) (.type "BaseException") = some true)
    (be_Lost : PySem.W.subIn K (.ref cLost) (.type "BaseException") = some true)
    (be_Taken : PySem.W.subIn K (.ref cTaken) (.type "BaseException") = some true)
    (sVE : PySem.W.subIn K (.ref cNoLength) (.type "ValueError") = some true)
    (oX : K.lookup cNoLength = some (excClassObj nmX qX cNoLength NX bsX bmX true snX subX abX colX ddX k0X k1X k2X k3X k5X "ValueError.__new__"))
    (hbX : PySem.HandSPX.refsVE bmX = true)
    (saX : PySem.W.findIn K (.ref cNoLength) "__setattr__" = some (some (.builtin "object.__setattr__")))
    (exX : PySem.W.subIn K (.ref cNoLength) (.type "BaseException") = some true)
    (kX : PySem.W.keepIn K (.ref cNoLength) = true)
    (gaX : PySem.W.findIn K (.ref cNoLength) "__getattribute__" = some (some (.builtin "BaseException.__getattribute__")))
    (ggX : PySem.W.findIn K (.ref cNoLength) "__getattr__" = some none)
    (hdX : PySem.W.hasDictIn K cNoLength = true)
    (haX : PySem.W.findIn K (.ref cNoLength) "__class__" = some (some (.builtin "object.__class__")))
    (hmX : PySem.W.mroIn K cNoLength (.type "object") = some true)
    (fldX : PySem.W.findIn K (.ref cNoLength) "seconds" = some none)
    (tyF : PySem.W.typeIn K (.ref f0) = some (.type "function"))
    (rdN : PySem.W.readsIn K cNotSuch (.type "type") = true)
    (spN : PySem.W.specialIn K (.ref cNotSuch) "__getattribute__" = some (some (.builtin "type.__getattribute__")))
    (fiN : PySem.W.findCls K (.ref cNotSuch) (.type "type") "__init__" = some (.val (.builtin "ValueError.__init__")))
    (pg : PySem.W.plainGet K cLength Str.empty = true)
    (hd : PySem.W.hasDictIn K cLength = true)
    (po : PySem.W.plainOver K cLength = true)
    (sa : PySem.W.findIn K (.ref cLength) "__setattr__" = some (some (.builtin "object.__setattr__")))
    (mk : PySem.W.makesIn K cLength = true)
    (kc : PySem.W.keepIn K (.ref cLength) = true)
    (nS : PySem.W.findIn K (.ref cLength) "seconds" = some none)
    (ha : PySem.W.findIn K (.ref cLength) "__class__" = some (some (.builtin "object.__class__")))
    (hn : PySem.W.specialIn K (.builtin "object.__class__") "__get__" = some (some (.builtin "getset_descriptor.__get__")))
    (ht : PySem.W.takesIn K (.builtin "object.__class__") = some true)
    (hm : PySem.W.mroIn K cLength (.type "object") = some true)
    (sint : PySem.W.subIn K (.type "int") (.ref cLength) = some false)
    (sstr : PySem.W.subIn K (.type "str") (.ref cLength) = some false)
    (sNoneType : PySem.W.subIn K (.type "NoneType") (.ref cLength) = some false)
    (stuple : PySem.W.subIn K (.type "tuple") (.ref cLength) = some false)
    (slist : PySem.W.subIn K (.type "list") (.ref cLength) = some false)
    (rint : PySem.W.subIn K (.ref cLength) (.type "int") = some false)
    (rstr : PySem.W.subIn K (.ref cLength) (.type "str") = some false)
    (rNoneType : PySem.W.subIn K (.ref cLength) (.type "NoneType") = some false)
    (rtuple : PySem.W.subIn K (.ref cLength) (.type "tuple") = some false)
    (rlist : PySem.W.subIn K (.ref cLength) (.type "list") = some false)
    (tyC : PySem.W.typeIn K (.ref cLength) = some (.type "type"))
    (nE : PySem.W.findIn K (.ref cLength) "__ne__" = some (some (.builtin "object.__ne__")))
    (z_isinstance : PySem.W.nsIn K mainGlobals "isinstance" = some none)
    (z_int : PySem.W.nsIn K mainGlobals "int" = some none)
    (z_bool : PySem.W.nsIn K mainGlobals "bool" = some none)
    (z_len : PySem.W.nsIn K mainGlobals "len" = some none)
    (z_abs : PySem.W.nsIn K mainGlobals "abs" = some none)
    (z_max : PySem.W.nsIn K mainGlobals "max" = some none)
    (z_min : PySem.W.nsIn K mainGlobals "min" = some none)
    (z_all : PySem.W.nsIn K mainGlobals "all" = some none)
    (z_any : PySem.W.nsIn K mainGlobals "any" = some none)
    (z_range : PySem.W.nsIn K mainGlobals "range" = some none)
    (z_repr : PySem.W.nsIn K mainGlobals "repr" = some none)
    (z_str : PySem.W.nsIn K mainGlobals "str" = some none)
    (z_ValueError : PySem.W.nsIn K mainGlobals "ValueError" = some none)
    : ∃ fd : FuncData, (∀ (s : Shared) (v : Value), BindsTo s fd ⟨[v], []⟩ [("_law_script", v)]) ∧
      ∀ base : Heap, K.In base → base.Ns mainGlobals mg → base.NoDigits → Gn l.prog w K mg base 9 fa fd ["_law_script"] (spLaw K) := by
  have e := hfa.symm.trans (PySem.W.mg_of X G a18)
  cases e
  have F0 := fun_mk (st := sNoLengthInit) l0 c0 k0
  have B0 := F0.binds (ps := ["self", "seconds"]) fun _ _ _ _ _ _ us hl => match us, hl with | [_, _], _ => rfl
  have F1 := fun_mk (st := sIsWhole) l1 c1 k1
  have D1 : Df K mg "is_whole" ["thing"] sIsWhole f1 _ := ⟨F1, PySem.W.mg_of X G a1, F1.binds (ps := ["thing"]) fun _ _ _ _ _ _ us hl => match us, hl with | [_], _ => rfl⟩
  have F2 := fun_mk (st := sIsWithin) l2 c2 k2
  have D2 : Df K mg "is_within" ["thing", "least", "most"] sIsWithin f2 _ := ⟨F2, PySem.W.mg_of X G a2, F2.binds (ps := ["thing", "least", "most"]) fun _ _ _ _ _ _ us hl => match us, hl with | [_, _, _], _ => rfl⟩
  have F3 := fun_mk (st := sBeyondMinutes) l3 c3 k3
  have D3 : Df K mg "beyond_minutes" ["seconds"] sBeyondMinutes f3 _ := ⟨F3, PySem.W.mg_of X G a3, F3.binds (ps := ["seconds"]) fun _ _ _ _ _ _ us hl => match us, hl with | [_], _ => rfl⟩
  have F4 := fun_mk (st := sLengthInit) l4 c4 k4
  have B4 := F4.binds (ps := ["self", "seconds"]) fun _ _ _ _ _ _ us hl => match us, hl with | [_, _], _ => rfl
  have F5 := fun_mk (st := sLengthEq) l5 c5 k5
  have B5 := F5.binds (ps := ["self", "other"]) fun _ _ _ _ _ _ us hl => match us, hl with | [_, _], _ => rfl
  have F6 := fun_mk (st := sLengthStr) l6 c6 k6
  have B6 := F6.binds (ps := ["self"]) fun _ _ _ _ _ _ us hl => match us, hl with | [_], _ => rfl
  have F7 := fun_mk (st := sLengthRepr) l7 c7 k7
  have B7 := F7.binds (ps := ["self"]) fun _ _ _ _ _ _ us hl => match us, hl with | [_], _ => rfl
  have F8 := fun_mk (st := sHand) l8 c8 k8
  have D8 : Df K mg "_law_hand" ["_law_script", "_law_k"] sHand f8 _ := ⟨F8, PySem.W.mg_of X G a8, F8.binds (ps := ["_law_script", "_law_k"]) fun _ _ _ _ _ _ us hl => match us, hl with | [_, _], _ => rfl⟩
  have F9 := fun_mk (st := sTake) l9 c9 k9
  have D9 : Df K mg "_law_take" ["_law_hand_here", "_law_many"] sTake f9 _ := ⟨F9, PySem.W.mg_of X G a9, F9.binds (ps := ["_law_hand_here", "_law_many"]) fun _ _ _ _ _ _ us hl => match us, hl with | [_, _], _ => rfl⟩
  have F10 := fun_mk (st := sPick) l10 c10 k10
  have D10 : Df K mg "_law_pick" ["_law_hand_here", "_law_some"] sPick f10 _ := ⟨F10, PySem.W.mg_of X G a10, F10.binds (ps := ["_law_hand_here", "_law_some"]) fun _ _ _ _ _ _ us hl => match us, hl with | [_, _], _ => rfl⟩
  have F11 := fun_mk (st := sSeconds) l11 c11 k11
  have D11 : Df K mg "_law_seconds" ["_law_hand_here"] sSeconds f11 _ := ⟨F11, PySem.W.mg_of X G a11, F11.binds (ps := ["_law_hand_here"]) fun _ _ _ _ _ _ us hl => match us, hl with | [_], _ => rfl⟩
  have F12 := fun_mk (st := sText) l12 c12 k12
  have D12 : Df K mg "_law_text" ["_law_count"] sText f12 _ := ⟨F12, PySem.W.mg_of X G a12, F12.binds (ps := ["_law_count"]) fun _ _ _ _ _ _ us hl => match us, hl with | [_], _ => rfl⟩
  have F13 := fun_mk (st := sOdd) l13 c13 k13
  have D13 : Df K mg "_law_odd" ["_law_hand_here", "_law_count"] sOdd f13 _ := ⟨F13, PySem.W.mg_of X G a13, F13.binds (ps := ["_law_hand_here", "_law_count"]) fun _ _ _ _ _ _ us hl => match us, hl with | [_, _], _ => rfl⟩
  have F14 := fun_mk (st := sAlone) l14 c14 k14
  have D14 : Df K mg "_law_alone" ["_law_e"] sAlone f14 _ := ⟨F14, PySem.W.mg_of X G a14, F14.binds (ps := ["_law_e"]) fun _ _ _ _ _ _ us hl => match us, hl with | [_], _ => rfl⟩
  have F15 := fun_mk (st := sCaught) l15 c15 k15
  have D15 : Df K mg "_law_caught" ["_law_way", "_law_thing"] sCaught f15 _ := ⟨F15, PySem.W.mg_of X G a15, F15.binds (ps := ["_law_way", "_law_thing"]) fun _ _ _ _ _ _ us hl => match us, hl with | [_, _], _ => rfl⟩
  have F16 := fun_mk (st := sRefused) l16 c16 k16
  have D16 : Df K mg "_law_refused" ["_law_hand_here", "_law_odd_here"] sRefused f16 _ := ⟨F16, PySem.W.mg_of X G a16, F16.binds (ps := ["_law_hand_here", "_law_odd_here"]) fun _ _ _ _ _ _ us hl => match us, hl with | [_, _], _ => rfl⟩
  have F17 := fun_mk (st := sRight) l17 c17 k17
  have D17 : Df K mg "_law_right" ["_law_hand_here"] sRight f17 _ := ⟨F17, PySem.W.mg_of X G a17, F17.binds (ps := ["_law_hand_here"]) fun _ _ _ _ _ _ us hl => match us, hl with | [_], _ => rfl⟩
  have F18 := fun_mk (st := sLaw) l18 c18 k18
  have D18 : Df K mg "law" ["_law_script"] sLaw fa _ := ⟨F18, PySem.W.mg_of X G a18, F18.binds (ps := ["_law_script"]) fun _ _ _ _ _ _ us hl => match us, hl with | [_], _ => rfl⟩
  let e : Ex := ⟨cNotSuch, cLost, cTaken, cNoCustom, cNoDay, cNoDisc, cNoEntry, cNoKey, cNoLine, cNoName, cNoNumber, cNoPath, cNoText, cSame, cStruck, cTwice, cNoLength⟩
  have no : ∀ {c : Addr}, PySem.W.isClsIn K c = true → PySem.W.typeIn K (.ref c) = some (.type "type") → PySem.W.subIn K (.ref cNoLength) (.ref c) = some false → PySem.W.kitOne K (.ref cNoLength) (.ref c) = some false := fun a b d => kit_no a b d sb_NoLength
  have exs : ∀ {c : Addr} {b : Bool}, PySem.W.isClsIn K c = true → PySem.W.typeIn K (.ref c) = some (.type "type") → PySem.W.subIn K (.ref c) (.type "BaseException") = some true → PySem.W.subIn K (.ref cNoLength) (.ref c) = some b → PySem.W.exmOne K (.ref cNoLength) (.ref c) = some b := fun a b d g => exm_is a b d g
  have T : Txt K mg cLength e := ⟨⟨pg, hd, po, sa⟩,
    nS,
    PySem.W.mg_of X G a_Length,
    ⟨⟨pg, hd, po, sa⟩, ha, hn, ht, hm, kit_self⟩,
    ⟨_, PySem.W.mg_of X G g_MOST_SECONDS⟩,
    PySem.W.mg_of X G a_NotSuch,
    PySem.W.mg_of X G a_Lost,
    PySem.W.mg_of X G a_Taken,
    PySem.W.mg_of X G a_NoCustom,
    PySem.W.mg_of X G a_NoDay,
    PySem.W.mg_of X G a_NoDisc,
    PySem.W.mg_of X G a_NoEntry,
    PySem.W.mg_of X G a_NoKey,
    PySem.W.mg_of X G a_NoLine,
    PySem.W.mg_of X G a_NoName,
    PySem.W.mg_of X G a_NoNumber,
    PySem.W.mg_of X G a_NoPath,
    PySem.W.mg_of X G a_NoText,
    PySem.W.mg_of X G a_Same,
    PySem.W.mg_of X G a_Struck,
    PySem.W.mg_of X G a_Twice,
    PySem.W.mg_of X G a_NoLength,
    PySem.W.mg_none_of X G z_isinstance,
    PySem.W.mg_none_of X G z_int,
    PySem.W.mg_none_of X G z_bool,
    PySem.W.mg_none_of X G z_len,
    PySem.W.mg_none_of X G z_abs,
    PySem.W.mg_none_of X G z_max,
    PySem.W.mg_none_of X G z_min,
    PySem.W.mg_none_of X G z_all,
    PySem.W.mg_none_of X G z_any,
    PySem.W.mg_none_of X G z_range,
    PySem.W.mg_none_of X G z_repr,
    PySem.W.mg_none_of X G z_str,
    PySem.W.mg_none_of X G z_ValueError,
    ⟨⟨nmX, qX, NX, bsX, bmX, snX, subX, abX, colX, ddX, k0X, k1X, k2X, k3X, k5X, oX, hbX⟩, saX, exX, ty_NoLength, kX⟩,
    ⟨ic_NoLength, gaX, ggX, exX, hdX, haX, hn, ht, hmX⟩,
    ⟨rdN, spN, fiN⟩,
    fldX,
    exm_3 (exs ic_NotSuch ty_NotSuch be_NotSuch sb_NotSuch) (exs ic_Lost ty_Lost be_Lost sb_Lost) (exs ic_Taken ty_Taken be_Taken sb_Taken),
    kit_skip (no ic_Lost ty_Lost sb_Lost) (kit_skip (no ic_Taken ty_Taken sb_Taken) (kit_skip (no ic_NoCustom ty_NoCustom sb_NoCustom) (kit_skip (no ic_NoDay ty_NoDay sb_NoDay) (kit_skip (no ic_NoDisc ty_NoDisc sb_NoDisc) (kit_skip (no ic_NoEntry ty_NoEntry sb_NoEntry) (kit_skip (no ic_NoKey ty_NoKey sb_NoKey) (kit_skip (no ic_NoLine ty_NoLine sb_NoLine) (rfl)))))))),
    kit_skip (no ic_NoName ty_NoName sb_NoName) (kit_skip (no ic_NoNumber ty_NoNumber sb_NoNumber) (kit_skip (no ic_NoPath ty_NoPath sb_NoPath) (kit_skip (no ic_NoText ty_NoText sb_NoText) (kit_skip (no ic_Same ty_Same sb_Same) (kit_skip (no ic_Struck ty_Struck sb_Struck) (kit_skip (no ic_Twice ty_Twice sb_Twice) (rfl))))))),
    kit_self,
    kit_yes ic_NotSuch ty_NotSuch sb_NotSuch,
    kit_int rint,
    kit_ve sVE⟩
  have Wc : OwnC K cLength f5 := ⟨a5, i5, nE, hm, rint, rstr, rNoneType, rtuple, rlist⟩
  have Z : KitC K cLength := kitC_mk tyC hm sint sstr sNoneType stuple slist
  refine ⟨PySem.W.fnOf "law" "law" (defArgs sLaw) (defBody sLaw) (defScope sLaw) .none kV18 dc18 pm18 an18 cd18 ct18, fun s v => .of_eq rfl, fun base kb gb nd => ?g⟩
  case g =>
    have N : Nl l.prog w K mg base e f0 _ := ⟨ok_nl (P := l.prog) (w := w) (base := base) F0 T, a0, tyF, B0⟩
    have cW := D1.ca (ok_whole (P := l.prog) (w := w) (base := base) D1 T)
    have cI := D2.ca (ok_within D2 cW)
    have cB := D3.ca (ok_bey (P := l.prog) (w := w) (base := base) D3)
    have G2 : Ln l.prog w K mg base cLength e f4 _ := ⟨⟨mk, a4, i4, kc⟩, ok_len F4 T N cI, B4, ⟨fun s us ws _ l1 l2 => match us, ws, l1, l2 with | [_], [_], _, _ => .of_eq rfl, fun r1 r2 => Vals.append r1 r2⟩⟩
    have O : Own l.prog w K mg base cLength f5 f6 f7 _ _ _ := ⟨Wc, Z, ok_eq F5 T Z, B5, a6, i6, ok_str F6 T nd cB, B6, a7, i7, ok_repr F7 T, B7⟩
    have cH := D8.ca (ok_hand (P := l.prog) (w := w) (base := base) D8 T)
    have cT := D9.ca (ok_take (P := l.prog) (w := w) (base := base) D9)
    have cP := D10.ca (ok_pick D10 T cT)
    have cQ := D11.ca (ok_seconds D11 T cT cP)
    have cX := D12.ca (ok_text (P := l.prog) (w := w) (base := base) D12 T)
    have cO := D13.ca (ok_odd D13 T cT cP cX G2.mm G2.ok G2.bd)
    have cA := D14.ca (ok_alone (P := l.prog) (w := w) (base := base) D14 T)
    have cC := D15.ca (ok_caught D15 T G2)
    exact ok_law D18 T cH D17 (ok_right D17 T O G2 cQ cX cO D16 (ok_refused D16 T cT cA cC O))
end K5
open PySem PySem.W PyProof.Rows
set_option maxRecDepth 100000 in
set_option maxHeartbeats 0 in
theorem PySem.Challenge.cw_takesworks_k05_lengths_told_holds : PySem.Challenge.rw_takesworks_k05_lengths_told.Holds := by
  w_on; o_law; k_head; (case hw => w_witness2)
  k_fill
  refine K5.walk_go (l := PySem.Challenge.rw_takesworks_k05_lengths_told) (n := 63) (k := 9) (x := "_law_script") (sp := K5.spLaw) rfl (by decide) rfl ⟨rfl, by decide, by decide⟩ (fun w h Y => PySem.W.kIn_of Y) ?F
    (fun _ _ a ns hl hS => ⟨a, ns, rfl, hS, hl, fun _ => rfl⟩)
  case F =>
    intro w mg fa h KX G hmg
    refine' K5.all_mk KX G hmg ?a_Length ?a_NotSuch ?a_Lost ?a_Taken ?a_NoCustom ?a_NoDay ?a_NoDisc ?a_NoEntry ?a_NoKey ?a_NoLine ?a_NoName ?a_NoNumber ?a_NoPath ?a_NoText ?a_Same ?a_Struck ?a_Twice ?a_NoLength ?a0 ?i0 ?l0 ?c0 ?k0 ?a1 ?l1 ?c1 ?k1 ?a2 ?l2 ?c2 ?k2 ?a3 ?l3 ?c3 ?k3 ?a4 ?i4 ?l4 ?c4 ?k4 ?a5 ?i5 ?l5 ?c5 ?k5 ?a6 ?i6 ?l6 ?c6 ?k6 ?a7 ?i7 ?l7 ?c7 ?k7 ?a8 ?l8 ?c8 ?k8 ?a9 ?l9 ?c9 ?k9 ?a10 ?l10 ?c10 ?k10 ?a11 ?l11 ?c11 ?k11 ?a12 ?l12 ?c12 ?k12 ?a13 ?l13 ?c13 ?k13 ?a14 ?l14 ?c14 ?k14 ?a15 ?l15 ?c15 ?k15 ?a16 ?l16 ?c16 ?k16 ?a17 ?l17 ?c17 ?k17 ?a18 ?l18 ?c18 ?k18 ?g_MOST_SECONDS ?ic_NotSuch ?ty_NotSuch ?sb_NotSuch ?ic_Lost ?ty_Lost ?sb_Lost ?ic_Taken ?ty_Taken ?sb_Taken ?ic_NoCustom ?ty_NoCustom ?sb_NoCustom ?ic_NoDay ?ty_NoDay ?sb_NoDay ?ic_NoDisc ?ty_NoDisc ?sb_NoDisc ?ic_NoEntry ?ty_NoEntry ?sb_NoEntry ?ic_NoKey ?ty_NoKey ?sb_NoKey ?ic_NoLine ?ty_NoLine ?sb_NoLine ?ic_NoName ?ty_NoName ?sb_NoName ?ic_NoNumber ?ty_NoNumber ?sb_NoNumber ?ic_NoPath ?ty_NoPath ?sb_NoPath ?ic_NoText ?ty_NoText ?sb_NoText ?ic_Same ?ty_Same ?sb_Same ?ic_Struck ?ty_Struck ?sb_Struck ?ic_Twice ?ty_Twice ?sb_Twice ?ic_NoLength ?ty_NoLength ?sb_NoLength ?be_NotSuch ?be_Lost ?be_Taken ?sVE ?oX ?hbX ?saX ?exX ?kX ?gaX ?ggX ?hdX ?haX ?hmX ?fldX ?tyF ?rdN ?spN ?fiN ?pg ?hd ?po ?sa ?mk ?kc ?nS ?ha ?hn ?ht ?hm ?sint ?sstr ?sNoneType ?stuple ?slist ?rint ?rstr ?rNoneType ?rtuple ?rlist ?tyC ?nE ?z_isinstance ?z_int ?z_bool ?z_len ?z_abs ?z_max ?z_min ?z_all ?z_any ?z_range ?z_repr ?z_str ?z_ValueError
    (case a_Length => k_is)
    (case a_NotSuch => k_is)
    (case a_Lost => k_is)
    (case a_Taken => k_is)
    (case a_NoCustom => k_is)
    (case a_NoDay => k_is)
    (case a_NoDisc => k_is)
    (case a_NoEntry => k_is)
    (case a_NoKey => k_is)
    (case a_NoLine => k_is)
    (case a_NoName => k_is)
    (case a_NoNumber => k_is)
    (case a_NoPath => k_is)
    (case a_NoText => k_is)
    (case a_Same => k_is)
    (case a_Struck => k_is)
    (case a_Twice => k_is)
    (case a_NoLength => k_is)
    (case a0 => k_is)
    (case i0 => k_is)
    (case l0 => k_is)
    (case c0 => k_is)
    (case k0 => k_is)
    (case a1 => k_is)
    (case l1 => k_is)
    (case c1 => k_is)
    (case k1 => k_is)
    (case a2 => k_is)
    (case l2 => k_is)
    (case c2 => k_is)
    (case k2 => k_is)
    (case a3 => k_is)
    (case l3 => k_is)
    (case c3 => k_is)
    (case k3 => k_is)
    (case a4 => k_is)
    (case i4 => k_is)
    (case l4 => k_is)
    (case c4 => k_is)
    (case k4 => k_is)
    (case a5 => k_is)
    (case i5 => k_is)
    (case l5 => k_is)
    (case c5 => k_is)
    (case k5 => k_is)
    (case a6 => k_is)
    (case i6 => k_is)
    (case l6 => k_is)
    (case c6 => k_is)
    (case k6 => k_is)
    (case a7 => k_is)
    (case i7 => k_is)
    (case l7 => k_is)
    (case c7 => k_is)
    (case k7 => k_is)
    (case a8 => k_is)
    (case l8 => k_is)
    (case c8 => k_is)
    (case k8 => k_is)
    (case a9 => k_is)
    (case l9 => k_is)
    (case c9 => k_is)
    (case k9 => k_is)
    (case a10 => k_is)
    (case l10 => k_is)
    (case c10 => k_is)
    (case k10 => k_is)
    (case a11 => k_is)
    (case l11 => k_is)
    (case c11 => k_is)
    (case k11 => k_is)
    (case a12 => k_is)
    (case l12 => k_is)
    (case c12 => k_is)
    (case k12 => k_is)
    (case a13 => k_is)
    (case l13 => k_is)
    (case c13 => k_is)
    (case k13 => k_is)
    (case a14 => k_is)
    (case l14 => k_is)
    (case c14 => k_is)
    (case k14 => k_is)
    (case a15 => k_is)
    (case l15 => k_is)
    (case c15 => k_is)
    (case k15 => k_is)
    (case a16 => k_is)
    (case l16 => k_is)
    (case c16 => k_is)
    (case k16 => k_is)
    (case a17 => k_is)
    (case l17 => k_is)
    (case c17 => k_is)
    (case k17 => k_is)
    (case a18 => k_is)
    (case l18 => k_is)
    (case c18 => k_is)
    (case k18 => k_is)
    (case g_MOST_SECONDS => k_is)
    (case ic_NotSuch => k_is)
    (case ty_NotSuch => k_is)
    (case sb_NotSuch => k_is)
    (case ic_Lost => k_is)
    (case ty_Lost => k_is)
    (case sb_Lost => k_is)
    (case ic_Taken => k_is)
    (case ty_Taken => k_is)
    (case sb_Taken => k_is)
    (case ic_NoCustom => k_is)
    (case ty_NoCustom => k_is)
    (case sb_NoCustom => k_is)
    (case ic_NoDay => k_is)
    (case ty_NoDay => k_is)
    (case sb_NoDay => k_is)
    (case ic_NoDisc => k_is)
    (case ty_NoDisc => k_is)
    (case sb_NoDisc => k_is)
    (case ic_NoEntry => k_is)
    (case ty_NoEntry => k_is)
    (case sb_NoEntry => k_is)
    (case ic_NoKey => k_is)
    (case ty_NoKey => k_is)
    (case sb_NoKey => k_is)
    (case ic_NoLine => k_is)
    (case ty_NoLine => k_is)
    (case sb_NoLine => k_is)
    (case ic_NoName => k_is)
    (case ty_NoName => k_is)
    (case sb_NoName => k_is)
    (case ic_NoNumber => k_is)
    (case ty_NoNumber => k_is)
    (case sb_NoNumber => k_is)
    (case ic_NoPath => k_is)
    (case ty_NoPath => k_is)
    (case sb_NoPath => k_is)
    (case ic_NoText => k_is)
    (case ty_NoText => k_is)
    (case sb_NoText => k_is)
    (case ic_Same => k_is)
    (case ty_Same => k_is)
    (case sb_Same => k_is)
    (case ic_Struck => k_is)
    (case ty_Struck => k_is)
    (case sb_Struck => k_is)
    (case ic_Twice => k_is)
    (case ty_Twice => k_is)
    (case sb_Twice => k_is)
    (case ic_NoLength => k_is)
    (case ty_NoLength => k_is)
    (case sb_NoLength => k_is)
    (case be_NotSuch => k_is)
    (case be_Lost => k_is)
    (case be_Taken => k_is)
    (case sVE => k_is)
    (case oX => k_is)
    (case hbX => decide +kernel)
    (case saX => k_is)
    (case exX => k_is)
    (case kX => k_is)
    (case gaX => k_is)
    (case ggX => k_is)
    (case hdX => k_is)
    (case haX => k_is)
    (case hmX => k_is)
    (case fldX => k_is)
    (case tyF => k_is)
    (case rdN => k_is)
    (case spN => k_is)
    (case fiN => k_is)
    (case pg => k_is)
    (case hd => k_is)
    (case po => k_is)
    (case sa => k_is)
    (case mk => k_is)
    (case kc => k_is)
    (case nS => k_is)
    (case ha => k_is)
    (case hn => k_is)
    (case ht => k_is)
    (case hm => k_is)
    (case sint => k_is)
    (case sstr => k_is)
    (case sNoneType => k_is)
    (case stuple => k_is)
    (case slist => k_is)
    (case rint => k_is)
    (case rstr => k_is)
    (case rNoneType => k_is)
    (case rtuple => k_is)
    (case rlist => k_is)
    (case tyC => k_is)
    (case nE => k_is)
    (case z_isinstance => k_is)
    (case z_int => k_is)
    (case z_bool => k_is)
    (case z_len => k_is)
    (case z_abs => k_is)
    (case z_max => k_is)
    (case z_min => k_is)
    (case z_all => k_is)
    (case z_any => k_is)
    (case z_range => k_is)
    (case z_repr => k_is)
    (case z_str => k_is)
    (case z_ValueError => k_is)
