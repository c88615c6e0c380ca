import PyProof.Rows.All
import Wide.All
import OpenK.AllK
import Wide.FinOn
import HandS.ForMost
import HandS.ForExc
import HandS.Wide
import HandS.Flow
import HandS.IsInst
import HandS.Codes
import HandS.ExcInit
import HandS.ExcField
import HandS.ExcIs
import HandS.CallSlots
import HandS.Defaults
import HandS.MakeKw
import HandS.MakeKwOnly
import KE.KExcIs
import KE.KTryMore
import HandS.RaiseMore
import HandS.FStrTup
import PyProof.ReprRoads
import PyProof.StrLawsRepr
import HandS.TupLe
import HandS.Zip
import HandS.Walk
import HandS.OwnEq
import HandS.FStr
import KE.KCallOwn
import HandS.TupAny
import HandS.TupMul
import PyProof.StrBlockL
import HandS.Deep
import KE.KRevSl
import KE.DataCmp
import PySem.Challenge.RW_takesworks_k47_discs
set_option Elab.async false
set_option linter.all false
set_option maxRecDepth 100000
set_option maxHeartbeats 4000000
set_option pp.maxSteps 400
set_option pp.deepTerms false
/-! A caught exception that is kept: tracked as an object of its own, with its class and its dict. -/
namespace Xk
open PySem PySem.Spec PyProof.Rows L2
/-- at a: an exception of the class cls, its dict at d (if it has one) -/
def ExK (cls : Value) (d : Option Addr) (a : Addr) : HO := .ext fun h => ∃ oe : Obj, h.get? a = some oe ∧ Zc cls d oe ∧ ∃ vs, oe.data = .fields vs
theorem exK_ok {P : Program} {w : World} {H : Hp} {h : Heap} {a : Addr} {cls : Value} {d : Option Addr} {oe : Obj} {vs : Array Value}
    (e : h.get? a = some oe) (z : Zc cls d oe) (hd : oe.data = .fields vs) : ObjOk P w H h a (ExK cls d a) :=
  ⟨⟨oe, e, z, vs, hd⟩, ⟨oe, e⟩, fun _ _ y k => by
    obtain ⟨o, q, r⟩ := y
    exact ⟨o, k o q, r⟩⟩
theorem exK_at {P : Program} {w : World} {H : Hp} {h : Heap} {a : Addr} {cls : Value} {d : Option Addr} (hok : HOk P w H h) (e : H a = some (ExK cls d a)) :
    ∃ oe : Obj, h.get? a = some oe ∧ Zc cls d oe ∧ ∃ vs, oe.data = .fields vs := by
  have z : ObjOk P w H h a (.ext fun h => ∃ oe : Obj, h.get? a = some oe ∧ Zc cls d oe ∧ ∃ vs, oe.data = .fields vs) := hok a _ e
  exact z.1
section
variable {X : Cx} {pins : List (Addr × Obj)} {σ : L2.St} {H : Hp} {s : Shared}
/-- an object that came during the call, untracked as yet, is tracked from here on -/
theorem track {a : Addr} {o : HO} (I : Inv X pins σ H s) (h0 : X.s_0.heap.get? a = none) (na : H a = none) (nL : a ≠ X.env.locals)
    (nC : ∀ x c, X.env.cells.lookup x = some c → c ≠ a) (nP : ∀ p ∈ X.pn ++ pins, p.1 ≠ a) (new : ObjOk X.prog X.w (upd H a o) s.heap a o) : Inv X pins σ (upd H a o) s := by
  have n0 : ∀ {b : Addr} {u : Obj}, X.s_0.heap.get? b = some u → b ≠ a := fun {b u} e z => by
    rw [z, h0] at e
    cases e
  refine ⟨I.ok, I.os, I.bare, ⟨I.base.keep, I.base.slot, fun b u e n hx => ?_, I.base.there, fun b xs e => ?_, fun b u v e => ?_, fun b ps e => ?_⟩, I.loc, I.cell, ?_, fun x c e => ?_, fun p hp => ?_, fun b u e => ?_, I.len⟩
  · rw [upd_ne (n0 e)]
    exact I.base.free b u e n hx
  · have q := I.base.tups b xs e
    rw [upd_ne (ne_of_none q na)]
    exact q
  · have q := I.base.frzs b u v e
    rw [upd_ne (ne_of_none q na)]
    exact q
  · obtain ⟨m, q⟩ := I.base.tbls b ps e
    exact ⟨m, by rw [upd_ne (ne_of_none q na)]; exact q⟩
  · rw [upd_ne (Ne.symm nL)]
    exact I.free
  · rw [upd_ne (nC x c e)]
    exact I.freeC x c e
  · obtain ⟨e1, e2, e3⟩ := I.pin p hp
    exact ⟨e1, by rw [upd_ne (nP p hp)]; exact e2, e3⟩
  · by_cases hb : b = a
    · subst hb
      rw [upd_same] at e
      cases e
      exact new
    · rw [upd_ne hb] at e
      refine (I.hok b u e).stay (fun _ _ _ q => q) (fun c q => ?_) fun c xs q => ?_
      · rw [upd_ne (ne_of_none q na)]
        exact q
      · rw [upd_ne (ne_of_none q na)]
        exact q
end
theorem flying_kept {B h h' : Heap} {l : List Env} {a : Addr} {Z : Obj → Prop} (f : HandSPX.FlyingZ B l a Z h) (k : ∀ b o, h.get? b = some o → h'.get? b = some o) : HandSPX.FlyingZ B l a Z h' := by
  obtain ⟨f1, f2, f3, oe, vs, T, oT, ts, t1, t2, t3, t4, t5, t6, t7, t8, t9⟩ := f
  exact ⟨fun b o e => k b o (f1 b o e), f2, f3.of_keeps fun b o e _ => ⟨o, k b o e, rfl⟩, oe, vs, T, oT, ts, k _ _ t1, t2, t3, t4, t5, t6, k _ _ t7, t8, t9⟩
/-- what the clause 'except (A, B, C) as n' wishes of an exception of the body: slot i is n's; the exception is tracked -/
def wKeep (K : PySem.W.Frag) (cs : List Value) (i : Nat) (ts : Addr → TS) (Wout : WX) (D : Ends) : WX := fun cls d σ H =>
  ∃ b, PySem.W.exmAny K cls cs = some b ∧
    (b = true → ∀ a, H a = none → ts a { nx := fun σ' H' => D.nx (σ'.set i none) H', rt := D.rt, bk := fun σ' H' => D.bk (σ'.set i none) H', ct := fun σ' H' => D.ct (σ'.set i none) H' } (σ.set i (some (.ref a))) (upd H a (ExK cls d a))) ∧
    (b = false → Wout cls d σ H)
/-- a module's own class by its name -/
structure Nm (X : Cx) (x : Str) (C : Addr) : Prop where
  gl : Gl X x
  db : (x == ("__debug__" : Str)) = false
  mg : X.mg x = some (.ref C)
section
variable {X : Cx} {x1 x2 x3 n : Str} {C1 C2 C3 : Addr} {i : Nat} {body suite : List Stmt} {b₀ : Stmt} {p1 p2 p3 tp pos pos' : Pos} {tb : WX → TS} {ts : Addr → TS} {Wout : WX} {cx}
theorem ps_try_keep (hs : X.stack = X.env :: X.outer) (hf : X.env.frame = some X.env.locals) (hex : X.ex = []) (hN : X.N.Nodup) (hi : X.N[i]? = some n) (hln : X.env.kindOf n = some .local)
    (n1 : Nm X x1 C1) (n2 : Nm X x2 C2) (n3 : Nm X x3 C3) (tk : Takes X Wout)
    (hb : ∀ (W : WX) (pn : List (Addr × Obj)) (xe : Value → Shared → Prop), Takes (X.tr pn xe) W → PassesOwn (model X.prog X.w) X.A X.env xe → PSs (X.tr pn xe) body (tb W))
    (hsu : ∀ (a : Addr) (pn : List (Addr × Obj)), PSs (X.suite a pn) (b₀ :: suite) (ts a)) :
    PS X (.Try body [.ExceptHandler (some (.Tuple [.Name x1 p1, .Name x2 p2, .Name x3 p3] cx tp)) (some n) (b₀ :: suite) pos'] [] [] pos) (fun D σ H => tb (wKeep X.K [.ref C1, .ref C2, .ref C3] i ts Wout D) D σ H) := by
  refine ⟨fun pins s σ H D I h => ?_⟩
  have ok := I.ok
  have frs2 : X.A.frames = some (X.env :: X.outer) := by rw [ok.frames, hs]
  refine wpAny_Try_except ?_
  refine wpAny_mono ((hb (wKeep X.K [.ref C1, .ref C2, .ref C3] i ts Wout D) (X.pn ++ pins)
    (fun e s₁ => wpAny (model X.prog X.w) X.A (noteFrame e X.env) (fun _ s₂ => wpAny (model X.prog X.w) X.A (setFlight e none) (fun _ s₃ => wpAny (model X.prog X.w) X.A
      (handleBy e X.env [.ExceptHandler (some (.Tuple [.Name x1 p1, .Name x2 p2, .Name x3 p3] cx tp)) (some n) (b₀ :: suite) pos']) (SP X pins D) X.xe s₃) X.xe s₂) X.xe s₁)
    (fun u s' air => ?_) PassesOwn.looking).run [] s σ H D (I.toTry _) h) (fun f s1 hsp => ?_) (fun e s1 he => he)
  · obtain ⟨a, B, sI, pins', σ', H', cls, d, rfl, J', nb, up, sky, na, os, ag, b, hb1, hyes, hno⟩ := air
    have J : Inv X pins σ' H' sI := J'.ofTry ok
    have sky2 : Sky B (X.env :: X.outer) a (Zc cls d) X.env.locals s'.heap := by
      rw [← hs]
      exact sky
    refine Sky.land Zc.steady frs2 hf sky2 fun h3 fl3 up3 => ?_
    obtain ⟨oe3, vs3, he3, hz3, hd3⟩ := fl3.there
    have nfr : a ∉ frs (X.env :: X.outer) := fun hm => by
      obtain ⟨_, o', e', hnf⟩ := fl3.2.2.1.mem hm
      rw [he3] at e'
      cases e'
      exact hnf _ hd3
    have nL : a ≠ X.env.locals := fun z => nfr (List.mem_filterMap.mpr ⟨X.env, List.mem_cons_self, by rw [hf, z]⟩)
    have nF : a ∉ X.fs := fun hm => by
      obtain ⟨e, he, q⟩ := List.mem_filterMap.mp hm
      exact nfr (List.mem_filterMap.mpr ⟨e, List.mem_cons_of_mem _ he, q⟩)
    -- it was not there when the call began
    have aI : sI.heap.get? a = none := by
      cases e : sI.heap.get? a with
      | none => rfl
      | some o =>
        have z := nb a o e (by rw [hs]; exact nfr)
        rw [fl3.2.1] at z
        cases z
    have a0 : X.s_0.heap.get? a = none := by
      cases e : X.s_0.heap.get? a with
      | none => rfl
      | some o =>
        obtain ⟨o', z⟩ := J.base.there a o e (by rw [hex]; exact fun z => nomatch z)
        rw [aI] at z
        cases z
    have nP : ∀ p ∈ X.pn ++ pins, p.1 ≠ a := fun p hp z => by
      have q := (J.pin p hp).1
      rw [z, aI] at q
      cases q
    have trk : ∀ {h4 : Heap} {s4 : Shared}, s4.heap = h4 → HandSPX.FlyingZ B (X.env :: X.outer) a (Zc cls d) h4 → Inv X pins σ' H' s4 → Inv X pins σ' (upd H' a (ExK cls d a)) s4 := fun {h4 s4} e4 fl4 J4 => by
      subst e4
      obtain ⟨oe4, vs4, he4, hz4, hd4⟩ := fl4.there
      refine track J4 a0 na nL (fun x c e z => ?_) nP (exK_ok he4 hz4 hd4)
      obtain ⟨v, o, eo, ed⟩ := J4.cell x c e
      rw [z, he4] at eo
      cases eo
      rw [hd4] at ed
      cases ed
    have J3 : Inv X pins σ' H' { s' with heap := h3 } := J.landed nb fl3.1 (up.trans up3) os ag
    have S3 : Inv (X.suite a (X.pn ++ pins)) [] σ' H' { s' with heap := h3 } :=
      ⟨J3.ok.suite _ _, J3.os, J3.bare, J3.base, J3.loc, J3.cell, J3.free, J3.freeC, fun p hp => J3.pin p (by rw [List.append_nil] at hp; exact hp), J3.hok, J3.len⟩
    refine wpAny_handleBy_cons (codeAny_handlers_test ?_) (by intro q; cases q)
    have own : ∀ {x : Str} {C : Addr} {p : Pos} {Q : Value → Shared → Prop} {E : Value → Shared → Prop}, Nm X x C → Q (.ref C) { s' with heap := h3 } →
        wpAny (model X.prog X.w) (X.A.mark (some (.ref a))) (eval (.Name x p) X.env) Q E { s' with heap := h3 } := fun {x C p Q E} z q => ld_glob (X := X.suite a (X.pn ++ pins)) S3 z.gl z.mg q z.db
    have tup : ∀ {Q : Value → Shared → Prop} {E : Value → Shared → Prop}, Q (.ref h3.objs.size) { s' with heap := h3.push { cls := .type "tuple", data := .seq [Value.ref C1, .ref C2, .ref C3].toArray } } →
        wpAny (model X.prog X.w) (X.A.mark (some (.ref a))) (eval (.Tuple [.Name x1 p1, .Name x2 p2, .Name x3 p3] cx tp) X.env) Q E { s' with heap := h3 } := fun {Q E} q => by
      refine wpAny_Tuple_spliced ?_
      show wpAny _ _ (spliced ((false, eval (.Name x1 p1) X.env) :: (false, eval (.Name x2 p2) X.env) :: (false, eval (.Name x3 p3) X.env) :: [])) _ _ _
      exact Calls.spliced_cons (own n1 (Calls.spliced_cons (own n2 (Calls.spliced_cons (own n3 (Calls.spliced_nil ⟨by show 3 ≤ sizeLine; decide, q⟩))))))
    refine tup ?_
    have k4 : ∀ b o, h3.get? b = some o → (h3.push { cls := .type "tuple", data := .seq [Value.ref C1, .ref C2, .ref C3].toArray }).get? b = some o := fun b o e => Heap.get?_push_of_some _ e
    have t4 := Heap.get?_push_size h3 (o := { cls := .type "tuple", data := .seq [Value.ref C1, .ref C2, .ref C3].toArray }) rfl
    generalize h3.push { cls := .type "tuple", data := .seq [Value.ref C1, .ref C2, .ref C3].toArray } = h4 at k4 t4 ⊢
    have fl4 := flying_kept fl3 k4
    have J4 : Inv X pins σ' H' { s' with heap := h4 } := J3.kept k4
    have LT : PySem.W.Looks (model X.prog X.w) h4 (typeOf (.ref a)) cls := fun A Q E s k q => wpAny_typeOf_ref (k _ _ (k4 _ _ he3)) (by rw [hz3.1]; exact q)
    refine (PySem.W.exm_tup3 (M := model X.prog X.w) J4.kIn LT t4 hb1).here ?_
    cases b with
    | true =>
      refine codeAny_handlers_suite_as ?_
      refine HandSPX.lands_againZ fl4 fun h5 fl5 up5 => ?_
      have J5 : Inv X pins σ' H' { s' with heap := h5 } := J.landed nb fl5.1 ((up.trans up3).trans ((Heap.UpToSlots.of_keeps k4).trans up5)) os ag
      have T5 := trk rfl fl5 J5
      have S5 : Inv (X.suite a (X.pn ++ pins)) [] σ' (upd H' a (ExK cls d a)) { s' with heap := h5 } :=
        ⟨T5.ok.suite _ _, T5.os, T5.bare, T5.base, T5.loc, T5.cell, T5.free, T5.freeC, fun p hp => T5.pin p (by rw [List.append_nil] at hp; exact hp), T5.hok, T5.len⟩
      refine store_ok (X := X.suite a (X.pn ++ pins)) (v := .ref a) S5 hN hi (.inl hln) rfl (fun s6 S6 => ?_) (.inr hln)
      refine wpAny_mono ((hsu a (X.pn ++ pins)).run [] s6 _ _ _ S6 (hyes rfl a na)) (fun f s7 hsp => ?_) (fun _ _ z => False.elim z)
      have back : ∀ {σ7 : L2.St} {H7 : Hp}, Inv (X.suite a (X.pn ++ pins)) [] σ7 H7 s7 → Inv X pins σ7 H7 s7 := fun {σ7 H7} S7 =>
        ⟨ok, S7.os, S7.bare, S7.base, S7.loc, S7.cell, S7.free, S7.freeC, fun p hp => S7.pin p (by rw [List.append_nil]; exact hp), S7.hok, S7.len⟩
      cases f with
      | next =>
        obtain ⟨σ7, H7, S7, q7⟩ := hsp
        exact gone_ok (back S7) hN hi hln fun s8 J8 => ⟨_, _, J8, q7⟩
      | brk =>
        obtain ⟨σ7, H7, S7, q7⟩ := hsp
        exact gone_ok (back S7) hN hi hln fun s8 J8 => ⟨_, _, J8, q7⟩
      | cont =>
        obtain ⟨σ7, H7, S7, q7⟩ := hsp
        exact gone_ok (back S7) hN hi hln fun s8 J8 => ⟨_, _, J8, q7⟩
      | ret u =>
        obtain ⟨v7, σ7, H7, S7, r7, q7⟩ := hsp
        exact gone_ok (back S7) hN hi hln fun s8 J8 => ⟨_, _, _, J8, r7, q7⟩
    | false =>
      refine wpAny_handleBy_nil ?_
      obtain ⟨k1, k2, k3, oe, vs, T, oT, ts', he, hz, hd, h1, hr⟩ := id fl4
      unfold PySem.passOn
      refine wpAny_bind (wpAny_field he hd h1 ?_)
      rw [if_neg (by simp : ¬ ((Value.ref T == Value.none) = true))]
      have fin : wpAny (model X.prog X.w) X.A (setFlight (.ref a) X.env.frame) (fun _ s5 => wpAny (model X.prog X.w) X.A (throw (.ref a) : Sem Flow) (SP X pins D) X.xe s5) X.xe { s' with heap := h4 } := by
        rw [hf]
        refine HandSPX.setFlight_upZ fl4 fun h5 hh5 up5 => wpAny_throw (tk _ _ ?_)
        exact ⟨a, B, sI, pins, σ', H', cls, d, rfl, J, nb, (up.trans up3).trans ((Heap.UpToSlots.of_keeps k4).trans up5), .inr (.inr (by rw [hs]; exact hh5)), na, os, ag, hno rfl⟩
      first
        | exact wpAny_bind (wpAny_pure (wpAny_bind fin))
        | exact wpAny_bind fin
  · cases f with
    | next =>
      obtain ⟨σ', H', J', q⟩ := hsp
      exact wpAny_execs_nil ⟨σ', H', J'.ofTry ok, q⟩
    | brk =>
      obtain ⟨σ', H', J', q⟩ := hsp
      exact ⟨σ', H', J'.ofTry ok, q⟩
    | cont =>
      obtain ⟨σ', H', J', q⟩ := hsp
      exact ⟨σ', H', J'.ofTry ok, q⟩
    | ret u =>
      obtain ⟨v, σ', H', J', r, q⟩ := hsp
      exact ⟨v, σ', H', J'.ofTry ok, r, q⟩
end
end Xk
set_option Elab.async false
set_option linter.all false
set_option maxRecDepth 100000
set_option maxHeartbeats 4000000
set_option pp.maxSteps 400
set_option pp.deepTerms false
namespace Xk
open PySem PySem.Spec PyProof.Rows L2
/-- what an own exception class says, so that its kept instances are read and asked -/
structure XcC (K : PySem.W.Frag) (C : Addr) : Prop where
  cl : (PySem.W.clsIn K C).isSome = true
  ga : PySem.W.findIn K (.ref C) "__getattribute__" = some (some (.builtin "BaseException.__getattribute__"))
  gg : PySem.W.findIn K (.ref C) "__getattr__" = some none
  sb : PySem.W.subIn K (.ref C) (.type "BaseException") = some true
  hd : PySem.W.hasDictIn K C = true
  ha : PySem.W.findIn K (.ref C) "__class__" = some (some (.builtin "object.__class__"))
  hn : PySem.W.specialIn K (.builtin "object.__class__") "__get__" = some (some (.builtin "getset_descriptor.__get__"))
  ht : PySem.W.takesIn K (.builtin "object.__class__") = some true
  hm : PySem.W.mroIn K C (.type "object") = some true
/-- a kept exception of the class at C with the fields fs -/
def Kept (H : Hp) (a C : Addr) (fs : List (Str × V)) : Prop := ∃ d, H a = some (ExK (.ref C) (some d) a) ∧ H d = some (.xd fs)
theorem Kept.same {H H' : Hp} {a C : Addr} {fs : List (Str × V)} (k : Kept H a C fs) (s : L2.Same H H') : Kept H' a C fs := by
  obtain ⟨d, e1, e2⟩ := k
  exact ⟨d, s _ _ e1, s _ _ e2⟩
section
variable {X : Cx} {pins : List (Addr × Obj)} {σ : L2.St} {H : Hp} {s : Shared}
theorem Kept.inst {a C : Addr} {fs : List (Str × V)} (I : Inv X pins σ H s) (k : Kept H a C fs) :
    ∃ (oe od : Obj) (mA : Str → Option Value), PySem.W.InstAt s.heap a oe C (some od) ∧ (∀ n, PySem.W.lookIn n od = some (mA n)) ∧ ∀ f, RelO (fs.lookup f) (mA f) := by
  obtain ⟨d, e1, e2⟩ := k
  obtain ⟨oe, he, hz, vs, hv⟩ := exK_at I.hok e1
  have hx : ObjOk X.prog X.w H s.heap d (.xd fs) := I.hok d _ e2
  obtain ⟨mA, hns, hr⟩ := hx
  obtain ⟨od, ho, hl⟩ := lookIn_ns hns
  refine ⟨oe, od, mA, ⟨he, hz.1, by unfold PySem.W.notCls; rw [hv] <;> rfl, by rw [hz.2]; exact ho⟩, hl, hr⟩
end
/-- e.f of a kept exception -/
def tKf (C : Addr) (f : Str) (te : TE) : TE := fun σ H Q => te σ H fun x H1 => ∃ (a : Addr) (fs : List (Str × V)) (v : V), x = .ref a ∧ Kept H1 a C fs ∧ fs.lookup f = some v ∧ Q v H1
theorem pe_kf {X : Cx} {C : Addr} {e : Expr} {te : TE} {pos : Pos} {n : Str} (T : XcC X.K C) (hno : PySem.W.findIn X.K (.ref C) n = some none) (he : PE X e te)
    (hb : attributeBase e n X.env (eval e X.env) = eval e X.env := by rfl) : PE X (.Attribute e n pos) (tKf C n te) := by
  refine ⟨fun pins s σ H Q I h => attr_of hb (thn (he.run pins s σ H _ I h) fun u s1 z => ?_)⟩
  obtain ⟨x, H1, I1, rx, a, fs, v, ex, k, l, q⟩ := z
  subst ex
  obtain rfl : u = Value.ref a := rx
  obtain ⟨oe, od, mA, J, hl, hr⟩ := k.inst I1
  obtain ⟨y, hy, ry⟩ := RelO.some_of (v := v) (o := mA n) (by rw [← l]; exact hr n)
  exact HandSPX.exc_get I1.kIn J T.ga T.gg T.sb (PySem.W.findObj_own T.hd hno rfl (by rw [hl, hy])) (handed_of ry) ⟨v, H1, I1.tok _, ry, q⟩
/-- isinstance(e, c), isinstance(e, (c1, ..)) of a kept exception -/
def rIsK (K : PySem.W.Frag) (C : Addr) : List V → Hp → VK → Prop := fun xs H Q => ∃ (a : Addr) (fs : List (Str × V)) (c : V) (u : Value) (b : Bool), xs = [.ref a, c] ∧ Kept H a C fs ∧ ClsV c u ∧ PySem.W.kitOne K (.ref C) u = some b ∧ Q (.bl b) H
def rIsKT (K : PySem.W.Frag) (C : Addr) : List V → Hp → VK → Prop := fun xs H Q => ∃ (a tp : Addr) (fs : List (Str × V)) (cs : List V) (us : List Value) (b : Bool), xs = [.ref a, .ref tp] ∧ Kept H a C fs ∧
  H tp = some (.tup cs) ∧ Paired ClsV cs us ∧ PySem.W.kitAny K (.ref C) us = some b ∧ Q (.bl b) H
theorem call_isK {X : Cx} {C : Addr} (T : XcC X.K C) : CallR X (.builtin "isinstance") (rIsK X.K C) := by
  intro pins s σ H xs us Q I r h
  obtain ⟨a, fs, c, u, b, rfl, k, hc, e, q⟩ := h
  obtain ⟨u1, u2, rfl, r1, r2⟩ := vals2 r
  have e2 := hc.eq r2
  subst e2
  cases (show u1 = Value.ref a from r1)
  obtain ⟨oe, od, mA, J, _, _⟩ := k.inst I
  exact PySem.W.kia_one (PySem.W.kitx_exc (ox := oe) (od := some od) T.cl T.ga T.gg T.sb T.ha T.hn T.ht T.hm) I.kIn J e (fun z => nomatch z) fun tk => ⟨.bl b, H, I.tok tk, rfl, q⟩
theorem call_isKT {X : Cx} {C : Addr} (T : XcC X.K C) : CallR X (.builtin "isinstance") (rIsKT X.K C) := by
  intro pins s σ H xs us Q I r h
  obtain ⟨a, tp, fs, cs, ws, b, rfl, k, hT, hc, e, q⟩ := h
  obtain ⟨u1, u2, rfl, r1, r2⟩ := vals2 r
  cases (show u1 = Value.ref a from r1)
  cases (show u2 = Value.ref tp from r2)
  obtain ⟨oe, od, mA, J, _, _⟩ := k.inst I
  have ht : ObjOk X.prog X.w H s.heap tp (.tup cs) := I.hok tp _ hT
  obtain ⟨_, its, rv, o, h1, h2, n, h3⟩ := ht
  have e3 := ClsV.all hc rv
  subst e3
  obtain ⟨oc, od2, dt, sl⟩ := o
  simp only at h2 h3
  subst h2 h3
  exact PySem.W.kia_tup (PySem.W.kitx_exc (ox := oe) (od := some od) T.cl T.ga T.gg T.sb T.ha T.hn T.ht T.hm) I.kIn J h1 e (fun z => nomatch z) fun tk => ⟨.bl b, H, I.tok tk, rfl, q⟩
/-! ### B.__init__(self, ..), B an own class over ValueError without own __init__ -/
structure BiC (K : PySem.W.Frag) (B : Addr) : Prop where
  rd : PySem.W.readsIn K B (.type "type") = true
  sp : PySem.W.specialIn K (.ref B) "__getattribute__" = some (some (.builtin "type.__getattribute__"))
  fi : PySem.W.findCls K (.ref B) (.type "type") "__init__" = some (.val (.builtin "ValueError.__init__"))
theorem pe_binit {X : Cx} {B : Addr} {x : Str} {e : Expr} {es : List Expr} {ta : TA} {p1 p2 pos : Pos} {pl : Sem Bool} (T : BiC X.K B) (gl : Gl X x) (mg : X.mg x = some (.ref B)) (ha : PA X (e :: es) ta) (hdb : (x == ("__debug__" : Str)) = false := by decide)
    (hc : eval (.Call (.Attribute (.Name x p1) "__init__" p2) (e :: es) [] pos) X.env = (do
      let ov ← eval (.Name x p1) X.env
      standAt p2.atName
      let (f, first) ← holding [ov] (getMethod ov "__init__" pl)
      callWith pos f first (backTo pos (starEach (e :: es) X.env)) (backToKw pos (keywordEach [] X.env))) := by rfl)
    (he : starEach (e :: es) X.env = (false, eval e X.env) :: starEach es X.env := by rfl) (hpl : (backTo pos (starEach es X.env)).any (·.1) = false := by rfl) :
    PE X (.Call (.Attribute (.Name x p1) "__init__" p2) (e :: es) [] pos) (tVeI X.K ta) := by
  refine ⟨fun pins s σ H Q I h => PySem.W.methodCall_KW (ld_glob I gl mg ?_ hdb) hc⟩
  refine PySem.W.method_cls I.kIn T.sp (PySem.W.cls_value I.kIn T.rd T.fi (by decide +kernel) ?_)
  show wpAny _ _ (callWith pos (Value.builtin "ValueError.__init__") [] (backTo pos (starEach (e :: es) X.env)) []) _ _ _
  refine PyProof.Rows.callWith_method1 (thn (ha.run pos pins _ σ H _ (I.tok _) h) fun us s1 z => ?_) he hpl
  obtain ⟨vs, H1, I1, r1, a, C, ws, ev, hl, Tx, ea, q⟩ := z
  subst ev
  cases r1 with
  | @cons _ u0 _ ur ra rw' =>
    obtain rfl : u0 = Value.ref a := ra
    refine oinit_ok Tx I1 ea ?_ fun s' J => ⟨.non, H1, J, rfl, q⟩
    rw [← Paired.length rw', sizeLine_eq]
    omega
/-! ### calls in a try's body: what is raised is wished for at the slots -/
section
variable {X : Cx} {CX : CXT} {k n : Nat} {f C : Addr} {fd : FuncData} {ps ks : List Str} {sp : Sp} {dvs : List V} {ds : List Value} {E : L2.St → XK} {x : Str} {p pos : Pos} {e : Expr} {es : List Expr} {kws : List Keyword} {t tk : TA}
  {g : List Value → List Value → List Value} {gV : List V → List V → List V}
def tMakeS (C : Addr) (sp : Sp) (dvs : List V) (E : L2.St → XK) (t : TA) : TE := fun σ H Q => t σ H fun vs H1 => ∀ x dx, H1 x = none → H1 dx = none → dx ≠ x →
  sp (.ref x :: (vs ++ dvs)) (upd (upd H1 dx (.own x)) x (.ins C dx [])) (fun v H2 => v = .non ∧ Q (.ref x) H2) (E σ)
theorem pe_makeS (M : Mk X.K C f) (F : FnOk X.prog X.w X.K X.mg X.base CX k f fd ps sp) (room : Room (k + 1) X.A) (gl : Gl X x) (mg : X.mg x = some (.ref C)) (bd : Binds X.K fd ps ds) (rd : Vals dvs ds) (px : ∀ σ, PassesAt CX X σ (E σ))
    (ha : PA X (e :: es) t) (hdb : (x == ("__debug__" : Str)) = false := by decide) (he : starEach (e :: es) X.env = (false, eval e X.env) :: starEach es X.env := by rfl) (hpl : (backTo pos (starEach es X.env)).any (·.1) = false := by rfl) :
    PE X (.Call (.Name x p) (e :: es) [] pos) (tMakeS C sp dvs E t) := by
  refine ⟨fun pins s σ H Q I h => wpAny_Call_Name_kw (ld_glob I gl mg ?_ hdb)⟩
  refine PySem.W.callWith_K (h₀ := X.base) I.ok.mod.kin M.kp (thn (ha.run pos pins s σ H _ I h) fun us s1 z => ?_) he hpl
  obtain ⟨vs, H1, I1, r, q⟩ := z
  refine ⟨I1.kIn, ?_⟩
  have q1 := q (s1.heap.objs.size + 1) s1.heap.objs.size (I1.hok.fresh (Nat.le_succ _)) (I1.hok.fresh (Nat.le_refl _)) (Nat.ne_of_lt (Nat.lt_succ_self _))
  have I2 := Inv.made (C := C) I1
  have r2 : Vals (V.ref (s1.heap.objs.size + 1) :: (vs ++ dvs)) (Value.ref (s1.heap.objs.size + 1) :: (us ++ ds)) := .cons rfl (r.append rd)
  have many : (Value.ref (s1.heap.objs.size + 1) :: us ++ ds).length = ps.length := (r2.length.symm.trans (F.len _ _ _ _ q1))
  refine wpAny_call (make_map (f := f) I1.kIn M.makes M.init (beq_iff_eq.mp M.fn) (codeAny_mono (F.run _ X.stack _ _ ⟨Value.ref (s1.heap.objs.size + 1) :: us, []⟩ (Value.ref (s1.heap.objs.size + 1) :: (us ++ ds)) _ _ (E σ)
    (room.make C us []) (I2.env0.make C us []) (bd _ (Value.ref (s1.heap.objs.size + 1) :: us) I2.kIn many) r2 q1) fun r s' z => ?_))
  cases r with
  | error e => exact px σ pins _ _ e s' I2 z
  | ok fl =>
    cases fl with
    | ret u =>
      obtain ⟨v, H', I3, rv, ev, q3⟩ := I2.after z
      subst ev
      exact ⟨rv, ⟨V.ref (s1.heap.objs.size + 1), H', I3, rfl, q3⟩⟩
    | next => exact False.elim z
    | brk => exact False.elim z
    | cont => exact False.elim z
def tMakeKS (C : Addr) (m : Nat) (sp : Sp) (gV : List V → List V → List V) (E : L2.St → XK) (tk : TA) : TE := fun σ H Q => tk σ H fun zs H2 => zs.length = m ∧
  ∀ x dx, H2 x = none → H2 dx = none → dx ≠ x → sp (gV [.ref x] zs) (upd (upd H2 dx (.own x)) x (.ins C dx [])) (fun v H3 => v = .non ∧ Q (.ref x) H3) (E σ)
theorem pe_makeKS (M : Mk X.K C f) (F : FnOk X.prog X.w X.K X.mg X.base CX k f fd ps sp) (room : Room (k + 1) X.A) (gl : Gl X x) (mg : X.mg x = some (.ref C)) (kb : KBn X.K fd ps 1 ks g gV) (px : ∀ σ, PassesAt CX X σ (E σ)) (pk : PK X kws tk)
    (hall : (backToKw pos (keywordEach kws X.env)).all (·.1.isSome) = true := by rfl) (hks : (backToKw pos (keywordEach kws X.env)).filterMap (·.1) = ks := by rfl) (hdb : (x == ("__debug__" : Str)) = false := by decide)
    (hpl : ((backTo pos (starEach [] X.env)).any (·.1) || (backToKw pos (keywordEach kws X.env)).any (·.1.isNone)) = false := by rfl) :
    PE X (.Call (.Name x p) [] kws pos) (tMakeKS C ks.length sp gV E tk) := by
  refine ⟨fun pins s σ H Q I h => wpAny_Call_Name_kw (ld_glob I gl mg ?_ hdb)⟩
  refine PySem.W.callWith_KW0 (h₀ := X.base) I.ok.mod.kin M.kp hall (thn (pk.run pos pins s σ H _ I h) fun ws s1 z => ?_) hpl
  obtain ⟨zs, H1, I1, rz, l2, q⟩ := z
  refine ⟨I1.kIn, ?_⟩
  rw [hks]
  have q1 := q (s1.heap.objs.size + 1) s1.heap.objs.size (I1.hok.fresh (Nat.le_succ _)) (I1.hok.fresh (Nat.le_refl _)) (Nat.ne_of_lt (Nat.lt_succ_self _))
  have I2 := Inv.made (C := C) I1
  have r1 : Vals [V.ref (s1.heap.objs.size + 1)] [Value.ref (s1.heap.objs.size + 1)] := .cons rfl .nil
  have r2 := kb.rel r1 rz
  refine wpAny_call (make_map (f := f) I1.kIn M.makes M.init (beq_iff_eq.mp M.fn) (codeAny_mono (F.run _ X.stack _ _ ⟨[Value.ref (s1.heap.objs.size + 1)], ks.zip ws⟩ (g [Value.ref (s1.heap.objs.size + 1)] ws) _ _ (E σ)
    (room.make C [] (ks.zip ws)) (I2.env0.make C [] (ks.zip ws)) (kb.to _ [Value.ref (s1.heap.objs.size + 1)] ws I2.kIn rfl (rz.length.symm.trans l2)) r2 q1) fun r s' z => ?_))
  cases r with
  | error e => exact px σ pins _ _ e s' I2 z
  | ok fl =>
    cases fl with
    | ret u =>
      obtain ⟨v, H', I3, rv, ev, q3⟩ := I2.after z
      subst ev
      exact ⟨rv, ⟨V.ref (s1.heap.objs.size + 1), H', I3, rfl, q3⟩⟩
    | next => exact False.elim z
    | brk => exact False.elim z
    | cont => exact False.elim z
def tCallKS (m : Nat) (sp : Sp) (gV : List V → List V → List V) (E : L2.St → XK) (tk : TA) : TE := fun σ H Q => tk σ H fun zs H2 => zs.length = m ∧ sp (gV [] zs) H2 Q (E σ)
theorem pe_callKS (F : FnOk X.prog X.w X.K X.mg X.base CX k f fd ps sp) (room : Room k X.A) (gl : Gl X x) (mg : X.mg x = some (.ref f)) (kp : PySem.W.keepIn X.K (.ref f) = true) (kb : KBn X.K fd ps 0 ks g gV) (px : ∀ σ, PassesAt CX X σ (E σ)) (pk : PK X kws tk)
    (hall : (backToKw pos (keywordEach kws X.env)).all (·.1.isSome) = true := by rfl) (hks : (backToKw pos (keywordEach kws X.env)).filterMap (·.1) = ks := by rfl) (hdb : (x == ("__debug__" : Str)) = false := by decide)
    (hpl : ((backTo pos (starEach [] X.env)).any (·.1) || (backToKw pos (keywordEach kws X.env)).any (·.1.isNone)) = false := by rfl) :
    PE X (.Call (.Name x p) [] kws pos) (tCallKS ks.length sp gV E tk) := by
  refine ⟨fun pins s σ H Q I h => wpAny_Call_Name_kw (ld_glob I gl mg ?_ hdb)⟩
  refine PySem.W.callWith_KW0 (h₀ := X.base) I.ok.mod.kin kp hall (thn (pk.run pos pins s σ H _ I h) fun ws s1 z => ?_) hpl
  obtain ⟨zs, H1, I1, rz, l2, q⟩ := z
  refine ⟨I1.kIn, ?_⟩
  rw [hks]
  have rn : Vals [] [] := .nil
  have r2 := kb.rel rn rz
  refine wpAny_call (codeAny_mono (F.run X.A X.stack s1 H1 ⟨[], ks.zip ws⟩ (g [] ws) (gV [] zs) Q (E σ) room I1.env0 (kb.to s1 [] ws I1.kIn rfl (rz.length.symm.trans l2)) r2 q) fun r s' z => ?_)
  cases r with
  | error e => exact px σ pins _ _ e s' I1 z
  | ok fl =>
    cases fl with
    | ret u => exact I1.after z
    | next => exact False.elim z
    | brk => exact False.elim z
    | cont => exact False.elim z
end
end Xk
set_option Elab.async false
set_option linter.all false
set_option maxRecDepth 100000
set_option maxHeartbeats 4000000
set_option pp.maxSteps 400
set_option pp.deepTerms false
/-! Things of any kind: texts, numbers, truths, None, and lists, tuples, dicts of these, at any depth. -/
namespace Az
open PySem PySem.Spec PyProof.Rows L2
def keyD : Key → PyData
  | .inl i => .int i
  | .inr x => .str x
mutual
inductive Dz (K : PySem.W.Frag) (H : Hp) : V → PyData → Prop
  | non : Dz K H .non .none
  | bl (b : Bool) : Dz K H (.bl b) (.bool b)
  | int (i : Int) : Dz K H (.int i) (.int i)
  | str (x : Str) : Dz K H (.str x) (.str x)
  | lst {a : Addr} {xs : List V} {ds : List PyData} : H a = some (.lst xs) → a ≠ sysModules → DzAll K H xs ds → Dz K H (.ref a) (.list ds)
  | tup {a : Addr} {xs : List V} {ds : List PyData} : H a = some (.tup xs) → DzAll K H xs ds → Dz K H (.ref a) (.tuple ds)
  | dct {a : Addr} {kvs : List (Key × V)} {ds : List (PyData × PyData)} : H a = some (.dK kvs) → DzKv K H kvs ds → Dz K H (.ref a) (.dict ds)
inductive DzAll (K : PySem.W.Frag) (H : Hp) : List V → List PyData → Prop
  | nil : DzAll K H [] []
  | cons {v : V} {vs : List V} {d : PyData} {ds : List PyData} : Dz K H v d → DzAll K H vs ds → DzAll K H (v :: vs) (d :: ds)
inductive DzKv (K : PySem.W.Frag) (H : Hp) : List (Key × V) → List (PyData × PyData) → Prop
  | nil : DzKv K H [] []
  | cons {k : Key} {v : V} {kvs : List (Key × V)} {d : PyData} {ds : List (PyData × PyData)} : Dz K H v d → DzKv K H kvs ds → DzKv K H ((k, v) :: kvs) ((keyD k, d) :: ds)
end
section
variable {K : PySem.W.Frag} {H H' : Hp}
mutual
/-- what is read of a thing stays while its objects do -/
theorem Dz.keep (s : ∀ b o, H b = some o → (∀ x, o ≠ .own x) → H' b = some o) : ∀ {v : V} {d : PyData}, Dz K H v d → Dz K H' v d
  | _, _, .non => .non
  | _, _, .bl b => .bl b
  | _, _, .int i => .int i
  | _, _, .str x => .str x
  | _, _, .lst e n r => .lst (s _ _ e (fun _ z => by cases z)) n (DzAll.keep s r)
  | _, _, .tup e r => .tup (s _ _ e (fun _ z => by cases z)) (DzAll.keep s r)
  | _, _, .dct e r => .dct (s _ _ e (fun _ z => by cases z)) (DzKv.keep s r)
theorem DzAll.keep (s : ∀ b o, H b = some o → (∀ x, o ≠ .own x) → H' b = some o) : ∀ {v : List V} {d : List PyData}, DzAll K H v d → DzAll K H' v d
  | _, _, .nil => .nil
  | _, _, .cons h r => .cons (Dz.keep s h) (DzAll.keep s r)
theorem DzKv.keep (s : ∀ b o, H b = some o → (∀ x, o ≠ .own x) → H' b = some o) : ∀ {v : List (Key × V)} {d : List (PyData × PyData)}, DzKv K H v d → DzKv K H' v d
  | _, _, .nil => .nil
  | _, _, .cons h r => .cons (Dz.keep s h) (DzKv.keep s r)
end
theorem Dz.same {v : V} {d : PyData} (h : Dz K H v d) (s : L2.Same H H') : Dz K H' v d := h.keep fun b o e _ => s b o e
theorem DzAll.same {v : List V} {d : List PyData} (h : DzAll K H v d) (s : L2.Same H H') : DzAll K H' v d := h.keep fun b o e _ => s b o e
/-- the kind of a thing -/
def kindD : PyData → String
  | .none => "NoneType"
  | .bool _ => "bool"
  | .int _ => "int"
  | .str _ => "str"
  | .list _ => "list"
  | .tuple _ => "tuple"
  | .dict _ => "dict"
theorem Dz.ty {v : V} {d : PyData} (h : Dz K H v d) : TyX K H v (.type (kindD d)) := by
  cases h with
  | non => exact .base .non
  | bl b => exact .base (.bl b)
  | int i => exact .base (.int i)
  | str x => exact .base (.str x)
  | lst e _ _ => exact .base (.lst e)
  | tup e _ => exact .base (.tup e)
  | dct e _ => exact .base (.dK e)
end
section
variable {X : Cx} {pins : List (Addr × Obj)} {σ : L2.St} {H : Hp} {s : Shared}
theorem pairs_keys {P : Program} {w : World} : ∀ {es : List DictEntry} {vs : List (Key × Value)}, PySem.Pairs (mixKind P w) es vs → ∃ as, ReadsAll s.heap (es.map (·.key)) (vs.map fun p => keyD p.1) as ∧ as = []
  | _, _, .nil => ⟨[], .nil, rfl⟩
  | e :: es, (k, u) :: vs, .cons h1 h2 r => by
    obtain ⟨as, q, rfl⟩ := pairs_keys r
    rcases keyIs_shape (show keyIs k e.key = true from h1) with ⟨i, t, rfl, ek⟩ | ⟨x, t, rfl, ek⟩
    · refine ⟨[] ++ [], .cons ?_ q, rfl⟩
      show Reads s.heap e.key (.int i) []
      rw [ek]
      exact .int i t
    · refine ⟨[] ++ [], .cons ?_ q, rfl⟩
      show Reads s.heap e.key (.str x) []
      rw [ek]
      exact .str x t
theorem pairs_vals {P : Program} {w : World} : ∀ {es : List DictEntry} {vs : List (Key × Value)}, PySem.Pairs (mixKind P w) es vs → es.map (·.val) = vs.map (·.2)
  | _, _, .nil => rfl
  | e :: es, (k, u) :: vs, .cons h1 h2 r => by
    rw [List.map_cons, List.map_cons, pairs_vals r, h2]
mutual
theorem Dz.reads (I : Inv X pins σ H s) : ∀ (d : PyData) (v : V) (u : Value), Dz X.K H v d → RelV v u → ∃ as, Reads s.heap u d as ∧ sysModules ∉ as
  | .none, _, _, h, r => by
    cases h
    cases r
    exact ⟨[], .none, by simp⟩
  | .bool b, _, _, h, r => by
    cases h
    cases r
    exact ⟨[], .bool b, by simp⟩
  | .int i, _, _, h, r => by
    cases h
    obtain ⟨t, rfl⟩ := r
    exact ⟨[], .int i t, by simp⟩
  | .str x, _, _, h, r => by
    cases h
    obtain ⟨t, rfl⟩ := r
    exact ⟨[], .str x t, by simp⟩
  | .list ds, _, _, h, r => by
    cases h with
    | @lst a xs _ e ne ha =>
      cases r
      have ok : ObjOk X.prog X.w H s.heap a (.lst xs) := I.hok a _ e
      obtain ⟨_, its, n, rv, eh⟩ := ok
      obtain ⟨as, q, na⟩ := DzAll.reads I ds xs its ha rv
      refine ⟨a :: as, .list eh rfl rfl (by simpa using q), fun m => ?_⟩
      rcases List.mem_cons.mp m with z | z
      · exact ne z.symm
      · exact na z
  | .tuple ds, _, _, h, r => by
    cases h with
    | @tup a xs _ e ha =>
      cases r
      have ok : ObjOk X.prog X.w H s.heap a (.tup xs) := I.hok a _ e
      obtain ⟨_, its, rv, o, eh, ec, n, ed⟩ := ok
      obtain ⟨as, q, na⟩ := DzAll.reads I ds xs its ha rv
      exact ⟨as, .tuple eh ec ed (by simpa using q), na⟩
  | .dict ds, _, _, h, r => by
    cases h with
    | @dct a kvs _ e ha =>
      cases r
      obtain ⟨_, ne, vs, rel, o, es, ep, eh, ex, ed, _, pr, _⟩ := dk_of I.hok e
      obtain ⟨as, q1, rfl⟩ := pairs_keys (s := s) pr
      obtain ⟨bs, q2, nb⟩ := DzKv.reads I ds kvs vs ha rel
      have hk : (vs.map fun p => keyD p.1) = ds.map (·.1) := DzKv.keys ha rel
      rw [hk] at q1
      refine ⟨a :: [] ++ bs, .dict eh ex.1 ed q1 (by rw [pairs_vals pr]; exact q2), fun m => ?_⟩
      rcases List.mem_cons.mp m with z | z
      · rw [← z] at ne
        simp at ne
      · exact nb z
theorem DzAll.reads (I : Inv X pins σ H s) : ∀ (ds : List PyData) (vs : List V) (us : List Value), DzAll X.K H vs ds → Vals vs us → ∃ as, ReadsAll s.heap us ds as ∧ sysModules ∉ as
  | [], _, _, h, r => by
    cases h
    cases r
    exact ⟨[], .nil, by simp⟩
  | d :: ds, _, _, h, r => by
    cases h with
    | cons h1 h2 =>
      cases r with
      | cons r1 r2 =>
        obtain ⟨as, q1, n1⟩ := Dz.reads I d _ _ h1 r1
        obtain ⟨bs, q2, n2⟩ := DzAll.reads I ds _ _ h2 r2
        exact ⟨as ++ bs, .cons q1 q2, fun m => (List.mem_append.mp m).elim n1 n2⟩
theorem DzKv.reads (I : Inv X pins σ H s) : ∀ (ds : List (PyData × PyData)) (kvs : List (Key × V)) (vs : List (Key × Value)), DzKv X.K H kvs ds → KV kvs vs → ∃ as, ReadsAll s.heap (vs.map (·.2)) (ds.map (·.2)) as ∧ sysModules ∉ as
  | [], _, _, h, r => by
    cases h
    cases r
    exact ⟨[], .nil, by simp⟩
  | (_, d) :: ds, _, _, h, r => by
    cases h with
    | cons h1 h2 =>
      cases r with
      | cons r1 r2 =>
        obtain ⟨as, q1, n1⟩ := Dz.reads I d _ _ h1 r1.2
        obtain ⟨bs, q2, n2⟩ := DzKv.reads I ds _ _ h2 r2
        exact ⟨as ++ bs, .cons q1 q2, fun m => (List.mem_append.mp m).elim n1 n2⟩
theorem DzKv.keys {K : PySem.W.Frag} : ∀ {ds : List (PyData × PyData)} {kvs : List (Key × V)} {vs : List (Key × Value)}, DzKv K H kvs ds → KV kvs vs → (vs.map fun p => keyD p.1) = ds.map (·.1)
  | [], _, _, h, r => by
    cases h
    cases r
    rfl
  | (_, d) :: ds, _, _, h, r => by
    cases h with
    | cons h1 h2 =>
      cases r with
      | cons r1 r2 =>
        rw [List.map_cons, List.map_cons, DzKv.keys h2 r2, ← r1.1]
end
/-- repr of a thing -/
def rReprZ (K : PySem.W.Frag) : List V → Hp → VK → Prop := fun xs H Q => ∃ (v : V) (d : PyData), xs = [v] ∧ Dz K H v d ∧ d.showable = true ∧ d.depth ≤ 60 ∧ d.shown.length ≤ sizeLine ∧ Q (.str d.shown) H
theorem cr_reprZ {k : Nat} (quiet : X.A.guards = some []) (room : Room k X.A) : CallR X (.builtin "repr") (rReprZ X.K) := by
  intro pins s σ H xs us Q I r h
  obtain ⟨v, d, rfl, hd, hs, hp, hz, q⟩ := h
  obtain ⟨u, rfl, rx⟩ := vals1 r
  have hu := room.units
  cases hd with
  | non =>
    cases rx
    exact PySem.P.repr_of_none ⟨.str _, H, I.tok _, ⟨_, rfl⟩, q⟩
  | bl b =>
    cases rx
    exact PySem.P.repr_of_bool ⟨.str _, H, I.tok _, ⟨_, rfl⟩, q⟩
  | int i =>
    obtain ⟨t, rfl⟩ := rx
    exact PySem.P.repr_of_int (by simpa [PyData.showable] using hs) ⟨.str _, H, I.tok _, ⟨_, rfl⟩, q⟩
  | str x =>
    obtain ⟨t, rfl⟩ := rx
    exact PySem.P.repr_of_str ⟨.str _, H, I.tok _, ⟨_, rfl⟩, q⟩ hz
  | lst e n ha =>
    obtain ⟨as, rd, na⟩ := Dz.reads I _ _ u (.lst e n ha) rx
    cases rx
    exact repr_of_reads' rd hs (fun _ => na) quiet (by omega) (fun _ _ z => z) (fun h' u tk kept => ⟨.str _, H, I.kept kept, ⟨u, rfl⟩, q⟩) hz
  | tup e ha =>
    obtain ⟨as, rd, na⟩ := Dz.reads I _ _ u (.tup e ha) rx
    cases rx
    exact repr_of_reads' rd hs (fun _ => na) quiet (by omega) (fun _ _ z => z) (fun h' u tk kept => ⟨.str _, H, I.kept kept, ⟨u, rfl⟩, q⟩) hz
  | dct e ha =>
    obtain ⟨as, rd, na⟩ := Dz.reads I _ _ u (.dct e ha) rx
    cases rx
    exact repr_of_reads' rd hs (fun _ => na) quiet (by omega) (fun _ _ z => z) (fun h' u tk kept => ⟨.str _, H, I.kept kept, ⟨u, rfl⟩, q⟩) hz
/-- a list of written items: new, and no table of modules -/
def tLstZ (t : TA) : TE := fun σ H Q => t σ H fun xs H1 => xs.length ≤ sizeLine ∧ ∀ p, H1 p = none → p ≠ sysModules → Q (.ref p) (upd H1 p (.lst xs))
theorem pe_lstZ {es : List Expr} {t : TA} {pos : Pos} (h : PA X es t) : PE X (.List es pos) (tLstZ t) := by
  refine ⟨fun pins s σ H Q I hq => wpAny_List_spliced (thn (h.run pos pins s σ H _ I hq) fun us s1 z => ?_)⟩
  obtain ⟨xs, H1, I1, r, z, q⟩ := z
  refine ⟨by rw [← r.length]; exact z, ?_⟩
  have new : H1 s1.heap.objs.size = none := I1.hok.fresh (Nat.le_refl _)
  refine ⟨.ref s1.heap.objs.size, upd H1 s1.heap.objs.size (.lst xs), I1.laid (t' := s1.toks) (fun b u e => Heap.get?_push_of_some _ e) (Nat.le_refl _) ?_, rfl, q _ new (Nat.ne_of_gt I1.big)⟩
  exact ⟨z, us, 0, r, Heap.get?_push_size _ rfl⟩
end
end Az
namespace Az
open PySem PySem.Spec PyProof.Rows L2
/-- a thing that is shown in n signs at most, at most k deep -/
structure Nice (d : PyData) (k n : Nat) : Prop where
  sh : d.showable = true
  dp : d.depth ≤ k
  sz : d.shown.length ≤ n
theorem Nice.mono {d : PyData} {k k' n n' : Nat} (h : Nice d k n) (hk : k ≤ k') (hn : n ≤ n') : Nice d k' n' := ⟨h.sh, Nat.le_trans h.dp hk, Nat.le_trans h.sz hn⟩
theorem nice_int {i : Int} {n : Nat} (h : i.natAbs.log2 < 1920) (hn : (Str.ofString (toString i)).length ≤ n) : Nice (.int i) 0 n :=
  ⟨by simpa [PyData.showable] using h, by simp [PyData.depth], by simpa [PyData.shown] using hn⟩
theorem nice_none : Nice .none 0 4 := ⟨by simp [PyData.showable], by simp [PyData.depth], by simp only [PyData.shown]; decide +kernel⟩
theorem nice_bool (b : Bool) : Nice (.bool b) 0 5 := ⟨by simp [PyData.showable], by simp [PyData.depth], by simp only [PyData.shown]; cases b <;> decide +kernel⟩
theorem nice_str {x : Str} {n : Nat} (h : (reprText x).length ≤ n) : Nice (.str x) 0 n := ⟨by simp [PyData.showable], by simp [PyData.depth], by simpa [PyData.shown] using h⟩
theorem list_le : ∀ ts : List Str, (listText ts).length ≤ piled ts + 2
  | [] => by decide +kernel
  | t :: ts => by
    have e : (textFrom 0 "[" (t :: ts)).length = 1 + t.length + piled ts := by
      show (textFrom 1 (("[" : Str) ++ ((if 0 > 0 then ", " else "" : String) : Str) ++ t) ts).length = _
      rw [textFrom_length_pos ts 1 _ (by decide), strLen_append, strLen_append]
      rfl
    unfold listText
    rw [strLen_append, e, piled_cons]
    show 1 + t.length + piled ts + 1 ≤ _
    omega
theorem dict_le (ps : List Str) : (dictText ps).length ≤ piled ps + 2 := by
  unfold dictText
  rw [strLen_append, strLen_append]
  show 1 + (Str.join ", " ps).length + 1 ≤ _
  cases ps with
  | nil => decide
  | cons p r =>
    have := join_length_add (p :: r) (by simp)
    omega
theorem nice_tup1 {d : PyData} {k n : Nat} (h : Nice d k n) : Nice (.tuple [d]) (k + 1) (n + 4) := by
  refine ⟨by simp [PyData.showable, PyData.showableAll, h.sh], ?_, ?_⟩
  · simp only [PyData.depth, PyData.depthAll]
    have := h.dp
    omega
  · simp only [PyData.shown, PyData.shownAll]
    have a := fmt_text [d.shown]
    simp only [piled_cons, piled_nil] at a
    have := h.sz
    omega
theorem nice_lst1 {d : PyData} {k n : Nat} (h : Nice d k n) : Nice (.list [d]) (k + 1) (n + 4) := by
  refine ⟨by simp [PyData.showable, PyData.showableAll, h.sh], ?_, ?_⟩
  · simp only [PyData.depth, PyData.depthAll]
    have := h.dp
    omega
  · simp only [PyData.shown, PyData.shownAll]
    have a := list_le [d.shown]
    simp only [piled_cons, piled_nil] at a
    have := h.sz
    omega
theorem nice_dct1 {d : PyData} {k n m : Nat} {x : Str} (hx : (reprText x).length ≤ m) (h : Nice d k n) : Nice (.dict [(.str x, d)]) (k + 1) (n + m + 6) := by
  refine ⟨by simp [PyData.showable, PyData.showableKv, h.sh], ?_, ?_⟩
  · simp only [PyData.depth, PyData.depthKv]
    have := h.dp
    omega
  · simp only [PyData.shown, PyData.shownKv]
    have a := dict_le [reprText x ++ ": " ++ d.shown]
    simp only [piled_cons, piled_nil, strLen_append] at a
    have c : ((": " : Str)).length = 2 := by decide +kernel
    have := h.sz
    omega
theorem nice_tup0 : Nice (.tuple []) 1 2 := ⟨by simp [PyData.showable, PyData.showableAll], by simp [PyData.depth, PyData.depthAll], by simp only [PyData.shown, PyData.shownAll]; decide +kernel⟩
theorem nice_lst0 : Nice (.list []) 1 2 := ⟨by simp [PyData.showable, PyData.showableAll], by simp [PyData.depth, PyData.depthAll], by simp only [PyData.shown, PyData.shownAll]; decide +kernel⟩
theorem nice_dct0 : Nice (.dict []) 1 2 := ⟨by simp [PyData.showable, PyData.showableKv], by simp [PyData.depth, PyData.depthKv], by simp only [PyData.shown, PyData.shownKv]; decide +kernel⟩
end Az
set_option Elab.async false
set_option linter.all false
set_option maxRecDepth 100000
set_option maxHeartbeats 4000000
set_option pp.maxSteps 400
set_option pp.deepTerms false
namespace Az
open PySem PySem.Spec PyProof.Rows L2
/-! ### texts of signs that have a number of eight places -/
def Asc (x : Str) : Prop := ∀ c ∈ x.cps.toList, c < 16 ^ 8
theorem asc_str (s : String) : Asc (Str.ofString s) := fun c hc => by
  rw [Str.ofString_eq_toList] at hc
  simp only [List.mem_map] at hc
  obtain ⟨k, _, rfl⟩ := hc
  exact Nat.lt_of_lt_of_le (UInt32.toNat_lt k.val) (by decide)
theorem Asc.app {x y : Str} (h1 : Asc x) (h2 : Asc y) : Asc (x ++ y) := fun c hc => by
  rw [Str.cps_append, Array.toList_append, List.mem_append] at hc
  exact hc.elim (h1 c) (h2 c)
theorem asc_hex (l : List Char) (n : Nat) : ∀ c ∈ List.replicate n 48 ++ l.map Char.toNat, c < 16 ^ 8 := fun c hc => by
  rcases List.mem_append.mp hc with h | h
  · rw [(List.mem_replicate.mp h).2]
    decide
  · obtain ⟨k, _, rfl⟩ := List.mem_map.mp h
    exact Nat.lt_of_lt_of_le (UInt32.toNat_lt k.val) (by decide)
theorem asc_char {q c : Nat} (hc : c < 16 ^ 8) : ∀ d ∈ Builtin.Str.reprChar q c, d < 16 ^ 8 := fun d hd => by
  unfold Builtin.Str.reprChar at hd
  dsimp only at hd
  have two : ∀ a : Nat, a < 16 ^ 8 → d ∈ [92, a] → d < 16 ^ 8 := fun a ha h => by
    simp only [List.mem_cons, List.not_mem_nil, or_false] at h
    rcases h with h | h
    · rw [h]; decide
    · rw [h]; exact ha
  have app : ∀ (a : Nat) (l : List Nat), a < 16 ^ 8 → (∀ c ∈ l, c < 16 ^ 8) → d ∈ [92, a] ++ l → d < 16 ^ 8 := fun a l ha hl h => (List.mem_append.mp h).elim (two a ha) (hl d)
  split at hd
  · exact two c hc hd
  · split at hd
    · exact two 110 (by decide) hd
    · split at hd
      · exact two 114 (by decide) hd
      · split at hd
        · exact two 116 (by decide) hd
        · split at hd
          · simp only [List.mem_cons, List.not_mem_nil, or_false] at hd
            rw [hd]
            exact hc
          · split at hd
            · exact app 120 _ (by decide) (asc_hex _ _) hd
            · split at hd
              · exact app 117 _ (by decide) (asc_hex _ _) hd
              · exact app 85 _ (by decide) (asc_hex _ _) hd
theorem asc_fold {q : Nat} : ∀ (l : List Nat) (acc : Array Nat), (∀ c ∈ l, c < 16 ^ 8) → (∀ c ∈ acc.toList, c < 16 ^ 8) → ∀ c ∈ (l.foldl (fun out c => out ++ (Builtin.Str.reprChar q c).toArray) acc).toList, c < 16 ^ 8
  | [], acc, _, h => h
  | k :: r, acc, hl, ha => by
    rw [List.foldl_cons]
    refine asc_fold r _ (fun c hc => hl c (List.mem_cons_of_mem _ hc)) fun c hc => ?_
    rw [Array.toList_append, List.mem_append] at hc
    exact hc.elim (ha c) fun h => asc_char (hl k List.mem_cons_self) c (by simpa using h)
theorem asc_quote (x : Str) : reprQuote x < 16 ^ 8 := by
  unfold reprQuote
  split <;> decide
theorem asc_repr {x : Str} (h : Asc x) : Asc (reprText x) := fun c hc => by
  unfold reprText at hc
  rw [Array.toList_push, List.mem_append, ← Array.foldl_toList] at hc
  rcases hc with hc | hc
  · refine asc_fold x.cps.toList #[reprQuote x] h (fun d hd => ?_) c hc
    have z : d = reprQuote x := by simpa using hd
    rw [z]
    exact asc_quote x
  · have z : c = reprQuote x := by simpa using hc
    rw [z]
    exact asc_quote x
theorem asc_join : ∀ ts : List Str, (∀ t ∈ ts, Asc t) → Asc (Str.join ", " ts)
  | [], _ => fun c hc => by
    have z : c ∈ (Str.empty).cps.toList := hc
    simp [Str.empty] at z
  | [x], h => h x List.mem_cons_self
  | x :: y :: r, h => ((h x List.mem_cons_self).app (asc_str ", ")).app (asc_join (y :: r) fun t ht => h t (List.mem_cons_of_mem _ ht))
theorem asc_from : ∀ (ts : List Str) (k : Nat) (acc : Str), Asc acc → (∀ t ∈ ts, Asc t) → Asc (textFrom k acc ts)
  | [], _, _, h, _ => h
  | t :: ts, k, acc, h, ht => by
    unfold textFrom
    exact asc_from ts (k + 1) _ ((h.app (asc_str _)).app (ht t List.mem_cons_self)) fun u hu => ht u (List.mem_cons_of_mem _ hu)
mutual
/-- all texts within a thing -/
def ascD : PyData → Prop
  | .none | .bool _ | .int _ => True
  | .str x => Asc x
  | .list xs | .tuple xs => ascAll xs
  | .dict kvs => ascKv kvs
def ascAll : List PyData → Prop
  | [] => True
  | x :: xs => ascD x ∧ ascAll xs
def ascKv : List (PyData × PyData) → Prop
  | [] => True
  | (k, v) :: r => ascD k ∧ ascD v ∧ ascKv r
end
mutual
theorem asc_shown : ∀ d : PyData, ascD d → Asc d.shown
  | .none, _ => asc_str "None"
  | .bool b, _ => by
    simp only [PyData.shown]
    cases b
    · exact asc_str "False"
    · exact asc_str "True"
  | .int i, _ => asc_str (toString i)
  | .str x, h => asc_repr (by simpa [ascD] using h)
  | .list xs, h => by
    simp only [PyData.shown]
    exact (asc_from _ _ _ (asc_str "[") (asc_shownAll xs (by simpa [ascD] using h))).app (asc_str "]")
  | .tuple xs, h => by
    simp only [PyData.shown]
    exact ((asc_str "(").app (asc_join _ (asc_shownAll xs (by simpa [ascD] using h)))).app (asc_str _)
  | .dict kvs, h => by
    simp only [PyData.shown]
    exact ((asc_str "{").app (asc_join _ (asc_shownKv kvs (by simpa [ascD] using h)))).app (asc_str "}")
theorem asc_shownAll : ∀ xs : List PyData, ascAll xs → ∀ t ∈ PyData.shownAll xs, Asc t
  | [], _, t, ht => by
    simp [PyData.shownAll] at ht
  | x :: xs, h, t, ht => by
    have h' : ascD x ∧ ascAll xs := by simpa [ascAll] using h
    simp only [PyData.shownAll, List.mem_cons] at ht
    rcases ht with e | e
    · rw [e]
      exact asc_shown x h'.1
    · exact asc_shownAll xs h'.2 t e
theorem asc_shownKv : ∀ xs : List (PyData × PyData), ascKv xs → ∀ t ∈ PyData.shownKv xs, Asc t
  | [], _, t, ht => by
    simp [PyData.shownKv] at ht
  | (k, v) :: xs, h, t, ht => by
    have h' : ascD k ∧ ascD v ∧ ascKv xs := by simpa [ascKv] using h
    simp only [PyData.shownKv, List.mem_cons] at ht
    rcases ht with e | e
    · rw [e]
      exact ((asc_shown k h'.1).app (asc_str ": ")).app (asc_shown v h'.2.1)
    · exact asc_shownKv xs h'.2.2 t e
end
/-- str of a thing -/
def strD : PyData → Str
  | .str x => x
  | d => d.shown
theorem strD_asc {d : PyData} (h : ascD d) : Asc (strD d) := by
  cases d with
  | str x => simpa [strD, ascD] using h
  | _ => exact asc_shown _ h
theorem len_repr (x : Str) : x.length ≤ (reprText x).length := by
  have grow : ∀ (q : Nat) (l : List Nat) (acc : Array Nat), acc.size + l.length ≤ (l.foldl (fun out c => out ++ (Builtin.Str.reprChar q c).toArray) acc).size := fun q l => by
    induction l with
    | nil => intro acc; simp
    | cons k r ih =>
      intro acc
      have h := ih (acc ++ (Builtin.Str.reprChar q k).toArray)
      have one : 1 ≤ (Builtin.Str.reprChar q k).length := by
        unfold Builtin.Str.reprChar
        dsimp only
        repeat' split
        all_goals simp
        all_goals omega
      rw [List.foldl_cons]
      simp only [Array.size_append, List.size_toArray] at h
      simp only [List.length_cons]
      omega
  have h := grow (reprQuote x) x.cps.toList #[reprQuote x]
  unfold reprText
  show x.length ≤ ((x.cps.foldl (fun out c => out ++ (Builtin.Str.reprChar (reprQuote x) c).toArray) #[reprQuote x]).push (reprQuote x)).size
  rw [Array.size_push, ← Array.foldl_toList]
  have e : x.cps.toList.length = x.length := by simp [Str.length]
  omega
theorem strD_len {d : PyData} : (strD d).length ≤ d.shown.length := by
  cases d with
  | str x =>
    simp only [strD, PyData.shown]
    exact len_repr x
  | _ => exact Nat.le_refl _
section
variable {X : Cx}
def rStrZ (K : PySem.W.Frag) : List V → Hp → VK → Prop := fun xs H Q => ∃ (v : V) (d : PyData), xs = [v] ∧ Dz K H v d ∧ d.showable = true ∧ d.depth ≤ 60 ∧ d.shown.length ≤ sizeLine ∧ Q (.str (strD d)) H
theorem cr_strZ {k : Nat} (quiet : X.A.guards = some []) (room : Room k X.A) : CallR X (.type "str") (rStrZ X.K) := by
  intro pins s σ H xs us Q I r h
  obtain ⟨v, d, rfl, hd, hs, hp, hz, q⟩ := h
  obtain ⟨u, rfl, rx⟩ := vals1 r
  have hu := room.un
  cases hd with
  | non =>
    cases rx
    exact PySem.P.str_of_none ⟨.str _, H, I.tok _, ⟨_, rfl⟩, q⟩
  | bl b =>
    cases rx
    exact PySem.P.str_of_bool ⟨.str _, H, I.tok _, ⟨_, rfl⟩, q⟩
  | int i =>
    obtain ⟨t, rfl⟩ := rx
    exact PySem.P.str_of_int (by simpa [PyData.showable] using hs) ⟨.str _, H, I.tok _, ⟨_, rfl⟩, q⟩
  | str x =>
    obtain ⟨t, rfl⟩ := rx
    exact PySem.P.str_of_str ⟨.str _, H, I, ⟨_, rfl⟩, q⟩
  | lst e n ha =>
    obtain ⟨as, rd, na⟩ := Dz.reads I _ _ u (.lst e n ha) rx
    cases rx
    exact str_of_reads rd hs (fun _ => na) quiet (by omega) (fun _ _ z => z) (fun h' u tk kept => ⟨.str _, H, I.kept kept, ⟨u, rfl⟩, q⟩) hz
  | tup e ha =>
    obtain ⟨as, rd, na⟩ := Dz.reads I _ _ u (.tup e ha) rx
    cases rx
    exact str_of_reads rd hs (fun _ => na) quiet (by omega) (fun _ _ z => z) (fun h' u tk kept => ⟨.str _, H, I.kept kept, ⟨u, rfl⟩, q⟩) hz
  | dct e ha =>
    obtain ⟨as, rd, na⟩ := Dz.reads I _ _ u (.dct e ha) rx
    cases rx
    exact str_of_reads rd hs (fun _ => na) quiet (by omega) (fun _ _ z => z) (fun h' u tk kept => ⟨.str _, H, I.kept kept, ⟨u, rfl⟩, q⟩) hz
end
end Az
set_option Elab.async false
set_option linter.all false
set_option maxRecDepth 100000
set_option maxHeartbeats 4000000
namespace K47
open PySem PySem.Spec PyProof.Rows L2
/-! ## defs that show things: promises where no showing is under way -/
structure Gn (P : Program) (w : World) (K : PySem.W.Frag) (mg : Str → Option Value) (base : Heap) (k : Nat) (f : Addr) (fd : FuncData) (ps : List Str) (sp : Sp) : Prop where
  many : ∀ vs H Q E, sp vs H Q E → vs.length = ps.length
  go : ∀ (A : Around) (outer : List Env) (s : Shared) (H : Hp) (args : Args) (us : List Value) (vs : List V) (Q : VK) (E : XK), A.guards = some [] → Room k A →
    Env0 P w K mg base A outer s H → BindsTo s fd args (ps.zip us) → Vals vs us → sp vs H Q E → codeAny (model P w) A (.call (.ref f) args) (CR CX0 outer P w H s Q E) s
section
variable {P : Program} {w : World} {K : PySem.W.Frag} {mg : Str → Option Value} {base : Heap}
theorem gn_body {x qual : Str} {st : Stmt} {f : Addr} {fd : FuncData} {N ps : List Str} {k : Nat} {sp : Sp} (F : Fun K x qual st f fd) (S : FnScope N ps (defScope st))
    (many : ∀ vs H Q E, sp vs H Q E → vs.length = ps.length)
    (body : ∀ (cdv : Value) (A : Around) (outer : List Env) (s : Shared) (H : Hp) (vs : List V) (Q : VK) (E : XK), A.guards = some [] →
      Room k (A.deeper (envOfC qual (defScope st) s.heap.objs.size f cdv)) → sp vs H Q E →
      ∃ t, PSs (cxOf CX0 P w K mg base N qual (defScope st) f cdv A outer s H E).nox (defBody st) t ∧ t { nx := fun _ H' => Q .non H', rt := Q } (start N vs) H) :
    Gn P w K mg base (k + 1) f fd ps sp := by
  obtain ⟨oc, od, kV, doc, pm, an, cdv, ct, osl, rfl, lk, hcd⟩ := F.ex
  refine ⟨many, fun A outer s H args us vs Q E hg room en bd rv hsp => ?_⟩
  have kin : K.In s.heap := en.mod.kin.keeps fun b o q => (en.bs b o q).1
  refine Att.call_fn kin (en.mod.nolimit.keeps fun b o q => (en.bs b o q).1) lk hcd room.depth bd ?_ (fun s1 inc => ?_) S.co S.gen S.kind
  · refine List.all_eq_true.mpr fun y hy => ?_
    rcases S.par y.1 (List.of_mem_zip (a := y.1) (b := y.2) hy).1 with q | q
    · rw [q]; rfl
    · rw [q]; rfl
  · obtain ⟨t, ht, hq⟩ := body cdv A outer s H vs Q E hg (room.deeper _) hsp
    have I := inv_start (CX := CX0) (E := E) S room.hd en (many _ _ _ _ hsp) rv inc
    refine wpAny_mono (ht.nox.run [] s1 _ H _ I hq) (fun fl s' hs => ?_) fun _ _ z => z
    cases fl with
    | ret u =>
      obtain ⟨v, _, H', J, r, q⟩ := hs
      exact ⟨v, H', J.os, J.bare, J.base, J.hok, r, q⟩
    | next =>
      obtain ⟨_, H', J, q⟩ := hs
      exact ⟨.non, H', J.os, J.bare, J.base, J.hok, rfl, q⟩
    | brk =>
      obtain ⟨_, _, _, z⟩ := hs
      exact False.elim z
    | cont =>
      obtain ⟨_, _, _, z⟩ := hs
      exact False.elim z
end
section
variable {X : Cx} {k : Nat} {f : Addr} {fd : FuncData} {ps : List Str} {sp : Sp} {x : Str} {p pos : Pos} {e : Expr} {es : List Expr} {t : TA}
theorem pe_gn (F : Gn X.prog X.w X.K X.mg X.base k f fd ps sp) (quiet : X.A.guards = some []) (room : Room k X.A) (gl : Gl X x) (mgf : X.mg x = some (.ref f))
    (kp : PySem.W.keepIn X.K (.ref f) = true) (bd : Binds X.K fd ps []) (ha : PA X (e :: es) t) (hdb : (x == ("__debug__" : Str)) = false := by decide)
    (he : starEach (e :: es) X.env = (false, eval e X.env) :: starEach es X.env := by rfl) (hpl : (backTo pos (starEach es X.env)).any (·.1) = false := by rfl) :
    PE X (.Call (.Name x p) (e :: es) [] pos) (tCall sp [] E0 t) := by
  refine ⟨fun pins s σ H Q I h => wpAny_Call_Name_kw (ld_glob I gl mgf ?_ hdb)⟩
  refine PySem.W.callWith_K (h₀ := X.base) I.ok.mod.kin kp ?_ he hpl
  refine thn (ha.run pos pins s σ H _ I h) fun us s1 z => ?_
  obtain ⟨vs, H1, I1, rv, q⟩ := z
  have q' : sp vs H1 Q E0 := by
    have z := q
    rw [List.append_nil] at z
    exact z
  have many : us.length = ps.length := rv.length.symm.trans (F.many _ _ _ _ q')
  have b1 := bd s1 us I1.kIn (by rw [List.append_nil]; exact many)
  rw [List.append_nil] at b1
  refine ⟨I1.kIn, wpAny_call (codeAny_mono (F.go X.A X.stack s1 H1 ⟨us, []⟩ us vs Q E0 quiet room I1.env0 b1 rv q') fun r s' hr => ?_)⟩
  cases r with
  | error z => exact False.elim hr
  | ok fl =>
    cases fl with
    | ret u => exact I1.after hr
    | next => exact False.elim hr
    | brk => exact False.elim hr
    | cont => exact False.elim hr
/-- repr of data at any depth -/
theorem cr_reprD (quiet : X.A.guards = some []) (room : Room k X.A) : CallR X (.builtin "repr") (fun xs H Q => ∃ (a : Addr) (d : PyData), xs = [.ref a] ∧ Dp X.K H (.ref a) d ∧ d.showable = true ∧ d.hasDict = false ∧
    d.depth ≤ 50 ∧ d.shown.length ≤ sizeLine ∧ Q (.str d.shown) H) := by
  intro pins s σ H xs us Q I r h
  obtain ⟨a, d, rfl, hd, hs, hn, hp, hz, q⟩ := h
  obtain ⟨u, rfl, rx⟩ := vals1 r
  obtain ⟨as, rd⟩ := Dp.reads I d _ u hd rx
  cases rx
  have hu := room.units
  exact repr_of_reads' rd hs (fun z => absurd (hn.symm.trans z) Bool.false_ne_true) quiet (by omega) (fun _ _ z => z) (fun h' u tk kept => ⟨.str d.shown, H, I.kept kept, ⟨u, rfl⟩, q⟩) hz
theorem cr_repr_bl : CallR X (.builtin "repr") (fun xs H Q => ∃ b : Bool, xs = [.bl b] ∧ Q (.str (if b then "True" else "False")) H) := by
  intro pins s σ H xs us Q I r h
  obtain ⟨b, rfl, q⟩ := h
  obtain ⟨u, rfl, rx⟩ := vals1 r
  cases rx
  exact PySem.P.repr_of_bool ⟨.str _, H, I.tok _, ⟨_, rfl⟩, q⟩
end
end K47
set_option Elab.async false
set_option linter.all false
set_option maxRecDepth 100000
set_option maxHeartbeats 4000000
namespace K47
open PySem PySem.Spec PyProof.Rows L2
theorem law_go {P : Program} {w : World} {K : PySem.W.Frag} {mg mb : Str → Option Value} {k : Nat} {fa a : Addr} {fd : FuncData} {x : Str} {sp : Sp} {z : Shared} {vs : List Value} {ns : List Int}
    (kin : K.In z.heap) (nsG : z.heap.Ns mainGlobals mg) (nsB : z.heap.Ns builtinsNs mb) (same : ∀ y : Str, y ≠ "__name__" → mb y = bootBuiltins y) (lim : z.heap.NoLimit) (dig : z.heap.NoDigits) (no : z.gens = #[])
    (at_ : z.heap.get? a = some { cls := .type "list", data := .seq vs.toArray }) (intsA : IntsAre vs ns) (many : ns.length ≤ sizeLine) (room : Room k callerA)
    (F : ∀ base : Heap, K.In base → base.Ns mainGlobals mg → base.NoDigits → Gn P w K mg base k fa fd [x] sp) (bind : ∀ (s : Shared) (u : Value), BindsTo s fd ⟨[u], []⟩ [(x, u)])
    (hsp : ∀ H : Hp, SqL K H a (ns.map V.int) → sp [.ref a] H (fun v _ => v = .bl true) fun _ _ _ => False) :
    codeAny (model P w) callerA (.call (.ref fa) ⟨[.ref a], []⟩) (fun r s' => r = .ok (.ret (.bool true)) ∧ OldK z.heap s'.heap ∧ s'.os = z.os ∧ AllBare s'.gens) z := by
  have rv : Vals (ns.map V.int) vs := vals_ints intsA
  have sz : (ns.map V.int).length ≤ sizeLine := by rw [List.length_map]; exact many
  -- what is tracked: the script, unless it is the module's own
  let u : HO := .frz { cls := .type "list", data := .seq vs.toArray } (.lst (ns.map V.int))
  let H : Hp := fun b => if b = a ∧ K.lookup a = none then some u else none
  have only : ∀ b o, H b = some o → b = a ∧ K.lookup a = none ∧ o = u := fun b o e => by
    by_cases c : b = a ∧ K.lookup a = none
    · have e2 : H b = some u := if_pos c
      rw [e2] at e
      exact ⟨c.1, c.2, (Option.some.inj e).symm⟩
    · have e2 : H b = none := if_neg c
      rw [e2] at e
      cases e
  have sq : SqL K H a (ns.map V.int) := by
    cases hk : K.lookup a with
    | none => exact .inl (.inr ⟨_, if_pos ⟨rfl, hk⟩⟩)
    | some o =>
      have e := kin a o hk
      rw [at_] at e
      cases e
      exact .inr ⟨_, vs.toArray, _, hk, rfl, rfl, rfl, by rw [List.size_toArray, ← rv.length]; exact sz, by simpa using rv⟩
  have hok : HOk P w H z.heap := fun b o e => by
    obtain ⟨rfl, _, rfl⟩ := only b o e
    exact ⟨at_, sz, vs, _, rv, at_⟩
  have dictFree : ∀ {b : Addr} {o : Obj} {es : Array DictEntry} {ep : Nat}, z.heap.get? b = some o → o.data = .dict es ep → H b = none := fun {b o es ep} e d => by
    cases q : H b with
    | none => rfl
    | some v =>
      obtain ⟨rfl, _, _⟩ := only b v q
      rw [at_] at e
      cases e
      cases (show Data.seq vs.toArray _ = Data.dict es ep from d)
  have nsK : ∀ {b : Addr} {m : Str → Option Value}, z.heap.Ns b m → (hidT z.heap H).Ns b m := fun {b m} q => by
    obtain ⟨o, es, ep, e, d, r⟩ := q
    exact ⟨o, es, ep, hidT_get e (dictFree e d), d, r⟩
  have kb : K.In (hidT z.heap H) := fun b o e => by
    refine hidT_get (kin b o e) ?_
    cases q : H b with
    | none => rfl
    | some v =>
      obtain ⟨rfl, n, _⟩ := only b v q
      rw [n] at e
      cases e
  have limB : (hidT z.heap H).NoLimit := by
    obtain ⟨mc, h1, h2⟩ := lim
    exact ⟨mc, nsK h1, h2⟩
  have digB : (hidT z.heap H).NoDigits := by
    obtain ⟨mc, h1, h2⟩ := dig
    exact ⟨mc, nsK h1, h2⟩
  have en : Env0 P w K mg (hidT z.heap H) callerA [] z H :=
    ⟨rfl, ⟨kb, nsK nsG, ⟨mb, nsK nsB, same⟩, limB⟩, fun _ _ e => of_hidT e, Nat.le_of_eq (hidT_size _ _), trivial, (fun b hb => absurd (show b ∈ ([] : List Addr) from hb) List.not_mem_nil), hok, .of_eq no⟩
  refine codeAny_mono ((F _ kb (nsK nsG) digB).go callerA [] z H ⟨[.ref a], []⟩ [.ref a] [.ref a] _ _ rfl room en (bind z (.ref a)) (.cons rfl .nil) (hsp H sq)) fun r s' h => ?_
  match r, h with
  | .error e, h => exact False.elim h
  | .ok .next, h => exact False.elim h
  | .ok .brk, h => exact False.elim h
  | .ok .cont, h => exact False.elim h
  | .ok (.ret y), h =>
    obtain ⟨v, H', os, bare, un, hok', r', q⟩ := h
    obtain rfl : v = .bl true := q
    obtain rfl : y = Value.bool true := r'
    refine ⟨rfl, OldK.of_keep fun b o e => ?_, os, bare⟩
    cases q : H b with
    | none => exact un.keep b o e q (fun y => by cases y) (fun y => by cases y)
    | some v =>
      obtain ⟨rfl, _, rfl⟩ := only b v q
      have e2 := (hok' _ _ (un.frzs _ _ _ q)).1
      rw [at_] at e
      cases e
      exact e2
theorem walk_go {l : PySem.W.OpenLaw} {n k : Nat} {q : Program} {loose : List Str} {XP : (Str → Option Value) → Heap → Prop} {YP : World → Heap → Prop} {d : DefRec} {K : Params → PySem.W.Frag} {sp : PySem.W.Frag → Sp} {x : Str}
    (most : l.most = some n) (small : n ≤ sizeLine) (nodef : d.params.defaults = []) (room : Room k callerA) (hY : ∀ (w : World) (h : Heap), YP w h → (K w.params).In h)
    (F : ∀ (w : World) (mg : Str → Option Value) (fa : Addr) (h : Heap), (K w.params).In h → h.Ns mainGlobals mg → mg d.name = some (.ref fa) →
      ∃ fd : FuncData, (∀ (s : Shared) (u : Value), BindsTo s fd ⟨[u], []⟩ [(x, u)]) ∧ ∀ base : Heap, (K w.params).In base → base.Ns mainGlobals mg → base.NoDigits →
        Gn l.prog w (K w.params) mg base k fa fd [x] (sp (K w.params)))
    (hsp : ∀ (K : PySem.W.Frag) (H : Hp) (a : Addr) (ns : List Int), ns.length ≤ n → SqL K H a (ns.map V.int) → sp K [.ref a] H (fun v _ => v = .bl true) fun _ _ _ => False) :
    PySem.W.WalkO q loose XP YP l.row.toRowW d [] (fun f vs => PySem.call f vs) := by
  refine Att.attach_call most nodef fun w s₀ s₁ mg mb fa o pm cd doc a vs ns G Y _ _ _ hmg hobj hints hlen hg => ?_
  have kin := hY w _ Y
  obtain ⟨fd, hb, hF⟩ := F w mg fa _ kin G.T.g hmg
  exact law_go kin G.T.g G.T.b G.T.builtins G.T.nolimit G.T.nodigits hg hobj hints (Nat.le_trans hlen small) room hF hb fun H hS => hsp _ H a ns hlen hS
end K47
set_option Elab.async false
set_option linter.all false
set_option maxRecDepth 100000
set_option maxHeartbeats 4000000
set_option pp.maxSteps 400
set_option pp.deepTerms false
namespace K47
open PySem PySem.Spec PyProof.Rows L2
/-! ## == by a class's own __eq__, either way about -/
/-- what the written part says of the class -/
structure OwnC (K : PySem.W.Frag) (C f : Addr) : Prop where
  eq : PySem.W.findIn K (.ref C) "__eq__" = some (some (.ref f))
  fn : PySem.W.isFn K (.ref f) = true
  ne : PySem.W.findIn K (.ref C) "__ne__" = some (some (.builtin "object.__ne__"))
  mo : PySem.W.mroIn K C (.type "object") = some true
  sInt : PySem.W.subIn K (.ref C) (.type "int") = some false
  sStr : PySem.W.subIn K (.ref C) (.type "str") = some false
  sNon : PySem.W.subIn K (.ref C) (.type "NoneType") = some false
  sTup : PySem.W.subIn K (.ref C) (.type "tuple") = some false
  sLst : PySem.W.subIn K (.ref C) (.type "list") = some false
section
variable {X : Cx} {pins : List (Addr × Obj)} {σ : L2.St} {H : Hp} {n : Nat} {f C : Addr} {fd : FuncData} {ps : List Str} {sp : Sp}
/-- the end of such a comparison: a truth -/
def BP (X : Cx) (pins : List (Addr × Obj)) (σ : L2.St) (Q : Bool → Hp → Prop) (u : Value) (s' : Shared) : Prop := ∃ b H', u = .bool b ∧ Inv X pins σ H' s' ∧ Q b H'
theorem own_call {A : Around} {s : Shared} {a : Addr} {y : V} {v : Value} {Q : Bool → Hp → Prop} {E : Value → Shared → Prop} (fr : A.frames = some X.stack) (room : Room n A) (F : FnOk X.prog X.w X.K X.mg X.base CX0 n f fd ps sp) (bd : Binds X.K fd ps [])
    (I : Inv X pins σ H s) (rv : RelV y v) (hsp : sp [.ref a, y] H (fun z H' => ∃ b, z = .bl b ∧ Q b H') E0) : wpAny (model X.prog X.w) A (call (.ref f) [.ref a, v]) (BP X pins σ Q) E s := by
  have en : Env0 X.prog X.w X.K X.mg X.base A X.stack s H := by
    have z := I.env0
    exact ⟨fr, z.mod, z.bs, z.bsz, z.funs, z.frf, z.hok, z.bare⟩
  have hl : [V.ref a, y].length = ps.length := F.len _ _ _ _ hsp
  have b1 := bd s [.ref a, v] I.kIn (by simpa using hl)
  rw [List.append_nil] at b1
  refine wpAny_call (codeAny_mono (F.run A X.stack s H ⟨[.ref a, v], []⟩ [.ref a, v] [.ref a, y] _ E0 room en b1 (.cons rfl (.cons rv .nil)) hsp) fun r s2 hr => ?_)
  match r, hr with
  | .error z, hr => exact False.elim hr
  | .ok .next, hr => exact False.elim hr
  | .ok .brk, hr => exact False.elim hr
  | .ok .cont, hr => exact False.elim hr
  | .ok (.ret u), hr =>
    obtain ⟨z, H2, I2, rz, b, rfl, q⟩ := I.after hr
    cases rz
    exact ⟨b, H2, rfl, I2, q⟩
theorem rc_L {A : Around} {s : Shared} {a dx : Addr} {fs : List (Str × V)} {y : V} {v tb : Value} {Q : Bool → Hp → Prop} {E : Value → Shared → Prop} (W : OwnC X.K C f) (fr : A.frames = some X.stack) (room : Room n A)
    (F : FnOk X.prog X.w X.K X.mg X.base CX0 n f fd ps sp) (bd : Binds X.K fd ps []) (I : Inv X pins σ H s) (ha : H a = some (.ins C dx fs)) (rv : RelV y v) (hb : PySem.W.Looks (model X.prog X.w) s.heap (typeOf v) tb)
    (nf : PySem.W.notFirst X.K C tb = true) (hsp : sp [.ref a, y] H (fun z H' => ∃ b, z = .bl b ∧ Q b H') E0) : wpAny (model X.prog X.w) A (richCompare .Eq (.ref a) v) (BP X pins σ Q) E s := by
  obtain ⟨mA, J, _⟩ := ins_get I.hok ha
  obtain ⟨od, J, _⟩ := J.look
  obtain ⟨m, hF⟩ := I.fr
  refine PySem.W.cmp_K (op := .Eq) room.units0 hF I.ok.mod.kin J hb nf W.eq W.fn (wpAny_mono (own_call fr room F bd I rv hsp) (fun u s' hu => ?_) fun _ _ z => z)
  obtain ⟨b, H', rfl, I', q⟩ := hu
  exact ⟨b, H', rfl, I', q⟩
/-- a builtin's own == has no answer, then the class's own is asked -/
theorem rc_R {A : Around} {s : Shared} {a dx : Addr} {fs : List (Str × V)} {y : V} {v : Value} {T id : String} {Q : Bool → Hp → Prop} {E : Value → Shared → Prop} (W : OwnC X.K C f) (fr : A.frames = some X.stack) (room : Room n A)
    (F : FnOk X.prog X.w X.K X.mg X.base CX0 n f fd ps sp) (bd : Binds X.K fd ps []) (I : Inv X pins σ H s) (ha : H a = some (.ins C dx fs)) (rv : RelV y v) (hT : s.TypeIs v T) (one : oneThing? .Eq v (.ref a) = none)
    (sub : PySem.W.subIn X.K (.ref C) (.type T) = some false) (slot : Slot T "__eq__" id) (dec : ∀ E', wpAny (model X.prog X.w) A (call (.builtin id) [v, .ref a]) (fun u s' => u = .notImplemented ∧ s' = s) E' s)
    (hsp : sp [.ref a, y] H (fun z H' => ∃ b, z = .bl b ∧ Q b H') E0) : wpAny (model X.prog X.w) A (richCompare .Eq v (.ref a)) (BP X pins σ Q) E s := by
  obtain ⟨mA, J, _⟩ := ins_get I.hok ha
  obtain ⟨od, J, _⟩ := J.look
  have two : wpAny (model X.prog X.w) A (tryCompare (.ref a) "__eq__" v) (fun r s' => ∃ u, r = some u ∧ BP X pins σ Q u s') E s := by
    unfold tryCompare
    refine wpAny_bind (PySem.W.ifBound_K I.kIn J W.eq W.fn (wpAny_mono (own_call fr room F bd I rv hsp) (fun u s' hu => ?_) fun _ _ z => z))
    obtain ⟨b, H', rfl, I', q⟩ := hu
    exact wpAny_pure ⟨_, rfl, b, H', rfl, I', q⟩
  have first : wpAny (model X.prog X.w) A (tryCompare v "__eq__" (.ref a)) (fun r s' => r = none ∧ s' = s) E s :=
    wpAny_tryCompare_declines hT slot (wpAny_mono (dec E) (fun u s' z => ⟨z.1, rfl, z.2⟩) fun _ _ z => z)
  simp only [richCompare, cmpInfo_Eq, one]
  refine wpAny_holding (wpAny_bind (wpAny_cRoomFor room.units0 ?_))
  refine wpAny_bind (wpAny_typeOf hT (wpAny_bind (J.type.here ?_)))
  split
  · refine wpAny_bind ((PySem.W.looks_subIn I.kIn sub).here ?_)
    simp only [Bool.false_eq_true, if_false, Bool.not_false, if_true]
    refine wpAny_bind (m := tryCompare v _ (.ref a)) (wpAny_mono first (fun r s1 z => ?_) fun _ _ e => e)
    obtain ⟨z1, z2⟩ := z
    subst z1
    subst z2
    refine wpAny_bind (m := tryCompare (.ref a) _ v) (wpAny_mono two (fun r s2 z => ?_) fun _ _ e => e)
    obtain ⟨u, rfl, q⟩ := z
    exact wpAny_pure q
  · rename_i q
    exact absurd (by simp) q
end
end K47
set_option Elab.async false
set_option linter.all false
set_option maxRecDepth 100000
set_option maxHeartbeats 4000000
set_option pp.maxSteps 400
set_option pp.deepTerms false
namespace K47
open PySem PySem.Spec PyProof.Rows L2
section
variable {prog : Program} {w : World} {A : Around} {E : Value → Shared → Prop} {s : Shared} {a C dx : Addr} {K : PySem.W.Frag} {ox : Obj} {od : Option Obj}
theorem dec_none : wpAny (model prog w) A (call (.builtin "NoneType.__eq__") [.none, .ref a]) (fun u s' => u = .notImplemented ∧ s' = s) E s := by
  refine GQ.call_here F.slot_NoneType_eq (T := "NoneType") rfl F.entry_NoneType_eq (F.args_NoneType_eq_2 _ _) ?_
  wp_walk
  exact ⟨rfl, rfl⟩
theorem dec_int {i : Int} {t : Tok} (ho : s.heap.get? a = some (PySem.W.instObj C dx)) : wpAny (model prog w) A (call (.builtin "int.__eq__") [.int i t, .ref a]) (fun u s' => u = .notImplemented ∧ s' = s) E s := by
  refine GQ.call_here F.slot_int_eq (typeIs_int _ _ _) F.entry_int_eq (F.args_int_eq_2 _ _) ?_
  wp_walk using wpAny_load ho
  exact ⟨rfl, rfl⟩
theorem dec_str {i : Str} {t : Tok} (ho : s.heap.get? a = some (PySem.W.instObj C dx)) : wpAny (model prog w) A (call (.builtin "str.__eq__") [.str i t, .ref a]) (fun u s' => u = .notImplemented ∧ s' = s) E s := by
  refine GQ.call_here F.slot_str_eq (typeIs_str _ _ _) F.entry_str_eq (F.args_str_eq_2 _ _) ?_
  wp_walk using wpAny_load ho
  exact ⟨rfl, rfl⟩
theorem isi_no {T : String} {Q : Bool → Shared → Prop} (J : PySem.W.InstAt s.heap a ox C od) (kin : K.In s.heap) (sub : PySem.W.subIn K (.ref C) (.type T) = some false) (h : Q false s) : wpAny (model prog w) A (isInstance (.ref a) (.type T)) Q E s := by
  unfold isInstance
  exact wpAny_bind (J.type.here ((PySem.W.looks_subIn kin sub).here h))
theorem dec_tup {t : Addr} (hT : s.TypeIs (.ref t) "tuple") (J : PySem.W.InstAt s.heap a ox C od) (kin : K.In s.heap) (sub : PySem.W.subIn K (.ref C) (.type "tuple") = some false) :
    wpAny (model prog w) A (call (.builtin "tuple.__eq__") [.ref t, .ref a]) (fun u s' => u = .notImplemented ∧ s' = s) E s := by
  refine GQ.call_here F.slot_tuple_eq hT F.entry_tuple_eq (F.args_tuple_eq_2 _ _) ?_
  wp_walk using isi_no J kin sub
  exact ⟨rfl, rfl⟩
theorem dec_lst {t : Addr} (hT : s.TypeIs (.ref t) "list") (J : PySem.W.InstAt s.heap a ox C od) (kin : K.In s.heap) (sub : PySem.W.subIn K (.ref C) (.type "list") = some false) :
    wpAny (model prog w) A (call (.builtin "list.__eq__") [.ref t, .ref a]) (fun u s' => u = .notImplemented ∧ s' = s) E s := by
  refine GQ.call_here F.slot_list_eq hT F.entry_list_eq (F.args_list_eq_2 _ _) ?_
  wp_walk using isi_no J kin sub
  exact ⟨rfl, rfl⟩
end
section
variable {X : Cx} {pins : List (Addr × Obj)} {σ : L2.St} {H : Hp} {n : Nat} {f C : Addr} {fd : FuncData} {ps : List Str} {sp : Sp}
/-- != of two instances -/
theorem rc_N {A : Around} {s : Shared} {a dx : Addr} {fs : List (Str × V)} {y : V} {v tb : Value} {Q : Bool → Hp → Prop} {E : Value → Shared → Prop} (W : OwnC X.K C f) (fr : A.frames = some X.stack) (room : Room (n + 1) A)
    (F : FnOk X.prog X.w X.K X.mg X.base CX0 n f fd ps sp) (bd : Binds X.K fd ps []) (I : Inv X pins σ H s) (ha : H a = some (.ins C dx fs)) (rv : RelV y v) (hb : PySem.W.Looks (model X.prog X.w) s.heap (typeOf v) tb)
    (nf : PySem.W.notFirst X.K C tb = true) (hsp : sp [.ref a, y] H (fun z H' => ∃ b, z = .bl b ∧ Q (!b) H') E0) : wpAny (model X.prog X.w) A (richCompare .NotEq (.ref a) v) (BP X pins σ Q) E s := by
  obtain ⟨mA, J, _⟩ := ins_get I.hok ha
  obtain ⟨od, J, _⟩ := J.look
  have inner : wpAny (model X.prog X.w) A.in1 (Builtin.«object.__ne__» ⟨[.ref a, v], []⟩) (fun fl s' => ∃ u, fl = .done (.ret u) ∧ u ≠ .notImplemented ∧ BP X pins σ Q u s') E s := by
    unfold Builtin.«object.__ne__»
    refine wpAny_bind (m := slotArgs "__ne__" 1 _) (wpAny_pure ?_)
    dsimp only
    refine wpAny_bind (wpAny_cRoomFor room.in1.units0 ?_)
    refine wpAny_bind (PySem.W.ifBound_K I.kIn J W.eq W.fn (wpAny_mono (own_call (A := A.in1) fr room.in1 F bd I rv hsp) (fun u s' hu => ?_) fun _ _ z => z))
    obtain ⟨b, H', rfl, I', q⟩ := hu
    dsimp only
    refine wpAny_bind (m := truthy (.bool b)) (wpAny_truthy_bool ?_)
    exact wpAny_pure ⟨_, rfl, by simp, !b, H', rfl, I', q⟩
  have call_ : wpAny (model X.prog X.w) A (call (.builtin "object.__ne__") [.ref a, v]) (fun u s' => u ≠ .notImplemented ∧ BP X pins σ Q u s') E s := by
    refine wpAny_call (codeAny_call_builtin PySem.F.cmp_object.ne.plain PySem.F.cmpEntry_ne (PySem.W.check_slot PySem.F.cmpKind_ne PySem.F.cmpSplit_ne (J.type.andThen (PySem.W.looks_mroIn I.kIn W.mo)) (PySem.F.cmpArgs_ne _ _) (wpAny_mono inner (fun fl s' z => ?_) fun _ _ z => z)))
    obtain ⟨u, rfl, z1, z2⟩ := z
    exact ⟨z1, z2⟩
  have one : wpAny (model X.prog X.w) A (tryCompare (.ref a) "__ne__" v) (fun r s' => ∃ u, r = some u ∧ BP X pins σ Q u s') E s := by
    unfold tryCompare
    refine wpAny_bind ?_
    simp only [callSpecialIfBound?, bindSpecialIfBound?]
    refine wpAny_holding (wpAny_bind (wpAny_bind (wpAny_bind (J.type.here ((PySem.W.looks_findIn I.kIn W.ne).here ?_)))))
    refine wpAny_bind (wpAny_askSetting (wpAny_ite ?_))
    have fin : wpAny (model X.prog X.w) A (call (.builtin "object.__ne__") ([.ref a] ++ [v]) >>= fun z => pure (some z)) (fun r s1 => wpAny (model X.prog X.w) A (match r with
        | some .notImplemented => pure none
        | none => pure none
        | some z => pure (some z)) (fun r s' => ∃ u, r = some u ∧ BP X pins σ Q u s') E s1) E s := by
      refine wpAny_bind (wpAny_mono call_ (fun u s' z => wpAny_pure ?_) fun _ _ z => z)
      obtain ⟨z1, b, H', rfl, z2⟩ := z
      exact wpAny_pure ⟨_, rfl, b, H', rfl, z2⟩
    split
    · exact wpAny_bind (wpAny_of_eq (PySem.F.cmp_object.ne.bind _) (wpAny_pure (by exact fin)))
    · exact wpAny_tryCatch (wpAny_bind (wpAny_of_eq (PySem.F.cmp_object.ne.bind _) (wpAny_pure (by exact fin))))
  unfold richCompare
  simp only [oneThing_ref]
  refine wpAny_holding (wpAny_bind (wpAny_cRoomFor room.units0 ?_))
  refine wpAny_bind (J.type.here (wpAny_bind (hb.here ?_)))
  split
  · rename_i d
    have no : PySem.W.subIn X.K tb (.ref C) = some false := by
      rcases Bool.or_eq_true_iff.mp nf with z | z
      · rw [beq_iff_eq.mp z] at d
        simp at d
      · exact beq_iff_eq.mp z
    refine wpAny_bind ((PySem.W.looks_subIn I.kIn no).here ?_)
    simp only [Bool.false_eq_true, if_false]
    refine wpAny_bind (m := tryCompare (.ref a) _ v) (wpAny_mono one (fun r s' z => ?_) fun _ _ z => z)
    obtain ⟨u, rfl, q⟩ := z
    exact wpAny_pure q
  · refine wpAny_bind (wpAny_pure ?_)
    simp only [Bool.false_eq_true, if_false]
    refine wpAny_bind (m := tryCompare (.ref a) _ v) (wpAny_mono one (fun r s' z => ?_) fun _ _ z => z)
    obtain ⟨u, rfl, q⟩ := z
    exact wpAny_pure q
end
end K47
set_option Elab.async false
set_option linter.all false
set_option maxRecDepth 100000
set_option maxHeartbeats 4000000
set_option pp.maxSteps 400
set_option pp.deepTerms false
namespace K47
open PySem PySem.Spec PyProof.Rows L2
open AutoSeq1 (wpAny_loadPart')
section
variable {prog : Program} {w : World} {A : Around}
theorem in_loop {l x : Addr} {as : List Addr} {e : Addr → Bool} {J : Nat → Shared → Prop} {Y : Shared → Prop} {R : Result → Shared → Prop} (hl : ∀ i s, J i s → ∃ n, s.heap.get? l = some { cls := .type "list", data := .seq (as.map Value.ref).toArray n })
    (turn : ∀ i c s, as[i]? = some c → J i s → wpAny (model prog w) A.in1 (eqBool (.ref c) (.ref x)) (fun r s' => r = e c ∧ (e c = true → Y s') ∧ (e c = false → J (i + 1) s')) (fun z s' => R (.error z) s') s)
    (yes : ∀ s, Y s → R (.ok (.ret (.bool true))) s) (no : ∀ s, J as.length s → R (.ok (.ret (.bool false))) s) (k : Nat) :
    ∀ i : Nat, as.length - i = k → i ≤ as.length → ∀ s, J i s → wpAny (model prog w) A.in1 (Builtin.«list.__contains__.loop» ⟨[.ref l, .ref x, rawInt i], []⟩) (GQ.FinOf prog w A R) (fun z s' => R (.error z) s') s := by
  induction k with
  | zero =>
    intro i hk hi s h
    obtain ⟨n, e1⟩ := hl i s h
    have he : i = as.length := by omega
    have fin := no s (he ▸ h)
    obtain ⟨hp, g, d, tk, os⟩ := s
    wp_walk using wpAny_loadPart' e1
    have none_ : (as.map Value.ref).toArray[((i : Nat) : Int).toNat]? = none := by simp; omega
    rw [none_]
    wp_walk
    exact fin
  | succ k ih =>
    intro i hk hi s h
    obtain ⟨n, e1⟩ := hl i s h
    have lt : i < as.length := by omega
    have ht := turn i as[i] s (List.getElem?_eq_getElem lt) h
    obtain ⟨hp, g, d, tk, os⟩ := s
    wp_walk using wpAny_loadPart' e1
    have some_ : (as.map Value.ref).toArray[((i : Nat) : Int).toNat]? = some (.ref as[i]) := by simp [lt]
    have hc : ((i : Int) + 1) = ((i + 1 : Nat) : Int) := by omega
    rw [some_]
    refine wpAny_bind (wpAny_mono ht (fun r s2 h2 => ?_) fun _ _ z => z)
    obtain ⟨hr, h3, h4⟩ := h2
    subst hr
    cases hb : e as[i] with
    | true =>
      have y2 := yes s2 (h3 hb)
      obtain ⟨hp2, g2, d2, tk2, os2⟩ := s2
      wp_walk
      exact y2
    | false =>
      have rec_ := ih (i + 1) (by omega) (by omega) s2 (h4 hb)
      obtain ⟨hp2, g2, d2, tk2, os2⟩ := s2
      wp_walk
      rw [hc]
      exact ⟨plainId_quiet MeetsSeq.plain_contains_loop _, codeAny_builtin MeetsSeq.entry_contains_loop (by
        rw [Around.under_plainId MeetsSeq.plain_contains_loop _]
        exact rec_)⟩
end
section
variable {X : Cx} {n : Nat} {f C : Addr} {fd : FuncData} {ps : List Str} {sp : Sp}
/-- what is asked of the items and of what is looked for -/
structure InD (sp : Sp) (C : Addr) (H : Hp) (a l : Addr) (as : List Addr) (e : Addr → Bool) : Prop where
  ha : ∃ dx fs, H a = some (.ins C dx fs)
  hl : H l = some (.lst (as.map V.ref))
  ne : ∀ c ∈ as, c ≠ a
  it : ∀ c ∈ as, ∃ dx fs, H c = some (.ins C dx fs)
  ask : ∀ c ∈ as, ∀ (H' : Hp) (Q : Bool → Hp → Prop), Same H H' → (∀ H2, Same H' H2 → Q (e c) H2) → sp [.ref c, .ref a] H' (fun z H2 => ∃ b, z = .bl b ∧ Q b H2) E0
theorem as_ref : ∀ {as : List Addr} {its : List Value}, Vals (as.map V.ref) its → its = as.map Value.ref
  | [], _, .nil => rfl
  | a :: as, _, .cons r t => by
    cases r
    rw [as_ref t]
    rfl
theorem contains_own (W : OwnC X.K C f) (room : Room (n + 2) X.A) (F : FnOk X.prog X.w X.K X.mg X.base CX0 n f fd ps sp) (bd : Binds X.K fd ps []) {pins : List (Addr × Obj)} {σ : L2.St} {H : Hp} {s : Shared} {a l : Addr} {as : List Addr} {e : Addr → Bool}
    {E : Value → Shared → Prop} {Q : Bool → Shared → Prop} (I : Inv X pins σ H s) (d : InD sp C H a l as e) (q : ∀ H' s', Inv X pins σ H' s' → Same H H' → Q (as.any e) s') :
    wpAny (model X.prog X.w) X.A (call (.builtin "list.__contains__") [.ref l, .ref a]) (fun u s' => ∃ b, u = .bool b ∧ Q b s') E s := by
  have at_ : ∀ {s' : Shared} {H' : Hp}, Inv X pins σ H' s' → Same H H' → ∃ n, s'.heap.get? l = some { cls := .type "list", data := .seq (as.map Value.ref).toArray n } := fun {s' H'} I' sm => by
    obtain ⟨_, its, m, r, e1⟩ := I'.hok l _ (sm _ _ d.hl)
    rw [as_ref r] at e1
    exact ⟨m, e1⟩
  obtain ⟨m0, e0⟩ := at_ I (Same.refl H)
  refine GQ.call_here PySem.F.slot_list_contains ⟨_, e0, rfl⟩ PySem.F.entry_list_contains (PySem.F.args_list_contains_2 _ _) ?_
  have loop := in_loop (prog := X.prog) (w := X.w) (A := X.A) (l := l) (x := a) (as := as) (e := e) (J := fun i s' => ∃ H', Inv X pins σ H' s' ∧ Same H H' ∧ (as.take i).any e = false) (Y := fun s' => ∃ H', Inv X pins σ H' s' ∧ Same H H' ∧ as.any e = true)
    (R := wants (fun u s' => ∃ b, u = .bool b ∧ Q b s') E) (fun i s' z => by
      obtain ⟨H', I', sm, _⟩ := z
      exact at_ I' sm) (fun i c s' hc z => ?_) (fun s' z => ?_) (fun s' z => ?_) as.length 0 (by omega) (Nat.zero_le _) s ⟨H, I, Same.refl H, by simp⟩
  · obtain ⟨hp, g, dd, tk, os⟩ := s
    wp_walk using wpAny_loadPart' e0
    exact ⟨plainId_quiet MeetsSeq.plain_contains_loop _, codeAny_builtin MeetsSeq.entry_contains_loop (by
      rw [Around.under_plainId MeetsSeq.plain_contains_loop _]
      exact loop)⟩
  · obtain ⟨H', I', sm, no⟩ := z
    have cm : c ∈ as := List.mem_of_getElem? hc
    obtain ⟨dx, fs, ec⟩ := d.it c cm
    obtain ⟨dxa, fsa, ea⟩ := d.ha
    obtain ⟨mB, JB, _⟩ := ins_get I'.hok (sm _ _ ea)
    obtain ⟨oB, JB, _⟩ := JB.look
    refine GQ.eqBool_refG (d.ne c cm) (wpAny_mono (rc_L (A := X.A.in1) (n := n) W (by show X.A.frames = some X.stack; exact I.ok.frames) (room.in1.mono (Nat.le_succ _)) F bd I' (sm _ _ ec) (y := .ref a) rfl JB.type (by simp [PySem.W.notFirst])
      (d.ask c cm H' (fun b H2 => b = e c ∧ Same H' H2) sm fun H2 s2 => ⟨rfl, s2⟩)) (fun u s2 hu => ?_) fun _ _ z => z)
    obtain ⟨b, H2, rfl, I2, rfl, s2⟩ := hu
    refine ⟨_, rfl, rfl, fun y => ⟨H2, I2, sm.trans s2, List.any_eq_true.mpr ⟨c, cm, y⟩⟩, fun y => ⟨H2, I2, sm.trans s2, ?_⟩⟩
    rw [List.take_add_one, hc, List.any_append, no]
    simp [y]
  · obtain ⟨H', I', sm, y⟩ := z
    refine ⟨true, rfl, ?_⟩
    have r := q H' s' I' sm
    rw [y] at r
    exact r
  · obtain ⟨H', I', sm, y⟩ := z
    rw [List.take_length] at y
    refine ⟨false, rfl, ?_⟩
    have r := q H' s' I' sm
    rw [y] at r
    exact r
def rInO (sp : Sp) (C : Addr) (neg : Bool) : R2 := fun x y H Q => ∃ (a l : Addr) (as : List Addr) (e : Addr → Bool), x = .ref a ∧ y = .ref l ∧ InD sp C H a l as e ∧ ∀ H', Same H H' → Q (.bl (if neg = true then !as.any e else as.any e)) H'
theorem op_inO (W : OwnC X.K C f) (room : Room (n + 2) X.A) (F : FnOk X.prog X.w X.K X.mg X.base CX0 n f fd ps sp) (bd : Binds X.K fd ps []) : OpR X (compareOp .In) (rInO sp C false) := by
  intro pins s σ H x y u v Q I rx ry h
  obtain ⟨a, l, as, e, rfl, rfl, d, q⟩ := h
  cases rx
  cases ry
  obtain ⟨_, its, m, r, e1⟩ := I.hok l _ d.hl
  show wpAny (model X.prog X.w) X.A (do return Value.bool (← contains (.ref l) (.ref a))) _ _ s
  refine wpAny_bind (wpAny_contains_slot ⟨_, e1, rfl⟩ PySem.F.slot_list_contains (wpAny_mono (contains_own (Q := fun b s' => EP X pins σ Q (.bool b) s') W room F bd I d fun H' s' I' sm => ⟨.bl (as.any e), H', I', rfl, q H' sm⟩) (fun z s' hz => ?_) fun _ _ z => z))
  obtain ⟨b, rfl, hq⟩ := hz
  exact wpAny_truthy_bool (wpAny_pure hq)
theorem op_notInO (W : OwnC X.K C f) (room : Room (n + 2) X.A) (F : FnOk X.prog X.w X.K X.mg X.base CX0 n f fd ps sp) (bd : Binds X.K fd ps []) : OpR X (compareOp .NotIn) (rInO sp C true) := by
  intro pins s σ H x y u v Q I rx ry h
  obtain ⟨a, l, as, e, rfl, rfl, d, q⟩ := h
  cases rx
  cases ry
  obtain ⟨_, its, m, r, e1⟩ := I.hok l _ d.hl
  show wpAny (model X.prog X.w) X.A (do return Value.bool (!(← contains (.ref l) (.ref a)))) _ _ s
  refine wpAny_bind (wpAny_contains_slot ⟨_, e1, rfl⟩ PySem.F.slot_list_contains (wpAny_mono (contains_own (Q := fun b s' => EP X pins σ Q (.bool (!b)) s') W room F bd I d fun H' s' I' sm => ⟨.bl (!as.any e), H', I', rfl, q H' sm⟩) (fun z s' hz => ?_) fun _ _ z => z))
  obtain ⟨b, rfl, hq⟩ := hz
  exact wpAny_truthy_bool (wpAny_pure hq)
end
end K47
set_option Elab.async false
set_option linter.all false
set_option maxRecDepth 100000
set_option maxHeartbeats 4000000
set_option pp.maxSteps 400
set_option pp.deepTerms false
namespace K47
open PySem PySem.Spec PyProof.Rows L2
open Xk Az
def top (i : Nat) : Stmt := PySem.Challenge.pw_takesworks_k47_discs.main.body.getD i (.Pass ⟨0, 0, 0, 0⟩)
abbrev sIsWhole : Stmt := top 17
abbrev sIsTextOf : Stmt := top 18
abbrev sIsSmallText : Stmt := top 19
abbrev sIsWord : Stmt := top 20
abbrev sIsKey : Stmt := top 23
abbrev sShowKey : Stmt := top 25
abbrev sShowKeys : Stmt := top 26
abbrev sAreRows : Stmt := top 29
abbrev sDiscInit : Stmt := inClass (top 30) 0
abbrev sDiscLen : Stmt := inClass (top 30) 1
abbrev sDiscEq : Stmt := inClass (top 30) 2
abbrev sDiscStr : Stmt := inClass (top 30) 3
abbrev sDiscRepr : Stmt := inClass (top 30) 4
abbrev sHand : Stmt := top 32
abbrev sTake : Stmt := top 33
abbrev sOf : Stmt := top 34
abbrev sWord : Stmt := top 35
abbrev sSome : Stmt := top 36
abbrev sRefused : Stmt := top 37
abbrev sSpoilt : Stmt := top 38
abbrev sRight : Stmt := top 39
abbrev sLaw : Stmt := top 40
theorem scIsWhole : FnScope ["thing"] ["thing"] (defScope sIsWhole) := ⟨rfl, rfl, rfl, by decide +kernel, rfl, by decide +kernel, by decide +kernel⟩
theorem scIsTextOf : FnScope ["thing", "signs", "least", "most", "sign"] ["thing", "signs", "least", "most"] (defScope sIsTextOf) := ⟨rfl, rfl, rfl, by decide +kernel, rfl, by decide +kernel, by decide +kernel⟩
theorem scIsSmallText : FnScope ["thing", "least", "most"] ["thing", "least", "most"] (defScope sIsSmallText) := ⟨rfl, rfl, rfl, by decide +kernel, rfl, by decide +kernel, by decide +kernel⟩
theorem scIsWord : FnScope ["thing"] ["thing"] (defScope sIsWord) := ⟨rfl, rfl, rfl, by decide +kernel, rfl, by decide +kernel, by decide +kernel⟩
theorem scIsKey : FnScope ["thing", "house", "number"] ["thing"] (defScope sIsKey) := ⟨rfl, rfl, rfl, by decide +kernel, rfl, by decide +kernel, by decide +kernel⟩
theorem scShowKey : FnScope ["key", "house", "number"] ["key"] (defScope sShowKey) := ⟨rfl, rfl, rfl, by decide +kernel, rfl, by decide +kernel, by decide +kernel⟩
theorem scShowKeys : FnScope ["keys", "key"] ["keys"] (defScope sShowKeys) := ⟨rfl, rfl, rfl, by decide +kernel, rfl, by decide +kernel, by decide +kernel⟩
theorem scAreRows : FnScope ["thing", "key"] ["thing"] (defScope sAreRows) := ⟨rfl, rfl, rfl, by decide +kernel, rfl, by decide +kernel, by decide +kernel⟩
theorem scDiscInit : FnScope ["self", "label", "rows"] ["self", "label", "rows"] (defScope sDiscInit) := ⟨rfl, rfl, rfl, by decide +kernel, rfl, by decide +kernel, by decide +kernel⟩
theorem scDiscLen : FnScope ["self"] ["self"] (defScope sDiscLen) := ⟨rfl, rfl, rfl, by decide +kernel, rfl, by decide +kernel, by decide +kernel⟩
theorem scDiscEq : FnScope ["self", "other"] ["self", "other"] (defScope sDiscEq) := ⟨rfl, rfl, rfl, by decide +kernel, rfl, by decide +kernel, by decide +kernel⟩
theorem scDiscStr : FnScope ["self"] ["self"] (defScope sDiscStr) := ⟨rfl, rfl, rfl, by decide +kernel, rfl, by decide +kernel, by decide +kernel⟩
theorem scDiscRepr : FnScope ["self"] ["self"] (defScope sDiscRepr) := ⟨rfl, rfl, rfl, by decide +kernel, rfl, by decide +kernel, by decide +kernel⟩
theorem scHand : FnScope ["_law_script", "_law_k", "_law_cell", "_law_own"] ["_law_script", "_law_k"] (defScope sHand) := ⟨rfl, rfl, rfl, by decide +kernel, rfl, by decide +kernel, by decide +kernel⟩
theorem scTake : FnScope ["_law_hand_here", "_law_many", "_law_digit", "_law_prime", "_law_drawn"] ["_law_hand_here", "_law_many"] (defScope sTake) := ⟨rfl, rfl, rfl, by decide +kernel, rfl, by decide +kernel, by decide +kernel⟩
theorem scOf : FnScope ["_law_hand_here", "_law_some_here"] ["_law_hand_here", "_law_some_here"] (defScope sOf) := ⟨rfl, rfl, rfl, by decide +kernel, rfl, by decide +kernel, by decide +kernel⟩
theorem scWord : FnScope ["_law_hand_here", "_law_long", "_law_k"] ["_law_hand_here"] (defScope sWord) := ⟨rfl, rfl, rfl, by decide +kernel, rfl, by decide +kernel, by decide +kernel⟩
theorem scSome : FnScope ["_law_hand_here", "_law_found", "_law_k"] ["_law_hand_here"] (defScope sSome) := ⟨rfl, rfl, rfl, by decide +kernel, rfl, by decide +kernel, by decide +kernel⟩
theorem scRefused : FnScope ["_law_call", "_law_some_here", "_law_caught", "e"] ["_law_call", "_law_some_here"] (defScope sRefused) := ⟨rfl, rfl, rfl, by decide +kernel, rfl, by decide +kernel, by decide +kernel⟩
theorem scSpoilt : FnScope ["_law_hand_here", "_law_some_here", "_law_at", "_law_house", "_law_number", "_law_odd", "_law_fresh"] ["_law_hand_here", "_law_some_here"] (defScope sSpoilt) := ⟨rfl, rfl, rfl, by decide +kernel, rfl, by decide +kernel, by decide +kernel⟩
theorem scRight : FnScope ["_law_hand_here", "_law_call", "_law_some_here", "_law_one", "_law_text", "_law_last", "_law_calls", "_law_other", "_law_rest", "_law_twin", "_law_odds", "_law_odd", "_law_house", "_law_number", "_law_thing"] ["_law_hand_here"] (defScope sRight) := ⟨rfl, rfl, rfl, by decide +kernel, rfl, by decide +kernel, by decide +kernel⟩
theorem scLaw : FnScope ["_law_script", "_law_k"] ["_law_script"] (defScope sLaw) := ⟨rfl, rfl, rfl, by decide +kernel, rfl, by decide +kernel, by decide +kernel⟩
/-! ## objects -/
/-- all that was tracked stands but for the hand -/
def But (h : Addr) (H H' : Hp) : Prop := ∀ b o, b ≠ h → H b = some o → H' b = some o
theorem But.refl (h : Addr) (H : Hp) : But h H H := fun _ _ _ e => e
theorem But.trans {h : Addr} {H H1 H2 : Hp} (p : But h H H1) (q : But h H1 H2) : But h H H2 := fun b o n e => q b o n (p b o n e)
theorem Same.but {H H' : Hp} (s : Same H H') (h : Addr) : But h H H' := fun b o _ e => s b o e
theorem But.seqT {K : PySem.W.Frag} {h : Addr} {H H' : Hp} (s : But h H H') {t : Addr} {xs : List V} (n : t ≠ h) (q : SqT K H t xs) : SqT K H' t xs := by
  rcases q with (q | ⟨o, q⟩) | q
  · exact .inl (.inl (s _ _ n q))
  · exact .inl (.inr ⟨o, s _ _ n q⟩)
  · exact .inr q
theorem But.seqL {K : PySem.W.Frag} {h : Addr} {H H' : Hp} (s : But h H H') {t : Addr} {xs : List V} (n : t ≠ h) (q : SqL K H t xs) : SqL K H' t xs := by
  rcases q with (q | ⟨o, q⟩) | q
  · exact .inl (.inl (s _ _ n q))
  · exact .inl (.inr ⟨o, s _ _ n q⟩)
  · exact .inr q
theorem Same.seqT {K : PySem.W.Frag} {H H' : Hp} (s : Same H H') {t : Addr} {xs : List V} (q : SqT K H t xs) : SqT K H' t xs := by
  rcases q with (q | ⟨o, q⟩) | q
  · exact .inl (.inl (s _ _ q))
  · exact .inl (.inr ⟨o, s _ _ q⟩)
  · exact .inr q
theorem same_upd {H : Hp} {p : Addr} {o : HO} (h : H p = none) : Same H (upd H p o) := fun b x e => by
  rw [upd_ne (ne_of_none e h)]
  exact e
theorem but_upd {H : Hp} {p : Addr} {o : HO} : But p H (upd H p o) := fun b x n e => by
  rw [upd_ne n]
  exact e
/-- the hand: what is left of the cell, what it is mixed of, how often it was asked -/
def Hand (n : Int) (H : Hp) (a : Addr) : Prop := ∃ g m c : Int, H a = some (.lst [.int g, .int m, .int c]) ∧ 0 ≤ g ∧ 0 ≤ m ∧ m < 2305843010000000000 ∧ 0 ≤ c ∧ c ≤ n
theorem Hand.mono {n n' : Int} {H : Hp} {a : Addr} (h : Hand n H a) (l : n ≤ n') : Hand n' H a := by
  obtain ⟨g, m, c, e, h1, h2, h3, h4, h5⟩ := h
  exact ⟨g, m, c, e, h1, h2, h3, h4, Int.le_trans h5 l⟩
theorem Hand.same {n : Int} {H H' : Hp} {a : Addr} (h : Hand n H a) (s : Same H H') : Hand n H' a := by
  obtain ⟨g, m, c, e, r⟩ := h
  exact ⟨g, m, c, s _ _ e, r⟩
theorem Hand.at_ {n : Int} {H : Hp} {a : Addr} (h : Hand n H a) : ∃ xs, H a = some (.lst xs) := by
  obtain ⟨g, m, c, e, r⟩ := h
  exact ⟨_, e⟩
theorem Hand.ne_tup {K : PySem.W.Frag} {n : Int} {H : Hp} {a t : Addr} {xs : List V} (h : Hand n H a) (e : H t = some (.tup xs)) : t ≠ a := by
  obtain ⟨ys, e2⟩ := h.at_
  exact ne_of e e2 (by intro z; cases z)
theorem But.free {h l : Addr} {H H' : Hp} (b : But h H H') (ne : l ≠ h) (e : H' l = none) : H l = none := by
  cases q : H l with
  | none => rfl
  | some o =>
    rw [b l o ne q] at e
    cases e
theorem Hand.fresh {n : Int} {H : Hp} {a l : Addr} (h : Hand n H a) (e : H l = none) : l ≠ a := by
  obtain ⟨xs, q⟩ := h.at_
  exact (ne_of_none q e).symm
theorem Hand.upd {n : Int} {H : Hp} {a p : Addr} {x : HO} (h : Hand n H a) (ne : a ≠ p) : Hand n (L2.upd H p x) a := by
  obtain ⟨g, m, c, e, r⟩ := h
  exact ⟨g, m, c, by rw [upd_ne ne]; exact e, r⟩
theorem off_all {h : Addr} {H : Hp} : L2.Same (del H h) H := fun b o e => by
  by_cases z : b = h
  · rw [z, del_same] at e
    cases e
  · rw [del_ne z] at e
    exact e
theorem off_but {h : Addr} {H H' : Hp} (s : But h H H') : L2.Same (del H h) (del H' h) := fun b o e => by
  by_cases z : b = h
  · rw [z, del_same] at e
    cases e
  · rw [del_ne z] at e
    rw [del_ne z]
    exact s b o z e
theorem off_new {h p : Addr} {H : Hp} {o : HO} (ne : p ≠ h) : del (upd H p o) h p = some o := by rw [del_ne ne, upd_same]
theorem off_at {h p : Addr} {H : Hp} {o : HO} (ne : p ≠ h) (e : H p = some o) : del H h p = some o := by rw [del_ne ne, e]
/-- things of the built-in kinds that are asked -/
inductive Odd (H : Hp) : V → String → Prop where
  | int (i : Int) : Odd H (.int i) "int"
  | str (x : Str) : Odd H (.str x) "str"
  | non : Odd H .non "NoneType"
  | tup {a : Addr} {xs : List V} (e : H a = some (.tup xs)) : Odd H (.ref a) "tuple"
  | lst {a : Addr} {xs : List V} (e : H a = some (.lst xs)) : Odd H (.ref a) "list"
abbrev OddT (t : String) : Prop := t = "int" ∨ t = "str" ∨ t = "NoneType" ∨ t = "tuple" ∨ t = "list"
theorem Odd.one {H : Hp} {o : V} {t : String} (h : Odd H o t) : OddT t := by
  cases h <;> simp [OddT]
theorem Odd.ty {K : PySem.W.Frag} {H : Hp} {o : V} {t : String} (h : Odd H o t) : TyX K H o (.type t) := by
  cases h with
  | int i => exact .base (.int i)
  | str x => exact .base (.str x)
  | non => exact .base .non
  | tup e => exact .base (.tup e)
  | lst e => exact .base (.lst e)
theorem Odd.same {H H' : Hp} {o : V} {t : String} (h : Odd H o t) (s : Same H H') : Odd H' o t := by
  cases h with
  | int i => exact .int i
  | str x => exact .str x
  | non => exact .non
  | tup e => exact .tup (s _ _ e)
  | lst e => exact .lst (s _ _ e)
structure KitC (K : PySem.W.Frag) (C : Addr) : Prop where
  me : PySem.W.kitOne K (.ref C) (.ref C) = some true
  no : ∀ t : String, OddT t → PySem.W.kitOne K (.type t) (.ref C) = some false
  sub : ∀ t : String, OddT t → PySem.W.subIn K (.type t) (.ref C) = some false
theorem kitC_mk {K : PySem.W.Frag} {C : Addr} (ty : PySem.W.typeIn K (.ref C) = some (.type "type")) (mo : PySem.W.mroIn K C (.type "object") = some true) (s1 : PySem.W.subIn K (.type "int") (.ref C) = some false)
    (s2 : PySem.W.subIn K (.type "str") (.ref C) = some false) (s3 : PySem.W.subIn K (.type "NoneType") (.ref C) = some false) (s4 : PySem.W.subIn K (.type "tuple") (.ref C) = some false) (s5 : PySem.W.subIn K (.type "list") (.ref C) = some false) : KitC K C := by
  have cl : (PySem.W.clsIn K C).isSome = true := by
    unfold PySem.W.mroIn at mo
    cases e : PySem.W.clsIn K C with
    | none => rw [e] at mo; cases mo
    | some c => rfl
  have sub : ∀ t : String, OddT t → PySem.W.subIn K (.type t) (.ref C) = some false := fun t ht => by
    rcases ht with rfl | rfl | rfl | rfl | rfl
    · exact s1
    · exact s2
    · exact s3
    · exact s4
    · exact s5
  refine ⟨?_, fun t ht => ?_, sub⟩
  · unfold PySem.W.kitOne
    simp
  · have q : (Value.type t == Value.ref C) = false := rfl
    unfold PySem.W.kitOne
    rw [q]
    simp only [Bool.false_eq_true, if_false]
    unfold PySem.W.kitCls
    dsimp only
    rw [cl, ty]
    simp only [beq_self_eq_true, Bool.and_self, if_true]
    exact sub t ht
section
variable {X : Cx} {pins : List (Addr × Obj)} {σ : L2.St} {H : Hp} {s : Shared} {n : Nat} {f C : Addr} {fd : FuncData} {ps : List Str} {sp : Sp}
/-- a def of the written part is run somewhere below -/
theorem own_run {A : Around} {vs : List V} {us : List Value} {Q : VK} {E : Value → Shared → Prop} (fr : A.frames = some X.stack) (room : Room n A) (F : FnOk X.prog X.w X.K X.mg X.base CX0 n f fd ps sp) (bd : Binds X.K fd ps [])
    (I : Inv X pins σ H s) (rv : Vals vs us) (hsp : sp vs H Q E0) : wpAny (model X.prog X.w) A (call (.ref f) us) (EP X pins σ Q) E s := by
  have en : Env0 X.prog X.w X.K X.mg X.base A X.stack s H := by
    have z := I.env0
    exact ⟨fr, z.mod, z.bs, z.bsz, z.funs, z.frf, z.hok, z.bare⟩
  have hl : vs.length = ps.length := F.len _ _ _ _ hsp
  have b1 := bd s us I.kIn (by simpa [← rv.length] using hl)
  rw [List.append_nil] at b1
  refine wpAny_call (codeAny_mono (F.run A X.stack s H ⟨us, []⟩ us vs _ E0 room en b1 rv hsp) fun r s2 hr => ?_)
  match r, hr with
  | .error z, hr => exact False.elim hr
  | .ok .next, hr => exact False.elim hr
  | .ok .brk, hr => exact False.elim hr
  | .ok .cont, hr => exact False.elim hr
  | .ok (.ret u), hr => exact I.after hr
theorem odd_looks {y : V} {v : Value} {t : String} (I : Inv X pins σ H s) (rv : RelV y v) (o : Odd H y t) : PySem.W.Looks (model X.prog X.w) s.heap (typeOf v) (.type t) := by
  obtain ⟨P, Z, p, _⟩ := kit_of I rv (o.ty (K := X.K))
  exact Z.ty _ _ I.kIn p
/-- day == thing -/
def rEqL (C : Addr) (sp : Sp) : R2 := fun x y H Q => ∃ (a dx : Addr) (fs : List (Str × V)), x = .ref a ∧ H a = some (.ins C dx fs) ∧ ((∃ t, Odd H y t) ∨ ∃ b dz gs, y = .ref b ∧ H b = some (.ins C dz gs)) ∧
  sp [.ref a, y] H (fun z H' => ∃ b, z = .bl b ∧ Q (.bl b) H') E0
theorem op_eqL (W : OwnC X.K C f) (Z : KitC X.K C) (room : Room n X.A) (F : FnOk X.prog X.w X.K X.mg X.base CX0 n f fd ps sp) (bd : Binds X.K fd ps []) : OpR X (compareOp .Eq) (rEqL C sp) := by
  intro pins s σ H x y u v Q I rx ry h
  obtain ⟨a, dx, fs, rfl, ha, hy, hsp⟩ := h
  cases rx
  have fin : ∀ tb, PySem.W.Looks (model X.prog X.w) s.heap (typeOf v) tb → PySem.W.notFirst X.K C tb = true → wpAny (model X.prog X.w) X.A (compareOp .Eq (.ref a) v) (EP X pins σ Q) X.xe s := fun tb hb nf => by
    show wpAny (model X.prog X.w) X.A (richCompare .Eq (.ref a) v) _ _ s
    refine wpAny_mono (rc_L (Q := fun b H' => Q (.bl b) H') W I.ok.frames room F bd I ha ry hb nf hsp) (fun z s' hz => ?_) fun _ _ z => z
    obtain ⟨b, H', rfl, I', q⟩ := hz
    exact ⟨.bl b, H', I', rfl, q⟩
  rcases hy with ⟨t, o⟩ | ⟨b, dz, gs, rfl, hb⟩
  · refine fin _ (odd_looks I ry o) ?_
    unfold PySem.W.notFirst
    rw [Z.sub t o.one]
    simp
  · cases ry
    obtain ⟨mB, JB, _⟩ := ins_get I.hok hb
    obtain ⟨oB, JB, _⟩ := JB.look
    exact fin _ JB.type (by simp [PySem.W.notFirst])
/-- day != day -/
def rNeL (C : Addr) (sp : Sp) : R2 := fun x y H Q => ∃ (a dx : Addr) (fs : List (Str × V)) (b dz : Addr) (gs : List (Str × V)), x = .ref a ∧ H a = some (.ins C dx fs) ∧ y = .ref b ∧ H b = some (.ins C dz gs) ∧
  sp [.ref a, y] H (fun z H' => ∃ b, z = .bl b ∧ Q (.bl (!b)) H') E0
theorem op_neL (W : OwnC X.K C f) (room : Room (n + 1) X.A) (F : FnOk X.prog X.w X.K X.mg X.base CX0 n f fd ps sp) (bd : Binds X.K fd ps []) : OpR X (compareOp .NotEq) (rNeL C sp) := by
  intro pins s σ H x y u v Q I rx ry h
  obtain ⟨a, dx, fs, b, dz, gs, rfl, ha, rfl, hb, hsp⟩ := h
  cases rx
  cases ry
  obtain ⟨mB, JB, _⟩ := ins_get I.hok hb
  obtain ⟨oB, JB, _⟩ := JB.look
  show wpAny (model X.prog X.w) X.A (richCompare .NotEq (.ref a) (.ref b)) _ _ s
  refine wpAny_mono (rc_N (Q := fun b H' => Q (.bl b) H') (y := .ref b) W I.ok.frames room F bd I ha rfl JB.type (by simp [PySem.W.notFirst]) hsp) (fun z s' hz => ?_) fun _ _ z => z
  obtain ⟨b, H', rfl, I', q⟩ := hz
  exact ⟨.bl b, H', I', rfl, q⟩
/-- thing == day -/
def rEqR (C : Addr) (sp : Sp) : R2 := fun x y H Q => ∃ (a dx : Addr) (fs : List (Str × V)), y = .ref a ∧ H a = some (.ins C dx fs) ∧
  (((∃ t, Odd H x t) ∧ sp [.ref a, x] H (fun z H' => ∃ b, z = .bl b ∧ Q (.bl b) H') E0) ∨ ∃ b dz gs, x = .ref b ∧ H b = some (.ins C dz gs) ∧ sp [.ref b, .ref a] H (fun z H' => ∃ b, z = .bl b ∧ Q (.bl b) H') E0)
theorem op_eqR (W : OwnC X.K C f) (room : Room n X.A) (F : FnOk X.prog X.w X.K X.mg X.base CX0 n f fd ps sp) (bd : Binds X.K fd ps []) : OpR X (compareOp .Eq) (rEqR C sp) := by
  intro pins s σ H x y u v Q I rx ry h
  obtain ⟨a, dx, fs, rfl, ha, h⟩ := h
  cases ry
  show wpAny (model X.prog X.w) X.A (richCompare .Eq u (.ref a)) _ _ s
  have fin : ∀ {A : Around} {z : Value} {s' : Shared}, BP X pins σ (fun b H' => Q (.bl b) H') z s' → EP X pins σ Q z s' := fun {A z s'} hz => by
    obtain ⟨b, H', rfl, I', q⟩ := hz
    exact ⟨.bl b, H', I', rfl, q⟩
  obtain ⟨mA, J, eI⟩ := ins_get I.hok ha
  obtain ⟨oA, J', _⟩ := J.look
  rcases h with ⟨⟨t, o⟩, hsp⟩ | ⟨b, dz, gs, rfl, hb, hsp⟩
  · cases o with
    | int i =>
      obtain ⟨tk, rfl⟩ := rx
      refine wpAny_mono (rc_R (Q := fun b H' => Q (.bl b) H') (y := .int i) W I.ok.frames room F bd I ha ⟨tk, rfl⟩ (typeIs_int _ _ _) rfl W.sInt PySem.F.slot_int_eq (fun E' => dec_int J.obj) hsp) (fun z s' hz => fin (A := X.A) hz) fun _ _ z => z
    | str i =>
      obtain ⟨tk, rfl⟩ := rx
      refine wpAny_mono (rc_R (Q := fun b H' => Q (.bl b) H') (y := .str i) W I.ok.frames room F bd I ha ⟨tk, rfl⟩ (typeIs_str _ _ _) rfl W.sStr PySem.F.slot_str_eq (fun E' => dec_str J.obj) hsp) (fun z s' hz => fin (A := X.A) hz) fun _ _ z => z
    | non =>
      cases rx
      refine wpAny_mono (rc_R (Q := fun b H' => Q (.bl b) H') (y := .non) W I.ok.frames room F bd I ha rfl (T := "NoneType") rfl rfl W.sNon PySem.F.slot_NoneType_eq (fun E' => dec_none) hsp) (fun z s' hz => fin (A := X.A) hz) fun _ _ z => z
    | @tup b xs e =>
      cases rx
      obtain ⟨_, _, _, ob, h1, h2, _⟩ := (show ObjOk X.prog X.w H s.heap b (.tup xs) from I.hok b _ e)
      refine wpAny_mono (rc_R (Q := fun b H' => Q (.bl b) H') (y := .ref b) W I.ok.frames room F bd I ha rfl (T := "tuple") ⟨ob, h1, h2⟩ rfl W.sTup PySem.F.slot_tuple_eq (fun E' => dec_tup ⟨ob, h1, h2⟩ J' I.kIn W.sTup) hsp) (fun z s' hz => fin (A := X.A) hz) fun _ _ z => z
    | @lst b xs e =>
      cases rx
      obtain ⟨_, _, k, _, h1⟩ := (show ObjOk X.prog X.w H s.heap b (.lst xs) from I.hok b _ e)
      refine wpAny_mono (rc_R (Q := fun b H' => Q (.bl b) H') (y := .ref b) W I.ok.frames room F bd I ha rfl (T := "list") ⟨_, h1, rfl⟩ rfl W.sLst PySem.F.slot_list_eq (fun E' => dec_lst ⟨_, h1, rfl⟩ J' I.kIn W.sLst) hsp) (fun z s' hz => fin (A := X.A) hz) fun _ _ z => z
  · cases rx
    refine wpAny_mono (rc_L (Q := fun b H' => Q (.bl b) H') (y := .ref a) W I.ok.frames room F bd I hb rfl J'.type (by simp [PySem.W.notFirst]) hsp) (fun z s' hz => fin (A := X.A) hz) fun _ _ z => z
/-- str(o) by its own __str__ -/
theorem cr_strO (hs : PySem.W.findIn X.K (.ref C) "__str__" = some (some (.ref f))) (hf : PySem.W.isFn X.K (.ref f) = true) (room : Room (n + 2) X.A) (F : FnOk X.prog X.w X.K X.mg X.base CX0 n f fd ps sp) (bd : Binds X.K fd ps []) :
    CallR X (.type "str") (fun xs H Q => ∃ (a dx : Addr) (fs : List (Str × V)), xs = [.ref a] ∧ H a = some (.ins C dx fs) ∧ sp [.ref a] H (fun z H' => ∃ y, z = .str y ∧ Q (.str y) H') E0) := by
  intro pins s σ H xs us Q I r h
  obtain ⟨a, dx, fs, rfl, ha, hsp⟩ := h
  obtain ⟨u, rfl, rx⟩ := vals1 r
  cases rx
  obtain ⟨mA, J, _⟩ := ins_get I.hok ha
  obtain ⟨oA, J, _⟩ := J.look
  refine PySem.W.kso_call room.in1.in1.units0 I.kIn J hs hf (wpAny_mono (own_run (A := X.A.in1.in1) (vs := [.ref a]) I.ok.frames room.in1.in1 F bd I (.cons rfl .nil) hsp) (fun v s' hv => ?_) fun _ _ z => z)
  obtain ⟨v', H', I', rv, y, rfl, q⟩ := hv
  obtain ⟨tk, rfl⟩ := rv
  exact ⟨.str y, H', I', ⟨tk, rfl⟩, q⟩
/-- repr(o) by its own __repr__ -/
theorem cr_reprO (hs : PySem.W.findIn X.K (.ref C) "__repr__" = some (some (.ref f))) (hf : PySem.W.isFn X.K (.ref f) = true) (room : Room (n + 1) X.A) (F : FnOk X.prog X.w X.K X.mg X.base CX0 n f fd ps sp) (bd : Binds X.K fd ps []) :
    CallR X (.builtin "repr") (fun xs H Q => ∃ (a dx : Addr) (fs : List (Str × V)), xs = [.ref a] ∧ H a = some (.ins C dx fs) ∧ sp [.ref a] H (fun z H' => ∃ y, z = .str y ∧ Q (.str y) H') E0) := by
  intro pins s σ H xs us Q I r h
  obtain ⟨a, dx, fs, rfl, ha, hsp⟩ := h
  obtain ⟨u, rfl, rx⟩ := vals1 r
  cases rx
  obtain ⟨mA, J, _⟩ := ins_get I.hok ha
  obtain ⟨oA, J, _⟩ := J.look
  refine Calls.call_function_entry PySem.F.kind_repr PySem.F.plain_repr PySem.F.entry_repr (PySem.F.args_repr1 _) ?_
  unfold Builtin.«repr»
  refine wpAny_bind (m := oneArg "repr" _) (wpAny_pure ?_)
  refine wpAny_bind (wpAny_cRoomFor room.in1.units0 ?_)
  refine wpAny_bind (wpAny_bind (J.type.here ((PySem.W.looks_findIn I.kIn hs).here ?_)))
  refine wpAny_bind (m := callSpecialIfBound? (.ref a) (Str.ofString "__repr__") _) (PySem.W.ifBound_K I.kIn J hs hf (wpAny_mono (own_run (A := X.A.in1) (vs := [.ref a]) I.ok.frames room.in1 F bd I (.cons rfl .nil) hsp) (fun v s' hv => ?_) fun _ _ z => z))
  obtain ⟨v', H', I', rv, y, rfl, q⟩ := hv
  obtain ⟨tk, rfl⟩ := rv
  refine wpAny_bind (wpAny_isInstance (T := "str") (b := true) rfl isSubtype_str_str ?_)
  exact wpAny_pure ⟨_, rfl, .str y, H', I', ⟨tk, rfl⟩, q⟩
end
section
variable {X : Cx}
theorem cr_alt {f : Value} {r1 r2 : List V → Hp → VK → Prop} (h1 : CallR X f r1) (h2 : CallR X f r2) : CallR X f (fun xs H Q => r1 xs H Q ∨ r2 xs H Q) :=
  fun pins s σ H xs us Q I r h => h.elim (h1 pins s σ H xs us Q I r) (h2 pins s σ H xs us Q I r)
/-- len(o) by its own __len__ -/
theorem cr_lenO {C f : Addr} {n : Nat} {fd : FuncData} {ps : List Str} {sp : Sp} (hs : PySem.W.findIn X.K (.ref C) "__len__" = some (some (.ref f))) (hf : PySem.W.isFn X.K (.ref f) = true) (room : Room (n + 1) X.A) (F : FnOk X.prog X.w X.K X.mg X.base CX0 n f fd ps sp) (bd : Binds X.K fd ps []) :
    CallR X (.builtin "len") (fun xs H Q => ∃ (a dx : Addr) (fs : List (Str × V)), xs = [.ref a] ∧ H a = some (.ins C dx fs) ∧ sp [.ref a] H (fun z H' => ∃ y : Nat, z = .int y ∧ y ≤ 100000 ∧ Q (.int y) H') E0) := by
  intro pins s σ H xs us Q I r h
  obtain ⟨a, dx, fs, rfl, ha, hsp⟩ := h
  obtain ⟨u, rfl, rx⟩ := vals1 r
  cases rx
  obtain ⟨mA, J, _⟩ := ins_get I.hok ha
  obtain ⟨oA, J, _⟩ := J.look
  refine Calls.call_function_entry kind_len plain_len entry_len (args_len1 _) ?_; unfold Builtin.«len»
  refine wpAny_bind (m := oneArg "len" _) (wpAny_pure ?_); refine wpAny_bind (m := callSpecial? (.ref a) (Str.ofString "__len__")) (PySem.W.special_fn I.kIn J hs (beq_iff_eq.mp hf) (wpAny_mono (own_run (A := X.A.in1) (vs := [.ref a]) I.ok.frames room.in1 F bd I (.cons rfl .nil) hsp) (fun v s' hv => ?_) fun _ _ z => z))
  obtain ⟨v', H', I', rv, y, rfl, hy, q⟩ := hv; obtain ⟨tk, rfl⟩ := rv
  refine wpAny_bind (wpAny_holding (wpAny_pure ?_)); refine wpAny_bind (wpAny_letGo ?_)
  show wpAny _ _ (if ((y : Nat) : Int) < 0 then _ else _) _ _ _
  rw [if_neg (by omega)]
  show wpAny _ _ (if ((y : Nat) : Int) ≥ 2 ^ 63 then _ else _) _ _ _
  rw [if_neg (by omega)]
  exact wpAny_bind (wpAny_mkInt (wpAny_pure ⟨_, rfl, .int y, H', I'.tok _, ⟨_, rfl⟩, q⟩))
end
end K47
set_option Elab.async false
set_option linter.all false
set_option maxRecDepth 100000
set_option maxHeartbeats 4000000
set_option pp.maxSteps 400
set_option pp.deepTerms false
namespace K47
open PySem PySem.Spec PyProof.Rows L2
open Xk Az
section
variable {P : Program} {w : World} {K : PySem.W.Frag} {mg : Str → Option Value} {base : Heap} {C : Addr}
/-- a def that may be called by its name -/
structure Ca (P : Program) (w : World) (K : PySem.W.Frag) (mg : Str → Option Value) (base : Heap) (k : Nat) (x : Str) (ps : List Str) (sp : Sp) : Prop where
  ex : ∃ (f : Addr) (fd : FuncData), FnOk P w K mg base CX0 k f fd ps sp ∧ mg x = some (.ref f) ∧ PySem.W.keepIn K (.ref f) = true ∧ Binds K fd ps []
/-- a def of the text, as the head finds it -/
structure Df (K : PySem.W.Frag) (mg : Str → Option Value) (x : Str) (ps : List Str) (st : Stmt) (f : Addr) (fd : FuncData) : Prop where
  fn : Fun K x x st f fd
  mgf : mg x = some (.ref f)
  bd : Binds K fd ps []
theorem Df.ca {k : Nat} {x : Str} {ps : List Str} {st : Stmt} {f : Addr} {fd : FuncData} {sp : Sp} (d : Df K mg x ps st f fd)
    (h : FnOk P w K mg base CX0 k f fd ps sp) : Ca P w K mg base k x ps sp := ⟨f, fd, h, d.mgf, d.fn.kp, d.bd⟩
section
variable {X : Cx} {k j : Nat} {x : Str} {ps : List Str} {sp : Sp} {p pos : Pos} {e : Expr} {es : List Expr} {t : TA}
theorem pe_ca (c : Ca X.prog X.w X.K X.mg X.base k x ps sp) (hr : Room j X.A) (hk : k ≤ j) (hg : Gl X x) (ha : PA X (e :: es) t) (hdb : (x == ("__debug__" : Str)) = false := by decide)
    (he : starEach (e :: es) X.env = (false, eval e X.env) :: starEach es X.env := by rfl) (hpl : (backTo pos (starEach es X.env)).any (·.1) = false := by rfl) :
    PE X (.Call (.Name x p) (e :: es) [] pos) (tCall sp [] E0 t) := by
  obtain ⟨f, fd, F, hm, kp, b⟩ := c.ex
  exact pe_call F (hr.mono hk) hg hm kp b .nil pass0 ha hdb he hpl
end
/-- the refusals: where their classes stand -/
structure Ex where
  NotSuch : Addr
  Lost : Addr
  Taken : Addr
  NoCustom : Addr
  NoDay : Addr
  NoEntry : Addr
  NoKey : Addr
  NoLength : Addr
  NoLine : Addr
  NoName : Addr
  NoText : Addr
  Same : Addr
  NoDisc : Addr
def small : Str := "abcdefghijklmnopqrstuvwxyz"
/-- what the top has left, besides the defs -/
structure Txt (K : PySem.W.Frag) (mg : Str → Option Value) (C : Addr) (e : Ex) : Prop where
  cl : Cls K C
  nL : NoAttr K C "label"
  nR : NoAttr K C "rows"
  mgC : mg "Disc" = some (.ref C)
  ins : C8.InsC K C
  sm : ∃ t, mg "SMALL_LETTERS" = some (.str small t)
  lw : ∃ t, mg "LONGEST_WORD" = some (.int 8 t)
  kp : ∃ t, mg "KEY_PARTS" = some (.int 2 t)
  mr : ∃ t, mg "MOST_ROWS" = some (.int 30 t)
  mNotSuch : mg "NotSuch" = some (.ref e.NotSuch)
  mLost : mg "Lost" = some (.ref e.Lost)
  mTaken : mg "Taken" = some (.ref e.Taken)
  mNoCustom : mg "NoCustom" = some (.ref e.NoCustom)
  mNoDay : mg "NoDay" = some (.ref e.NoDay)
  mNoEntry : mg "NoEntry" = some (.ref e.NoEntry)
  mNoKey : mg "NoKey" = some (.ref e.NoKey)
  mNoLength : mg "NoLength" = some (.ref e.NoLength)
  mNoLine : mg "NoLine" = some (.ref e.NoLine)
  mNoName : mg "NoName" = some (.ref e.NoName)
  mNoText : mg "NoText" = some (.ref e.NoText)
  mSame : mg "Same" = some (.ref e.Same)
  mNoDisc : mg "NoDisc" = some (.ref e.NoDisc)
  isi : mg "isinstance" = none
  int : mg "int" = none
  bool : mg "bool" = none
  str : mg "str" = none
  tuple : mg "tuple" = none
  list : mg "list" = none
  len : mg "len" = none
  all : mg "all" = none
  any : mg "any" = none
  abs : mg "abs" = none
  zip : mg "zip" = none
  range : mg "range" = none
  repr : mg "repr" = none
  max : mg "max" = none
  min : mg "min" = none
  ValueError : mg "ValueError" = none
  LookupError : mg "LookupError" = none
  xP : PySem.W.excIn K e.NoDisc PySem.HandSPX.veTail "ValueError.__new__" = true
  kP : PySem.W.keepIn K (.ref e.NoDisc) = true
  bP : PySem.W.subIn K (.ref e.NoDisc) (.type "BaseException") = some true
  tP : PySem.W.typeIn K (.ref e.NoDisc) = some (.type "type")
  xc : XcC K e.NoDisc
  exm : PySem.W.exmAny K (.ref e.NoDisc) [.ref e.NotSuch, .ref e.Lost, .ref e.Taken] = some true
  kit1 : PySem.W.kitAny K (.ref e.NoDisc) [.ref e.NoCustom, .ref e.NoDay, .ref e.NoEntry, .ref e.NoKey, .ref e.NoLength, .ref e.NoLine, .ref e.NoName, .ref e.NoText, .ref e.Same, .ref e.Lost, .ref e.Taken] = some false
  kit3 : PySem.W.kitOne K (.ref e.NoDisc) (.ref e.NoDisc) = some true
  kit5 : PySem.W.kitOne K (.ref e.NoDisc) (.type "ValueError") = some true
  kit6 : PySem.W.kitOne K (.ref e.NoDisc) (.type "LookupError") = some false
/-- the number of a thing that is a whole one -/
def wh : PyData → Option Int
  | .int i => some i
  | _ => none
def spWhole (K : PySem.W.Frag) : Sp := fun vs H Q _ => ∃ (v : V) (d : PyData), vs = [v] ∧ Dz K H v d ∧ Q (.bl (wh d).isSome) H
def isStr : PyData → Bool
  | .str _ => true
  | _ => false
def isTup : PyData → Bool
  | .tuple _ => true
  | _ => false
theorem z_str : ∀ d : PyData, PySem.W.kitOne K (.type (kindD d)) (.type "str") = some (isStr d)
  | .none => kit_ty (a := "NoneType") (b := "str") (r := false) (by decide +kernel)
  | .bool _ => kit_ty (a := "bool") (b := "str") (r := false) (by decide +kernel)
  | .int _ => kit_ty (a := "int") (b := "str") (r := false) (by decide +kernel)
  | .str _ => kit_ty (a := "str") (b := "str") (r := true) (by decide +kernel)
  | .list _ => kit_ty (a := "list") (b := "str") (r := false) (by decide +kernel)
  | .tuple _ => kit_ty (a := "tuple") (b := "str") (r := false) (by decide +kernel)
  | .dict _ => kit_ty (a := "dict") (b := "str") (r := false) (by decide +kernel)
theorem z_tup : ∀ d : PyData, PySem.W.kitOne K (.type (kindD d)) (.type "tuple") = some (isTup d)
  | .none => kit_ty (a := "NoneType") (b := "tuple") (r := false) (by decide +kernel)
  | .bool _ => kit_ty (a := "bool") (b := "tuple") (r := false) (by decide +kernel)
  | .int _ => kit_ty (a := "int") (b := "tuple") (r := false) (by decide +kernel)
  | .str _ => kit_ty (a := "str") (b := "tuple") (r := false) (by decide +kernel)
  | .list _ => kit_ty (a := "list") (b := "tuple") (r := false) (by decide +kernel)
  | .tuple _ => kit_ty (a := "tuple") (b := "tuple") (r := true) (by decide +kernel)
  | .dict _ => kit_ty (a := "dict") (b := "tuple") (r := false) (by decide +kernel)
theorem len_cps (x : Str) : x.length = x.cps.toList.length := by
  rw [Array.length_toList]
  rfl
def chk (x sg : Str) : Bool := x.cps.toList.all fun c => decide (c ∈ sg.cps.toList)
def ofT (d : PyData) (sg : Str) (a b : Int) : Bool := match d with
  | .str x => decide (a ≤ (x.length : Int)) && decide ((x.length : Int) ≤ b) && chk x sg
  | _ => false
def St (d : PyData) : Prop := ∀ x, d = .str x → x.length ≤ 2000
def spTextOf (K : PySem.W.Frag) : Sp := fun vs H Q _ => ∃ (v : V) (d : PyData) (sg : Str) (a b : Int), vs = [v, .str sg, .int a, .int b] ∧ Dz K H v d ∧ (∀ x, d = .str x → x.length ≤ 2000) ∧ ∀ H', L2.Same H H' → Q (.bl (ofT d sg a b)) H'
def spSmall (K : PySem.W.Frag) : Sp := fun vs H Q _ => ∃ (v : V) (d : PyData) (a b : Int), vs = [v, .int a, .int b] ∧ Dz K H v d ∧ St d ∧ ∀ H', L2.Same H H' → Q (.bl (ofT d small a b)) H'
def spWord (K : PySem.W.Frag) : Sp := fun vs H Q _ => ∃ (v : V) (d : PyData), vs = [v] ∧ Dz K H v d ∧ St d ∧ ∀ H', L2.Same H H' → Q (.bl (ofT d small 1 8)) H'
def nn (d : PyData) : Bool := match wh d with
  | some i => decide (0 ≤ i)
  | none => false
def kyD (d : PyData) : Bool := match d with
  | .tuple [a, b] => ofT a small 1 8 && nn b
  | _ => false
def S2 (d : PyData) : Prop := ∀ ds, d = .tuple ds → ∀ e ∈ ds, St e
def spIsKey (K : PySem.W.Frag) : Sp := fun vs H Q _ => ∃ (v : V) (d : PyData), vs = [v] ∧ Dz K H v d ∧ S2 d ∧ ∀ H', L2.Same H H' → Q (.bl (kyD d)) H'
def rwD (d : PyData) : Bool := match d with
  | .tuple ds => decide ((1 : Int) ≤ ds.length) && decide ((ds.length : Int) ≤ 30) && ds.all kyD
  | _ => false
def S3 (d : PyData) : Prop := ∀ ds, d = .tuple ds → ds.length ≤ 1000 ∧ ∀ e ∈ ds, S2 e
def spAreRows (K : PySem.W.Frag) : Sp := fun vs H Q _ => ∃ (v : V) (d : PyData), vs = [v] ∧ Dz K H v d ∧ S3 d ∧ ∀ H', L2.Same H H' → Q (.bl (rwD d)) H'
theorem ok_whole {f : Addr} {fd : FuncData} {e : Ex} (D : Df K mg "is_whole" ["thing"] sIsWhole f fd) (T : Txt K mg C e) : FnOk P w K mg base CX0 1 f fd ["thing"] (spWhole K) := by
  refine D.fn.ok scIsWhole (fun vs H Q E h => ?_) (fun cdv A outer s H vs Q E hr h => ?_)
  · obtain ⟨v, d, rfl, h, q⟩ := h
    rfl
  · obtain ⟨v, d, rfl, h, q⟩ := h
    refine ⟨_, (pss_one (ps_ret (pe_and (pe_callB call_isi (by rfl) T.isi (by decide +kernel) (pa_cons (pv 0) (pa_cons (pe_bltn (v := .ty "int") (by rfl) T.int (by decide +kernel) rfl) pa_nil))) (pe_one (pe_not (pe_callB call_isi (by rfl) T.isi (by decide +kernel) (pa_cons (pv 0) (pa_cons (pe_bltn (v := .ty "bool") (by rfl) T.bool (by decide +kernel) rfl) pa_nil)))))))), ?_⟩
    cases d with
    | int i =>
      have ty : TyX K H v (.type "int") := h.ty
      refine ⟨_, rfl, _, _, _, _, true, rfl, .ty _, ty, kit_ty (by decide +kernel), true, rfl, iteT ?_⟩
      exact ⟨_, rfl, _, _, _, _, false, rfl, .ty _, ty, kit_ty (by decide +kernel), false, rfl, q⟩
    | bool b =>
      have ty : TyX K H v (.type "bool") := h.ty
      refine ⟨_, rfl, _, _, _, _, true, rfl, .ty _, ty, kit_ty (by decide +kernel), true, rfl, iteT ?_⟩
      exact ⟨_, rfl, _, _, _, _, true, rfl, .ty _, ty, kit_ty (by decide +kernel), true, rfl, q⟩
    | none  =>
      have ty : TyX K H v (.type "NoneType") := h.ty
      exact ⟨_, rfl, _, _, _, _, false, rfl, .ty _, ty, kit_ty (by decide +kernel), false, rfl, iteF q⟩
    | str x =>
      have ty : TyX K H v (.type "str") := h.ty
      exact ⟨_, rfl, _, _, _, _, false, rfl, .ty _, ty, kit_ty (by decide +kernel), false, rfl, iteF q⟩
    | list ds =>
      have ty : TyX K H v (.type "list") := h.ty
      exact ⟨_, rfl, _, _, _, _, false, rfl, .ty _, ty, kit_ty (by decide +kernel), false, rfl, iteF q⟩
    | tuple ds =>
      have ty : TyX K H v (.type "tuple") := h.ty
      exact ⟨_, rfl, _, _, _, _, false, rfl, .ty _, ty, kit_ty (by decide +kernel), false, rfl, iteF q⟩
    | dict ds =>
      have ty : TyX K H v (.type "dict") := h.ty
      exact ⟨_, rfl, _, _, _, _, false, rfl, .ty _, ty, kit_ty (by decide +kernel), false, rfl, iteF q⟩
theorem ok_of {f : Addr} {fd : FuncData} {e : Ex} (D : Df K mg "is_text_of" ["thing", "signs", "least", "most"] sIsTextOf f fd) (T : Txt K mg C e) : FnOk P w K mg base CX0 1 f fd ["thing", "signs", "least", "most"] (spTextOf K) := by
  refine D.fn.ok scIsTextOf (fun vs H Q E h => ?_) (fun cdv A outer s H vs Q E hr h => ?_)
  · obtain ⟨v, d, sg, a, b, rfl, hz, sz, q⟩ := h
    rfl
  · obtain ⟨v, d, sg, a, b, rfl, hz, sz, q⟩ := h
    refine ⟨_, (pss_cons (ps_if (PW.pt (pw_or (pt_not (pt_val (pe_callB call_isi (by rfl) T.isi (by decide +kernel) (pa_cons (pv 0) (pa_cons (pe_bltn (v := .ty "str") (by rfl) T.str (by decide +kernel) rfl) pa_nil))))) (pw_or1 (pt_not (pt_chain op_le op_le (pv 2) (pe_callB call_len_str (by rfl) T.len PySem.boot_len (pa_cons (pv 0) pa_nil)) (pv 3)))))) (pss_one (ps_ret pe_bl)) pss_nil)
      (pss_one (ps_ret (pe_callB (cr_all (by rfl)) (by rfl) T.all (by decide +kernel) (pa_cons (pe_lc (own := [("sign", 4)]) (g := gName 4) (tt := tYes) (by rfl) scIsTextOf.nd (pi_str (pv 0)) (blkOk_by (own := [("sign", 4)]) (N := ["thing", "signs", "least", "most", "sign"]) (sc := defScope sIsTextOf) (by decide +kernel)) (fun _ _ _ _ _ => pg_name (i := 4) scIsTextOf.nd rfl (.inl rfl)) (fun _ _ _ _ _ => pts_nil) (fun _ _ _ _ _ => pe_cmpR op_in_sign (pv 4) (pv 1) (by rfl))) pa_nil))))), ?_⟩
    refine ⟨_, rfl, _, _, _, _, isStr d, rfl, .ty _, hz.ty, z_str d, _, rfl, ?_⟩
    have qf : ofT d sg a b = false → Q (.bl false) H := fun e => by
      have w := q H (Same.refl H)
      rw [e] at w
      exact w
    cases hz with
    | str x =>
      have lx := sz x rfl
      have fit : x.length ≤ sizeLine := Nat.le_trans lx (by decide)
      refine iteF ⟨_, rfl, _, rfl, x, rfl, fit, a, _, rfl, rfl, _, rfl, ?_⟩
      have eo : ofT (.str x) sg a b = (decide (a ≤ (x.length : Int)) && decide ((x.length : Int) ≤ b) && chk x sg) := rfl
      cases c1 : decide (a ≤ (x.length : Int)) with
      | false => exact iteF ⟨_, rfl, iteT (qf (by rw [eo, c1]; rfl))⟩
      | true =>
        refine iteT ⟨_, rfl, _, b, rfl, rfl, _, rfl, ?_⟩
        cases c2 : decide ((x.length : Int) ≤ b) with
        | false => exact iteT (qf (by rw [eo, c1, c2]; rfl))
        | true =>
          refine iteF ⟨_, rfl, x, rfl, fun L nL => ?_⟩
          have sL := same_upd nL (o := .lst [])
          refine lc_it (walk_str (z := x)) (fun i Hi => ∃ bs : List Bool, bs = (x.cps.toList.take i).map (fun c => decide (c ∈ sg.cps.toList)) ∧ Hi L = some (.lst (bs.map V.bl)) ∧ L2.Same H Hi) ?_ (fun _ _ _ _ => trivial) ?_ ?_
          · exact ⟨[], rfl, upd_same, sL⟩
          · rintro i v Hi Hi' _ ⟨bs, eb, eL, sm⟩ ⟨rfl, c, ec, rfl⟩
            rw [← Array.getElem?_toList] at ec
            refine ⟨rfl, ?_⟩
            unfold tYes
            refine iteT ⟨_, rfl, _, rfl, c, sg, rfl, rfl, ?_⟩
            have il : i < x.cps.toList.length := (List.getElem?_eq_some_iff.mp ec).1
            refine ⟨_, eL, ?_, bs ++ [decide (c ∈ sg.cps.toList)], ?_, ?_, fun b o e => ?_⟩
            · rw [List.length_map, eb, List.length_map, List.length_take]
              refine Nat.lt_of_le_of_lt (show min i x.cps.toList.length ≤ 2000 from ?_) (by decide)
              rw [← len_cps]
              omega
            · rw [List.take_succ, ec, List.map_append, eb]
              rfl
            · rw [upd_same, List.map_append]
              rfl
            · rw [upd_ne (ne_of_none e nL)]
              exact sm _ _ e
          · rintro He ⟨bs, eb, eL, sm⟩
            refine ⟨L, _, rfl, SqL.of eL, ?_⟩
            have w := q He sm
            rw [eo, c1, c2] at w
            rw [eb, List.take_of_length_le (by rw [Array.length_toList]; exact Nat.le_refl _), List.all_map]
            exact w
    | _ => exact iteT (qf rfl)
theorem ok_small {f : Addr} {fd : FuncData} {e : Ex} (D : Df K mg "is_small_text" ["thing", "least", "most"] sIsSmallText f fd) (T : Txt K mg C e) (cO : Ca P w K mg base 1 "is_text_of" ["thing", "signs", "least", "most"] (spTextOf K)) : FnOk P w K mg base CX0 2 f fd ["thing", "least", "most"] (spSmall K) := by
  obtain ⟨_, gS⟩ := T.sm
  obtain ⟨_, gW⟩ := T.lw
  obtain ⟨_, gK⟩ := T.kp
  obtain ⟨_, gM⟩ := T.mr
  refine D.fn.ok scIsSmallText (fun vs H Q E h => ?_) (fun cdv A outer s H vs Q E hr h => ?_)
  · obtain ⟨v, d, a, b, rfl, hz, sz, q⟩ := h
    rfl
  · obtain ⟨v, d, a, b, rfl, hz, sz, q⟩ := h
    refine ⟨_, (pss_one (ps_ret (pe_ca cO hr (by decide) (by rfl) (pa_cons (pv 0) (pa_cons (pe_glob (v := .str small) (by rfl) gS ⟨_, rfl⟩) (pa_cons (pv 1) (pa_cons (pv 2) pa_nil))))))), ?_⟩
    exact ⟨_, rfl, _, rfl, _, rfl, v, d, small, a, b, rfl, hz, sz, q⟩
theorem ok_word8 {f : Addr} {fd : FuncData} {e : Ex} (D : Df K mg "is_word" ["thing"] sIsWord f fd) (T : Txt K mg C e) (cS : Ca P w K mg base 2 "is_small_text" ["thing", "least", "most"] (spSmall K)) : FnOk P w K mg base CX0 3 f fd ["thing"] (spWord K) := by
  obtain ⟨_, gS⟩ := T.sm
  obtain ⟨_, gW⟩ := T.lw
  obtain ⟨_, gK⟩ := T.kp
  obtain ⟨_, gM⟩ := T.mr
  refine D.fn.ok scIsWord (fun vs H Q E h => ?_) (fun cdv A outer s H vs Q E hr h => ?_)
  · obtain ⟨v, d, rfl, hz, sz, q⟩ := h
    rfl
  · obtain ⟨v, d, rfl, hz, sz, q⟩ := h
    refine ⟨_, (pss_one (ps_ret (pe_ca cS hr (by decide) (by rfl) (pa_cons (pv 0) (pa_cons pe_int (pa_cons (pe_glob (v := .int 8) (by rfl) gW ⟨_, rfl⟩) pa_nil)))))), ?_⟩
    exact ⟨_, rfl, v, d, 1, 8, rfl, hz, sz, q⟩
theorem dz_len {H : Hp} : ∀ {xs : List V} {ds : List PyData}, DzAll K H xs ds → xs.length = ds.length
  | [], _, .nil => rfl
  | _ :: _, _, .cons _ hr => by rw [List.length_cons, List.length_cons, dz_len hr]
theorem dz_get {H : Hp} : ∀ {xs : List V} {ds : List PyData} {i : Nat} {v : V}, DzAll K H xs ds → xs[i]? = some v → ∃ d, ds[i]? = some d ∧ Dz K H v d
  | [], _, _, _, .nil, e => by simp at e
  | _ :: _, _, 0, _, .cons hd _, e => by
    cases e
    exact ⟨_, rfl, hd⟩
  | _ :: _, _, i + 1, _, .cons _ hr, e => dz_get (i := i) hr e
theorem len3 {α : Type} {a b c : α} {r : List α} (e : ¬(!decide (V.int (((a :: b :: c :: r).length : Nat) : Int) = V.int 2)) = true) : (0 : Nat) ≠ 0 := fun _ => by
  have n : ¬ V.int (((a :: b :: c :: r).length : Nat) : Int) = V.int 2 := fun z => by
    have := V.int.inj z
    simp at this
    omega
  rw [decide_eq_false n] at e
  exact e rfl
theorem ok_key {f : Addr} {fd : FuncData} {e : Ex} (D : Df K mg "is_key" ["thing"] sIsKey f fd) (T : Txt K mg C e) (cWd : Ca P w K mg base 3 "is_word" ["thing"] (spWord K)) (cWh : Ca P w K mg base 1 "is_whole" ["thing"] (spWhole K)) : FnOk P w K mg base CX0 4 f fd ["thing"] (spIsKey K) := by
  obtain ⟨_, gS⟩ := T.sm
  obtain ⟨_, gW⟩ := T.lw
  obtain ⟨_, gK⟩ := T.kp
  obtain ⟨_, gM⟩ := T.mr
  refine D.fn.ok scIsKey (fun vs H Q E h => ?_) (fun cdv A outer s H vs Q E hr h => ?_)
  · obtain ⟨v, d, rfl, hz, s2, q⟩ := h
    rfl
  · obtain ⟨v, d, rfl, hz, s2, q⟩ := h
    refine ⟨_, (pss_cons (ps_if (PW.pt (pw_or (pt_not (pt_val (pe_callB call_isi (by rfl) T.isi (by decide +kernel) (pa_cons (pv 0) (pa_cons (pe_bltn (v := .ty "tuple") (by rfl) T.tuple (by decide +kernel) rfl) pa_nil))))) (pw_or1 (pt_cmpR op_ne (pe_callB call_len_seq (by rfl) T.len PySem.boot_len (pa_cons (pv 0) pa_nil)) (pe_glob (v := .int 2) (by rfl) gK ⟨_, rfl⟩) (nomark _))))) (pss_one (ps_ret pe_bl)) pss_nil)
      (pss_cons (ps_asg (pv 0) (pg_tup (by rfl) (pgs_cons (pg_name (i := 1) scIsKey.nd rfl (.inl rfl)) (pgs_cons (pg_name (i := 2) scIsKey.nd rfl (.inl rfl)) pgs_nil))))
      (pss_one (ps_ret (pe_and (pe_ca cWd hr (by decide) (by rfl) (pa_cons (pv 1) pa_nil)) (pe_and (pe_ca cWh hr (by decide) (by rfl) (pa_cons (pv 2) pa_nil)) (pe_one (pe_cmpR op_ge (pv 2) pe_int (nomark _))))))))), ?_⟩
    refine ⟨_, rfl, _, _, _, _, isTup d, rfl, .ty _, hz.ty, z_tup d, _, rfl, ?_⟩
    have qf : kyD d = false → Q (.bl false) H := fun e => by
      have w := q H (Same.refl H)
      rw [e] at w
      exact w
    cases hz with
    | @tup t xs ds et ra =>
      refine iteF ⟨_, rfl, t, xs, rfl, .inr (SqT.of et), rfl, _, rfl, ?_⟩
      match xs, ds, ra with
      | [], _, .nil => exact iteT (qf rfl)
      | [_], _, .cons _ .nil => exact iteT (qf rfl)
      | _ :: _ :: _ :: r, _, .cons _ (.cons _ (.cons _ _)) => exact ite2 (fun _ => qf rfl) (fun e => absurd rfl (len3 e))
      | [va, vb], _, .cons (d := a) ha (.cons (d := b) hb .nil) =>
        obtain ⟨ta, tb⟩ : St a ∧ St b := ⟨s2 _ rfl a (by simp), s2 _ rfl b (by simp)⟩
        refine iteF ⟨_, rfl, t, _, rfl, SqT.of et, rfl, _, _, rfl, _, _, rfl, rfl, ?_⟩
        refine ⟨_, rfl, va, a, rfl, ha, ta, fun H1 s1 => ⟨_, rfl, ?_⟩⟩
        cases c : ofT a small 1 8 with
        | false =>
          have w := q H1 s1
          rw [show kyD (.tuple [a, b]) = false by show (ofT a small 1 8 && nn b) = false; rw [c]; rfl] at w
          exact iteF w
        | true =>
          have w := fun H' sm => q H' sm
          rw [show kyD (.tuple [a, b]) = nn b by show (ofT a small 1 8 && nn b) = _; rw [c]; rfl] at w
          refine iteT ⟨_, rfl, vb, b, rfl, hb.same s1, _, rfl, ?_⟩
          unfold nn at w
          cases wb : wh b with
          | none =>
            rw [wb] at w
            exact iteF (w H1 s1)
          | some i =>
            have eb : vb = .int i := by
              cases hb <;> simp [wh] at wb
              rw [wb]
            subst eb
            rw [wb] at w
            exact iteT ⟨_, rfl, i, 0, rfl, rfl, w H1 s1⟩
    | _ => exact iteT (qf rfl)
theorem ok_rows {f : Addr} {fd : FuncData} {e : Ex} (D : Df K mg "are_rows" ["thing"] sAreRows f fd) (T : Txt K mg C e) (cK : Ca P w K mg base 4 "is_key" ["thing"] (spIsKey K)) : FnOk P w K mg base CX0 5 f fd ["thing"] (spAreRows K) := by
  obtain ⟨_, gS⟩ := T.sm
  obtain ⟨_, gW⟩ := T.lw
  obtain ⟨_, gK⟩ := T.kp
  obtain ⟨_, gM⟩ := T.mr
  refine D.fn.ok scAreRows (fun vs H Q E h => ?_) (fun cdv A outer s H vs Q E hr h => ?_)
  · obtain ⟨v, d, rfl, hz, s3, q⟩ := h
    rfl
  · obtain ⟨v, d, rfl, hz, s3, q⟩ := h
    refine ⟨_, (pss_one (ps_ret (pe_and (pe_callB call_isi (by rfl) T.isi (by decide +kernel) (pa_cons (pv 0) (pa_cons (pe_bltn (v := .ty "tuple") (by rfl) T.tuple (by decide +kernel) rfl) pa_nil))) (pe_and (pe_chain op_le op_le pe_int (pe_callB call_len_seq (by rfl) T.len PySem.boot_len (pa_cons (pv 0) pa_nil)) (pe_glob (v := .int 30) (by rfl) gM ⟨_, rfl⟩)) (pe_one (pe_callB (cr_all (by rfl)) (by rfl) T.all (by decide +kernel) (pa_cons (pe_lc (own := [("key", 1)]) (g := gName 1) (tt := tYes) (te := tCall (spIsKey K) [] E0 (tCons (tVar 1) tNil)) (by rfl) scAreRows.nd (pi_tup (pv 0)) (blkOk_by (own := [("key", 1)]) (N := ["thing", "key"]) (sc := defScope sAreRows) (by decide +kernel)) (fun _ _ _ _ _ => pg_name (i := 1) scAreRows.nd rfl (.inl rfl)) (fun _ _ _ _ _ => pts_nil) (fun _ _ _ _ _ => pe_ca cK hr (by decide) (by rfl) (pa_cons (pv 1) pa_nil))) pa_nil))))))), ?_⟩
    refine ⟨_, rfl, _, _, _, _, isTup d, rfl, .ty _, hz.ty, z_tup d, _, rfl, ?_⟩
    cases hz with
    | @tup t xs ds et ra =>
      obtain ⟨l1000, s2⟩ := s3 _ rfl
      have lx := dz_len ra
      refine iteT ⟨_, rfl, t, xs, rfl, .inr (SqT.of et), 1, _, rfl, rfl, _, rfl, ?_⟩
      have qz : ∀ H', L2.Same H H' → rwD (.tuple ds) = false → Q (.bl false) H' := fun H' sm e => by
        have w := q H' sm
        rw [e] at w
        exact w
      cases c1 : decide ((1 : Int) ≤ (xs.length : Int)) with
      | false => exact iteF ⟨_, rfl, iteF (qz H (Same.refl H) (by unfold rwD; dsimp only; rw [← lx, c1]; rfl))⟩
      | true =>
        refine iteT ⟨_, 30, rfl, rfl, _, rfl, ?_⟩
        cases c2 : decide ((xs.length : Int) ≤ 30) with
        | false => exact iteF (qz H (Same.refl H) (by unfold rwD; dsimp only; rw [← lx, c1, c2]; rfl))
        | true =>
          refine iteT ⟨_, rfl, t, rfl, ⟨_, SqT.of et⟩, fun D nD => ?_⟩
          refine lc_tup (K := K) (a := t) (xs := xs) (fun i Hi => L2.Same H Hi ∧ Hi D = some (.lst (((ds.map kyD).take i).map V.bl))) ⟨same_upd nD, upd_same⟩ (fun i Hi _ z => SqT.of (z.1 _ _ et)) ?_ ?_
          · rintro i x Hi hx ⟨sm, eD⟩
            have il : i < xs.length := (List.getElem?_eq_some_iff.mp hx).1
            obtain ⟨di, edi, dzi⟩ := dz_get ra hx
            refine ⟨rfl, ?_⟩
            unfold tYes
            refine iteT ⟨_, rfl, x, di, rfl, dzi.same sm, s2 di (List.mem_of_getElem? edi), fun H1 s1 => ⟨_, s1 _ _ eD, ?_, fun c o e => ?_, ?_⟩⟩
            · rw [List.length_map, List.length_take]
              exact Nat.lt_of_le_of_lt (Nat.le_trans (Nat.min_le_left _ _) (show i ≤ 1000 by omega)) (by decide)
            · rw [upd_ne (ne_of_none e nD)]
              exact s1 _ _ (sm _ _ e)
            · rw [upd_same, List.take_add_one, List.getElem?_map, edi, List.map_append]
              rfl
          · rintro H2 ⟨s2', eD⟩
            have tk : (ds.map kyD).take xs.length = ds.map kyD := List.take_of_length_le (by rw [List.length_map]; omega)
            rw [tk] at eD
            refine ⟨D, _, rfl, SqL.of eD, ?_⟩
            have w := q H2 s2'
            have er : rwD (.tuple ds) = (ds.map kyD).all id := by
              unfold rwD
              dsimp only
              rw [← lx, c1, c2, List.all_map]
              rfl
            rw [er] at w
            exact w
    | _ => exact iteF (q H (Same.refl H))
end
end K47
set_option Elab.async false
set_option linter.all false
set_option maxRecDepth 100000
set_option maxHeartbeats 4000000
set_option pp.maxSteps 400
set_option pp.deepTerms false
namespace K47
open PySem PySem.Spec PyProof.Rows L2
open Xk Az
section
variable {P : Program} {w : World} {K : PySem.W.Frag} {mg : Str → Option Value} {base : Heap} {C : Addr}
/-- a Disc -/
def discF (v r : V) : List (Str × V) := [("label", v), ("rows", r)]
def DiscAt (C : Addr) (H : Hp) (x : Addr) (v r : V) : Prop := ∃ dx, H x = some (.ins C dx (discF v r))
theorem DiscAt.same {C : Addr} {H H' : Hp} {x : Addr} {v r : V} (h : DiscAt C H x v r) (s : L2.Same H H') : DiscAt C H' x v r := by
  obtain ⟨dx, e⟩ := h
  exact ⟨dx, s _ _ e⟩
theorem f_l (v r : V) : (discF v r).lookup ("label" : Str) = some v := by unfold discF; rw [List.lookup_cons_self]
theorem f_r (v r : V) : (discF v r).lookup ("rows" : Str) = some r := by
  unfold discF
  rw [List.lookup_cons, show (("rows" : Str) == ("label" : Str)) = false by decide +kernel]
  exact List.lookup_cons_self
def spInit (K : PySem.W.Frag) (C : Addr) (e : Ex) : Sp := fun vs H Q E => ∃ (x dx : Addr) (v r : V) (d dr : PyData), vs = [.ref x, v, r] ∧ H x = some (.ins C dx []) ∧ Dz K H v d ∧ St d ∧ Dz K H r dr ∧ S3 dr ∧
  (ofT d small 1 8 = true → rwD dr = true → ∀ H' : Hp, (∀ b o, H b = some o → b ≠ x → H' b = some o) → DiscAt C H' x v r → Q .non H') ∧
  ((ofT d small 1 8 && rwD dr) = false → ∀ H', L2.Same H H' → E (.ref e.NoDisc) none H')
def spLen (K : PySem.W.Frag) (C : Addr) : Sp := fun vs H Q _ => ∃ (a : Addr) (v : V) (t : Addr) (xs : List V), vs = [.ref a] ∧ DiscAt C H a v (.ref t) ∧ H t = some (.tup xs) ∧ Q (.int (xs.length : Nat)) H
theorem ok_init {f : Addr} {fd : FuncData} {e : Ex} (F : Fun K "__init__" "Disc.__init__" sDiscInit f fd) (T : Txt K mg C e) (cWd : Ca P w K mg base 3 "is_word" ["thing"] (spWord K)) (cRw : Ca P w K mg base 5 "are_rows" ["thing"] (spAreRows K)) : FnOk P w K mg base (L2.CX P w) 6 f fd ["self", "label", "rows"] (spInit K C e) := by
  refine F.okX scDiscInit (fun vs H Q E h => ?_) (fun cdv A outer s H vs Q E hr h => ?_)
  · obtain ⟨x, dx, v, r, d, dr, rfl, hx, hd, sd, hr2, sr, q1, q2⟩ := h
    rfl
  · obtain ⟨x, dx, v, r, d, dr, rfl, hx, hd, sd, hr2, sr, q1, q2⟩ := h
    refine ⟨_, (pss_cons (ps_if (pt_not (pt_val (pe_ca cWd hr (by decide) (by rfl) (pa_cons (pv 1) pa_nil)))) (pss_one (ps_raise rfl (takes_of rfl rfl rfl rfl) (pmk_own PySem.F.excBase_ValueError T.xP T.mNoDisc T.kP (raises_own T.bP T.tP) (by rfl)))) pss_nil)
      (pss_cons (ps_if (pt_not (pt_val (pe_ca cRw hr (by decide) (by rfl) (pa_cons (pv 2) pa_nil)))) (pss_one (ps_raise rfl (takes_of rfl rfl rfl rfl) (pmk_own PySem.F.excBase_ValueError T.xP T.mNoDisc T.kP (raises_own T.bP T.tP) (by rfl)))) pss_nil)
      (pss_cons (ps_fld (pv 0) (pv 1) rfl)
      (pss_one (ps_fld (pv 0) (pv 2) rfl))))), ?_⟩
    refine ⟨_, rfl, v, d, rfl, hd, sd, fun H1 s1 => ⟨_, rfl, ?_⟩⟩
    cases c1 : ofT d small 1 8 with
    | false => exact iteT (q2 (by rw [c1]; rfl) H1 s1)
    | true =>
      refine iteF ⟨_, rfl, r, dr, rfl, hr2.same s1, sr, fun H2 s2 => ⟨_, rfl, ?_⟩⟩
      have s12 := s1.trans s2
      cases c2 : rwD dr with
      | false => exact iteT (q2 (by rw [c1, c2]; rfl) H2 s12)
      | true =>
        refine iteF ?_
        refine ⟨_, rfl, _, rfl, x, C, dx, [], rfl, s12 _ _ hx, T.cl, T.nL, (by decide), ?_⟩
        exact ⟨_, rfl, _, rfl, x, C, dx, _, rfl, upd_same, T.cl, T.nR, (by show 1 < 1000; decide), q1 c1 c2 _ (fun b o e n => by rw [upd_ne n, upd_ne n]; exact s12 _ _ e) ⟨dx, upd_same⟩⟩
theorem ok_len {f : Addr} {fd : FuncData} {e : Ex} (F : Fun K "__len__" "Disc.__len__" sDiscLen f fd) (T : Txt K mg C e) : FnOk P w K mg base CX0 1 f fd ["self"] (spLen K C) := by
  refine F.ok scDiscLen (fun vs H Q E h => ?_) (fun cdv A outer s H vs Q E hr h => ?_)
  · obtain ⟨a, v, t, xs, rfl, ⟨dx, ha⟩, et, q⟩ := h
    rfl
  · obtain ⟨a, v, t, xs, rfl, ⟨dx, ha⟩, et, q⟩ := h
    refine ⟨_, (pss_one (ps_ret (pe_callB call_len_seq (by rfl) T.len PySem.boot_len (pa_cons (pe_fld (pv 0) rfl) pa_nil)))), ?_⟩
    exact ⟨_, rfl, a, C, dx, _, _, rfl, ha, T.cl, T.nR, f_r _ _, t, xs, rfl, .inr (SqT.of et), q⟩
end
end K47
set_option Elab.async false
set_option linter.all false
set_option maxRecDepth 100000
set_option maxHeartbeats 4000000
set_option pp.maxSteps 400
set_option pp.deepTerms false
namespace K47
open PySem PySem.Spec PyProof.Rows L2
open Xk Az
section
variable {P : Program} {w : World} {K : PySem.W.Frag} {mg : Str → Option Value} {base : Heap} {C : Addr}
/-- house and number -/
abbrev Ky := Str × Int
def kyP (k : Ky) : PyData := .tuple [.str k.1, .int k.2]
def rwP (ks : List Ky) : PyData := .tuple (ks.map kyP)
/-- rows of a disc, where they stand -/
def kyT (k : Ky) : Str := k.1 ++ " " ++ Str.ofString (toString k.2)
def kysT (ks : List Ky) : Str := Txt.join ", " (ks.map kyT)
structure GoodK (k : Ky) : Prop where
  w1 : 1 ≤ k.1.length
  w8 : k.1.length ≤ 8
  ws : ∀ c ∈ k.1.cps.toList, c ∈ small.cps.toList
  n0 : 0 ≤ k.2
  n1 : k.2 ≤ 10 ^ 30
def Rws (K : PySem.W.Frag) (H : Hp) (v : V) (ks : List Ky) : Prop := Dz K H v (rwP ks) ∧ (∀ k ∈ ks, GoodK k) ∧ 1 ≤ ks.length ∧ ks.length ≤ 31
theorem Rws.same {H H' : Hp} {v : V} {ks : List Ky} (h : Rws K H v ks) (s : L2.Same H H') : Rws K H' v ks := ⟨h.1.same s, h.2⟩
theorem rws_tup {H : Hp} {v : V} {ks : List Ky} (h : Rws K H v ks) : ∃ t xs, v = .ref t ∧ H t = some (.tup xs) ∧ DzAll K H xs (ks.map kyP) := by
  obtain ⟨z, _⟩ := h
  unfold rwP at z
  cases z with
  | tup e r => exact ⟨_, _, rfl, e, r⟩
theorem dz_key {H : Hp} {v : V} {k : Ky} (h : Dz K H v (kyP k)) : ∃ t, v = .ref t ∧ H t = some (.tup [.str k.1, .int k.2]) := by
  unfold kyP at h
  cases h with
  | tup e r =>
    cases r with
    | cons h1 r =>
      cases r with
      | cons h2 r =>
        cases r
        cases h1
        cases h2
        exact ⟨_, rfl, e⟩
def spShowKey : Sp := fun vs H Q _ => ∃ (t : Addr) (k : Ky), vs = [.ref t] ∧ H t = some (.tup [.str k.1, .int k.2]) ∧ GoodK k ∧ Q (.str (kyT k)) H
def spShowKeys (K : PySem.W.Frag) : Sp := fun vs H Q _ => ∃ (v : V) (ks : List Ky), vs = [v] ∧ Rws K H v ks ∧ ∀ H', L2.Same H H' → Q (.str (kysT ks)) H'
theorem fitN {n : Nat} (h : n ≤ 100000) : n ≤ sizeLine := Nat.le_trans h (by decide)
theorem lg {i : Int} (h0 : -(10 ^ 31) < i) (h1 : i < 10 ^ 31) : i.natAbs.log2 < 1920 := by
  have h2 : i.natAbs < 2 ^ 110 := by
    have : (10 : Int) ^ 31 < 2 ^ 110 := by decide
    omega
  exact Nat.lt_of_lt_of_le (PySem.Flt.log2_lt_of (by decide) h2) (by decide)
theorem big39 : (10 : Int) ^ 30 < 10 ^ 39 := by decide
theorem tx_le {i : Int} (h0 : -(10 ^ 30) ≤ i) (h1 : i ≤ 10 ^ 30) : (Str.ofString (toString i)).length ≤ 40 := by
  have b := big39
  cases i with
  | ofNat m =>
    have c : (Int.ofNat m) = (m : Int) := rfl
    exact Nat.le_trans (toString_length_le (v := (m : Int)) (by omega) (k := 39) (by decide) (by omega)) (by decide)
  | negSucc m =>
    have c : Int.negSucc m = -((m : Int) + 1) := rfl
    have z := toString_length_le (v := ((m + 1 : Nat) : Int)) (by omega) (k := 39) (by decide) (by omega)
    rw [PySem.ofString_length] at z ⊢
    have z2 : (toString (m + 1)).length ≤ 39 := z
    show ("-" ++ toString (m + 1)).length ≤ 40
    rw [String.length_append]
    have : "-".length = 1 := rfl
    omega
theorem kyT_len {k : Ky} (h : GoodK k) : (kyT k).length ≤ 60 := by
  unfold kyT
  rw [strLen_append, strLen_append, show (" " : Str).length = 1 by decide +kernel]
  have := h.w8
  have := tx_le (i := k.2) (by have := h.n0; omega) h.n1
  omega
theorem ok_sk {f : Addr} {fd : FuncData} {e : Ex} (D : Df K mg "show_key" ["key"] sShowKey f fd) (T : Txt K mg C e) : FnOk P w K mg base CX0 1 f fd ["key"] spShowKey := by
  refine D.fn.ok scShowKey (fun vs H Q E h => ?_) (fun cdv A outer s H vs Q E hr h => ?_)
  · obtain ⟨t, k, rfl, et, gk, q⟩ := h
    rfl
  · obtain ⟨t, k, rfl, et, gk, q⟩ := h
    refine ⟨_, (pss_cons (ps_asg (pv 0) (pg_tup (by rfl) (pgs_cons (pg_name (i := 1) scShowKey.nd rfl (.inl rfl)) (pgs_cons (pg_name (i := 2) scShowKey.nd rfl (.inl rfl)) pgs_nil))))
      (pss_one (ps_ret (pe_joined (.cons (pe_fmt (pv 1)) (.cons pe_str (.cons (pe_fmt (pv 2)) .nil))))))), ?_⟩
    refine ⟨_, rfl, t, _, rfl, SqT.of et, rfl, _, _, rfl, _, _, rfl, rfl, ?_⟩
    have e0 : Str.empty.length = 0 := rfl
    have e1 : (" " : Str).length = 1 := by decide +kernel
    have lw := gk.w8
    have ln := tx_le (i := k.2) (by have := gk.n0; omega) gk.n1
    refine ⟨_, rfl, .inl ⟨_, rfl, fitN (by omega), _, rfl, fitN ?_, _, rfl, fitN ?_, _, rfl, .inr ⟨_, rfl, lg (by have := gk.n0; omega) (by have := gk.n1; omega), _, rfl, fitN ?_, ?_⟩⟩⟩
    · rw [strLen_append, e0]; omega
    · rw [strLen_append, strLen_append, e0, e1]; omega
    · rw [strLen_append, strLen_append, strLen_append, e0, e1]
      have : (toString k.2 : Str).length = (Str.ofString (toString k.2)).length := rfl
      omega
    · show Q (V.str (Str.empty ++ k.1 ++ " " ++ Str.ofString (toString k.2))) H
      rw [Str.empty_append]
      exact q
theorem sum_le {ys : List Str} {b : Nat} (h : ∀ y ∈ ys, y.length ≤ b) : (ys.map (·.length)).sum ≤ ys.length * b := by
  induction ys with
  | nil => simp
  | cons y r ih =>
    rw [List.map_cons, List.sum_cons, List.length_cons, Nat.add_mul]
    have := h y List.mem_cons_self
    have := ih fun z hz => h z (List.mem_cons_of_mem _ hz)
    omega
theorem ky_sum {ks : List Ky} (h : ∀ k ∈ ks, GoodK k) (l : ks.length ≤ 31) : ((ks.map kyT).map (·.length)).sum + (ks.map kyT).length * (", " : Str).length ≤ 2000 := by
  have a := sum_le (ys := ks.map kyT) (b := 60) fun y hy => by
    obtain ⟨k, hk, rfl⟩ := List.mem_map.mp hy
    exact kyT_len (h k hk)
  rw [show (", " : Str).length = 2 by decide +kernel]
  rw [List.length_map] at a ⊢
  omega
theorem kysT_len {ks : List Ky} (h : ∀ k ∈ ks, GoodK k) (l : ks.length ≤ 31) : (kysT ks).length ≤ 2000 := by
  unfold kysT
  rw [TL.join_eq]
  exact Nat.le_trans (PySem.StrLaws.join_length_le _ _) (ky_sum h l)
theorem ok_sks {f : Addr} {fd : FuncData} {e : Ex} (D : Df K mg "show_keys" ["keys"] sShowKeys f fd) (T : Txt K mg C e) (cSk : Ca P w K mg base 1 "show_key" ["key"] spShowKey) : FnOk P w K mg base CX0 2 f fd ["keys"] (spShowKeys K) := by
  refine D.fn.ok scShowKeys (fun vs H Q E h => ?_) (fun cdv A outer s H vs Q E hr h => ?_)
  · obtain ⟨v, ks, rfl, hk, q⟩ := h
    rfl
  · obtain ⟨v, ks, rfl, hk, q⟩ := h
    refine ⟨_, (pss_one (ps_ret (pe_m1 F.slot_str_join F.type_str_join mt_join pe_str (pe_lc (own := [("key", 1)]) (g := gName 1) (tt := tYes) (by rfl) scShowKeys.nd (pi_tup (pv 0)) (blkOk_by (own := [("key", 1)]) (N := ["keys", "key"]) (sc := defScope sShowKeys) (by decide +kernel)) (fun _ _ _ _ _ => pg_name (i := 1) scShowKeys.nd rfl (.inl rfl)) (fun _ _ _ _ _ => pts_nil) (fun _ _ _ _ _ => pe_ca cSk hr (by decide) (by rfl) (pa_cons (pv 1) pa_nil)))))), ?_⟩
    obtain ⟨t, xs, rfl, et, ra⟩ := rws_tup hk
    obtain ⟨_, gk, k1, k30⟩ := hk
    have lx := dz_len ra
    rw [List.length_map] at lx
    refine ⟨⟨_, rfl⟩, _, rfl, t, rfl, ⟨_, SqT.of et⟩, fun D nD => ?_⟩
    refine lc_tup (K := K) (a := t) (xs := xs) (fun i Hi => L2.Same H Hi ∧ Hi D = some (.lst (((ks.map kyT).take i).map V.str))) ⟨same_upd nD, upd_same⟩ (fun i Hi _ z => SqT.of (z.1 _ _ et)) ?_ ?_
    · rintro i x Hi hx ⟨sm, eD⟩
      have il : i < xs.length := (List.getElem?_eq_some_iff.mp hx).1
      obtain ⟨di, edi, dzi⟩ := dz_get ra hx
      rw [List.getElem?_map] at edi
      obtain ⟨k, ek, rfl⟩ := Option.map_eq_some_iff.mp edi
      obtain ⟨tk, rfl, etk⟩ := dz_key dzi
      refine ⟨rfl, ?_⟩
      unfold tYes
      refine iteT ⟨_, rfl, tk, k, rfl, sm _ _ etk, gk k (List.mem_of_getElem? ek), _, eD, ?_, fun c o e => ?_, ?_⟩
      · rw [List.length_map, List.length_take]
        exact Nat.lt_of_le_of_lt (Nat.le_trans (Nat.min_le_left _ _) (show i ≤ 1000 by omega)) (by decide)
      · rw [upd_ne (ne_of_none e nD)]
        exact sm _ _ e
      · rw [upd_same, List.take_add_one, List.getElem?_map, ek, List.map_append]
        rfl
    · rintro H2 ⟨s2, eD⟩
      have tk : (ks.map kyT).take xs.length = ks.map kyT := List.take_of_length_le (by rw [List.length_map]; omega)
      rw [tk] at eD
      exact ⟨_, D, ks.map kyT, rfl, rfl, .inl (SqL.of eD), Nat.le_trans (ky_sum gk k30) (by decide), q H2 s2⟩
end
end K47
set_option Elab.async false
set_option linter.all false
set_option maxRecDepth 100000
set_option maxHeartbeats 4000000
set_option pp.maxSteps 400
set_option pp.deepTerms false
namespace K47
open PySem PySem.Spec PyProof.Rows L2
open Xk Az
section
variable {P : Program} {w : World} {K : PySem.W.Frag} {mg : Str → Option Value} {base : Heap} {C : Addr}
def discT (x : Str) (ks : List Ky) : Str := "disc " ++ x ++ ": " ++ kysT ks
def discR (x : Str) (n : Nat) : Str := "Disc('" ++ x ++ "', " ++ Str.ofString (toString (n : Int)) ++ ")"
def spStr (K : PySem.W.Frag) (C : Addr) : Sp := fun vs H Q _ => ∃ (a : Addr) (x : Str) (r : V) (ks : List Ky), vs = [.ref a] ∧ DiscAt C H a (.str x) r ∧ x.length ≤ 8 ∧ Rws K H r ks ∧ ∀ H', L2.Same H H' → Q (.str (discT x ks)) H'
def spRepr (K : PySem.W.Frag) (C : Addr) : Sp := fun vs H Q _ => ∃ (a : Addr) (x : Str) (t : Addr) (xs : List V), vs = [.ref a] ∧ DiscAt C H a (.str x) (.ref t) ∧ x.length ≤ 8 ∧ H t = some (.tup xs) ∧ xs.length ≤ 1000 ∧ Q (.str (discR x xs.length)) H
/-- whether two discs are the same -/
def spEq (K : PySem.W.Frag) (C : Addr) : Sp := fun vs H Q _ => ∃ (a : Addr) (o : V) (x : Str) (r : V) (ks : List Ky), vs = [.ref a, o] ∧ DiscAt C H a (.str x) r ∧ Rws K H r ks ∧
  ((∃ t, Odd H o t ∧ Q (.bl false) H) ∨ ∃ (b : Addr) (x2 : Str) (r2 : V) (ks2 : List Ky), o = .ref b ∧ DiscAt C H b (.str x2) r2 ∧ Rws K H r2 ks2 ∧ Q (.bl (decide (x = x2) && PyData.eqv (rwP ks) (rwP ks2))) H)
theorem asc_small : ∀ c ∈ small.cps.toList, c < 128 := by decide +kernel
theorem ky_dp {H : Hp} : ∀ {xs : List V} {ks : List Ky}, DzAll K H xs (ks.map kyP) → DpAll K H xs (ks.map kyP)
  | [], [], .nil => .nil
  | _ :: _, k :: ks, .cons h r => by
    obtain ⟨t, rfl, e⟩ := dz_key h
    exact .cons (.tup (SqT.of e) (.cons (.str k.1) (.cons (.int k.2) .nil))) (ky_dp r)
theorem rws_dp {H : Hp} {v : V} {ks : List Ky} (h : Rws K H v ks) : Dp K H v (rwP ks) := by
  obtain ⟨t, xs, rfl, e, r⟩ := rws_tup h
  exact .tup (SqT.of e) (ky_dp r)
theorem strOk_w {k : Ky} (h : GoodK k) : PyData.strOk k.1 = true := by
  unfold PyData.strOk
  rw [← Array.all_toList, List.all_eq_true]
  intro c hc
  exact decide_eq_true (Nat.lt_of_lt_of_le (asc_small c (h.ws c hc)) (by decide))
theorem ky_lay : ∀ {ks : List Ky}, (∀ k ∈ ks, GoodK k) → PyData.canLayAll0 (ks.map kyP) = true ∧ PyData.depthAll (ks.map kyP) ≤ 3
  | [], _ => ⟨by simp [PyData.canLayAll0], by simp [PyData.depthAll]⟩
  | k :: ks, h => by
    obtain ⟨a, b⟩ := ky_lay (ks := ks) fun z hz => h z (List.mem_cons_of_mem _ hz)
    have w := strOk_w (h k List.mem_cons_self)
    constructor
    · simp [kyP, PyData.canLayAll0, PyData.canLay0, w, a]
    · simp only [List.map_cons, PyData.depthAll, kyP, PyData.depth]
      omega
theorem rws_shaped {ks : List Ky} (h : ∀ k ∈ ks, GoodK k) : SeqAt.shaped (rwP ks) = true := by
  obtain ⟨a, b⟩ := ky_lay h
  unfold SeqAt.shaped rwP
  have h1 : (PyData.tuple (ks.map kyP)).canLay0 = true := by simp only [PyData.canLay0]; exact a
  have h2 : (PyData.tuple (ks.map kyP)).depth ≤ 64 := by simp only [PyData.depth]; omega
  rw [h1, decide_eq_true h2]
  rfl
theorem ok_str {f : Addr} {fd : FuncData} {e : Ex} (F : Fun K "__str__" "Disc.__str__" sDiscStr f fd) (T : Txt K mg C e) (cSks : Ca P w K mg base 2 "show_keys" ["keys"] (spShowKeys K)) : FnOk P w K mg base CX0 3 f fd ["self"] (spStr K C) := by
  refine F.ok scDiscStr (fun vs H Q E h => ?_) (fun cdv A outer s H vs Q E hr h => ?_)
  · obtain ⟨a, x, r, ks, rfl, ⟨dx, ha⟩, lx, hk, q⟩ := h
    rfl
  · obtain ⟨a, x, r, ks, rfl, ⟨dx, ha⟩, lx, hk, q⟩ := h
    refine ⟨_, (pss_one (ps_ret (pe_joined (.cons pe_str (.cons (pe_fmt (pe_fld (pv 0) rfl)) (.cons pe_str (.cons (pe_fmt (pe_ca cSks hr (by decide) (by rfl) (pa_cons (pe_fld (pv 0) rfl) pa_nil))) .nil))))))), ?_⟩
    have e0 : Str.empty.length = 0 := rfl
    have e1 : ("disc " : Str).length = 5 := by decide +kernel
    have e2 : (": " : Str).length = 2 := by decide +kernel
    have lk := kysT_len hk.2.1 hk.2.2.2
    refine ⟨_, rfl, fitN ?_, _, rfl, a, C, dx, _, _, rfl, ha, T.cl, T.nL, f_l _ _, .inl ⟨_, rfl, fitN (by omega), _, rfl, fitN ?_, _, rfl, fitN ?_, _, rfl, a, C, dx, _, _, rfl, ha, T.cl, T.nR, f_r _ _, r, ks, rfl, hk, fun H1 s1 => .inl ⟨_, rfl, fitN (by omega), _, rfl, fitN ?_, ?_⟩⟩⟩
    · rw [strLen_append, e0, e1]; decide
    · rw [strLen_append, strLen_append, e0, e1]; omega
    · rw [strLen_append, strLen_append, strLen_append, e0, e1, e2]; omega
    · rw [strLen_append, strLen_append, strLen_append, strLen_append, e0, e1, e2]; omega
    · show Q (V.str (Str.empty ++ "disc " ++ x ++ ": " ++ kysT ks)) H1
      rw [Str.empty_append]
      exact q H1 s1
theorem ok_repr {f : Addr} {fd : FuncData} {e : Ex} (F : Fun K "__repr__" "Disc.__repr__" sDiscRepr f fd) (T : Txt K mg C e) : FnOk P w K mg base CX0 1 f fd ["self"] (spRepr K C) := by
  refine F.ok scDiscRepr (fun vs H Q E h => ?_) (fun cdv A outer s H vs Q E hr h => ?_)
  · obtain ⟨a, x, t, xs, rfl, ⟨dx, ha⟩, lx, et, l1000, q⟩ := h
    rfl
  · obtain ⟨a, x, t, xs, rfl, ⟨dx, ha⟩, lx, et, l1000, q⟩ := h
    refine ⟨_, (pss_one (ps_ret (pe_joined (.cons pe_str (.cons (pe_fmt (pe_fld (pv 0) rfl)) (.cons pe_str (.cons (pe_fmt (pe_callB call_len_seq (by rfl) T.len PySem.boot_len (pa_cons (pe_fld (pv 0) rfl) pa_nil))) (.cons pe_str .nil)))))))), ?_⟩
    have e0 : Str.empty.length = 0 := rfl
    have e1 : ("Disc('" : Str).length = 6 := by decide +kernel
    have e2 : ("', " : Str).length = 3 := by decide +kernel
    have e3 : (")" : Str).length = 1 := by decide +kernel
    have ln := tx_le (i := (xs.length : Int)) (by omega) (by omega)
    have ln2 : (toString (xs.length : Int) : Str).length = (Str.ofString (toString (xs.length : Int))).length := rfl
    refine ⟨_, rfl, fitN ?_, _, rfl, a, C, dx, _, _, rfl, ha, T.cl, T.nL, f_l _ _, .inl ⟨_, rfl, fitN (by omega), _, rfl, fitN ?_, _, rfl, fitN ?_, _, rfl, a, C, dx, _, _, rfl, ha, T.cl, T.nR, f_r _ _, t, xs, rfl, .inr (SqT.of et), .inr ⟨_, rfl, lg (by omega) (by omega), _, rfl, fitN ?_, _, rfl, fitN ?_, ?_⟩⟩⟩
    · rw [strLen_append, e0, e1]; decide
    · rw [strLen_append, strLen_append, e0, e1]; omega
    · rw [strLen_append, strLen_append, strLen_append, e0, e1, e2]; omega
    · rw [strLen_append, strLen_append, strLen_append, strLen_append, e0, e1, e2]; omega
    · rw [strLen_append, strLen_append, strLen_append, strLen_append, strLen_append, e0, e1, e2, e3]; omega
    · show Q (V.str (Str.empty ++ "Disc('" ++ x ++ "', " ++ Str.ofString (toString (xs.length : Int)) ++ ")")) H
      rw [Str.empty_append]
      exact q
theorem ok_eq {f : Addr} {fd : FuncData} {e : Ex} (F : Fun K "__eq__" "Disc.__eq__" sDiscEq f fd) (T : Txt K mg C e) (Z : KitC K C) : FnOk P w K mg base CX0 1 f fd ["self", "other"] (spEq K C) := by
  refine F.ok scDiscEq (fun vs H Q E h => ?_) (fun cdv A outer s H vs Q E hr h => ?_)
  · obtain ⟨a, o, x, r, ks, rfl, ⟨dx, ha⟩, hk, q⟩ := h
    rfl
  · obtain ⟨a, o, x, r, ks, rfl, ⟨dx, ha⟩, hk, q⟩ := h
    refine ⟨_, (pss_one (ps_ret (pe_and (pe_callB call_isi (by rfl) T.isi (by decide +kernel) (pa_cons (pv 1) (pa_cons (pe_glob (v := .ref C) (by rfl) T.mgC rfl) pa_nil))) (pe_and (pe_cmpR op_eq (pe_fld (pv 0) rfl) (pe_fld (pv 1) rfl) (nomark _)) (pe_one (pe_cmpR (op_eqD hr.units) (pe_fld (pv 0) rfl) (pe_fld (pv 1) rfl) (nomark _))))))), ?_⟩
    rcases q with ⟨t, ho, q⟩ | ⟨b, x2, r2, ks2, rfl, ⟨dz, hb⟩, hk2, q⟩
    · exact ⟨_, rfl, _, _, _, _, false, rfl, .own C, ho.ty, Z.no t ho.one, false, rfl, iteF q⟩
    · refine ⟨_, rfl, _, _, _, _, true, rfl, .own C, .base (.ins hb T.cl T.ins.ha T.ins.hn T.ins.htk T.ins.hm), Z.me, true, rfl, iteT ?_⟩
      refine ⟨_, rfl, a, C, dx, _, _, rfl, ha, T.cl, T.nL, f_l _ _, _, rfl, b, C, dz, _, _, rfl, hb, T.cl, T.nL, f_l _ _, rfl, _, rfl, ?_⟩
      have es : decide (V.str x = V.str x2) = decide (x = x2) := decide_eq_decide.mpr ⟨fun z => V.str.inj z, fun z => by rw [z]⟩
      rw [es]
      cases c : decide (x = x2) with
      | false =>
        rw [c] at q
        exact iteF q
      | true =>
        rw [c, Bool.true_and] at q
        exact iteT ⟨_, rfl, a, C, dx, _, _, rfl, ha, T.cl, T.nR, f_r _ _, _, rfl, b, C, dz, _, _, rfl, hb, T.cl, T.nR, f_r _ _, _, _, rws_dp hk, rws_dp hk2, rws_shaped hk.2.1, rws_shaped hk2.2.1, q⟩
end
end K47
set_option Elab.async false
set_option linter.all false
set_option maxRecDepth 100000
set_option maxHeartbeats 4000000
set_option pp.maxSteps 400
set_option pp.deepTerms false
namespace K47
open PySem PySem.Spec PyProof.Rows L2
open Xk Az
section
variable {P : Program} {w : World} {K : PySem.W.Frag} {mg : Str → Option Value} {base : Heap} {C : Addr}
abbrev far : Int := 1000000
def spHand (K : PySem.W.Frag) : Sp := fun vs H Q _ => ∃ (a : Addr) (k : Int) (ns : List Int), vs = [.ref a, .int k] ∧ 0 ≤ k ∧ k ≤ 100 ∧ SqL K H a (ns.map V.int) ∧
  ∀ p g m, H p = none → 0 ≤ g → 0 ≤ m → m < 2305843010000000000 → Q (.ref p) (upd H p (.lst [.int g, .int m, .int 0]))
def spTake : Sp := fun vs H Q _ => ∃ (h : Addr) (many n : Int), vs = [.ref h, .int many] ∧ 0 < many ∧ many < 10 ^ 30 ∧ Hand n H h ∧ n ≤ far ∧
  ∀ d H', 0 ≤ d → d < many → Hand (n + 1) H' h → But h H H' → Q (.int d) H'
def spPick : Sp := fun vs H Q _ => ∃ (h : Addr) (n : Int) (s : V), vs = [.ref h, s] ∧ Hand n H h ∧ n ≤ far ∧
  ((∃ (l : Addr) (xs : List V), s = .ref l ∧ H l = some (.lst xs) ∧ l ≠ h ∧ xs ≠ [] ∧ xs.length < 1000 ∧ ∀ v H', v ∈ xs → Hand (n + 1) H' h → But h H H' → Q v H') ∨
   (∃ x : Str, s = .str x ∧ 0 < x.length ∧ x.length < 1000 ∧ ∀ c H', c ∈ x.cps.toList → Hand (n + 1) H' h → But h H H' → Q (.str ⟨#[c]⟩) H'))
theorem wide30 {g many : Int} (m1 : 0 < many) (m2 : many < 10 ^ 30) : CDivW g many := by
  have h : (10 : Int) ^ 30 < 2 ^ 110 := by decide
  exact wide_div (b := 110) m1 (by omega) (by decide) (by decide)
theorem lt30 {n : Nat} (h : n < 1000) : (n : Int) < 10 ^ 30 := Int.lt_trans (Int.ofNat_lt.mpr h) (by decide)
theorem ok_hand {f : Addr} {fd : FuncData} {e : Ex} (D : Df K mg "_law_hand" ["_law_script", "_law_k"] sHand f fd) (T : Txt K mg C e) : FnOk P w K mg base CX0 1 f fd ["_law_script", "_law_k"] (spHand K) := by
  refine D.fn.ok scHand (fun vs H Q E h => ?_) (fun cdv A outer s H vs Q E hr h => ?_)
  · obtain ⟨a, k, ns, rfl, hk, hk2, hS, q⟩ := h
    rfl
  · obtain ⟨a, k, ns, rfl, hk, hk2, hS, q⟩ := h
    refine ⟨_, (pss_cons (ps_set (i := 2) scHand.nd rfl (.inl rfl) pe_int)
      (pss_cons (ps_if (pt_cmpR op_lt (pv 1) (pe_callB call_len_seq (by rfl) T.len PySem.boot_len (pa_cons (pv 0) pa_nil)) (nomark _)) (pss_one (ps_set (i := 2) scHand.nd rfl (.inl rfl) (pe_ix ix_list (pv 0) (pv 1) (fun _ _ => rfl)))) pss_nil)
      (pss_cons (ps_set (i := 3) scHand.nd rfl (.inl rfl) (pe_callB call_abs (by rfl) T.abs (by decide +kernel) (pa_cons (pv 2) pa_nil)))
      (pss_cons (ps_if (pt_cmpR op_lt (pv 3) (pe_op op_pow pe_int pe_int) (nomark _)) (pss_one (ps_set (i := 3) scHand.nd rfl (.inl rfl) pe_int)) pss_nil)
      (pss_one (ps_ret (pe_lst (pa_cons (pv 3) (pa_cons (pe_op op_add (pe_op op_add (pe_op op_mod (pv 2) pe_int) (pe_op op_mul pe_int (pv 1))) pe_int) (pa_cons pe_int pa_nil)))))))))), ?_⟩
    refine ⟨_, rfl, _, rfl, a, _, rfl, .inl hS, k, _, rfl, rfl, _, rfl, ?_⟩
    refine ite2 (fun e => ?_) (fun e => ?_)
    · have hlt : k < ((ns.map V.int).length : Int) := of_decide_eq_true e
      rw [List.length_map] at hlt
      obtain ⟨j, rfl⟩ : ∃ j : Nat, k = (j : Int) := ⟨k.toNat, by omega⟩
      have hj : j < ns.length := by omega
      have hat : atI (ns.map V.int) ((j : Nat) : Int) = some (.int ns[j]) := atI_nat (by rw [List.getElem?_map, List.getElem?_eq_getElem hj]; rfl)
      refine ⟨_, rfl, _, rfl, a, _, _, _, rfl, rfl, hS, hat, ?_⟩
      refine ⟨_, rfl, ns[j], rfl, _, rfl, 10, 18, rfl, rfl, ⟨by decide, by decide, by decide⟩, _, _, rfl, rfl, _, rfl, ite2 (fun e2 => ?_) (fun e2 => ?_)⟩
      · refine ⟨_, rfl, _, rfl, ns[j], 2305843009213693951, rfl, rfl, (by show (0 : Int) < 2305843009213693951; decide), _, rfl, 104729, _, rfl, rfl, .inl (by decide), _, _, rfl, rfl, _, 47, rfl, rfl, (by show 3 ≤ sizeLine; decide), fun p np => ?_⟩
        have z0 := Int.emod_nonneg ns[j] (b := 2305843009213693951) (by decide)
        have z1 := Int.emod_lt_of_pos ns[j] (b := 2305843009213693951) (by decide)
        exact q p 0 _ np (Int.le_refl _) (by omega) (by omega)
      · refine ⟨_, rfl, _, rfl, ns[j], 2305843009213693951, rfl, rfl, (by show (0 : Int) < 2305843009213693951; decide), _, rfl, 104729, _, rfl, rfl, .inl (by decide), _, _, rfl, rfl, _, 47, rfl, rfl, (by show 3 ≤ sizeLine; decide), fun p np => ?_⟩
        have z0 := Int.emod_nonneg ns[j] (b := 2305843009213693951) (by decide)
        have z1 := Int.emod_lt_of_pos ns[j] (b := 2305843009213693951) (by decide)
        refine q p _ _ np ?_ (by omega) (by omega)
        split <;> omega
    · refine ⟨_, rfl, 0, rfl, _, rfl, 10, 18, rfl, rfl, ⟨by decide, by decide, by decide⟩, _, _, rfl, rfl, _, rfl, ite2 (fun e2 => ?_) (fun e2 => ?_)⟩
      · refine ⟨_, rfl, _, rfl, 0, 2305843009213693951, rfl, rfl, (by show (0 : Int) < 2305843009213693951; decide), _, rfl, 104729, _, rfl, rfl, .inl (by decide), _, _, rfl, rfl, _, 47, rfl, rfl, (by show 3 ≤ sizeLine; decide), fun p np => ?_⟩
        have z0 := Int.emod_nonneg 0 (b := 2305843009213693951) (by decide)
        have z1 := Int.emod_lt_of_pos 0 (b := 2305843009213693951) (by decide)
        exact q p 0 _ np (Int.le_refl _) (by omega) (by omega)
      · refine ⟨_, rfl, _, rfl, 0, 2305843009213693951, rfl, rfl, (by show (0 : Int) < 2305843009213693951; decide), _, rfl, 104729, _, rfl, rfl, .inl (by decide), _, _, rfl, rfl, _, 47, rfl, rfl, (by show 3 ≤ sizeLine; decide), fun p np => ?_⟩
        have z0 := Int.emod_nonneg 0 (b := 2305843009213693951) (by decide)
        have z1 := Int.emod_lt_of_pos 0 (b := 2305843009213693951) (by decide)
        refine q p _ _ np ?_ (by omega) (by omega)
        split <;> omega
theorem ok_take {f : Addr} {fd : FuncData} (D : Df K mg "_law_take" ["_law_hand_here", "_law_many"] sTake f fd)  : FnOk P w K mg base CX0 1 f fd ["_law_hand_here", "_law_many"] spTake := by
  refine D.fn.ok scTake (fun vs H Q E h => ?_) (fun cdv A outer s H vs Q E hr h => ?_)
  · obtain ⟨h, many, n, rfl, m1, m2, ⟨g, m, c, hh, g0, k0, k1, c0, c1⟩, hn, q⟩ := h
    rfl
  · obtain ⟨h, many, n, rfl, m1, m2, ⟨g, m, c, hh, g0, k0, k1, c0, c1⟩, hn, q⟩ := h
    refine ⟨_, (pss_cons (ps_if (pt_cmpR op_gt (pe_ix ix_list (pv 0) pe_int (fun _ _ => rfl)) pe_int (nomark _)) (pss_cons (ps_set (i := 2) scTake.nd rfl (.inl rfl) (pe_op op_mod (pe_ix ix_list (pv 0) pe_int (fun _ _ => rfl)) (pv 1)))
      (pss_cons (ps_asg (pe_op op_fdivW (pe_ix ix_list (pv 0) pe_int (fun _ _ => rfl)) (pv 1)) (pg_sub (pv 0) pe_int set_list))
      (pss_one (ps_ret (pv 2))))) pss_nil)
      (pss_cons (ps_asg (pe_op op_add (pe_ix ix_list (pv 0) pe_int (fun _ _ => rfl)) pe_int) (pg_sub (pv 0) pe_int set_list))
      (pss_cons (ps_set (i := 3) scTake.nd rfl (.inl rfl) (pe_ix ix_list (pe_lst (pa_cons pe_int (pa_cons pe_int (pa_cons pe_int pa_nil)))) (pe_op op_mod (pe_ix ix_list (pv 0) pe_int (fun _ _ => rfl)) pe_int) (fun _ _ => rfl)))
      (pss_cons (ps_set (i := 4) scTake.nd rfl (.inl rfl) (pe_op op_mod (pe_op op_pow (pe_op op_add (pe_ix ix_list (pv 0) pe_int (fun _ _ => rfl)) (pe_op op_mul pe_int (pe_ix ix_list (pv 0) pe_int (fun _ _ => rfl)))) pe_int) (pv 3)))
      (pss_one (ps_ret (pe_op op_mod (pe_op op_add (pe_op op_fdiv (pv 4) pe_int) (pe_op op_mul (pe_op op_fdiv (pv 4) pe_int) pe_int)) (pv 1)))))))), ?_⟩
    have far' : n ≤ 1000000 := hn
    refine ⟨_, rfl, h, _, 0, _, rfl, rfl, SqL.of hh, atI_nat (j := 0) rfl, g, 0, rfl, rfl, _, rfl, ite2 (fun e => ?_) (fun e => ?_)⟩
    · refine ⟨_, rfl, h, _, 0, _, rfl, rfl, SqL.of hh, atI_nat (j := 0) rfl, _, rfl, g, many, rfl, rfl, m1, ?_⟩
      refine ⟨_, rfl, h, _, 0, _, rfl, rfl, SqL.of hh, atI_nat (j := 0) rfl, _, rfl, g, many, rfl, rfl, wide30 m1 m2, _, rfl, h, _, 0, 0, rfl, rfl, hh, rfl, ?_⟩
      refine ⟨_, rfl, ?_⟩
      exact q _ _ (Int.emod_nonneg _ (by omega)) (Int.emod_lt_of_pos _ m1) ⟨g / many, m, c, upd_same, Int.ediv_nonneg g0 (by omega), k0, k1, c0, by omega⟩ but_upd
    · refine ⟨_, rfl, h, _, 2, _, rfl, rfl, SqL.of hh, atI_nat (j := 2) rfl, c, 1, rfl, rfl, _, rfl, h, _, 2, 2, rfl, rfl, hh, rfl, ?_⟩
      have h2 : (upd H h (.lst [.int g, .int m, .int (c + 1)])) h = some (.lst [.int g, .int m, .int (c + 1)]) := upd_same
      have s2 := SqL.of (K := K) h2
      refine ⟨(by show 3 ≤ sizeLine; decide), fun L nL => ?_⟩
      have sL := same_upd nL (o := .lst [.int 2305843009213693951, .int 2305843009213693921, .int 2305843009213693907])
      have h3 := sL _ _ h2
      have eL : (upd (upd H h (.lst [.int g, .int m, .int (c + 1)])) L (.lst [.int 2305843009213693951, .int 2305843009213693921, .int 2305843009213693907])) L = some (.lst [.int 2305843009213693951, .int 2305843009213693921, .int 2305843009213693907]) := upd_same
      have s3 := SqL.of (K := K) h3
      have b3 : But h H (upd (upd H h (.lst [.int g, .int m, .int (c + 1)])) L (.lst [.int 2305843009213693951, .int 2305843009213693921, .int 2305843009213693907])) := but_upd.trans (Same.but sL h)
      have r0 := Int.emod_nonneg (c + 1) (b := 3) (by decide)
      have r1 := Int.emod_lt_of_pos (c + 1) (b := 3) (by decide)
      obtain ⟨pr, ap, p0⟩ : ∃ pr : Int, atI [V.int 2305843009213693951, .int 2305843009213693921, .int 2305843009213693907] ((c + 1) % 3) = some (.int pr) ∧ 0 < pr := by
        obtain z | z | z : (c + 1) % 3 = 0 ∨ (c + 1) % 3 = 1 ∨ (c + 1) % 3 = 2 := by omega
        · rw [z]; exact ⟨_, atI_nat (j := 0) rfl, by decide⟩
        · rw [z]; exact ⟨_, atI_nat (j := 1) rfl, by decide⟩
        · rw [z]; exact ⟨_, atI_nat (j := 2) rfl, by decide⟩
      refine ⟨_, rfl, h, _, 2, _, rfl, rfl, s3, atI_nat (j := 2) rfl, c + 1, 3, rfl, rfl, (by show (0 : Int) < 3; decide), L, _, _, _, rfl, rfl, SqL.of eL, ap, ?_⟩
      refine ⟨_, rfl, h, _, 1, _, rfl, rfl, s3, atI_nat (j := 1) rfl, _, rfl, h, _, 2, _, rfl, rfl, s3, atI_nat (j := 2) rfl, 7919, c + 1, rfl, rfl, .inl (by decide), m, _, rfl, rfl, _, 5, rfl, rfl, ⟨by decide, by decide, ?_⟩, _, rfl, _, pr, rfl, rfl, p0, ?_⟩
      · have : (2 : Nat) ^ 64 = 18446744073709551616 := by decide
        omega
      refine ⟨_, rfl, _, 4099, rfl, rfl, ⟨by decide, by decide⟩, _, rfl, _, 1000003, rfl, rfl, ⟨by decide, by decide⟩, _, 7, rfl, rfl, .inr (by decide), _, _, rfl, rfl, _, rfl, _, many, rfl, rfl, m1, ?_⟩
      exact q _ _ (Int.emod_nonneg _ (by omega)) (Int.emod_lt_of_pos _ m1) ⟨g, m, c + 1, h3, g0, k0, k1, by omega, by omega⟩ b3
theorem ok_pick {f : Addr} {fd : FuncData} {e : Ex} (D : Df K mg "_law_of" ["_law_hand_here", "_law_some_here"] sOf f fd) (T : Txt K mg C e) (cT : Ca P w K mg base 1 "_law_take" ["_law_hand_here", "_law_many"] spTake) : FnOk P w K mg base CX0 2 f fd ["_law_hand_here", "_law_some_here"] spPick := by
  refine D.fn.ok scOf (fun vs H Q E h => ?_) (fun cdv A outer s H vs Q E hr h => ?_)
  · obtain ⟨h, n, s, rfl, hh, hn, q⟩ := h
    rfl
  · obtain ⟨h, n, s, rfl, hh, hn, q⟩ := h
    refine ⟨_, (pss_one (ps_ret (pe_ix ix_seq (pv 1) (pe_ca cT hr (by decide) (by rfl) (pa_cons (pv 0) (pa_cons (pe_callB (cr_alt call_len_seq call_len_str) (by rfl) T.len PySem.boot_len (pa_cons (pv 1) pa_nil)) pa_nil))) (fun _ _ => rfl)))), ?_⟩
    refine ⟨_, rfl, _, rfl, _, rfl, ?_⟩
    rcases q with ⟨l, xs, rfl, hl, nl, ne, few, q⟩ | ⟨x, rfl, pos, few, q⟩
    · have pos : 0 < xs.length := List.length_pos_iff.mpr ne
      refine .inl ⟨l, xs, rfl, .inl (SqL.of hl), h, (xs.length : Int), n, rfl, by omega, lt30 few, hh, hn, fun d H' d0 d1 hh' bt => ?_⟩
      obtain ⟨j, rfl⟩ : ∃ j : Nat, d = (j : Int) := ⟨d.toNat, by omega⟩
      have hj : j < xs.length := by omega
      refine .inl ⟨l, xs, _, xs[j], rfl, rfl, SqL.of (bt _ _ nl hl), atI_nat (List.getElem?_eq_getElem hj), ?_⟩
      exact q _ H' (List.getElem_mem hj) hh' bt
    · have sz : x.length ≤ sizeLine := Nat.le_trans (show x.length ≤ 1000 by omega) (by decide)
      refine .inr ⟨x, rfl, sz, h, (x.length : Int), n, rfl, by omega, lt30 few, hh, hn, fun d H' d0 d1 hh' bt => ?_⟩
      obtain ⟨j, rfl⟩ : ∃ j : Nat, d = (j : Int) := ⟨d.toNat, by omega⟩
      have hj : j < x.cps.toList.length := by
        have : x.length = x.cps.toList.length := by rw [Array.length_toList]; rfl
        omega
      refine .inr (.inr ⟨x, _, x.cps.toList[j], rfl, rfl, sz, atI_nat (List.getElem?_eq_getElem hj), ?_⟩)
      exact q _ H' (List.getElem_mem hj) hh' bt
end
end K47
set_option Elab.async false
set_option linter.all false
set_option maxRecDepth 100000
set_option maxHeartbeats 4000000
set_option pp.maxSteps 400
set_option pp.deepTerms false
namespace K47
open PySem PySem.Spec PyProof.Rows L2
open Xk Az
section
variable {P : Program} {w : World} {K : PySem.W.Frag} {mg : Str → Option Value} {base : Heap} {C : Addr}
theorem join_cps' : ∀ ys : List Str, (Str.join "" ys).cps.toList = (ys.map fun y => y.cps.toList).flatten
  | [] => rfl
  | [x] => by simp [Str.join]
  | x :: z :: r => by
    show (x ++ "" ++ Str.join "" (z :: r)).cps.toList = _
    rw [Str.cps_append, Array.toList_append, Str.cps_append, Array.toList_append, join_cps' (z :: r)]
    have e0 : (("" : Str)).cps.toList = [] := rfl
    rw [e0, List.append_nil]
    rfl
theorem join_cps (ys : List Str) : (Txt.join "" ys).cps.toList = (ys.map fun y => y.cps.toList).flatten := by
  rw [TL.join_eq]
  exact join_cps' ys
theorem join_len (ys : List Str) : (Txt.join "" ys).length = (ys.map (·.length)).sum := by
  rw [len_cps, join_cps, List.length_flatten, List.map_map]
  congr 1
theorem ones_sum : ∀ ys : List Str, (∀ y ∈ ys, y.length = 1) → (ys.map (·.length)).sum = ys.length
  | [], _ => rfl
  | y :: r, h => by
    rw [List.map_cons, List.sum_cons, h y List.mem_cons_self, ones_sum r (fun z hz => h z (List.mem_cons_of_mem _ hz)), List.length_cons]
    omega
def letts (x : Str) : Prop := ∀ c ∈ x.cps.toList, c ∈ small.cps.toList
def spWd : Sp := fun vs H Q _ => ∃ (h : Addr) (n : Int), vs = [.ref h] ∧ Hand n H h ∧ n + 50 ≤ far ∧ ∀ (x : Str) H', 1 ≤ x.length → x.length ≤ 8 → letts x → Hand (n + 10) H' h → But h H H' → Q (.str x) H'
structure Gk (k : Ky) : Prop extends GoodK k where
  n29 : k.2 ≤ 10 ^ 29
def Kv (H : Hp) (v : V) : Prop := ∃ (t : Addr) (k : Ky), v = .ref t ∧ H t = some (.tup [.str k.1, .int k.2]) ∧ Gk k
theorem Kv.tp {H H' : Hp} {v : V} (a : Kv H v) (s : ∀ b xs, H b = some (.tup xs) → H' b = some (.tup xs)) : Kv H' v := by
  obtain ⟨t, k, e, e2, g⟩ := a
  exact ⟨t, k, e, s _ _ e2, g⟩
theorem Hand.nt {n : Int} {H : Hp} {a t : Addr} {xs : List V} (h : Hand n H a) (e : H t = some (.tup xs)) : t ≠ a := by
  obtain ⟨ys, e2⟩ := h.at_
  exact ne_of e e2 (by intro z; cases z)
theorem tp_but {h : Addr} {n : Int} {H H' : Hp} (a : Hand n H h) (s : But h H H') : ∀ b xs, H b = some (.tup xs) → H' b = some (.tup xs) := fun b xs e => s _ _ (a.nt e) e
theorem kv_all {h : Addr} {n : Int} {H : Hp} (hh : Hand n H h) : ∀ xs : List V, (∀ v ∈ xs, Kv H v) → ∃ ks : List Ky, DzAll K (del H h) xs (ks.map kyP) ∧ ks.length = xs.length ∧ ∀ k ∈ ks, Gk k
  | [], _ => ⟨[], .nil, rfl, by simp⟩
  | v :: r, q => by
    obtain ⟨ks, q1, q2, q3⟩ := kv_all hh r fun z hz => q z (List.mem_cons_of_mem _ hz)
    obtain ⟨t, k, rfl, e, g⟩ := q v List.mem_cons_self
    refine ⟨k :: ks, .cons (.tup (off_at (hh.nt e) e) (.cons (.str k.1) (.cons (.int k.2) .nil))) q1, by rw [List.length_cons, List.length_cons, q2], fun z hz => ?_⟩
    rcases List.mem_cons.mp hz with w | w
    · rw [w]; exact g
    · exact q3 z w
def spSome (K : PySem.W.Frag) : Sp := fun vs H Q _ => ∃ (h : Addr) (n : Int), vs = [.ref h] ∧ Hand n H h ∧ n + 1000 ≤ far ∧
  ∀ (t : Addr) (xs : List V) (ks : List Ky) H', H' t = some (.tup xs) → DzAll K (del H' h) xs (ks.map kyP) → (∀ k ∈ ks, Gk k) → 1 ≤ ks.length → ks.length ≤ 30 → Hand (n + 900) H' h → But h H H' → Q (.ref t) H'
theorem ok_wd {f : Addr} {fd : FuncData} {e : Ex} (D : Df K mg "_law_word" ["_law_hand_here"] sWord f fd) (T : Txt K mg C e) (cT : Ca P w K mg base 1 "_law_take" ["_law_hand_here", "_law_many"] spTake) (cP : Ca P w K mg base 2 "_law_of" ["_law_hand_here", "_law_some_here"] spPick) : FnOk P w K mg base CX0 3 f fd ["_law_hand_here"] spWd := by
  refine D.fn.ok scWord (fun vs H Q E h => ?_) (fun cdv A outer s H vs Q E hr h => ?_)
  · obtain ⟨h, n, rfl, hh, hn, q⟩ := h
    rfl
  · obtain ⟨h, n, rfl, hh, hn, q⟩ := h
    refine ⟨_, (pss_cons (ps_set (i := 1) scWord.nd rfl (.inl rfl) (pe_ca cP hr (by decide) (by rfl) (pa_cons (pv 0) (pa_cons (pe_lst (pa_cons pe_int (pa_cons pe_int (pa_cons pe_int (pa_cons pe_int (pa_cons pe_int (pa_cons pe_int pa_nil))))))) pa_nil))))
      (pss_one (ps_ret (pe_m1 F.slot_str_join F.type_str_join mt_join pe_str (pe_lc (own := [("_law_k", 2)]) (g := gName 2) (tt := tYes) (by rfl) scWord.nd (pi_range1 (by rfl) T.range (pa_cons (pv 1) pa_nil)) (blkOk_by (own := [("_law_k", 2)]) (N := ["_law_hand_here", "_law_long", "_law_k"]) (sc := defScope sWord) (by decide +kernel)) (fun _ _ _ _ _ => pg_name (i := 2) scWord.nd rfl (.inl rfl)) (fun _ _ _ _ _ => pts_nil) (fun _ _ _ _ _ => pe_ca cP hr (by decide) (by rfl) (pa_cons (pv 0) (pa_cons pe_str pa_nil)))))))), ?_⟩
    have fr : n + 50 ≤ 1000000 := hn
    refine ⟨_, rfl, (by show 6 ≤ sizeLine; decide), fun l1 n1 => ?_⟩
    have s1 := same_upd n1 (o := .lst [.int 1, .int 1, .int 2, .int 3, .int 7, .int 8])
    refine ⟨h, n, _, rfl, hh.same s1, by show n ≤ 1000000; omega, .inl ⟨l1, _, rfl, upd_same, hh.fresh n1, by simp, by show 6 < 1000; decide, fun v H1 mv h1 b1 => ?_⟩⟩
    obtain ⟨r, rfl, r1, r8⟩ : ∃ r : Int, v = .int r ∧ 1 ≤ r ∧ r ≤ 8 := by
      simp only [List.mem_cons, List.not_mem_nil, or_false] at mv
      rcases mv with e | e | e | e | e | e <;> exact ⟨_, e, by decide, by decide⟩
    have bt1 : But h H H1 := (Same.but s1 h).trans b1
    have lf : small.length = 26 := by decide +kernel
    refine ⟨⟨_, rfl⟩, _, rfl, _, rfl, by omega, by omega, fun L nL => ?_⟩
    have Lh := h1.fresh nL
    refine lc_range (lo := 0) (fun i Hi => ∃ ys : List Str, Hi L = some (.lst (ys.map V.str)) ∧ ys.length = i ∧ (∀ y ∈ ys, ∃ c ∈ small.cps.toList, y = ⟨#[c]⟩) ∧ Hand (n + 1 + i) Hi h ∧ But h H1 Hi) ?_ ?_ ?_
    · exact ⟨[], upd_same, rfl, by simp, (h1.same (same_upd nL)).mono (by omega), Same.but (same_upd nL) h⟩
    · rintro i Hi hi ⟨ys, eL, ly, cy, hdi, bi⟩
      have hi' : i < r.toNat := hi
      refine ⟨rfl, ?_⟩
      unfold tYes
      refine iteT ?_
      refine ⟨_, rfl, h, n + 1 + i, _, rfl, hdi, by show n + 1 + (i : Int) ≤ 1000000; omega, .inr ⟨small, rfl, by rw [lf]; decide, by rw [lf]; decide, fun c H2 mc h2 b2 => ?_⟩⟩
      refine ⟨_, b2 _ _ Lh eL, ?_, ys ++ [⟨#[c]⟩], ?_, by rw [List.length_append, ly]; rfl, ?_, (h2.upd (Ne.symm Lh)).mono (by omega), ?_⟩
      · rw [List.length_map, ly]
        exact Nat.lt_of_le_of_lt (show i ≤ 100 by omega) (by decide)
      · rw [upd_same, List.map_append]
        rfl
      · intro y hy
        rcases List.mem_append.mp hy with z | z
        · exact cy y z
        · exact ⟨c, mc, List.mem_singleton.mp z⟩
      · intro b x nb e
        rw [upd_ne (ne_of_none e nL)]
        exact b2 b x nb (bi b x nb e)
    · rintro H2 ⟨ys, eL, ly, cy, h2, b2⟩
      have ly' : ys.length = r.toNat := ly
      have h2' : Hand (n + 1 + ((r.toNat : Nat) : Int)) H2 h := h2
      have ones : ∀ y ∈ ys, y.length = 1 := fun y hy => by
        obtain ⟨c, _, e⟩ := cy y hy
        rw [e]
        rfl
      have sum := ones_sum ys ones
      have l0 : (("" : Str)).length = 0 := rfl
      refine ⟨"", L, ys, rfl, rfl, .inl (SqL.of eL), by rw [sum, l0]; omega, q _ H2 ?_ ?_ ?_ (h2'.mono (by omega)) (bt1.trans b2)⟩
      · rw [join_len, sum]; omega
      · rw [join_len, sum]; omega
      · intro c hc
        rw [join_cps] at hc
        obtain ⟨l, ml, hcl⟩ := List.mem_flatten.mp hc
        obtain ⟨y, my, rfl⟩ := List.mem_map.mp ml
        obtain ⟨c', mc', e⟩ := cy y my
        rw [e] at hcl
        have : c = c' := by simpa using hcl
        rw [this]
        exact mc'
theorem ok_some {f : Addr} {fd : FuncData} {e : Ex} (D : Df K mg "_law_some" ["_law_hand_here"] sSome f fd) (T : Txt K mg C e) (cT : Ca P w K mg base 1 "_law_take" ["_law_hand_here", "_law_many"] spTake) (cP : Ca P w K mg base 2 "_law_of" ["_law_hand_here", "_law_some_here"] spPick) (cW : Ca P w K mg base 3 "_law_word" ["_law_hand_here"] spWd) : FnOk P w K mg base CX0 4 f fd ["_law_hand_here"] (spSome K) := by
  refine D.fn.ok scSome (fun vs H Q E h => ?_) (fun cdv A outer s H vs Q E hr h => ?_)
  · obtain ⟨h, n, rfl, hh, hn, q⟩ := h
    rfl
  · obtain ⟨h, n, rfl, hh, hn, q⟩ := h
    refine ⟨_, (pss_cons (ps_set (i := 1) scSome.nd rfl (.inl rfl) (pe_lst pa_nil))
      (pss_cons (ps_for PassesOwn.never rfl (pi_range1 (by rfl) T.range (pa_cons (pe_ca cP hr (by decide) (by rfl) (pa_cons (pv 0) (pa_cons (pe_lst (pa_cons pe_int (pa_cons pe_int (pa_cons pe_int (pa_cons pe_int (pa_cons (pe_op op_add pe_int (pe_ca cT hr (by decide) (by rfl) (pa_cons (pv 0) (pa_cons pe_int pa_nil)))) pa_nil)))))) pa_nil))) pa_nil)) (pg_name (i := 2) scSome.nd rfl (.inl rfl)) (pss_one (ps_expr (pe_bm PySem.F.plainAttrs_list PySem.F.slot_list_append PySem.F.type_list_append mt_append (pv 1) (pa_cons (pe_tup (pa_cons (pe_ca cW hr (by decide) (by rfl) (pa_cons (pv 0) pa_nil)) (pa_cons (pe_ca cP hr (by decide) (by rfl) (pa_cons (pv 0) (pa_cons (pe_lst (pa_cons pe_int (pa_cons pe_int (pa_cons pe_int (pa_cons pe_int (pa_cons (pe_ca cT hr (by decide) (by rfl) (pa_cons (pv 0) (pa_cons pe_int pa_nil))) (pa_cons (pe_op op_pow pe_int pe_int) pa_nil))))))) pa_nil))) pa_nil))) pa_nil)))))
      (C8.pss_cut (ps_if (pt_cmpR op_eq (pe_ca cT hr (by decide) (by rfl) (pa_cons (pv 0) (pa_cons pe_int pa_nil))) pe_int (nomark _)) (pss_one (ps_asg (pe_ix ix_list (pv 1) pe_int (fun _ _ => rfl)) (pg_sub (pv 1) (pe_un un_neg pe_int) set_list))) pss_nil)
      (pss_one (ps_ret (pe_callTy call_tuple_of (by rfl) T.tuple (by decide +kernel) (pa_cons (pv 1) pa_nil))))))), ?_⟩
    have fr : n + 1000 ≤ 1000000 := hn
    refine ⟨(by show 0 ≤ sizeLine; decide), fun L nL => ?_⟩
    have s0 := same_upd nL (o := .lst [])
    have Lh := hh.fresh nL
    refine ⟨_, rfl, _, rfl, h, 30, n, rfl, by decide, by decide, hh.same s0, by show n ≤ 1000000; omega, fun d H1 d0 d1 h1 b1 => ⟨1, d, rfl, rfl, (by show 5 ≤ sizeLine; decide), fun l1 n1 => ?_⟩⟩
    have s1 := same_upd n1 (o := .lst [.int 1, .int 2, .int 3, .int 30, .int (1 + d)])
    refine ⟨h, n + 1, _, rfl, h1.same s1, by show n + 1 ≤ 1000000; omega, .inl ⟨l1, _, rfl, upd_same, h1.fresh n1, by simp, by show 5 < 1000; decide, fun v H2 mv h2 b2 => ?_⟩⟩
    obtain ⟨r, rfl, r1, r30⟩ : ∃ r : Int, v = .int r ∧ 1 ≤ r ∧ r ≤ 30 := by
      simp only [List.mem_cons, List.not_mem_nil, or_false] at mv
      rcases mv with e | e | e | e | e
      · exact ⟨_, e, by decide, by decide⟩
      · exact ⟨_, e, by decide, by decide⟩
      · exact ⟨_, e, by decide, by decide⟩
      · exact ⟨_, e, by decide, by decide⟩
      · exact ⟨_, e, by omega, by omega⟩
    have bt : But h H H2 := ((Same.but s0 h).trans b1).trans ((Same.but s1 h).trans b2)
    have eL2 : H2 L = some (.lst []) := b2 _ _ Lh (s1 _ _ (b1 _ _ Lh upd_same))
    refine ⟨_, rfl, by omega, by omega, for_range (lo := 0) (n := r.toNat) (fun k σ Hi => ∃ (xs : List V) (c2 : Option V), σ = [some (.ref h), some (.ref L), c2] ∧ Hi L = some (.lst xs) ∧ xs.length = k ∧ (∀ v ∈ xs, Kv Hi v) ∧ Hand (n + 2 + 20 * k) Hi h ∧ But h H Hi) ?_ ?_ ?_⟩
    · exact ⟨[], _, rfl, eL2, rfl, by simp, h2.mono (by omega), bt⟩
    · rintro k σ Hi hk ⟨xs, c2, rfl, eL, lx, cx, hdi, bi⟩
      have k30 : k < 30 := by omega
      refine ⟨_, rfl, .inl ⟨rfl, _, SqL.of eL⟩, ?_⟩
      refine ⟨_, rfl, h, n + 2 + 20 * k, rfl, hdi, by show n + 2 + 20 * (k : Int) + 50 ≤ 1000000; omega, fun x H3 x1 x8 xl h3 b3 => ?_⟩
      refine ⟨_, rfl, _, rfl, h, 1000, n + 2 + 20 * k + 10, rfl, by decide, by decide, h3, by show n + 2 + 20 * (k : Int) + 10 ≤ 1000000; omega, fun d' H4 e0 e1 h4 b4 => ?_⟩
      refine ⟨10, 29, rfl, rfl, ⟨by decide, by decide, by decide⟩, (by show 6 ≤ sizeLine; decide), fun l2 n2 => ?_⟩
      have s2 := same_upd n2 (o := .lst [.int 0, .int 1, .int 9, .int 10, .int d', .int (10 ^ (29 : Int).toNat)])
      refine ⟨h, n + 2 + 20 * k + 10 + 1, _, rfl, h4.same s2, by show n + 2 + 20 * (k : Int) + 10 + 1 ≤ 1000000; omega, .inl ⟨l2, _, rfl, upd_same, h4.fresh n2, by simp, by show 6 < 1000; decide, fun v H5 mv h5 b5 => ?_⟩⟩
      obtain ⟨i, rfl, i0, i29⟩ : ∃ i : Int, v = .int i ∧ 0 ≤ i ∧ i ≤ 10 ^ 29 := by
        simp only [List.mem_cons, List.not_mem_nil, or_false] at mv
        rcases mv with e | e | e | e | e | e
        · exact ⟨_, e, by decide, by decide⟩
        · exact ⟨_, e, by decide, by decide⟩
        · exact ⟨_, e, by decide, by decide⟩
        · exact ⟨_, e, by decide, by decide⟩
        · exact ⟨_, e, by omega, by omega⟩
        · exact ⟨_, e, by decide, by decide⟩
      refine ⟨(by show 2 ≤ sizeLine; decide), fun tp ntp => ?_⟩
      have s5 := same_upd ntp (o := .tup [.str x, .int i])
      have bA : But h Hi H5 := (b3.trans b4).trans ((Same.but s2 h).trans b5)
      have eL5 := s5 _ _ (bA _ _ Lh eL)
      have tpL : tp ≠ L := Ne.symm (ne_of_none (bA _ _ Lh eL) ntp)
      have h6 := h5.same s5
      refine ⟨L, _, _, rfl, rfl, eL5, ?_, xs ++ [.ref tp], _, rfl, upd_same, by rw [List.length_append, lx]; rfl, fun v hv => ?_, (h6.upd (Ne.symm Lh)).mono (by omega), fun b z nb e => ?_⟩
      · rw [lx]
        exact Nat.lt_of_le_of_lt (show k ≤ 100 by omega) (by decide)
      · rcases List.mem_append.mp hv with z | z
        · refine (cx v z).tp fun b ys e => ?_
          rw [upd_ne (fun w => by rw [w, eL] at e; cases e)]
          exact s5 _ _ (tp_but hdi bA b ys e)
        · rw [List.mem_singleton.mp z]
          exact ⟨tp, (x, i), rfl, by rw [upd_ne tpL, upd_same], ⟨⟨x1, x8, xl, i0, Int.le_trans i29 (by decide)⟩, i29⟩⟩
      · rw [upd_ne (ne_of_none e nL)]
        exact s5 _ _ (bA b z nb (bi b z nb e))
    rintro σ H3 ⟨xs, c2, rfl, eL, lx, cx, h3, b3⟩
    have xne : xs ≠ [] := fun z => by rw [z] at lx; simp at lx; omega
    have xpos : 0 < xs.length := List.length_pos_iff.mpr xne
    have h3' : Hand (n + 700) H3 h := h3.mono (by omega)
    refine ⟨fun σ Hi => ∃ (ys : List V) (c2 : Option V), σ = [some (.ref h), some (.ref L), c2] ∧ Hi L = some (.lst ys) ∧ ys.length = xs.length ∧ (∀ v ∈ ys, Kv Hi v) ∧ Hand (n + 800) Hi h ∧ But h H Hi, ?_, ?_⟩
    · refine ⟨_, rfl, h, 4, n + 700, rfl, by decide, by decide, h3', by show n + 700 ≤ 1000000; omega, fun d' H4 e0 e1 h4 b4 => ⟨rfl, _, rfl, ite2 (fun e => ?_) (fun e => ?_)⟩⟩
      · have eL4 := b4 _ _ Lh eL
        obtain ⟨x0, hx0⟩ : ∃ x0, xs[0]? = some x0 := ⟨xs[0], List.getElem?_eq_getElem xpos⟩
        have ixl : ixN xs.length (-1) = some (xs.length - 1) := by
          unfold ixN
          rw [if_neg (by omega), if_pos (by omega)]
          congr 1
          omega
        refine ⟨_, rfl, L, xs, 0, x0, rfl, rfl, SqL.of eL4, atI_nat (j := 0) hx0, _, rfl, 1, rfl, L, xs, -1, xs.length - 1, rfl, rfl, eL4, ixl, ?_⟩
        refine ⟨xs.set (xs.length - 1) x0, _, rfl, upd_same, by rw [List.length_set], fun v hv => ?_, (h4.upd (Ne.symm Lh)).mono (by omega), fun b z nb e => ?_⟩
        · have ok : ∀ w ∈ xs, Kv (upd H4 L (.lst (xs.set (xs.length - 1) x0))) w := fun w hw => (cx w hw).tp fun b ys e => by
            rw [upd_ne (fun z => by rw [z, eL] at e; cases e)]
            exact tp_but h3' b4 b ys e
          rcases List.mem_or_eq_of_mem_set hv with z | z
          · exact ok v z
          · rw [z]; exact ok x0 (List.mem_of_getElem? hx0)
        · rw [upd_ne (ne_of_none e nL)]
          exact b4 b z nb (b3 b z nb e)
      · exact ⟨xs, _, rfl, b4 _ _ Lh eL, rfl, fun v hv => (cx v hv).tp (tp_but h3' b4), h4.mono (by omega), b3.trans b4⟩
    rintro σ H5 ⟨ys, c2, rfl, eL5, ly, cy, h5, b5⟩
    refine ⟨_, rfl, L, _, rfl, .inl ⟨SqL.of eL5, fun t nt => ?_⟩⟩
    have s6 := same_upd nt (o := .tup ys)
    have h6 := h5.same s6
    obtain ⟨ks, q1, q2, q3⟩ := kv_all (K := K) h6 ys fun v hv => (cy v hv).tp fun b zs e => s6 _ _ e
    exact q t ys ks _ upd_same q1 q3 (by omega) (by omega) (h6.mono (by omega)) (b5.trans (Same.but s6 h))
end
end K47
set_option Elab.async false
set_option linter.all false
set_option maxRecDepth 100000
set_option maxHeartbeats 4000000
set_option pp.maxSteps 400
set_option pp.deepTerms false
namespace K47
open PySem PySem.Spec PyProof.Rows L2
open Xk Az
section
variable {P : Program} {w : World} {K : PySem.W.Frag} {mg : Str → Option Value} {base : Heap} {C : Addr}
/-- a kept exception of the class at C without fields of its own -/
def Kept0 (H : Hp) (a C : Addr) : Prop := H a = some (ExK (.ref C) none a)
theorem Kept0.same {H H' : Hp} {a C : Addr} (k : Kept0 H a C) (s : L2.Same H H') : Kept0 H' a C := s _ _ k
section
variable {X : Cx} {pins : List (Addr × Obj)} {σ : L2.St} {H : Hp} {s : Shared}
theorem Kept0.inst {a C : Addr} (I : Inv X pins σ H s) (k : Kept0 H a C) : ∃ oe : Obj, PySem.W.InstAt s.heap a oe C none := by
  obtain ⟨oe, he, hz, vs, hv⟩ := exK_at I.hok k
  exact ⟨oe, he, hz.1, by unfold PySem.W.notCls; rw [hv] <;> rfl, by rw [hz.2]; trivial⟩
def rIsK0 (K : PySem.W.Frag) (C : Addr) : List V → Hp → VK → Prop := fun xs H Q => ∃ (a : Addr) (c : V) (u : Value) (b : Bool), xs = [.ref a, c] ∧ Kept0 H a C ∧ ClsV c u ∧ PySem.W.kitOne K (.ref C) u = some b ∧ Q (.bl b) H
def rIsKT0 (K : PySem.W.Frag) (C : Addr) : List V → Hp → VK → Prop := fun xs H Q => ∃ (a tp : Addr) (cs : List V) (us : List Value) (b : Bool), xs = [.ref a, .ref tp] ∧ Kept0 H a C ∧ H tp = some (.tup cs) ∧ Paired ClsV cs us ∧ PySem.W.kitAny K (.ref C) us = some b ∧ Q (.bl b) H
theorem call_isK0 {C : Addr} (T : XcC X.K C) : CallR X (.builtin "isinstance") (rIsK0 X.K C) := by
  intro pins s σ H xs us Q I r h
  obtain ⟨a, c, u, b, rfl, k, hc, e, q⟩ := h
  obtain ⟨u1, u2, rfl, r1, r2⟩ := vals2 r
  have e2 := hc.eq r2
  subst e2
  cases (show u1 = Value.ref a from r1)
  obtain ⟨oe, J⟩ := k.inst I
  exact PySem.W.kia_one (PySem.W.kitx_exc (ox := oe) (od := none) T.cl T.ga T.gg T.sb T.ha T.hn T.ht T.hm) I.kIn J e (fun z => nomatch z) fun tk => ⟨.bl b, H, I.tok tk, rfl, q⟩
theorem call_isKT0 {C : Addr} (T : XcC X.K C) : CallR X (.builtin "isinstance") (rIsKT0 X.K C) := by
  intro pins s σ H xs us Q I r h
  obtain ⟨a, tp, cs, ws, b, rfl, k, hT, hc, e, q⟩ := h
  obtain ⟨u1, u2, rfl, r1, r2⟩ := vals2 r
  cases (show u1 = Value.ref a from r1)
  cases (show u2 = Value.ref tp from r2)
  obtain ⟨oe, J⟩ := k.inst I
  obtain ⟨_, its, rv, o, h1, h2, n, h3⟩ := (show ObjOk X.prog X.w H s.heap tp (.tup cs) from I.hok tp _ hT)
  have e3 := ClsV.all hc rv
  subst e3
  obtain ⟨oc, od2, dt, sl⟩ := o
  simp only at h2 h3
  subst h2 h3
  exact PySem.W.kia_tup (PySem.W.kitx_exc (ox := oe) (od := none) T.cl T.ga T.gg T.sb T.ha T.hn T.ht T.hm) I.kIn J h1 e (fun z => nomatch z) fun tk => ⟨.bl b, H, I.tok tk, rfl, q⟩
end
def spRefused (K : PySem.W.Frag) : Sp := fun vs H Q _ => ∃ (v r : V) (d dr : PyData), vs = [v, r] ∧ Dz K H v d ∧ St d ∧ Dz K H r dr ∧ S3 dr ∧ (ofT d small 1 8 && rwD dr) = false ∧ ∀ H', L2.Same H H' → Q (.bl true) H'
/-- Disc, made -/
structure Dc (P : Program) (w : World) (K : PySem.W.Frag) (mg : Str → Option Value) (base : Heap) (C : Addr) (e : Ex) (f : Addr) (fd : FuncData) : Prop where
  mm : Mk K C f
  ok : FnOk P w K mg base (L2.CX P w) 6 f fd ["self", "label", "rows"] (spInit K C e)
  bd : Binds K fd ["self", "label", "rows"] []
  k2 : KBn K fd ["self", "label", "rows"] 1 ["rows", "label"] (fun us ws => us ++ [ws.getD 1 .none, ws.getD 0 .none]) (fun vs zs => vs ++ [zs.getD 1 .non, zs.getD 0 .non])
theorem ok_refused {f : Addr} {fd : FuncData} {e : Ex} {fG : Addr} {fdG : FuncData} (D : Df K mg "_law_refused" ["_law_call", "_law_some_here"] sRefused f fd) (T : Txt K mg C e) (G : Dc P w K mg base C e fG fdG) : FnOk P w K mg base CX0 8 f fd ["_law_call", "_law_some_here"] (spRefused K) := by
  refine D.fn.ok scRefused (fun vs H Q E h => ?_) (fun cdv A outer s H vs Q E hr h => ?_)
  · obtain ⟨v, r, d, dr, rfl, hd, sd, hr2, sr, bad, q⟩ := h
    rfl
  · obtain ⟨v, r, d, dr, rfl, hd, sd, hr2, sr, bad, q⟩ := h
    refine ⟨_, (pss_cons (ps_set (i := 2) scRefused.nd rfl (.inl rfl) pe_non)
      (pss_cons (ps_try_keep (i := 3) (C1 := e.NotSuch) (C2 := e.Lost) (C3 := e.Taken) rfl rfl rfl scRefused.nd rfl rfl ⟨by rfl, by decide, T.mNotSuch⟩ ⟨by rfl, by decide, T.mLost⟩ ⟨by rfl, by decide, T.mTaken⟩ takes0 (fun W pn xe tk _ =>
        (pss_one (ps_expr (pe_makeS G.mm G.ok (hr.mono (by decide)) (by rfl) T.mgC G.bd .nil (fun σ => passAt tk σ) (pa_cons (pv 0) (pa_cons (pv 1) pa_nil)))))) (fun a pn => pss_one (ps_set (i := 2) scRefused.nd rfl (.inl rfl) (pv 3))))
      (pss_cons (ps_if (pt_val (pe_callB (call_isKT0 T.xc) (by rfl) T.isi (by decide +kernel) (pa_cons (pv 2) (pa_cons (pe_tup (pa_cons (pe_glob (v := .ref e.NoCustom) (by rfl) T.mNoCustom rfl) (pa_cons (pe_glob (v := .ref e.NoDay) (by rfl) T.mNoDay rfl) (pa_cons (pe_glob (v := .ref e.NoEntry) (by rfl) T.mNoEntry rfl) (pa_cons (pe_glob (v := .ref e.NoKey) (by rfl) T.mNoKey rfl) (pa_cons (pe_glob (v := .ref e.NoLength) (by rfl) T.mNoLength rfl) (pa_cons (pe_glob (v := .ref e.NoLine) (by rfl) T.mNoLine rfl) (pa_cons (pe_glob (v := .ref e.NoName) (by rfl) T.mNoName rfl) (pa_cons (pe_glob (v := .ref e.NoText) (by rfl) T.mNoText rfl) (pa_cons (pe_glob (v := .ref e.Same) (by rfl) T.mSame rfl) (pa_cons (pe_glob (v := .ref e.Lost) (by rfl) T.mLost rfl) (pa_cons (pe_glob (v := .ref e.Taken) (by rfl) T.mTaken rfl) pa_nil)))))))))))) pa_nil)))) (pss_one (ps_ret pe_bl)) pss_nil)
      (pss_one (ps_ret (pe_and (pe_callB (call_isK0 T.xc) (by rfl) T.isi (by decide +kernel) (pa_cons (pv 2) (pa_cons (pe_glob (v := .ref e.NoDisc) (by rfl) T.mNoDisc rfl) pa_nil))) (pe_and (pe_callB (call_isK0 T.xc) (by rfl) T.isi (by decide +kernel) (pa_cons (pv 2) (pa_cons (pe_bltn (v := .ty "ValueError") (by rfl) T.ValueError (by decide +kernel) rfl) pa_nil))) (pe_one (pe_not (pe_callB (call_isK0 T.xc) (by rfl) T.isi (by decide +kernel) (pa_cons (pv 2) (pa_cons (pe_bltn (v := .ty "LookupError") (by rfl) T.LookupError (by decide +kernel) rfl) pa_nil)))))))))))), ?_⟩
    have mk2 : ∀ {x dx : Addr}, H x = none → H dx = none → L2.Same H (upd (upd H dx (.own x)) x (.ins C dx [])) := fun {x dx} nx nd b z e => by
      rw [upd_ne (ne_of_none e nx), upd_ne (ne_of_none e nd)]
      exact e
    refine ⟨_, rfl, _, rfl, fun x dx nx nd ne => ⟨x, dx, v, r, d, dr, rfl, upd_same, hd.same (mk2 nx nd), sd, hr2.same (mk2 nx nd), sr, fun c1 c2 => absurd bad (by rw [c1, c2]; decide), fun _ H1 s1 => ⟨true, T.exm, fun _ y ny => ?_, fun z => nomatch z⟩⟩⟩
    have sy := same_upd ny (o := ExK (.ref e.NoDisc) none y)
    have k0 : Kept0 (upd H1 y (ExK (.ref e.NoDisc) none y)) y e.NoDisc := upd_same
    have s2 : L2.Same H (upd H1 y (ExK (.ref e.NoDisc) none y)) := ((mk2 nx nd).trans s1).trans sy
    generalize upd H1 y (ExK (.ref e.NoDisc) none y) = H2 at k0 s2 ⊢
    refine ⟨_, rfl, ?_⟩
    refine ⟨_, rfl, (by show 11 ≤ sizeLine; decide), fun t nt => ⟨y, t, _, _, false, rfl, k0.same (same_upd nt), upd_same, (.cons (.own _) (.cons (.own _) (.cons (.own _) (.cons (.own _) (.cons (.own _) (.cons (.own _) (.cons (.own _) (.cons (.own _) (.cons (.own _) (.cons (.own _) (.cons (.own _) .nil))))))))))), T.kit1, false, rfl, iteF ?_⟩⟩
    have k1 := k0.same (same_upd nt (o := .tup [.ref e.NoCustom, .ref e.NoDay, .ref e.NoEntry, .ref e.NoKey, .ref e.NoLength, .ref e.NoLine, .ref e.NoName, .ref e.NoText, .ref e.Same, .ref e.Lost, .ref e.Taken]))
    have s3 := s2.trans (same_upd nt (o := .tup [.ref e.NoCustom, .ref e.NoDay, .ref e.NoEntry, .ref e.NoKey, .ref e.NoLength, .ref e.NoLine, .ref e.NoName, .ref e.NoText, .ref e.Same, .ref e.Lost, .ref e.Taken]))
    refine ⟨_, rfl, y, _, _, true, rfl, k1, .own _, T.kit3, true, rfl, iteT ?_⟩
    refine ⟨_, rfl, y, _, _, true, rfl, k1, .ty _, T.kit5, true, rfl, iteT ?_⟩
    exact ⟨_, rfl, y, _, _, false, rfl, k1, .ty _, T.kit6, false, rfl, q _ s3⟩
end
end K47
set_option Elab.async false
set_option linter.all false
set_option maxRecDepth 100000
set_option maxHeartbeats 4000000
set_option pp.maxSteps 400
set_option pp.deepTerms false
namespace K47
open PySem PySem.Spec PyProof.Rows L2
open Xk Az
section
variable {P : Program} {w : World} {K : PySem.W.Frag} {mg : Str → Option Value} {base : Heap} {C : Addr}
section
variable {X : Cx}
def rSlU : V → Option Int → Option Int → Hp → VK → Prop := fun x lo hi H Q => ∃ a xs, x = .ref a ∧ H a = some (.tup xs) ∧ ∀ p H', L2.Same H H' → H' p = some (.tup (cutV xs lo hi)) → Q (.ref p) H'
theorem sl_tupU : SlR X rSlU := by
  intro pins s σ H x v vl vu lo hi sl Q I rx hs pl pu h
  obtain ⟨a, xs, rfl, e, q⟩ := h
  refine sl_tupA pins s σ H _ v vl vu lo hi sl Q I rx hs pl pu ⟨a, xs, rfl, SqT.of e, fun w => q a H (Same.refl H) ?_, fun _ p np => q p _ (same_upd np) upd_same⟩
  rw [e]
  unfold cutV
  rw [w.1, w.2, List.drop_zero, Nat.sub_zero, List.take_length]
def rCatU : R2 := fun x y H Q => ∃ a b xs ys, x = .ref a ∧ y = .ref b ∧ H a = some (.tup xs) ∧ H b = some (.tup ys) ∧ xs.length + ys.length ≤ sizeLine ∧ ∀ p H', L2.Same H H' → H' p = some (.tup (xs ++ ys)) → Q (.ref p) H'
theorem op_catU : OpR X (binaryOp .Add) rCatU := by
  intro pins s σ H x y v u Q I rx ry h
  obtain ⟨a, b, xs, ys, rfl, rfl, ea, eb, hz, q⟩ := h
  refine op_catA pins s σ H _ _ v u Q I rx ry ⟨a, b, xs, ys, rfl, rfl, SqT.of ea, SqT.of eb, hz, fun z => q b H (Same.refl H) ?_, fun _ z => q a H (Same.refl H) ?_, fun _ _ p np => q p _ (same_upd np) upd_same⟩
  · rw [z]; exact eb
  · rw [z, List.append_nil]; exact ea
end
section
variable {prog : Program} {w : World} {A : Around} {E : Value → Shared → Prop} {s : Shared}
theorem turnN {sl : Addr} {u : Tok} {n : Nat} {Q : Int × Int × Nat → Shared → Prop} (hs : s.heap.IsSliceOf sl .none .none (.int (-1) u)) (h : Q ((n : Int) - 1, -1, n) s) : wpAny (model prog w) A (Builtin.Slice.sliceApplied (.ref sl) (pure (n : Int))) Q E s := by
  obtain ⟨os, a1, a2, a3⟩ := id hs
  unfold Builtin.Slice.sliceApplied Builtin.Slice.sliceFields
  refine wpAny_bind (wpAny_bind (wpAny_field a1 a3 (x := .none) rfl (wpAny_bind (wpAny_field a1 a3 (x := .none) rfl (wpAny_bind (wpAny_field a1 a3 (x := .int (-1) u) rfl (wpAny_pure ?_)))))))
  refine wpAny_bind (slicePart_int ?_)
  show wpAny _ _ (if ((-1 : Int) == 0) = true then _ else _) _ _ s
  rw [if_neg (by decide)]
  have pl : Builtin.Slice.slicePlaces ((n : Int) - 1) (-1) (-1) = n := by
    unfold Builtin.Slice.slicePlaces
    have h1 : ¬ ((-1 : Int) > 0) := by decide
    simp only [h1, if_false, show (- -1 : Int) = 1 by decide, Int.ediv_one]
    split <;> omega
  refine wpAny_bind (slicePart_none (wpAny_bind (slicePart_none (wpAny_bind (wpAny_pure ?_)))))
  show wpAny _ _ (pure ((n : Int) - 1, (-1 : Int), Builtin.Slice.slicePlaces ((n : Int) - 1) (-1) (-1))) _ _ s
  rw [pl]
  exact wpAny_pure h
theorem fm_congr {α β : Type} {f g : α → Option β} : ∀ l : List α, (∀ m ∈ l, f m = g m) → l.filterMap f = l.filterMap g
  | [], _ => rfl
  | a :: r, h => by
    rw [List.filterMap_cons, List.filterMap_cons, h a List.mem_cons_self, fm_congr r fun m hm => h m (List.mem_cons_of_mem _ hm)]
theorem turn_all (xs : Array Value) : ((List.range xs.size).filterMap fun (m : Nat) => xs[((xs.size : Int) - 1 + (m : Int) * -1).toNat]?).toArray = xs.toList.reverse.toArray := by
  have e : ((List.range xs.size).filterMap fun (m : Nat) => xs[((xs.size : Int) - 1 + (m : Int) * -1).toNat]?) = ((List.range xs.size).map fun k => xs.size - 1 - k).filterMap (xs[·]?) := by
    rw [List.filterMap_map]
    refine fm_congr _ fun m hm => ?_
    have := List.mem_range.mp hm
    show xs[((xs.size : Int) - 1 + (m : Int) * -1).toNat]? = xs[xs.size - 1 - m]?
    congr 1
    omega
  rw [e, PySem.W.krv_range, List.filterMap_reverse, PySem.W.krv_all]
theorem itemN {t sl : Addr} {items : Array Value} {u : Tok} {Q : Value → Shared → Prop} (ht : IsTup s.heap t items) (hs : s.heap.IsSliceOf sl .none .none (.int (-1) u)) (hz : items.size ≤ sizeLine)
    (h : Q (.ref s.heap.objs.size) { s with heap := s.heap.push { cls := .type "tuple", data := .seq items.toList.reverse.toArray } }) : wpAny (model prog w) A (getItem (.ref t) (.ref sl)) Q E s := by
  have fits : sizeOk (.seq items.toList.reverse.toArray) := by
    show items.toList.reverse.toArray.size ≤ sizeLine
    rw [List.size_toArray, List.length_reverse, Array.length_toList]
    exact hz
  obtain ⟨os, a1, a2, a3⟩ := id hs
  have ty : s.TypeIs (.ref sl) "slice" := ⟨os, a1, a2⟩
  unfold getItem; try with_reducible refine wpAny_holding ?_
  (first | refine wpAny_bind (wpAny_pure ?_) | skip); refine wpAny_bind (wpAny_sequenceKey ht.typeIs (by decide) ?_)
  refine wpAny_bind (wpAny_callSpecial?_slot (name := Str.ofString "__getitem__") ht.typeIs PyProof.Rows.slot_tuple_getitem (wpAny_call_entry PyProof.Rows.slot_tuple_getitem ht.typeIs entry_tuple_getitem ?_ (args_tuple_getitem _ _)))
  show wpAny _ _ (Builtin.Tuple.tupleItemsOf (.ref t) >>= _) _ _ s; refine wpAny_bind (tupleItemsOf_ ht ?_)
  refine wpAny_bind (wpAny_typeOf ty ?_); rw [if_pos (by decide)]
  refine wpAny_bind (turnN hs ?_)
  show wpAny _ _ (if (((items.size : Int) - 1) == 0 && (-1 : Int) == 1 && (items.size == items.size)) = true then _ else _) _ _ s
  rw [if_neg (by simp), turn_all]
  (first
    | exact wpAny_bind (m := Builtin.Tuple.tupleExact _) (wpAny_newObj_type (wpAny_pure ⟨_, rfl, wpAny_pure h⟩) fits)
    | exact wpAny_bind (m := Builtin.Tuple.tupleExact _) (wpAny_newObj_type (wpAny_bind (wpAny_pure (wpAny_pure ⟨_, rfl, wpAny_pure h⟩))) fits)
    | exact wpAny_bind (wpAny_bind (m := Builtin.Tuple.tupleExact _) (wpAny_newObj_type (wpAny_pure (wpAny_pure ⟨_, rfl, wpAny_pure h⟩)) fits)))
end
section
variable {X : Cx}
def tRevN (K : PySem.W.Frag) (te : TE) : TE := fun σ H Q => te σ H fun x H1 => ∃ (a : Addr) (xs : List V), x = .ref a ∧ H1 a = some (.tup xs) ∧ ∀ p H', L2.Same H1 H' → H' p = some (.tup xs.reverse) → Q (.ref p) H'
theorem pe_revN {e : Expr} {te : TE} {k : Nat} {p1 p2 p3 pos : Pos} (he : PE X e te) : PE X (.Subscript e (.Slice none none (some (.UnaryOp .USub (.Constant (.int 1) k p1) p2)) p3) pos) (tRevN X.K te) := by
  refine ⟨fun pins s σ H Q I h => Subscript_ (thn (he.run pins s σ H _ I h) fun v s1 ⟨x, H1, I1, r1, a, xs, ex, hx, q⟩ => ?_)⟩
  subst ex; cases r1
  have hst : PO X (some (.UnaryOp .USub (.Constant (.int 1) k p1) p2)) (tPart (tUn (rU fun i => .int (-i)) (tC (.int 1)))) := po_some (pe_un un_neg pe_int)
  refine wpAny_Slice (thn (po_none.run pins s1 σ H1 (fun o G => o = none ∧ G = H1) I1 ⟨rfl, rfl⟩) fun vl s2 ⟨l, G, I2, pl, el, e2⟩ => ?_)
  subst el e2
  refine thn (po_none.run pins s2 σ G (fun o G2 => o = none ∧ G2 = G) I2 ⟨rfl, rfl⟩) fun vu s3 ⟨u, G2, I3, pu, eu, e3⟩ => ?_
  subst eu e3
  refine thn (hst.run pins s3 σ G2 (fun o G3 => o = some (-1) ∧ G3 = G2) I3 ⟨1, rfl, -1, rfl, rfl, rfl⟩) fun vs s4 ⟨o, G3, I4, ps, eo, e4⟩ => ?_
  subst eo e4
  cases pl; cases pu
  cases ps with
  | int _ tk =>
  have I5 : Inv X pins σ G3 { s4 with heap := s4.heap.push { cls := .type "slice", data := .fields #[.none, .none, .int (-1) tk] } } := I4.kept (t' := s4.toks) fun b ob q => Heap.get?_push_of_some _ q
  obtain ⟨its, r, ht, hz⟩ := I5.tuple (SqT.of hx)
  have hlen := r.length
  show wpAny (model X.prog X.w) X.A (subscriptTail e (.Slice none none (some (.UnaryOp .USub (.Constant (.int 1) k p1) p2)) p3) (.ref a) (.ref s4.heap.objs.size)) (EP X pins σ Q) X.xe { s4 with heap := s4.heap.push { cls := .type "slice", data := .fields #[.none, .none, .int (-1) tk] } }
  refine tail_any (ops := [.ref a, .ref s4.heap.objs.size]) ht.typeIs PyProof.Rows.slot_tuple_getitem.lookup ?_ (by with_unfolding_all rfl)
  refine itemN ht (Heap.IsSliceOf.new _ _ _ _) (by rw [List.size_toArray]; omega) ?_
  have nw := I5.hok.fresh (Nat.le_refl _)
  refine ⟨.ref _, _, I5.laid (t' := s4.toks) (o := .tup xs.reverse) (fun b ob q => Heap.get?_push_of_some _ q) (Nat.le_refl _) ?_, rfl, q _ _ (same_upd nw) upd_same⟩
  exact ⟨by rw [List.length_reverse]; exact hz, _, r.reverse, IsTup.new _ _⟩
/-- a list of a tuple's things, new -/
theorem cr_listT : CallR X (.type "list") (fun xs H Q => ∃ p ys, xs = [.ref p] ∧ SqT X.K H p ys ∧ ∀ l, H l = none → l ≠ sysModules → Q (.ref l) (upd H l (.lst ys))) := by
  intro pins s σ H xs us Q I r h
  obtain ⟨p, ys, rfl, hq, q⟩ := h
  obtain ⟨u, rfl, rx⟩ := vals1 r; cases rx
  obtain ⟨its, r', ⟨o, ho, hc, n, hd⟩, hz⟩ := I.tuple hq
  have hlen := r'.length
  exact call_list_seq p (.inr rfl) ho hc hd (fun h' c' kp e => ⟨.ref s.heap.objs.size, _, I.laid (t' := s.toks) kp (Nat.le_refl _) (show ObjOk X.prog X.w _ h' _ (.lst ys) from ⟨hz, its, c', r', e⟩), rfl, q _ (I.hok.fresh (Nat.le_refl _)) (Nat.ne_of_gt I.big)⟩) (by simp only [List.size_toArray]; omega)
end
theorem cut_mem {xs : List V} {lo hi : Option Int} {z : V} (h : z ∈ cutV xs lo hi) : z ∈ xs := List.mem_of_mem_drop (List.mem_of_mem_take h)
theorem cutS_le (x : Str) (lo hi : Option Int) : (cutS x lo hi).length ≤ x.length := by
  rw [len_cps, len_cps x]
  unfold cutS
  simp only [List.length_take, List.length_drop]
  omega
theorem dz_app {H : Hp} : ∀ {xs ys : List V} {ds es : List PyData}, DzAll K H xs ds → DzAll K H ys es → DzAll K H (xs ++ ys) (ds ++ es)
  | [], _, _, _, .nil, b => b
  | _ :: _, _, _, _, .cons h r, b => .cons h (dz_app r b)
theorem dz_all {H : Hp} : ∀ {xs : List V} {ds : List PyData} {v : V}, DzAll K H xs ds → v ∈ xs → ∃ d ∈ ds, Dz K H v d
  | [], _, _, .nil, m => by cases m
  | _ :: _, _, v, .cons (d := d) hd hr, m => by
    rcases List.mem_cons.mp m with z | z
    · rw [z]; exact ⟨d, List.mem_cons_self, hd⟩
    · obtain ⟨e, h1, h2⟩ := dz_all hr z
      exact ⟨e, List.mem_cons_of_mem _ h1, h2⟩
theorem dz_sub {H : Hp} {xs : List V} {es : List PyData} (a : DzAll K H xs es) : ∀ {zs : List V}, (∀ z ∈ zs, z ∈ xs) → ∃ ds, DzAll K H zs ds ∧ ∀ d ∈ ds, d ∈ es
  | [], _ => ⟨[], .nil, by simp⟩
  | z :: r, h => by
    obtain ⟨ds, q1, q2⟩ := dz_sub a (zs := r) fun w hw => h w (List.mem_cons_of_mem _ hw)
    obtain ⟨d, md, zd⟩ := dz_all a (h z List.mem_cons_self)
    refine ⟨d :: ds, .cons zd q1, fun e he => ?_⟩
    rcases List.mem_cons.mp he with w | w
    · rw [w]; exact md
    · exact q2 e w
theorem st_s {x : Str} (h : x.length ≤ 2000) : St (.str x) := fun y e => by
  cases e
  exact h
theorem st_n {d : PyData} (h : isStr d = false) : St d := fun y e => by
  subst e
  cases h
theorem s2_0 : S2 (.tuple []) := fun ds e => by
  cases e
  intro x hx
  cases hx
theorem s2_1 {a : PyData} (ha : St a) : S2 (.tuple [a]) := fun ds e => by
  cases e
  intro x hx
  rw [List.mem_singleton.mp hx]
  exact ha
theorem s2_2 {a b : PyData} (ha : St a) (hb : St b) : S2 (.tuple [a, b]) := fun ds e => by
  cases e
  intro x hx
  rcases List.mem_cons.mp hx with z | z
  · rw [z]; exact ha
  · rw [List.mem_singleton.mp z]; exact hb
theorem s2_3 {a b c : PyData} (ha : St a) (hb : St b) (hc : St c) : S2 (.tuple [a, b, c]) := fun ds e => by
  cases e
  intro x hx
  rcases List.mem_cons.mp hx with z | z
  · rw [z]; exact ha
  · rcases List.mem_cons.mp z with z | z
    · rw [z]; exact hb
    · rw [List.mem_singleton.mp z]; exact hc
theorem s2_ky {k : Ky} (h : GoodK k) : S2 (kyP k) := s2_2 (st_s (by have := h.w8; omega)) (st_n rfl)
theorem ky_no {a b : PyData} (h : nn b = false) : kyD (.tuple [a, b]) = false := by
  show (ofT a small 1 8 && nn b) = false
  rw [h, Bool.and_false]
theorem ky_na {a b : PyData} (h : ofT a small 1 8 = false) : kyD (.tuple [a, b]) = false := by
  show (ofT a small 1 8 && nn b) = false
  rw [h, Bool.false_and]
theorem of_short {x : Str} (h : x.length < 1) : ofT (.str x) small 1 8 = false := by
  show (decide ((1 : Int) ≤ (x.length : Int)) && decide ((x.length : Int) ≤ 8) && chk x small) = false
  rw [decide_eq_false (by omega)]
  rfl
theorem of_long {x : Str} (h : 8 < x.length) : ofT (.str x) small 1 8 = false := by
  show (decide ((1 : Int) ≤ (x.length : Int)) && decide ((x.length : Int) ≤ 8) && chk x small) = false
  rw [decide_eq_false (show ¬ (x.length : Int) ≤ 8 by omega), Bool.and_false]
  rfl
theorem of_chk {x : Str} {c : Nat} (m : c ∈ x.cps.toList) (h : c ∉ small.cps.toList) : ofT (.str x) small 1 8 = false := by
  show (decide ((1 : Int) ≤ (x.length : Int)) && decide ((x.length : Int) ≤ 8) && chk x small) = false
  have : chk x small = false := by
    rw [Bool.eq_false_iff]
    intro z
    exact h (of_decide_eq_true (List.all_eq_true.mp z c m))
  rw [this, Bool.and_false]
theorem of_one (x : Str) : ofT (.str (x ++ "1")) small 1 8 = false := of_chk (c := 49) (by
  rw [Str.cps_append, Array.toList_append]
  exact List.mem_append_right _ (by decide +kernel)) (by decide +kernel)
theorem up_small : ∀ c ∈ small.cps.toList, (Unicode.upperOf c).head? = some (c - 32) ∧ c - 32 ∉ small.cps.toList := by decide +kernel
theorem of_upper {x : Str} (l : 1 ≤ x.length) (h : ∀ c ∈ x.cps.toList, c ∈ small.cps.toList) : ofT (.str (Txt.upper x)) small 1 8 = false := by
  cases e : x.cps.toList with
  | nil =>
    rw [len_cps, e] at l
    simp at l
  | cons c r =>
    obtain ⟨u1, u2⟩ := up_small c (h c (by rw [e]; simp))
    refine of_chk (c := c - 32) ?_ u2
    show c - 32 ∈ (placed x fun _ c => Unicode.upperOf c).toList
    unfold placed
    rw [Array.toList_flatten, Array.toList_mapIdx, e]
    rw [List.mapIdx_cons, List.map_cons, List.flatten_cons]
    refine List.mem_append_left _ ?_
    exact List.mem_of_head? u1
theorem cut9 {x : Str} (h : 9 ≤ x.length) : (cutS x none (some 9)).length = 9 := by
  rw [len_cps]
  have e1 : HT.sIx x.length 0 none = 0 := rfl
  have e2 : HT.sIx x.length x.length (some 9) = min 9 x.length := HT.sIx_nat x.length x.length 9
  unfold cutS
  rw [e1, e2]
  simp only [List.drop_zero, List.length_take]
  rw [← len_cps]
  omega
theorem rw_bad {ds : List PyData} {d : PyData} (m : d ∈ ds) (h : kyD d = false) : rwD (.tuple ds) = false := by
  have : ds.all kyD = false := by
    rw [Bool.eq_false_iff]
    intro z
    rw [List.all_eq_true.mp z d m] at h
    cases h
  unfold rwD
  dsimp only
  rw [this, Bool.and_false]
theorem rw_long {ds : List PyData} (h : 30 < ds.length) : rwD (.tuple ds) = false := by
  unfold rwD
  dsimp only
  rw [decide_eq_false (show ¬ (ds.length : Int) ≤ 30 by omega), Bool.and_false]
  rfl
theorem rep_mem {n : Nat} {xs : List V} {z : V} (h : z ∈ (List.replicate n xs).flatten) : z ∈ xs := by
  obtain ⟨l, hl, hz⟩ := List.mem_flatten.mp h
  rw [(List.mem_replicate.mp hl).2] at hz
  exact hz
theorem rep_len31 {xs : List V} (h : xs ≠ []) : (cutV (List.replicate (31 : Int).toNat xs).flatten none (some 31)).length = 31 := by
  have p : 1 ≤ xs.length := List.length_pos_iff.mpr h
  have l : (List.replicate (31 : Int).toNat xs).flatten.length = 31 * xs.length := by
    rw [List.length_flatten, List.map_replicate, List.sum_replicate_nat]
    rfl
  unfold cutV
  have e1 : HT.sIx (List.replicate (31 : Int).toNat xs).flatten.length 0 none = 0 := rfl
  have e2 : HT.sIx (List.replicate (31 : Int).toNat xs).flatten.length (List.replicate (31 : Int).toNat xs).flatten.length (some 31) = min 31 (List.replicate (31 : Int).toNat xs).flatten.length := HT.sIx_nat _ _ 31
  rw [e1, e2, List.drop_zero, List.length_take, l]
  omega
def spSpoilt (K : PySem.W.Frag) : Sp := fun vs H Q _ => ∃ (h : Addr) (n : Int) (t : Addr) (xs : List V) (ks : List Ky), vs = [.ref h, .ref t] ∧ H t = some (.tup xs) ∧ DzAll K (del H h) xs (ks.map kyP) ∧ (∀ k ∈ ks, Gk k) ∧ 1 ≤ ks.length ∧ ks.length ≤ 30 ∧ Hand n H h ∧ n + 100 ≤ far ∧
  ∀ r dr H', Dz K (del H' h) r dr → S3 dr → rwD dr = false → Hand (n + 10) H' h → But h H H' → Q r H'
theorem ok_spoilt {f : Addr} {fd : FuncData} {e : Ex} (D : Df K mg "_law_spoilt" ["_law_hand_here", "_law_some_here"] sSpoilt f fd) (T : Txt K mg C e) (cT : Ca P w K mg base 1 "_law_take" ["_law_hand_here", "_law_many"] spTake) (cP : Ca P w K mg base 2 "_law_of" ["_law_hand_here", "_law_some_here"] spPick) : FnOk P w K mg base CX0 3 f fd ["_law_hand_here", "_law_some_here"] (spSpoilt K) := by
  refine D.fn.ok scSpoilt (fun vs H Q E h => ?_) (fun cdv A outer s H vs Q E hr h => ?_)
  · obtain ⟨h, n, t, xs, ks, rfl, et, ra, gk, k1, k30, hh, hn, q⟩ := h
    rfl
  · obtain ⟨h, n, t, xs, ks, rfl, et, ra, gk, k1, k30, hh, hn, q⟩ := h
    refine ⟨_, (pss_cons (ps_set (i := 2) scSpoilt.nd rfl (.inl rfl) (pe_ca cT hr (by decide) (by rfl) (pa_cons (pv 0) (pa_cons (pe_callB call_len_seq (by rfl) T.len PySem.boot_len (pa_cons (pv 1) pa_nil)) pa_nil))))
      (pss_cons (ps_asg (pe_ix ix_tup (pv 1) (pv 2) (fun _ _ => rfl)) (pg_tup (by rfl) (pgs_cons (pg_name (i := 3) scSpoilt.nd rfl (.inl rfl)) (pgs_cons (pg_name (i := 4) scSpoilt.nd rfl (.inl rfl)) pgs_nil))))
      (pss_cons (ps_set (i := 5) scSpoilt.nd rfl (.inl rfl) (pe_lst (pa_cons (pe_lstZ (pa_cons (pv 3) (pa_cons (pv 4) pa_nil))) (pa_cons (pe_tup (pa_cons (pv 3) pa_nil)) (pa_cons (pe_tup (pa_cons (pv 3) (pa_cons (pv 4) (pa_cons pe_int pa_nil)))) (pa_cons (pe_tup (pa_cons (pv 4) (pa_cons (pv 3) pa_nil))) (pa_cons (pe_tup (pa_cons (pv 3) (pa_cons (pe_op op_sub (pe_un un_neg pe_int) (pv 4)) pa_nil))) (pa_cons (pe_tup (pa_cons (pv 3) (pa_cons pe_bl pa_nil))) pa_nil))))))))
      (pss_cons (ps_set (i := 5) scSpoilt.nd rfl (.inl rfl) (pe_op op_cat (pv 5) (pe_lst (pa_cons (pe_tup (pa_cons (pv 3) (pa_cons (pe_callTy call_str_int (by rfl) T.str (by decide +kernel) (pa_cons (pv 4) pa_nil)) pa_nil))) (pa_cons (pe_tup (pa_cons (pv 3) (pa_cons pe_non pa_nil))) (pa_cons (pe_tup (pa_cons pe_str (pa_cons (pv 4) pa_nil))) (pa_cons (pe_tup (pa_cons (pe_m0 F.slot_str_upper F.type_str_upper mt_upper (pv 3)) (pa_cons (pv 4) pa_nil))) (pa_cons (pe_tup (pa_cons pe_int (pa_cons (pv 4) pa_nil))) pa_nil))))))))
      (pss_cons (ps_set (i := 5) scSpoilt.nd rfl (.inl rfl) (pe_op op_cat (pv 5) (pe_lst (pa_cons (pe_tup (pa_cons (pe_slice sl_str (pe_op op_add_str (pv 3) pe_str) po_none (po_some pe_int)) (pa_cons pe_int pa_nil))) (pa_cons (pe_tup (pa_cons (pe_op op_add_str (pv 3) pe_str) (pa_cons (pv 4) pa_nil))) (pa_cons pe_non (pa_cons (pv 3) (pa_cons (pe_tup pa_nil) pa_nil))))))))
      (pss_cons (ps_set (i := 6) scSpoilt.nd rfl (.inl rfl) (pe_op op_catU (pe_op op_catU (pe_slice sl_tupU (pv 1) po_none (po_some (pv 2))) (pe_tup (pa_cons (pe_ca cP hr (by decide) (by rfl) (pa_cons (pv 0) (pa_cons (pv 5) pa_nil))) pa_nil))) (pe_slice sl_tupU (pv 1) (po_some (pe_op op_add (pv 2) pe_int)) po_none)))
      (pss_one (ps_ret (pe_ca cP hr (by decide) (by rfl) (pa_cons (pv 0) (pa_cons (pe_lst (pa_cons (pv 6) (pa_cons (pv 6) (pa_cons (pv 6) (pa_cons (pe_callTy cr_listT (by rfl) T.list (by decide +kernel) (pa_cons (pv 1) pa_nil)) (pa_cons (pe_tup pa_nil) (pa_cons (pe_slice sl_tupU (pe_op op_repT (pv 1) pe_int) po_none (po_some pe_int)) (pa_cons pe_non (pa_cons (pe_ix ix_tup (pv 1) pe_int (fun _ _ => rfl)) (pa_cons pe_str pa_nil)))))))))) pa_nil))))))))))), ?_⟩
    have fr0 : n + 100 ≤ 1000000 := hn
    have lx := dz_len ra
    rw [List.length_map] at lx
    have xne : xs ≠ [] := fun z => by rw [z] at lx; simp at lx; omega
    have xpos : 0 < xs.length := List.length_pos_iff.mpr xne
    have et_h := hh.nt et
    refine ⟨_, rfl, _, rfl, t, xs, rfl, .inr (SqT.of et), h, (xs.length : Int), n, rfl, by omega, lt30 (by omega), hh, by show n ≤ 1000000; omega, fun a H1 a0 a1 h1 b1 => ?_⟩
    obtain ⟨j, rfl⟩ : ∃ j : Nat, a = (j : Int) := ⟨a.toNat, by omega⟩
    have hj : j < xs.length := by omega
    obtain ⟨x0, hx0⟩ : ∃ x0, xs[0]? = some x0 := ⟨xs[0], List.getElem?_eq_getElem xpos⟩
    have et1 := b1 _ _ et_h et
    obtain ⟨dj, edj, zj⟩ := dz_get ra (List.getElem?_eq_getElem hj)
    rw [List.getElem?_map] at edj
    obtain ⟨k, ek, rfl⟩ := Option.map_eq_some_iff.mp edj
    obtain ⟨y, ey, ey0⟩ := dz_key zj
    have gj := gk k (List.mem_of_getElem? ek)
    have eyH : H y = some (.tup [.str k.1, .int k.2]) := off_all _ _ ey0
    have ey1 := b1 _ _ (hh.nt eyH) eyH
    refine ⟨_, rfl, _, rfl, t, xs, _, .ref y, rfl, rfl, SqT.of et1, atI_nat (by rw [List.getElem?_eq_getElem hj, ey]), y, _, rfl, SqT.of ey1, rfl, _, _, rfl, _, _, rfl, rfl, ?_⟩
    have w1 := gj.w1
    have w8 := gj.w8
    have n0 := gj.n0
    have n29 := gj.n29
    have l8 : ("abcdefgh" : Str).length = 8 := by decide +kernel
    have l1 : ("1" : Str).length = 1 := by decide +kernel
    have fit2 : k.1.length + ("abcdefgh" : Str).length ≤ sizeLine := fitN (by rw [l8]; omega)
    have fit3 : (k.1 ++ "abcdefgh").length ≤ sizeLine := fitN (by rw [strLen_append, l8]; omega)
    have fit4 : k.1.length + ("1" : Str).length ≤ sizeLine := fitN (by rw [l1]; omega)
    have ln := tx_le (i := k.2) (by omega) (by omega)
    have sx : St (.str k.1) := st_s (by omega)
    have sn : St (.str (toString k.2)) := st_s (Nat.le_trans ln (by decide))
    have s_e : St (.str "") := st_s (by decide)
    have su : St (.str (Txt.upper k.1)) := st_s (by have := PyProof.Rows.len_upper k.1; omega)
    have sc : St (.str (cutS (k.1 ++ "abcdefgh") none (some 9))) := st_s (by have := cutS_le (k.1 ++ "abcdefgh") none (some 9); rw [strLen_append, l8] at this; omega)
    have s1 : St (.str (k.1 ++ "1")) := st_s (by rw [strLen_append, l1]; omega)
    have kneg : kyD (.tuple [.str k.1, .int (-1 - k.2)]) = false := ky_no (by show decide (0 ≤ -1 - k.2) = false; exact decide_eq_false (by omega))
    have kbo : kyD (.tuple [.str k.1, .bool true]) = false := ky_no rfl
    have kst : kyD (.tuple [.str k.1, .str (toString k.2)]) = false := ky_no rfl
    have kno : kyD (.tuple [.str k.1, .none]) = false := ky_no rfl
    have kem : kyD (.tuple [.str "", .int k.2]) = false := ky_na (of_short (by decide))
    have kup : kyD (.tuple [.str (Txt.upper k.1), .int k.2]) = false := ky_na (of_upper w1 gj.ws)
    have kcu : kyD (.tuple [.str (cutS (k.1 ++ "abcdefgh") none (some 9)), .int 0]) = false := ky_na (of_long (by rw [cut9 (by rw [strLen_append, l8]; omega)]; decide))
    have kon : kyD (.tuple [.str (k.1 ++ "1"), .int k.2]) = false := ky_na (of_one k.1)
    have cl : ∀ a b : Option Int, (cutV xs a b).length ≤ 400 := fun a b => Nat.le_trans (cutV_length xs a b) (by omega)
    have fits : ∀ {ys zs : List V}, ys.length ≤ 1000 → zs.length ≤ 1000 → ys.length + zs.length ≤ sizeLine := fun {ys zs} h1 h2 => fitN (by omega)
    refine ⟨_, rfl, _, rfl, (by show 2 ≤ sizeLine; decide), fun p1 n2 ne0 => ?_⟩
    have a0h := h1.fresh n2
    have s3 := same_upd n2 (o := .lst [.str k.1, .int k.2])
    have e4 : (upd H1 p1 (.lst [.str k.1, .int k.2])) p1 = some (.lst [.str k.1, .int k.2]) := upd_same
    generalize upd H1 p1 (.lst [.str k.1, .int k.2]) = G5 at s3 e4 ⊢
    refine ⟨_, rfl, (by show 1 ≤ sizeLine; decide), fun p6 n7 => ?_⟩
    have s8 := same_upd n7 (o := .tup [.str k.1])
    have e9 : (upd G5 p6 (.tup [.str k.1])) p6 = some (.tup [.str k.1]) := upd_same
    generalize upd G5 p6 (.tup [.str k.1]) = G10 at s8 e9 ⊢
    refine ⟨_, rfl, _, rfl, (by show 3 ≤ sizeLine; decide), fun p11 n12 => ?_⟩
    have s13 := same_upd n12 (o := .tup [.str k.1, .int k.2, .int 0])
    have e14 : (upd G10 p11 (.tup [.str k.1, .int k.2, .int 0])) p11 = some (.tup [.str k.1, .int k.2, .int 0]) := upd_same
    generalize upd G10 p11 (.tup [.str k.1, .int k.2, .int 0]) = G15 at s13 e14 ⊢
    refine ⟨_, rfl, _, rfl, (by show 2 ≤ sizeLine; decide), fun p16 n17 => ?_⟩
    have s18 := same_upd n17 (o := .tup [.int k.2, .str k.1])
    have e19 : (upd G15 p16 (.tup [.int k.2, .str k.1])) p16 = some (.tup [.int k.2, .str k.1]) := upd_same
    generalize upd G15 p16 (.tup [.int k.2, .str k.1]) = G20 at s18 e19 ⊢
    refine ⟨_, rfl, 1, rfl, _, rfl, -1, k.2, rfl, rfl, (by show 2 ≤ sizeLine; decide), fun p21 n22 => ?_⟩
    have s23 := same_upd n22 (o := .tup [.str k.1, .int (-1 - k.2)])
    have e24 : (upd G20 p21 (.tup [.str k.1, .int (-1 - k.2)])) p21 = some (.tup [.str k.1, .int (-1 - k.2)]) := upd_same
    generalize upd G20 p21 (.tup [.str k.1, .int (-1 - k.2)]) = G25 at s23 e24 ⊢
    refine ⟨_, rfl, (by show 2 ≤ sizeLine; decide), fun p26 n27 => ?_⟩
    have s28 := same_upd n27 (o := .tup [.str k.1, .bl true])
    have e29 : (upd G25 p26 (.tup [.str k.1, .bl true])) p26 = some (.tup [.str k.1, .bl true]) := upd_same
    generalize upd G25 p26 (.tup [.str k.1, .bl true]) = G30 at s28 e29 ⊢
    refine ⟨(by show 6 ≤ sizeLine; decide), fun p31 n32 => ?_⟩
    have s33 := same_upd n32 (o := .lst [.ref p1, .ref p6, .ref p11, .ref p16, .ref p21, .ref p26])
    have e34 : (upd G30 p31 (.lst [.ref p1, .ref p6, .ref p11, .ref p16, .ref p21, .ref p26])) p31 = some (.lst [.ref p1, .ref p6, .ref p11, .ref p16, .ref p21, .ref p26]) := upd_same
    generalize upd G30 p31 (.lst [.ref p1, .ref p6, .ref p11, .ref p16, .ref p21, .ref p26]) = G35 at s33 e34 ⊢
    refine ⟨_, rfl, ?_⟩
    refine ⟨_, rfl, _, rfl, k.2, rfl, lg (by omega) (by omega), (by show 2 ≤ sizeLine; decide), fun p36 n37 => ?_⟩
    have s38 := same_upd n37 (o := .tup [.str k.1, .str (toString k.2)])
    have e39 : (upd G35 p36 (.tup [.str k.1, .str (toString k.2)])) p36 = some (.tup [.str k.1, .str (toString k.2)]) := upd_same
    generalize upd G35 p36 (.tup [.str k.1, .str (toString k.2)]) = G40 at s38 e39 ⊢
    refine ⟨_, rfl, (by show 2 ≤ sizeLine; decide), fun p41 n42 => ?_⟩
    have s43 := same_upd n42 (o := .tup [.str k.1, .non])
    have e44 : (upd G40 p41 (.tup [.str k.1, .non])) p41 = some (.tup [.str k.1, .non]) := upd_same
    generalize upd G40 p41 (.tup [.str k.1, .non]) = G45 at s43 e44 ⊢
    refine ⟨_, rfl, (by show 2 ≤ sizeLine; decide), fun p46 n47 => ?_⟩
    have s48 := same_upd n47 (o := .tup [.str "", .int k.2])
    have e49 : (upd G45 p46 (.tup [.str "", .int k.2])) p46 = some (.tup [.str "", .int k.2]) := upd_same
    generalize upd G45 p46 (.tup [.str "", .int k.2]) = G50 at s48 e49 ⊢
    refine ⟨_, rfl, ⟨k.1, rfl⟩, k.1, rfl, rfl, by omega, _, rfl, (by show 2 ≤ sizeLine; decide), fun p51 n52 => ?_⟩
    have s53 := same_upd n52 (o := .tup [.str (Txt.upper k.1), .int k.2])
    have e54 : (upd G50 p51 (.tup [.str (Txt.upper k.1), .int k.2])) p51 = some (.tup [.str (Txt.upper k.1), .int k.2]) := upd_same
    generalize upd G50 p51 (.tup [.str (Txt.upper k.1), .int k.2]) = G55 at s53 e54 ⊢
    refine ⟨_, rfl, (by show 2 ≤ sizeLine; decide), fun p56 n57 => ?_⟩
    have s58 := same_upd n57 (o := .tup [.int 7, .int k.2])
    have e59 : (upd G55 p56 (.tup [.int 7, .int k.2])) p56 = some (.tup [.int 7, .int k.2]) := upd_same
    generalize upd G55 p56 (.tup [.int 7, .int k.2]) = G60 at s58 e59 ⊢
    refine ⟨(by show 5 ≤ sizeLine; decide), fun p61 n62 => ?_⟩
    have s63 := same_upd n62 (o := .lst [.ref p36, .ref p41, .ref p46, .ref p51, .ref p56])
    have e64 : (upd G60 p61 (.lst [.ref p36, .ref p41, .ref p46, .ref p51, .ref p56])) p61 = some (.lst [.ref p36, .ref p41, .ref p46, .ref p51, .ref p56]) := upd_same
    generalize upd G60 p61 (.lst [.ref p36, .ref p41, .ref p46, .ref p51, .ref p56]) = G65 at s63 e64 ⊢
    refine ⟨p31, p61, _, _, rfl, rfl, (s63 _ _ (s58 _ _ (s53 _ _ (s48 _ _ (s43 _ _ (s38 _ _ e34)))))), e64, (by show 6 + 5 ≤ sizeLine; decide), fun p66 n67 => ?_⟩
    have s68 := same_upd n67 (o := .lst ([.ref p1, .ref p6, .ref p11, .ref p16, .ref p21, .ref p26] ++ [.ref p36, .ref p41, .ref p46, .ref p51, .ref p56]))
    have e69 : (upd G65 p66 (.lst ([.ref p1, .ref p6, .ref p11, .ref p16, .ref p21, .ref p26] ++ [.ref p36, .ref p41, .ref p46, .ref p51, .ref p56]))) p66 = some (.lst ([.ref p1, .ref p6, .ref p11, .ref p16, .ref p21, .ref p26] ++ [.ref p36, .ref p41, .ref p46, .ref p51, .ref p56])) := upd_same
    generalize upd G65 p66 (.lst ([.ref p1, .ref p6, .ref p11, .ref p16, .ref p21, .ref p26] ++ [.ref p36, .ref p41, .ref p46, .ref p51, .ref p56])) = G70 at s68 e69 ⊢
    refine ⟨_, rfl, ?_⟩
    refine ⟨_, rfl, k.1, _, rfl, rfl, fit2, 9, rfl, _, rfl, fit3, ?_⟩
    refine ⟨(by show 2 ≤ sizeLine; decide), fun p71 n72 => ?_⟩
    have s73 := same_upd n72 (o := .tup [.str (cutS (k.1 ++ "abcdefgh") none (some 9)), .int 0])
    have e74 : (upd G70 p71 (.tup [.str (cutS (k.1 ++ "abcdefgh") none (some 9)), .int 0])) p71 = some (.tup [.str (cutS (k.1 ++ "abcdefgh") none (some 9)), .int 0]) := upd_same
    generalize upd G70 p71 (.tup [.str (cutS (k.1 ++ "abcdefgh") none (some 9)), .int 0]) = G75 at s73 e74 ⊢
    refine ⟨_, rfl, k.1, _, rfl, rfl, fit4, _, rfl, (by show 2 ≤ sizeLine; decide), fun p76 n77 => ?_⟩
    have s78 := same_upd n77 (o := .tup [.str (k.1 ++ "1"), .int k.2])
    have e79 : (upd G75 p76 (.tup [.str (k.1 ++ "1"), .int k.2])) p76 = some (.tup [.str (k.1 ++ "1"), .int k.2]) := upd_same
    generalize upd G75 p76 (.tup [.str (k.1 ++ "1"), .int k.2]) = G80 at s78 e79 ⊢
    refine ⟨_, rfl, ?_⟩
    refine ⟨(by show 0 ≤ sizeLine; decide), fun p81 n82 => ?_⟩
    have s83 := same_upd n82 (o := .tup [])
    have e84 : (upd G80 p81 (.tup [])) p81 = some (.tup []) := upd_same
    generalize upd G80 p81 (.tup []) = G85 at s83 e84 ⊢
    refine ⟨(by show 5 ≤ sizeLine; decide), fun p86 n87 => ?_⟩
    have s88 := same_upd n87 (o := .lst [.ref p71, .ref p76, .non, .str k.1, .ref p81])
    have e89 : (upd G85 p86 (.lst [.ref p71, .ref p76, .non, .str k.1, .ref p81])) p86 = some (.lst [.ref p71, .ref p76, .non, .str k.1, .ref p81]) := upd_same
    generalize upd G85 p86 (.lst [.ref p71, .ref p76, .non, .str k.1, .ref p81]) = G90 at s88 e89 ⊢
    refine ⟨p66, p86, _, _, rfl, rfl, (s88 _ _ (s83 _ _ (s78 _ _ (s73 _ _ e69)))), e89, (by show 11 + 5 ≤ sizeLine; decide), fun p91 n92 => ?_⟩
    have L5h := (h1.same (((((((((((((((((s3.trans s8).trans s13).trans s18).trans s23).trans s28).trans s33).trans s38).trans s43).trans s48).trans s53).trans s58).trans s63).trans s68).trans s73).trans s78).trans s83).trans s88)).fresh n92
    have s93 := same_upd n92 (o := .lst (([.ref p1, .ref p6, .ref p11, .ref p16, .ref p21, .ref p26] ++ [.ref p36, .ref p41, .ref p46, .ref p51, .ref p56]) ++ [.ref p71, .ref p76, .non, .str k.1, .ref p81]))
    have e94 : (upd G90 p91 (.lst (([.ref p1, .ref p6, .ref p11, .ref p16, .ref p21, .ref p26] ++ [.ref p36, .ref p41, .ref p46, .ref p51, .ref p56]) ++ [.ref p71, .ref p76, .non, .str k.1, .ref p81]))) p91 = some (.lst (([.ref p1, .ref p6, .ref p11, .ref p16, .ref p21, .ref p26] ++ [.ref p36, .ref p41, .ref p46, .ref p51, .ref p56]) ++ [.ref p71, .ref p76, .non, .str k.1, .ref p81])) := upd_same
    generalize upd G90 p91 (.lst (([.ref p1, .ref p6, .ref p11, .ref p16, .ref p21, .ref p26] ++ [.ref p36, .ref p41, .ref p46, .ref p51, .ref p56]) ++ [.ref p71, .ref p76, .non, .str k.1, .ref p81])) = G95 at s93 e94 ⊢
    refine ⟨_, rfl, _, rfl, (j : Int), rfl, t, xs, rfl, (s93 _ _ (s88 _ _ (s83 _ _ (s78 _ _ (s73 _ _ (s68 _ _ (s63 _ _ (s58 _ _ (s53 _ _ (s48 _ _ (s43 _ _ (s38 _ _ (s33 _ _ (s28 _ _ (s23 _ _ (s18 _ _ (s13 _ _ (s8 _ _ (s3 _ _ et1))))))))))))))))))), fun p96 G97 s98 e99 => ?_⟩
    refine ⟨_, rfl, _, rfl, ?_⟩
    have hA := (h1.same (((((((((((((((((((s3.trans s8).trans s13).trans s18).trans s23).trans s28).trans s33).trans s38).trans s43).trans s48).trans s53).trans s58).trans s63).trans s68).trans s73).trans s78).trans s83).trans s88).trans s93).trans s98))
    refine ⟨h, n + 1, _, rfl, hA, by show n + 1 ≤ 1000000; omega, .inl ⟨p91, _, rfl, (s98 _ _ e94), L5h, by simp, by show 16 < 1000; decide, fun kv HB mv hB bB => ?_⟩⟩
    have b1B : But h H1 HB := (Same.but (((((((((((((((((((s3.trans s8).trans s13).trans s18).trans s23).trans s28).trans s33).trans s38).trans s43).trans s48).trans s53).trans s58).trans s63).trans s68).trans s73).trans s78).trans s83).trans s88).trans s93).trans s98) h).trans bB
    have tpB : ∀ {p : Addr} {zs : List V}, G97 p = some (.tup zs) → HB p = some (.tup zs) := fun {p zs} e => bB _ _ (hA.nt e) e
    obtain ⟨dk, zk, bk, sk⟩ : ∃ d, Dz K (del HB h) kv d ∧ kyD d = false ∧ S2 d := by
      have Z : ∀ {p : Addr} {zs : List V} {ds : List PyData}, G97 p = some (.tup zs) → DzAll K (del HB h) zs ds → Dz K (del HB h) (.ref p) (.tuple ds) := fun {p zs ds} e a => .tup (off_at (hA.nt e) (tpB e)) a
      simp only [List.cons_append, List.nil_append, List.mem_cons, List.not_mem_nil, or_false] at mv
      rcases mv with e | e | e | e | e | e | e | e | e | e | e | e | e | e | e | e
      · subst e
        exact ⟨.list [.str k.1, .int k.2], .lst (off_at a0h (bB _ _ a0h (s98 _ _ (s93 _ _ (s88 _ _ (s83 _ _ (s78 _ _ (s73 _ _ (s68 _ _ (s63 _ _ (s58 _ _ (s53 _ _ (s48 _ _ (s43 _ _ (s38 _ _ (s33 _ _ (s28 _ _ (s23 _ _ (s18 _ _ (s13 _ _ (s8 _ _ e4))))))))))))))))))))) ne0 (.cons (.str k.1) (.cons (.int k.2) .nil)), rfl, fun ds e => by cases e⟩
      · subst e
        exact ⟨.tuple [.str k.1], Z (s98 _ _ (s93 _ _ (s88 _ _ (s83 _ _ (s78 _ _ (s73 _ _ (s68 _ _ (s63 _ _ (s58 _ _ (s53 _ _ (s48 _ _ (s43 _ _ (s38 _ _ (s33 _ _ (s28 _ _ (s23 _ _ (s18 _ _ (s13 _ _ e9)))))))))))))))))) (.cons (.str k.1) .nil), rfl, s2_1 sx⟩
      · subst e
        exact ⟨.tuple [.str k.1, .int k.2, .int 0], Z (s98 _ _ (s93 _ _ (s88 _ _ (s83 _ _ (s78 _ _ (s73 _ _ (s68 _ _ (s63 _ _ (s58 _ _ (s53 _ _ (s48 _ _ (s43 _ _ (s38 _ _ (s33 _ _ (s28 _ _ (s23 _ _ (s18 _ _ e14))))))))))))))))) (.cons (.str k.1) (.cons (.int k.2) (.cons (.int 0) .nil))), rfl, s2_3 sx (st_n rfl) (st_n rfl)⟩
      · subst e
        exact ⟨.tuple [.int k.2, .str k.1], Z (s98 _ _ (s93 _ _ (s88 _ _ (s83 _ _ (s78 _ _ (s73 _ _ (s68 _ _ (s63 _ _ (s58 _ _ (s53 _ _ (s48 _ _ (s43 _ _ (s38 _ _ (s33 _ _ (s28 _ _ (s23 _ _ e19)))))))))))))))) (.cons (.int k.2) (.cons (.str k.1) .nil)), rfl, s2_2 (st_n rfl) sx⟩
      · subst e
        exact ⟨.tuple [.str k.1, .int (-1 - k.2)], Z (s98 _ _ (s93 _ _ (s88 _ _ (s83 _ _ (s78 _ _ (s73 _ _ (s68 _ _ (s63 _ _ (s58 _ _ (s53 _ _ (s48 _ _ (s43 _ _ (s38 _ _ (s33 _ _ (s28 _ _ e24))))))))))))))) (.cons (.str k.1) (.cons (.int (-1 - k.2)) .nil)), kneg, s2_2 sx (st_n rfl)⟩
      · subst e
        exact ⟨.tuple [.str k.1, .bool true], Z (s98 _ _ (s93 _ _ (s88 _ _ (s83 _ _ (s78 _ _ (s73 _ _ (s68 _ _ (s63 _ _ (s58 _ _ (s53 _ _ (s48 _ _ (s43 _ _ (s38 _ _ (s33 _ _ e29)))))))))))))) (.cons (.str k.1) (.cons (.bl true) .nil)), kbo, s2_2 sx (st_n rfl)⟩
      · subst e
        exact ⟨.tuple [.str k.1, .str (toString k.2)], Z (s98 _ _ (s93 _ _ (s88 _ _ (s83 _ _ (s78 _ _ (s73 _ _ (s68 _ _ (s63 _ _ (s58 _ _ (s53 _ _ (s48 _ _ (s43 _ _ e39)))))))))))) (.cons (.str k.1) (.cons (.str (toString k.2)) .nil)), kst, s2_2 sx sn⟩
      · subst e
        exact ⟨.tuple [.str k.1, .none], Z (s98 _ _ (s93 _ _ (s88 _ _ (s83 _ _ (s78 _ _ (s73 _ _ (s68 _ _ (s63 _ _ (s58 _ _ (s53 _ _ (s48 _ _ e44))))))))))) (.cons (.str k.1) (.cons (.non) .nil)), kno, s2_2 sx (st_n rfl)⟩
      · subst e
        exact ⟨.tuple [.str "", .int k.2], Z (s98 _ _ (s93 _ _ (s88 _ _ (s83 _ _ (s78 _ _ (s73 _ _ (s68 _ _ (s63 _ _ (s58 _ _ (s53 _ _ e49)))))))))) (.cons (.str "") (.cons (.int k.2) .nil)), kem, s2_2 s_e (st_n rfl)⟩
      · subst e
        exact ⟨.tuple [.str (Txt.upper k.1), .int k.2], Z (s98 _ _ (s93 _ _ (s88 _ _ (s83 _ _ (s78 _ _ (s73 _ _ (s68 _ _ (s63 _ _ (s58 _ _ e54))))))))) (.cons (.str (Txt.upper k.1)) (.cons (.int k.2) .nil)), kup, s2_2 su (st_n rfl)⟩
      · subst e
        exact ⟨.tuple [.int 7, .int k.2], Z (s98 _ _ (s93 _ _ (s88 _ _ (s83 _ _ (s78 _ _ (s73 _ _ (s68 _ _ (s63 _ _ e59)))))))) (.cons (.int 7) (.cons (.int k.2) .nil)), rfl, s2_2 (st_n rfl) (st_n rfl)⟩
      · subst e
        exact ⟨.tuple [.str (cutS (k.1 ++ "abcdefgh") none (some 9)), .int 0], Z (s98 _ _ (s93 _ _ (s88 _ _ (s83 _ _ (s78 _ _ e74))))) (.cons (.str (cutS (k.1 ++ "abcdefgh") none (some 9))) (.cons (.int 0) .nil)), kcu, s2_2 sc (st_n rfl)⟩
      · subst e
        exact ⟨.tuple [.str (k.1 ++ "1"), .int k.2], Z (s98 _ _ (s93 _ _ (s88 _ _ (s83 _ _ e79)))) (.cons (.str (k.1 ++ "1")) (.cons (.int k.2) .nil)), kon, s2_2 s1 (st_n rfl)⟩
      · subst e
        exact ⟨.none, .non, rfl, fun ds e => by cases e⟩
      · subst e
        exact ⟨.str k.1, .str k.1, rfl, fun ds e => by cases e⟩
      · subst e
        exact ⟨.tuple [], Z (s98 _ _ (s93 _ _ (s88 _ _ e84))) .nil, rfl, s2_0⟩
    have et_B := b1B _ _ (h1.nt et1) et1
    have eu_B := tpB e99
    have raB : DzAll K (del HB h) xs (ks.map kyP) := ra.same (off_but (b1.trans b1B))
    clear mv
    refine ⟨(by show 1 ≤ sizeLine; decide), fun p501 n502 => ?_⟩
    have s503 := same_upd n502 (o := .tup [kv])
    have e504 : (upd HB p501 (.tup [kv])) p501 = some (.tup [kv]) := upd_same
    generalize upd HB p501 (.tup [kv]) = G505 at s503 e504 ⊢
    refine ⟨p96, p501, _, _, rfl, rfl, (s503 _ _ eu_B), e504, fits (Nat.le_trans (cl _ _) (by decide)) (by show 1 ≤ 1000; decide), fun p506 G507 s508 e509 => ?_⟩
    refine ⟨_, rfl, _, rfl, (j : Int), 1, rfl, rfl, _, rfl, t, xs, rfl, (s508 _ _ (s503 _ _ et_B)), fun p510 G511 s512 e513 => ?_⟩
    refine ⟨p506, p510, _, _, rfl, rfl, (s512 _ _ e509), e513, fits (by rw [List.length_append]; have := cl none (some (j : Int)); show _ + 1 ≤ 1000; omega) (Nat.le_trans (cl _ _) (by decide)), fun p514 G515 s516 e517 => ?_⟩
    refine ⟨_, rfl, _, rfl, _, rfl, _, rfl, ?_⟩
    refine ⟨_, rfl, t, xs, rfl, SqT.of (s516 _ _ (s512 _ _ (s508 _ _ (s503 _ _ et_B)))), fun p518 n519 nels => ?_⟩
    have lsh := (hB.same (((s503.trans s508).trans s512).trans s516)).fresh n519
    have s520 := same_upd n519 (o := .lst xs)
    have e521 : (upd G515 p518 (.lst xs)) p518 = some (.lst xs) := upd_same
    generalize upd G515 p518 (.lst xs) = G522 at s520 e521 ⊢
    refine ⟨(by show 0 ≤ sizeLine; decide), fun p523 n524 => ?_⟩
    have s525 := same_upd n524 (o := .tup [])
    have e526 : (upd G522 p523 (.tup [])) p523 = some (.tup []) := upd_same
    generalize upd G522 p523 (.tup []) = G527 at s525 e526 ⊢
    refine ⟨_, rfl, t, 31, xs, rfl, rfl, SqT.of (s525 _ _ (s520 _ _ (s516 _ _ (s512 _ _ (s508 _ _ (s503 _ _ et_B)))))), xne, by decide, by decide, by omega, fun p528 n529 => ?_⟩
    have s530 := same_upd n529 (o := .tup (List.replicate (31 : Int).toNat xs).flatten)
    have e531 : (upd G527 p528 (.tup (List.replicate (31 : Int).toNat xs).flatten)) p528 = some (.tup (List.replicate (31 : Int).toNat xs).flatten) := upd_same
    generalize upd G527 p528 (.tup (List.replicate (31 : Int).toNat xs).flatten) = G532 at s530 e531 ⊢
    refine ⟨31, rfl, p528, _, rfl, e531, fun p533 G534 s535 e536 => ?_⟩
    refine ⟨_, rfl, t, xs, 0, x0, rfl, rfl, SqT.of (s535 _ _ (s530 _ _ (s525 _ _ (s520 _ _ (s516 _ _ (s512 _ _ (s508 _ _ (s503 _ _ et_B)))))))), atI_nat (j := 0) hx0, ?_⟩
    refine ⟨(by show 9 ≤ sizeLine; decide), fun p537 n538 => ?_⟩
    have hZ := (hB.same (((((((s503.trans s508).trans s512).trans s516).trans s520).trans s525).trans s530).trans s535))
    have sL := same_upd n538 (o := .lst [.ref p514, .ref p514, .ref p514, .ref p518, .ref p523, .ref p533, .non, x0, .str "ab 1"])
    refine ⟨h, n + 1 + 1, _, rfl, hZ.same sL, by show n + 1 + 1 ≤ 1000000; omega, .inl ⟨p537, _, rfl, upd_same, hZ.fresh n538, by simp, by show 9 < 1000; decide, fun r0 HF mv hF bF => ?_⟩⟩
    have bBF : But h HB HF := ((Same.but (((((((s503.trans s508).trans s512).trans s516).trans s520).trans s525).trans s530).trans s535) h).trans (Same.but sL h)).trans bF
    have tpF : ∀ {p : Addr} {zs : List V}, G534 p = some (.tup zs) → HF p = some (.tup zs) := fun {p zs} e => bF _ _ ((hZ.same sL).nt (sL _ _ e)) (sL _ _ e)
    have raF : DzAll K (del HF h) xs (ks.map kyP) := raB.same (off_but bBF)
    have zkF : Dz K (del HF h) kv dk := zk.same (off_but bBF)
    have Z : ∀ {p : Addr} {zs : List V} {ds : List PyData}, G534 p = some (.tup zs) → DzAll K (del HF h) zs ds → Dz K (del HF h) (.ref p) (.tuple ds) := fun {p zs ds} e a => .tup (off_at (hF.nt (tpF e)) (tpF e)) a
    have cutA : ∀ lo hi : Option Int, ∃ ds, DzAll K (del HF h) (cutV xs lo hi) ds ∧ (∀ d ∈ ds, d ∈ ks.map kyP) := fun lo hi => dz_sub raF fun z hz => cut_mem hz
    have allS : ∀ d ∈ ks.map kyP, S2 d := fun d hd => by
      obtain ⟨k2, hk2, rfl⟩ := List.mem_map.mp hd
      exact s2_ky (gk k2 hk2).toGoodK
    have fin : ∃ dr, Dz K (del HF h) r0 dr ∧ S3 dr ∧ rwD dr = false := by
      simp only [List.mem_cons, List.not_mem_nil, or_false] at mv
      have FR : ∃ dr, Dz K (del HF h) (.ref p514) dr ∧ S3 dr ∧ rwD dr = false := by
        obtain ⟨d1, y1, y2⟩ := cutA none (some (j : Int))
        obtain ⟨d2, y3, y4⟩ := cutA (some ((j : Int) + 1)) none
        have l1 := dz_len y1
        have l2 := dz_len y3
        have c1 := cl none (some (j : Int))
        have c2 := cl (some ((j : Int) + 1)) none
        refine ⟨.tuple ((d1 ++ [dk]) ++ d2), Z (s535 _ _ (s530 _ _ (s525 _ _ (s520 _ _ e517)))) (dz_app (dz_app y1 (.cons zkF .nil)) y3), fun ds e => ?_, rw_bad (List.mem_append_left _ (List.mem_append_right _ (List.mem_singleton_self _))) bk⟩
        cases e
        refine ⟨by rw [List.length_append, List.length_append, List.length_singleton]; omega, fun d hd => ?_⟩
        rcases List.mem_append.mp hd with z | z
        · rcases List.mem_append.mp z with z | z
          · exact allS d (y2 d z)
          · rw [List.mem_singleton.mp z]; exact sk
        · exact allS d (y4 d z)
      rcases mv with e | e | e | e | e | e | e | e | e
      · subst e
        exact FR
      · subst e
        exact FR
      · subst e
        exact FR
      · subst e
        exact ⟨.list (ks.map kyP), .lst (off_at lsh (bF _ _ lsh (sL _ _ (s535 _ _ (s530 _ _ (s525 _ _ e521)))))) nels raF, (fun ds e => by cases e), rfl⟩
      · subst e
        exact ⟨.tuple [], Z (s535 _ _ (s530 _ _ e526)) .nil, fun ds e => (by cases e; exact ⟨by simp, fun d hd => by cases hd⟩), rfl⟩
      · subst e
        obtain ⟨d1, y1, y2⟩ := dz_sub (zs := cutV (List.replicate (31 : Int).toNat xs).flatten none (some 31)) raF fun z hz => rep_mem (cut_mem hz)
        have l1 := dz_len y1
        have l31 := rep_len31 xne
        refine ⟨.tuple d1, Z e536 y1, fun ds e => ?_, rw_long (by omega)⟩
        cases e
        exact ⟨by omega, fun d hd => allS d (y2 d hd)⟩
      · subst e
        exact ⟨.none, .non, (fun ds e => by cases e), rfl⟩
      · subst e
        obtain ⟨d0, ed0, z0⟩ := dz_get raF hx0
        rw [List.getElem?_map] at ed0
        obtain ⟨k2, ek2, rfl⟩ := Option.map_eq_some_iff.mp ed0
        refine ⟨_, z0, fun ds e => ?_, rfl⟩
        unfold kyP at e
        cases e
        exact ⟨by simp, fun d hd => by
          simp only [List.mem_cons, List.not_mem_nil, or_false] at hd
          rcases hd with z | z
          · subst z; exact fun ds e => by cases e
          · subst z; exact fun ds e => by cases e⟩
      · subst e
        exact ⟨.str "ab 1", .str "ab 1", (fun ds e => by cases e), rfl⟩
    obtain ⟨dr, g1, g2, g3⟩ := fin
    exact q r0 dr HF g1 g2 g3 (hF.mono (by omega)) (b1.trans (b1B.trans bBF))
end
end K47
set_option Elab.async false
set_option linter.all false
set_option maxRecDepth 100000
set_option maxHeartbeats 4000000
set_option pp.maxSteps 400
set_option pp.deepTerms false
namespace K47
open PySem PySem.Spec PyProof.Rows L2
open Xk Az
section
variable {P : Program} {w : World} {K : PySem.W.Frag} {mg : Str → Option Value} {base : Heap} {C : Addr}
theorem ofT_yes {x : Str} (l1 : 1 ≤ x.length) (l8 : x.length ≤ 8) (h : letts x) : ofT (.str x) small 1 8 = true := by
  show (decide ((1 : Int) ≤ (x.length : Int)) && decide ((x.length : Int) ≤ 8) && chk x small) = true
  have c : chk x small = true := List.all_eq_true.mpr fun c hc => decide_eq_true (h c hc)
  rw [c, decide_eq_true (show (1 : Int) ≤ (x.length : Int) by omega), decide_eq_true (show (x.length : Int) ≤ 8 by omega)]
  rfl
theorem ky_yes {k : Ky} (h : GoodK k) : kyD (kyP k) = true := by
  show (ofT (.str k.1) small 1 8 && decide (0 ≤ k.2)) = true
  rw [ofT_yes h.w1 h.w8 h.ws, decide_eq_true h.n0]
  rfl
theorem rw_yes {ks : List Ky} (h : ∀ k ∈ ks, GoodK k) (l1 : 1 ≤ ks.length) (l30 : ks.length ≤ 30) : rwD (rwP ks) = true := by
  show (decide ((1 : Int) ≤ ((ks.map kyP).length : Int)) && decide (((ks.map kyP).length : Int) ≤ 30) && (ks.map kyP).all kyD) = true
  have c : (ks.map kyP).all kyD = true := List.all_eq_true.mpr fun d hd => by
    obtain ⟨k, hk, rfl⟩ := List.mem_map.mp hd
    exact ky_yes (h k hk)
  rw [c, List.length_map, decide_eq_true (show (1 : Int) ≤ (ks.length : Int) by omega), decide_eq_true (show (ks.length : Int) ≤ 30 by omega)]
  rfl
theorem s3_rw {ks : List Ky} (h : ∀ k ∈ ks, GoodK k) (l30 : ks.length ≤ 31) : S3 (rwP ks) := fun ds e => by
  unfold rwP at e
  cases e
  refine ⟨by rw [List.length_map]; omega, fun d hd => ?_⟩
  obtain ⟨k, hk, rfl⟩ := List.mem_map.mp hd
  exact s2_ky (h k hk)
theorem dz_subK {H : Hp} {xs : List V} {ks : List Ky} (a : DzAll K H xs (ks.map kyP)) : ∀ {zs : List V}, (∀ z ∈ zs, z ∈ xs) → ∃ ks' : List Ky, DzAll K H zs (ks'.map kyP) ∧ ∀ k ∈ ks', k ∈ ks
  | [], _ => ⟨[], .nil, by simp⟩
  | z :: r, h => by
    obtain ⟨ks', q1, q2⟩ := dz_subK a (zs := r) fun w hw => h w (List.mem_cons_of_mem _ hw)
    obtain ⟨d, md, zd⟩ := dz_all a (h z List.mem_cons_self)
    obtain ⟨k, hk, rfl⟩ := List.mem_map.mp md
    refine ⟨k :: ks', .cons zd q1, fun e he => ?_⟩
    rcases List.mem_cons.mp he with w | w
    · rw [w]; exact hk
    · exact q2 e w
theorem nice_t2 {d e : PyData} {k n m : Nat} (h : Nice d k n) (h' : Nice e k m) : Nice (.tuple [d, e]) (k + 1) (n + m + 10) := by
  refine ⟨by simp [PyData.showable, PyData.showableAll, h.sh, h'.sh], ?_, ?_⟩
  · simp only [PyData.depth, PyData.depthAll]
    have := h.dp
    have := h'.dp
    omega
  · simp only [PyData.shown, PyData.shownAll]
    have z := fmt_text [d.shown, e.shown]
    simp only [piled_cons, piled_nil] at z
    have := h.sz
    have := h'.sz
    omega
theorem asc8 {x : Str} (h : letts x) : ∀ c ∈ x.cps.toList, c < 16 ^ 8 := fun c hc => Nat.lt_of_lt_of_le (asc_small c (h c hc)) (by decide)
theorem nice_ky {k : Ky} (h : GoodK k) : Nice (kyP k) 1 150 := by
  have a : Nice (.str k.1) 0 82 := nice_str (Nat.le_trans (PySem.StrLaws.reprText_len k.1 (asc8 h.ws)) (by have := h.w8; omega))
  have b : Nice (.int k.2) 0 40 := nice_int (lg (by have := h.n0; omega) (by have := h.n1; omega)) (tx_le (by have := h.n0; omega) h.n1)
  exact (nice_t2 a b).mono (by decide) (by decide)
theorem nice_kys : ∀ {ks : List Ky}, (∀ k ∈ ks, GoodK k) → PyData.showableAll (ks.map kyP) = true ∧ PyData.depthAll (ks.map kyP) ≤ 2 ∧ piled (PyData.shownAll (ks.map kyP)) ≤ 152 * ks.length
  | [], _ => ⟨by simp [PyData.showableAll], by simp [PyData.depthAll], by simp [PyData.shownAll, piled_nil]⟩
  | k :: ks, h => by
    obtain ⟨a, b, c⟩ := nice_kys (ks := ks) fun z hz => h z (List.mem_cons_of_mem _ hz)
    have n := nice_ky (h k List.mem_cons_self)
    refine ⟨?_, ?_, ?_⟩
    · simp [PyData.showableAll, n.sh, a]
    · simp only [List.map_cons, PyData.depthAll]
      have := n.dp
      omega
    · simp only [List.map_cons, PyData.shownAll, piled_cons, List.length_cons]
      have := n.sz
      omega
theorem nice_rw {ks : List Ky} (h : ∀ k ∈ ks, GoodK k) (l : ks.length ≤ 31) : Nice (rwP ks) 3 5000 := by
  obtain ⟨a, b, c⟩ := nice_kys h
  unfold rwP
  refine ⟨by simp [PyData.showable, a], ?_, ?_⟩
  · simp only [PyData.depth]
    omega
  · simp only [PyData.shown]
    have z := fmt_text (PyData.shownAll (ks.map kyP))
    omega
theorem letts.app {x y : Str} (h1 : letts x) (h2 : letts y) : letts (x ++ y) := fun c hc => by
  rw [Str.cps_append, Array.toList_append, List.mem_append] at hc
  exact hc.elim (h1 c) (h2 c)
theorem cutS_mem (x : Str) (lo hi : Option Int) : ∀ c ∈ (cutS x lo hi).cps.toList, c ∈ x.cps.toList := fun c hc => by
  unfold cutS at hc
  exact List.mem_of_mem_drop (List.mem_of_mem_take (by simpa using hc))
theorem cutS1 (x : Str) (h : 1 ≤ x.length) : (cutS x (some 1) none).length = x.length - 1 := by
  rw [len_cps]
  have e1 : HT.sIx x.length 0 (some 1) = min 1 x.length := HT.sIx_nat x.length 0 1
  have e2 : HT.sIx x.length x.length none = x.length := rfl
  unfold cutS
  rw [e1, e2]
  simp only [List.length_take, List.length_drop]
  rw [← len_cps]
  omega
theorem cut_l1 {xs : List V} (h : 1 ≤ xs.length) : (cutV xs none (some (-1))).length = xs.length - 1 := by
  unfold cutV HT.sIx
  simp only [List.drop_zero, List.length_take, Nat.sub_zero]
  rw [if_pos (by decide)]
  omega
theorem cut_30 {xs : List V} (h : 1 ≤ xs.length) : 1 ≤ (cutV xs (some (-30)) none).length ∧ (cutV xs (some (-30)) none).length ≤ 30 := by
  unfold cutV HT.sIx
  simp only [List.length_take, List.length_drop]
  rw [if_pos (by decide)]
  omega
theorem cut_1 {xs : List V} : (cutV xs none (some 1)).length ≤ 1 := by
  unfold cutV
  have e2 : HT.sIx xs.length xs.length (some 1) = min 1 xs.length := HT.sIx_nat xs.length xs.length 1
  rw [e2]
  simp only [List.length_take]
  omega
theorem key_off {h : Addr} {n : Int} {H H' : Hp} (hh : Hand n H h) (b : But h H H') : ∀ {xs : List V} {ks : List Ky}, DzAll K H xs (ks.map kyP) → DzAll K (del H' h) xs (ks.map kyP)
  | [], [], .nil => .nil
  | _ :: _, k :: ks, .cons z r => by
    obtain ⟨t, rfl, e⟩ := dz_key z
    have th := hh.nt e
    exact .cons (.tup (off_at th (b _ _ th e)) (.cons (.str k.1) (.cons (.int k.2) .nil))) (key_off hh b r)
theorem ra_off {h : Addr} {n : Int} {H H' : Hp} {xs : List V} {ks : List Ky} (hh : Hand n H h) (a : DzAll K H xs (ks.map kyP)) (b : But h H H') : DzAll K (del H' h) xs (ks.map kyP) := key_off hh b a
theorem of_blank (x : Str) : ofT (.str (" " ++ x)) small 1 8 = false := of_chk (c := 32) (by
  rw [Str.cps_append, Array.toList_append]
  exact List.mem_append_left _ (by decide +kernel)) (by decide +kernel)
structure Own (P : Program) (w : World) (K : PySem.W.Frag) (mg : Str → Option Value) (base : Heap) (C fE fS fR fL : Addr) (fdE fdS fdR fdL : FuncData) : Prop where
  W : OwnC K C fE
  Z : KitC K C
  okE : FnOk P w K mg base CX0 1 fE fdE ["self", "other"] (spEq K C)
  bdE : Binds K fdE ["self", "other"] []
  hs : PySem.W.findIn K (.ref C) "__str__" = some (some (.ref fS))
  sf : PySem.W.isFn K (.ref fS) = true
  okS : FnOk P w K mg base CX0 3 fS fdS ["self"] (spStr K C)
  bdS : Binds K fdS ["self"] []
  hr : PySem.W.findIn K (.ref C) "__repr__" = some (some (.ref fR))
  rf : PySem.W.isFn K (.ref fR) = true
  okR : FnOk P w K mg base CX0 1 fR fdR ["self"] (spRepr K C)
  bdR : Binds K fdR ["self"] []
  hl : PySem.W.findIn K (.ref C) "__len__" = some (some (.ref fL))
  lf : PySem.W.isFn K (.ref fL) = true
  okL : FnOk P w K mg base CX0 1 fL fdL ["self"] (spLen K C)
  bdL : Binds K fdL ["self"] []
def spRight : Sp := fun vs H Q _ => ∃ h : Addr, vs = [.ref h] ∧ Hand 0 H h ∧ ∀ H', But h H H' → Q (.bl true) H'
end
end K47
set_option Elab.async false
set_option linter.all false
set_option maxRecDepth 100000
set_option maxHeartbeats 4000000
set_option pp.maxSteps 400
set_option pp.deepTerms false
namespace K47
open PySem PySem.Spec PyProof.Rows L2
open Xk Az
section
variable {P : Program} {w : World} {K : PySem.W.Frag} {mg : Str → Option Value} {base : Heap} {C : Addr}
theorem ok_right {f : Addr} {fd : FuncData} {e : Ex} {fG fE fS fR fL : Addr} {fdG fdE fdS fdR fdL : FuncData} (D : Df K mg "_law_right" ["_law_hand_here"] sRight f fd) (T : Txt K mg C e) (G : Dc P w K mg base C e fG fdG) (O : Own P w K mg base C fE fS fR fL fdE fdS fdR fdL) (cT : Ca P w K mg base 1 "_law_take" ["_law_hand_here", "_law_many"] spTake) (cP : Ca P w K mg base 2 "_law_of" ["_law_hand_here", "_law_some_here"] spPick) (cW : Ca P w K mg base 3 "_law_word" ["_law_hand_here"] spWd) (cSo : Ca P w K mg base 4 "_law_some" ["_law_hand_here"] (spSome K)) (cRf : Ca P w K mg base 8 "_law_refused" ["_law_call", "_law_some_here"] (spRefused K)) (cSp : Ca P w K mg base 3 "_law_spoilt" ["_law_hand_here", "_law_some_here"] (spSpoilt K)) : Gn P w K mg base 9 f fd ["_law_hand_here"] spRight := by
  refine gn_body D.fn scRight (fun vs H Q E h => ?_) (fun cdv A outer s H vs Q E hg hr h => ?_)
  · obtain ⟨h, rfl, hh, q⟩ := h
    rfl
  · obtain ⟨h, rfl, hh, q⟩ := h
    refine ⟨_, (pss_cons (ps_par (i := 1) (j := 2) (by rfl) scRight.nd rfl rfl (by decide) rfl rfl (pa_cons (pe_ca cW hr (by decide) (by rfl) (pa_cons (pv 0) pa_nil)) (pa_cons (pe_ca cSo hr (by decide) (by rfl) (pa_cons (pv 0) pa_nil)) pa_nil)) (by rfl))
      (pss_cons (ps_set (i := 3) scRight.nd rfl (.inr rfl) (pe_make G.mm G.ok (hr.mono (by decide)) (by rfl) T.mgC G.bd .nil passL (pa_cons (pv 1) (pa_cons (pv 2) pa_nil))))
      (pss_cons (ps_set (i := 4) scRight.nd rfl (.inl rfl) (pe_m1 F.slot_str_join F.type_str_join mt_join pe_str (pe_lc (own := [("_law_house", 12), ("_law_number", 13)]) (g := (gTup K 2 (gCons (gName 12) (gCons (gName 13) gNil)))) (tt := tYes) (by rfl) scRight.nd (pi_tup (pv 2)) (blkOk_by (own := [("_law_house", 12), ("_law_number", 13)]) (N := ["_law_hand_here", "_law_call", "_law_some_here", "_law_one", "_law_text", "_law_last", "_law_calls", "_law_other", "_law_rest", "_law_twin", "_law_odds", "_law_odd", "_law_house", "_law_number", "_law_thing"]) (sc := defScope sRight) (by decide +kernel)) (fun _ _ _ _ _ => pg_tup (by rfl) (pgs_cons (pg_name (i := 12) scRight.nd rfl (.inl rfl)) (pgs_cons (pg_name (i := 13) scRight.nd rfl (.inl rfl)) pgs_nil))) (fun _ _ _ _ _ => pts_nil) (fun _ _ _ _ _ => pe_op op_add_str (pe_op op_add_str (pv 12) pe_str) (pe_callTy call_str_int (by rfl) T.str (by decide +kernel) (pa_cons (pv 13) pa_nil))))))
      (pss_cons (ps_if (PW.pt (pw_or (pt_cmpR op_ne (pe_fld (pv 3) rfl) (pv 1) (nomark _)) (pw_or (pt_cmpR op_ne (pe_callB (cr_reprZ hg hr) (by rfl) T.repr (by decide +kernel) (pa_cons (pe_fld (pv 3) rfl) pa_nil)) (pe_callB (cr_reprZ hg hr) (by rfl) T.repr (by decide +kernel) (pa_cons (pv 2) pa_nil)) (nomark _)) (pw_or1 (pt_cmpR op_ne (pe_callB (cr_lenO O.hl O.lf (hr.mono (by decide)) O.okL O.bdL) (by rfl) T.len PySem.boot_len (pa_cons (pv 3) pa_nil)) (pe_callB call_len_seq (by rfl) T.len PySem.boot_len (pa_cons (pv 2) pa_nil)) (nomark _)))))) (pss_one (ps_ret pe_bl)) pss_nil)
      (pss_cons (ps_if (PW.pt (pw_or (pt_cmpR op_ne (pe_callTy (cr_strO O.hs O.sf (hr.mono (by decide)) O.okS O.bdS) (by rfl) T.str (by decide +kernel) (pa_cons (pv 3) pa_nil)) (pe_op op_add_str (pe_op op_add_str (pe_op op_add_str pe_str (pv 1)) pe_str) (pv 4)) (nomark _)) (pw_or1 (pt_cmpR op_ne (pe_callB (cr_reprO O.hr O.rf (hr.mono (by decide)) O.okR O.bdR) (by rfl) T.repr (by decide +kernel) (pa_cons (pv 3) pa_nil)) (pe_op op_add_str (pe_op op_add_str (pe_op op_add_str (pe_op op_add_str pe_str (pv 1)) pe_str) (pe_callTy call_str_int (by rfl) T.str (by decide +kernel) (pa_cons (pe_callB call_len_seq (by rfl) T.len PySem.boot_len (pa_cons (pv 2) pa_nil)) pa_nil))) pe_str) (nomark _))))) (pss_one (ps_ret pe_bl)) pss_nil)
      (pss_cons (ps_set (i := 5) scRight.nd rfl (.inl rfl) (pe_op op_catU (pe_slice sl_tupU (pv 2) po_none (po_some (pe_un un_neg pe_int))) (pe_tup (pa_cons (pe_tup (pa_cons (pe_ix ix_tup (pe_ix ix_tup (pv 2) (pe_un un_neg pe_int) (fun _ _ => rfl)) pe_int (fun _ _ => rfl)) (pa_cons (pe_op op_add (pe_ix ix_tup (pe_ix ix_tup (pv 2) (pe_un un_neg pe_int) (fun _ _ => rfl)) pe_int (fun _ _ => rfl)) pe_int) pa_nil))) pa_nil))))
      (C8.pss_cut (ps_set (i := 6) scRight.nd rfl (.inl rfl) (pe_lst (pa_cons (pv 1) (pa_cons (pe_ifExp (pt_cmpR op_lt (pe_callB call_len_str (by rfl) T.len PySem.boot_len (pa_cons (pv 1) pa_nil)) pe_int (nomark _)) (pe_op op_add_str (pv 1) pe_str) (pe_slice sl_str (pv 1) (po_some pe_int) po_none)) (pa_cons (pv 1) (pa_cons (pv 1) (pa_cons (pv 1) pa_nil)))))))
      (pss_cons (ps_for PassesOwn.never rfl (RZ.pi_zipA (by rfl) T.zip (pa_cons (pv 6) (pa_cons (pe_lst (pa_cons (pv 2) (pa_cons (pv 2) (pa_cons (pe_revN (pv 2)) (pa_cons (pe_slice sl_tupU (pe_op op_catU (pv 2) (pe_slice sl_tupU (pv 2) po_none (po_some pe_int))) (po_some (pe_un un_neg pe_int)) po_none) (pa_cons (pv 5) pa_nil)))))) pa_nil))) (pg_tup (by rfl) (pgs_cons (pg_name (i := 7) scRight.nd rfl (.inl rfl)) (pgs_cons (pg_name (i := 8) scRight.nd rfl (.inl rfl)) pgs_nil))) (pss_cons (ps_set (i := 9) scRight.nd rfl (.inl rfl) (pe_makeK0 G.mm G.ok (hr.mono (by decide)) (by rfl) T.mgC G.k2 passL (pk_cons (pv 8) (pk_cons (pv 7) pk_nil))))
      (pss_one (ps_if (PW.pt (pw_or (pt_cmpR op_ne (pe_cmpR (op_eqL O.W O.Z (hr.mono (by decide)) O.okE O.bdE) (pv 3) (pv 9) (nomark _)) (pe_and (pe_cmpR op_eq (pv 7) (pv 1) (nomark _)) (pe_one (pe_cmpR (op_eqD hr.units) (pv 8) (pv 2) (nomark _)))) (nomark _)) (pw_or1 (pt_cmpR op_ne (pe_cmpR (op_neL O.W (hr.mono (by decide)) O.okE O.bdE) (pv 3) (pv 9) (nomark _)) (pe_cmpR (op_neL O.W (hr.mono (by decide)) O.okE O.bdE) (pv 9) (pv 3) (nomark _)) (nomark _))))) (pss_one (ps_ret pe_bl)) pss_nil))))
      (pss_cons (ps_if (pt_val (pe_callB (cr_any (by rfl)) (by rfl) T.any (by decide +kernel) (pa_cons (pe_lc (own := [("_law_thing", 14)]) (g := gName 14) (tt := tYes) (te := tOp (rEqL C (spEq K C)) (tVar 3) (tVar 14)) (by rfl) scRight.nd (pi_tup (pe_tup (pa_cons (pv 1) (pa_cons (pv 2) (pa_cons (pe_tup (pa_cons (pv 1) (pa_cons (pv 2) pa_nil))) (pa_cons pe_non (pa_cons (pe_callB call_len_seq (by rfl) T.len PySem.boot_len (pa_cons (pv 2) pa_nil)) (pa_cons (pe_callTy (cr_strO O.hs O.sf (hr.mono (by decide)) O.okS O.bdS) (by rfl) T.str (by decide +kernel) (pa_cons (pv 3) pa_nil)) (pa_cons (pe_lst (pa_cons (pv 3) pa_nil)) pa_nil))))))))) (blkOk_by (own := [("_law_thing", 14)]) (N := ["_law_hand_here", "_law_call", "_law_some_here", "_law_one", "_law_text", "_law_last", "_law_calls", "_law_other", "_law_rest", "_law_twin", "_law_odds", "_law_odd", "_law_house", "_law_number", "_law_thing"]) (sc := defScope sRight) (by decide +kernel)) (fun _ _ _ _ _ => pg_name (i := 14) scRight.nd rfl (.inl rfl)) (fun _ _ _ _ _ => pts_nil) (fun _ _ _ _ _ => pe_cmpR (op_eqL O.W O.Z (hr.mono (by decide)) O.okE O.bdE) (pv 3) (pv 14) (nomark _))) pa_nil))) (pss_one (ps_ret pe_bl)) pss_nil)
      (pss_cons (ps_set (i := 10) scRight.nd rfl (.inl rfl) (pe_lst (pa_cons pe_str (pa_cons (pe_m0 F.slot_str_upper F.type_str_upper mt_upper (pv 1)) (pa_cons (pe_op op_add_str (pv 1) pe_str) (pa_cons (pe_slice sl_str (pe_op op_add_str (pv 1) pe_str) po_none (po_some pe_int)) (pa_cons pe_non (pa_cons pe_int (pa_cons pe_bl (pa_cons (pe_tup (pa_cons (pv 1) pa_nil)) (pa_cons (pe_lstZ (pa_cons (pv 1) pa_nil)) (pa_cons (pe_op op_add_str pe_str (pv 1)) pa_nil))))))))))))
      (pss_cons (ps_set (i := 11) scRight.nd rfl (.inl rfl) (pe_ca cP hr (by decide) (by rfl) (pa_cons (pv 0) (pa_cons (pv 10) pa_nil))))
      (pss_one (ps_ret (pe_and (pe_ca cRf hr (by decide) (by rfl) (pa_cons (pv 11) (pa_cons (pv 2) pa_nil))) (pe_and (pe_ca cRf hr (by decide) (by rfl) (pa_cons (pv 1) (pa_cons (pe_ca cSp hr (by decide) (by rfl) (pa_cons (pv 0) (pa_cons (pv 2) pa_nil))) pa_nil))) (pe_one (pe_ca cRf hr (by decide) (by rfl) (pa_cons (pv 11) (pa_cons (pe_tup pa_nil) pa_nil))))))))))))))))))), ?_⟩
    refine ⟨_, rfl, h, 0, rfl, hh, by show (0 : Int) + 50 ≤ 1000000; decide, fun x H1 x1 x8 xl h1 b1 => ?_⟩
    refine ⟨_, rfl, h, 0 + 10, rfl, h1, by show (0 : Int) + 10 + 1000 ≤ 1000000; decide, fun t xs ks H2 et ra0 gk k1 k30 h2 b2 => ⟨_, _, rfl, ?_⟩⟩
    have gk' : ∀ k ∈ ks, GoodK k := fun k hk => (gk k hk).toGoodK
    have lx := dz_len ra0
    rw [List.length_map] at lx
    have th := h2.nt et
    have bt2 : But h H H2 := b1.trans b2
    have ra : DzAll K H2 xs (ks.map kyP) := ra0.same off_all
    have dzr : Dz K H2 (.ref t) (rwP ks) := .tup et ra
    have sx : St (.str x) := st_s (by omega)
    have s3r := s3_rw gk' (by omega)
    have okx := ofT_yes x1 x8 xl
    have okr := rw_yes gk' k1 k30
    -- one
    refine ⟨_, rfl, _, rfl, fun o dx no nd ne => ?_⟩
    have mk2 : L2.Same H2 (upd (upd H2 dx (.own o)) o (.ins C dx [])) := fun b z e => by
      rw [upd_ne (ne_of_none e no), upd_ne (ne_of_none e nd)]
      exact e
    refine ⟨o, dx, .str x, .ref t, .str x, rwP ks, rfl, upd_same, .str x, sx, dzr.same mk2, s3r, fun _ _ H3 keep al => ⟨rfl, ?_⟩, fun c => absurd c (by rw [okx, okr]; decide)⟩
    have s3 : L2.Same H2 H3 := fun b z e => keep b z (mk2 b z e) (ne_of_none e no)
    obtain ⟨dy, ho⟩ := al
    have et3 := s3 _ _ et
    have ra3 := ra.same s3
    have hk3 : Rws K H3 (.ref t) ks := ⟨dzr.same s3, gk', k1, by omega⟩
    have h3 := h2.same s3
    have bt3 : But h H H3 := bt2.trans (Same.but s3 h)
    clear keep mk2
    -- text
    refine ⟨⟨_, rfl⟩, _, rfl, t, rfl, ⟨_, SqT.of et3⟩, fun D nD => ?_⟩
    refine lc_tup (K := K) (a := t) (xs := xs) (fun i Hi => L2.Same H3 Hi ∧ Hi D = some (.lst (((ks.map kyT).take i).map V.str))) ⟨same_upd nD, upd_same⟩ (fun i Hi _ z => SqT.of (z.1 _ _ et3)) ?_ ?_
    · rintro i v Hi hv ⟨sm, eD⟩
      have il : i < xs.length := (List.getElem?_eq_some_iff.mp hv).1
      obtain ⟨di, edi, dzi⟩ := dz_get ra3 hv
      rw [List.getElem?_map] at edi
      obtain ⟨k, ek, rfl⟩ := Option.map_eq_some_iff.mp edi
      obtain ⟨tk, rfl, etk⟩ := dz_key dzi
      have g := gk' k (List.mem_of_getElem? ek)
      have w8 := g.w8
      have ln := tx_le (i := k.2) (by have := g.n0; omega) g.n1
      have l1 : (" " : Str).length = 1 := by decide +kernel
      refine ⟨tk, _, rfl, SqT.of (sm _ _ etk), rfl, _, _, rfl, _, _, rfl, rfl, rfl, ?_⟩
      unfold tYes
      refine iteT ⟨_, rfl, k.1, _, rfl, rfl, fitN (by rw [l1]; omega), _, rfl, k.2, rfl, lg (by have := g.n0; omega) (by have := g.n1; omega), _, _, rfl, rfl, fitN (by rw [strLen_append, l1]; show k.1.length + 1 + (Str.ofString (toString k.2)).length ≤ 100000; omega), _, eD, ?_, fun c o e => ?_, ?_⟩
      · rw [List.length_map, List.length_take]
        exact Nat.lt_of_le_of_lt (Nat.le_trans (Nat.min_le_left _ _) (show i ≤ 1000 by omega)) (by decide)
      · rw [upd_ne (ne_of_none e nD)]
        exact sm _ _ e
      · rw [upd_same, List.take_add_one, List.getElem?_map, ek, List.map_append]
        rfl
    rintro H4 ⟨s4, eD⟩
    have tk : (ks.map kyT).take xs.length = ks.map kyT := List.take_of_length_le (by rw [List.length_map]; omega)
    rw [tk] at eD
    refine ⟨_, D, ks.map kyT, rfl, rfl, .inl (SqL.of eD), Nat.le_trans (ky_sum gk' (by omega)) (by decide), ?_⟩
    have ho4 := s4 _ _ ho
    have et4 := s4 _ _ et3
    have ra4 := ra3.same s4
    have hk4 : Rws K H4 (.ref t) ks := hk3.same s4
    have h4 := h3.same s4
    have bt4 : But h H H4 := bt3.trans (Same.but s4 h)
    have nr := nice_rw gk' (by omega)
    have dp : (rwP ks).depth ≤ 60 := Nat.le_trans nr.dp (by decide)
    have fs : (rwP ks).shown.length ≤ sizeLine := fitN (Nat.le_trans nr.sz (by decide))
    have ne1 : (!decide (V.str x = V.str x)) = false := by simp
    have ne2 : (!decide (V.str (rwP ks).shown = V.str (rwP ks).shown)) = false := by simp
    have ne3 : (!decide (V.int ((xs.length : Nat) : Int) = V.int ((xs.length : Nat) : Int))) = false := by simp
    clear eD tk nD
    refine ⟨_, rfl, o, C, dy, _, _, rfl, ho4, T.cl, T.nL, f_l _ _, _, rfl, rfl, _, rfl, ?_⟩
    rw [ne1]
    refine iteF ⟨_, rfl, o, C, dy, _, _, rfl, ho4, T.cl, T.nR, f_r _ _, .ref t, rwP ks, rfl, hk4.1, nr.sh, dp, fs, _, rfl, .ref t, rwP ks, rfl, hk4.1, nr.sh, dp, fs, rfl, _, rfl, ?_⟩
    rw [ne2]
    refine iteF ⟨_, rfl, o, dy, _, rfl, ho4, o, .str x, t, xs, rfl, ⟨dy, ho4⟩, et4, xs.length, rfl, by omega, _, rfl, t, xs, rfl, .inr (SqT.of et4), rfl, _, rfl, ?_⟩
    rw [ne3]
    refine iteF ?_
    -- str, repr
    have lk := kysT_len gk' (by omega : ks.length ≤ 31)
    have d5 : ("disc " : Str).length = 5 := by decide +kernel
    have d2 : (": " : Str).length = 2 := by decide +kernel
    have d6 : ("Disc('" : Str).length = 6 := by decide +kernel
    have d3 : ("', " : Str).length = 3 := by decide +kernel
    have d1 : (")" : Str).length = 1 := by decide +kernel
    have lt := tx_le (i := (xs.length : Int)) (by omega) (by omega)
    have lt2 : (toString (xs.length : Int) : Str).length = (Str.ofString (toString (xs.length : Int))).length := rfl
    refine ⟨_, rfl, o, dy, _, rfl, ho4, o, x, .ref t, ks, rfl, ⟨dy, ho4⟩, x8, hk4, fun H5 s5 => ⟨_, rfl, ?_⟩⟩
    refine ⟨_, rfl, _, _, rfl, rfl, fitN (by rw [d5]; omega), _, _, rfl, rfl, fitN (by rw [strLen_append, d5, d2]; omega), _, rfl, _, _, rfl, rfl, fitN (by rw [strLen_append, strLen_append, d5, d2]; show 5 + x.length + 2 + (kysT ks).length ≤ 100000; omega), rfl, _, rfl, ?_⟩
    have ne4 : (!decide (V.str (discT x ks) = V.str ("disc " ++ x ++ ": " ++ Txt.join ", " (ks.map kyT)))) = false := by
      rw [decide_eq_true (show V.str (discT x ks) = V.str ("disc " ++ x ++ ": " ++ Txt.join ", " (ks.map kyT)) from rfl)]
      rfl
    rw [ne4]
    have ho5 := s5 _ _ ho4
    have et5 := s5 _ _ et4
    refine iteF ⟨_, rfl, o, dy, _, rfl, ho5, o, x, t, xs, rfl, ⟨dy, ho5⟩, x8, et5, by omega, _, rfl, ?_⟩
    refine ⟨_, rfl, _, _, rfl, rfl, fitN (by rw [d6]; omega), _, _, rfl, rfl, fitN (by rw [strLen_append, d6, d3]; omega), _, rfl, t, xs, rfl, .inr (SqT.of et5), _, rfl, lg (by omega) (by omega), _, _, rfl, rfl, fitN (by rw [strLen_append, strLen_append, d6, d3]; omega), _, _, rfl, rfl, fitN (by rw [strLen_append, strLen_append, strLen_append, d6, d3, d1]; omega), rfl, _, rfl, ?_⟩
    have ne5 : (!decide (V.str (discR x xs.length) = V.str ("Disc('" ++ x ++ "', " ++ toString (xs.length : Int) ++ ")"))) = false := by
      rw [decide_eq_true (show V.str (discR x xs.length) = V.str ("Disc('" ++ x ++ "', " ++ toString (xs.length : Int) ++ ")") from rfl)]
      rfl
    rw [ne5]
    refine iteF ?_
    have hk5 : Rws K H5 (.ref t) ks := hk4.same s5
    have ra5 := ra4.same s5
    have h5 := h4.same s5
    have bt5 : But h H H5 := bt4.trans (Same.but s5 h)
    clear ho4 et4 ra4 hk4 h4 bt4 ho et3 ra3 hk3 h3 bt3 ra0 ra et dzr b1 b2 h1 s3 s4 s5
    -- last
    have xpos : 1 ≤ xs.length := by omega
    obtain ⟨kl, hkl, tl, atl, etl⟩ : ∃ (kl : Ky) (_ : kl ∈ ks) (tl : Addr), atI xs (-1) = some (.ref tl) ∧ H5 tl = some (.tup [.str kl.1, .int kl.2]) := by
      have hx : xs[xs.length - 1]? = some (xs[xs.length - 1]'(by omega)) := List.getElem?_eq_getElem (by omega)
      obtain ⟨di, edi, dzi⟩ := dz_get ra5 hx
      rw [List.getElem?_map] at edi
      obtain ⟨k, ek, rfl⟩ := Option.map_eq_some_iff.mp edi
      obtain ⟨tk, etk', etk⟩ := dz_key dzi
      refine ⟨k, List.mem_of_getElem? ek, tk, ?_, etk⟩
      unfold atI ixN
      rw [if_neg (by omega), if_pos (by omega)]
      simp only [Option.bind_some]
      rw [show ((-1 : Int) + (xs.length : Int)).toNat = xs.length - 1 by omega, hx, etk']
    have gl := gk kl hkl
    refine ⟨_, rfl, 1, rfl, -1, rfl, t, xs, rfl, et5, fun p1 H6 s6 e6 => ?_⟩
    refine ⟨_, rfl, 1, rfl, t, xs, -1, .ref tl, rfl, rfl, SqT.of (s6 _ _ et5), atl, tl, _, 0, _, rfl, rfl, SqT.of (s6 _ _ etl), atI_nat (j := 0) rfl, ?_⟩
    refine ⟨_, rfl, 1, rfl, t, xs, -1, .ref tl, rfl, rfl, SqT.of (s6 _ _ et5), atl, tl, _, 1, _, rfl, rfl, SqT.of (s6 _ _ etl), atI_nat (j := 1) rfl, kl.2, 1, rfl, rfl, ?_⟩
    refine ⟨(by show 2 ≤ sizeLine; decide), fun p2 n2 => ⟨(by show 1 ≤ sizeLine; decide), fun p3 n3 => ?_⟩⟩
    have s7 := same_upd n2 (o := .tup [.str kl.1, .int (kl.2 + 1)])
    have e7 : (upd H6 p2 (.tup [.str kl.1, .int (kl.2 + 1)])) p2 = some (.tup [.str kl.1, .int (kl.2 + 1)]) := upd_same
    generalize upd H6 p2 (.tup [.str kl.1, .int (kl.2 + 1)]) = H7 at s7 e7 n3 ⊢
    have s8 := same_upd n3 (o := .tup [.ref p2])
    have e8 : (upd H7 p3 (.tup [.ref p2])) p3 = some (.tup [.ref p2]) := upd_same
    generalize upd H7 p3 (.tup [.ref p2]) = H8 at s8 e8 ⊢
    have cl1 := cut_l1 xpos
    refine ⟨p1, p3, _, _, rfl, rfl, s8 _ _ (s7 _ _ e6), e8, fitN (by rw [cl1]; show xs.length - 1 + 1 ≤ 100000; omega), fun p4 H9 s9 e9 => ?_⟩
    have s59 : L2.Same H5 H9 := ((s6.trans s7).trans s8).trans s9
    have gl2 : GoodK (kl.1, kl.2 + 1) := ⟨gl.w1, gl.w8, gl.ws, by have := gl.n0; show 0 ≤ kl.2 + 1; omega, by have := gl.n29; show kl.2 + 1 ≤ 10 ^ 30; omega⟩
    have hkL : ∃ ksL, Rws K H9 (.ref p4) ksL ∧ ksL.length ≤ 30 := by
      obtain ⟨ks', y1, y2⟩ := dz_subK (ra5.same s59) (zs := cutV xs none (some (-1))) fun z hz => cut_mem hz
      have ly := dz_len y1
      rw [List.length_map, cl1] at ly
      refine ⟨ks' ++ [(kl.1, kl.2 + 1)], ⟨?_, fun k hk => ?_, by simp, by rw [List.length_append, List.length_singleton]; omega⟩, by rw [List.length_append, List.length_singleton]; omega⟩
      · unfold rwP
        rw [List.map_append]
        exact .tup e9 (dz_app y1 (.cons (.tup (s9 _ _ (s8 _ _ e7)) (.cons (.str kl.1) (.cons (.int (kl.2 + 1)) .nil))) .nil))
      · rcases List.mem_append.mp hk with z | z
        · exact gk' k (y2 k z)
        · rw [List.mem_singleton.mp z]; exact gl2
    have et9 := s59 _ _ et5
    have ho9 := s59 _ _ ho5
    have hk9 : Rws K H9 (.ref t) ks := hk5.same s59
    have ra9 := ra5.same s59
    have h9 := h5.same s59
    have bt9 : But h H H9 := bt5.trans (Same.but s59 h)
    clear e6 e7 e8 e9 s6 s7 s8 s9 s59 n2 n3 et5 ho5 hk5 ra5 h5 bt5 etl atl
    -- calls
    refine ⟨fun σ Hi => ∃ (lc : Addr) (x2 : Str), σ = [some (.ref h), some (.str x), some (.ref t), some (.ref o), some (.str (Txt.join ", " (ks.map kyT))), some (.ref p4), some (.ref lc), none, none, none, none, none, none, none, none] ∧ L2.Same H9 Hi ∧ Hi lc = some (.lst [.str x, .str x2, .str x, .str x, .str x]) ∧ 1 ≤ x2.length ∧ x2.length ≤ 8 ∧ letts x2, ?_, ?_⟩
    · have la : ("a" : Str).length = 1 := by decide +kernel
      have fx : x.length ≤ sizeLine := fitN (by omega)
      refine ⟨_, rfl, _, rfl, x, rfl, fx, _, 8, rfl, rfl, _, rfl, ite2 (fun c => ?_) (fun c => ?_)⟩
      · have c' : (x.length : Int) < 8 := of_decide_eq_true c
        refine ⟨_, rfl, x, _, rfl, rfl, fitN (by rw [la]; omega), _, rfl, _, rfl, _, rfl, (by show 5 ≤ sizeLine; decide), fun lc nlc => ?_⟩
        exact ⟨lc, x ++ "a", rfl, same_upd nlc, upd_same, by rw [strLen_append, la]; omega, by rw [strLen_append, la]; omega, xl.app (by unfold letts; decide +kernel)⟩
      · have c' : ¬ (x.length : Int) < 8 := of_decide_eq_false (by simpa using c)
        have c1 := cutS1 x x1
        refine ⟨_, rfl, 1, rfl, x, rfl, fx, _, rfl, _, rfl, _, rfl, (by show 5 ≤ sizeLine; decide), fun lc nlc => ?_⟩
        exact ⟨lc, cutS x (some 1) none, rfl, same_upd nlc, upd_same, by rw [c1]; omega, by rw [c1]; omega, fun z hz => xl z (cutS_mem x _ _ z hz)⟩
    rintro σ Ha ⟨lc, x2, rfl, sa, elc, y1, y8, yl⟩
    obtain ⟨ksL, hkL', ksL30⟩ := hkL
    have eta := sa _ _ et9
    refine ⟨_, rfl, _, rfl, _, rfl, _, rfl, t, xs, rfl, eta, fun q1 Hb sb eb => ?_⟩
    have etb := sb _ _ eta
    refine ⟨_, rfl, _, rfl, 1, rfl, t, xs, rfl, etb, fun q2 Hc sc ec => ?_⟩
    have c1 := cut_1 (xs := xs)
    refine ⟨t, q2, _, _, rfl, rfl, sc _ _ etb, ec, fitN (by omega), fun q3 Hd sd ed => ?_⟩
    refine ⟨30, rfl, -30, rfl, q3, _, rfl, ed, fun q4 He se ee => ?_⟩
    refine ⟨_, rfl, (by show 5 ≤ sizeLine; decide), fun lr nlr => ?_⟩
    have s9e : L2.Same H9 He := (((sa.trans sb).trans sc).trans sd).trans se
    have sbe : L2.Same Hb He := (sc.trans sd).trans se
    have slr := same_upd nlr (o := .lst [.ref t, .ref t, .ref q1, .ref q4, .ref p4])
    have elr : (upd He lr (.lst [.ref t, .ref t, .ref q1, .ref q4, .ref p4])) lr = some (.lst [.ref t, .ref t, .ref q1, .ref q4, .ref p4]) := upd_same
    have s9f := s9e.trans slr
    have elc' := slr _ _ (se _ _ (sd _ _ (sc _ _ (sb _ _ elc))))
    have eq1 := slr _ _ (sbe _ _ eb)
    have eq4 := slr _ _ ee
    generalize upd He lr (.lst [.ref t, .ref t, .ref q1, .ref q4, .ref p4]) = Hf at slr elr s9f elc' eq1 eq4 ⊢
    have raf := ra9.same s9f
    have rests : ∀ v ∈ [V.ref t, .ref t, .ref q1, .ref q4, .ref p4], ∃ ks2, Rws K Hf v ks2 ∧ ks2.length ≤ 30 := fun v hv => by
      have one : ∃ ks2, Rws K Hf (.ref t) ks2 ∧ ks2.length ≤ 30 := ⟨ks, hk9.same s9f, k30⟩
      simp only [List.mem_cons, List.not_mem_nil, or_false] at hv
      rcases hv with e | e | e | e | e
      · subst e; exact one
      · subst e; exact one
      · subst e
        obtain ⟨ks', w1, w2⟩ := dz_subK raf (zs := xs.reverse) fun z hz => List.mem_reverse.mp hz
        have lw := dz_len w1
        rw [List.length_map, List.length_reverse] at lw
        exact ⟨ks', ⟨.tup eq1 w1, fun k hk => gk' k (w2 k hk), by omega, by omega⟩, by omega⟩
      · subst e
        have c3 := cut_30 (xs := xs ++ cutV xs none (some 1)) (by rw [List.length_append]; omega)
        obtain ⟨ks', w1, w2⟩ := dz_subK raf (zs := cutV (xs ++ cutV xs none (some 1)) (some (-30)) none) fun z hz => (List.mem_append.mp (cut_mem hz)).elim id cut_mem
        have lw := dz_len w1
        rw [List.length_map] at lw
        exact ⟨ks', ⟨.tup eq4 w1, fun k hk => gk' k (w2 k hk), by omega, by omega⟩, by omega⟩
      · subst e; exact ⟨ksL, hkL'.same s9f, ksL30⟩
    have calls : ∀ v ∈ [V.str x, .str x2, .str x, .str x, .str x], ∃ x3, v = .str x3 ∧ 1 ≤ x3.length ∧ x3.length ≤ 8 ∧ letts x3 := fun v hv => by
      simp only [List.mem_cons, List.not_mem_nil, or_false] at hv
      rcases hv with e | e | e | e | e
      · exact ⟨x, e, x1, x8, xl⟩
      · exact ⟨x2, e, y1, y8, yl⟩
      · exact ⟨x, e, x1, x8, xl⟩
      · exact ⟨x, e, x1, x8, xl⟩
      · exact ⟨x, e, x1, x8, xl⟩
    have etf := s9f _ _ et9
    have hof := s9f _ _ ho9
    have hkf : Rws K Hf (.ref t) ks := hk9.same s9f
    have hf := h9.same s9f
    have btf : But h H Hf := bt9.trans (Same.but s9f h)
    clear eb ec ed ee sb sc sd se sa elc eta etb s9e sbe slr nlr eq1 eq4 et9 ho9 hk9 ra9 h9 bt9 s9f hkL' ksL30 c1
    refine ⟨lc, lr, _, _, rfl, .inl ⟨SqL.of elc', SqL.of elr, ?_⟩⟩
    refine RZ.for_zipL (K := K) (a := lc) (b := lr) (xs := [.str x, .str x2, .str x, .str x, .str x]) (ys := [.ref t, .ref t, .ref q1, .ref q4, .ref p4]) rfl (fun i σ Hi => ∃ c7 c8 c9 : Option V, σ = [some (.ref h), some (.str x), some (.ref t), some (.ref o), some (.str (Txt.join ", " (ks.map kyT))), some (.ref p4), some (.ref lc), c7, c8, c9, none, none, none, none, none] ∧ L2.Same Hf Hi) ?_ ?_ ?_ ?_
    · exact ⟨_, _, _, rfl, Same.refl Hf⟩
    · rintro i σ Hi ⟨_, _, _, _, e⟩
      exact ⟨SqL.of (e _ _ elc'), SqL.of (e _ _ elr)⟩
    · rintro i v r tz σ Hi hv hr' ⟨c7, c8, c9, rfl, si⟩ ntz
      obtain ⟨x3, rfl, z1, z8, zl⟩ := calls v (List.mem_of_getElem? hv)
      obtain ⟨ks2, hk2, k230⟩ := rests r (List.mem_of_getElem? hr')
      have stz := same_upd ntz (o := .tup [.str x3, r])
      refine ⟨tz, _, rfl, SqT.of upd_same, rfl, _, _, rfl, _, _, rfl, rfl, ?_⟩
      have sg := si.trans stz
      generalize upd Hi tz (.tup [.str x3, r]) = Hg at stz sg ⊢
      have hk2g : Rws K Hg r ks2 := hk2.same sg
      refine ⟨_, rfl, _, rfl, rfl, rfl, fun o2 dx2 no2 nd2 ne2 => ?_⟩
      have mk3 : L2.Same Hg (upd (upd Hg dx2 (.own o2)) o2 (.ins C dx2 [])) := fun b z e => by
        rw [upd_ne (ne_of_none e no2), upd_ne (ne_of_none e nd2)]
        exact e
      refine ⟨o2, dx2, .str x3, r, .str x3, rwP ks2, rfl, upd_same, .str x3, st_s (by omega), hk2g.1.same mk3, s3_rw hk2g.2.1 (by omega), fun _ _ Hh keep al => ⟨rfl, ?_⟩, fun c => absurd c (by rw [ofT_yes z1 z8 zl, rw_yes hk2g.2.1 hk2g.2.2.1 k230]; decide)⟩
      have sh : L2.Same Hg Hh := fun b z e => keep b z (mk3 b z e) (ne_of_none e no2)
      obtain ⟨dy2, ho2⟩ := al
      have sfh := sg.trans sh
      have hoh := sfh _ _ hof
      have hkh : Rws K Hh (.ref t) ks := hkf.same sfh
      have hk2h : Rws K Hh r ks2 := hk2.same sfh
      have dc : decide (x3 = x) = decide (x = x3) := decide_eq_decide.mpr eq_comm
      have ds : decide (V.str x3 = V.str x) = decide (x = x3) := by
        rw [← dc]
        exact decide_eq_decide.mpr ⟨fun z => V.str.inj z, fun z => by rw [z]⟩
      have cm : PyData.eqv (rwP ks2) (rwP ks) = PyData.eqv (rwP ks) (rwP ks2) := PySem.W.eqv_comm _ _
      have neB : ∀ b : Bool, (!decide (V.bl b = V.bl b)) = false := fun b => by simp
      have tail : ∀ {Q2 : Bool → Hp → Prop}, Q2 false Hh → (tTest (tOp rNe (tOp (rNeL C (spEq K C)) (tVar 3) (tVar 9)) (tOp (rNeL C (spEq K C)) (tVar 9) (tVar 3)))) [some (.ref h), some (.str x), some (.ref t), some (.ref o), some (.str (Txt.join ", " (ks.map kyT))), some (.ref p4), some (.ref lc), some (.str x3), some r, some (.ref o2), none, none, none, none, none] Hh Q2 := fun {Q2} z => by
        refine ⟨_, rfl, _, rfl, o, dy, _, o2, dy2, _, rfl, hoh, rfl, ho2, o, .ref o2, x, .ref t, ks, rfl, ⟨dy, hoh⟩, hkh, .inr ⟨o2, x3, r, ks2, rfl, ⟨dy2, ho2⟩, hk2h, _, rfl, ?_⟩⟩
        refine ⟨_, rfl, _, rfl, o2, dy2, _, o, dy, _, rfl, ho2, rfl, hoh, o2, .ref o, x3, r, ks2, rfl, ⟨dy2, ho2⟩, hk2h, .inr ⟨o, x, .ref t, ks, rfl, ⟨dy, hoh⟩, hkh, _, rfl, rfl, _, rfl, ?_⟩⟩
        rw [dc, cm, neB]
        exact z
      refine ⟨_, rfl, _, rfl, o, dy, _, rfl, hoh, .inr ⟨o2, dy2, _, rfl, ho2⟩, o, .ref o2, x, .ref t, ks, rfl, ⟨dy, hoh⟩, hkh, .inr ⟨o2, x3, r, ks2, rfl, ⟨dy2, ho2⟩, hk2h, _, rfl, ?_⟩⟩
      refine ⟨_, rfl, _, rfl, rfl, _, rfl, ?_⟩
      rw [ds]
      cases c : decide (x = x3) with
      | false =>
        refine iteF ⟨rfl, _, rfl, ?_⟩
        rw [Bool.false_and, neB]
        exact iteF (tail (iteF ⟨_, _, _, rfl, sfh⟩))
      | true =>
        refine iteT ⟨_, rfl, _, rfl, _, _, rws_dp hk2h, rws_dp hkh, rws_shaped hk2h.2.1, rws_shaped hkh.2.1, rfl, _, rfl, ?_⟩
        rw [Bool.true_and, cm, neB]
        exact iteF (tail (iteF ⟨_, _, _, rfl, sfh⟩))
    · rintro σ Hz ⟨c7, c8, c9, rfl, sz⟩
      have etz := sz _ _ etf
      have hoz := sz _ _ hof
      have hkz : Rws K Hz (.ref t) ks := hkf.same sz
      have hz := hf.same sz
      have btz : But h H Hz := btf.trans (Same.but sz h)
      clear calls rests elc' elr raf etf hof hkf hf btf sz
      refine ⟨_, rfl, _, rfl, _, rfl, _, rfl, (by show 2 ≤ sizeLine; decide), fun v1 m1 => ?_⟩
      have t1 := same_upd m1 (o := .tup [.str x, .ref t])
      have f1 : (upd Hz v1 (.tup [.str x, .ref t])) v1 = some (.tup [.str x, .ref t]) := upd_same
      generalize upd Hz v1 (.tup [.str x, .ref t]) = I1 at t1 f1 ⊢
      refine ⟨_, rfl, t, xs, rfl, .inr (SqT.of (t1 _ _ etz)), ?_⟩
      refine ⟨_, rfl, o, dy, _, rfl, t1 _ _ hoz, o, x, .ref t, ks, rfl, ⟨dy, t1 _ _ hoz⟩, x8, hkz.same t1, fun I2 t2 => ⟨_, rfl, ?_⟩⟩
      refine ⟨_, rfl, (by show 1 ≤ sizeLine; decide), fun v2 m2 => ?_⟩
      have t3 := same_upd m2 (o := .lst [.ref o])
      have f2 : (upd I2 v2 (.lst [.ref o])) v2 = some (.lst [.ref o]) := upd_same
      generalize upd I2 v2 (.lst [.ref o]) = I3 at t3 f2 ⊢
      refine ⟨(by show 7 ≤ sizeLine; decide), fun v3 m3 => ?_⟩
      have t4 := same_upd m3 (o := .tup [.str x, .ref t, .ref v1, .non, .int ((xs.length : Nat) : Int), .str (discT x ks), .ref v2])
      have f3 : (upd I3 v3 (.tup [.str x, .ref t, .ref v1, .non, .int ((xs.length : Nat) : Int), .str (discT x ks), .ref v2])) v3 = some (.tup [.str x, .ref t, .ref v1, .non, .int ((xs.length : Nat) : Int), .str (discT x ks), .ref v2]) := upd_same
      have f1' := t4 _ _ (t3 _ _ (t2 _ _ f1))
      have f2' := t4 _ _ f2
      have tz4 := ((t1.trans t2).trans t3).trans t4
      generalize upd I3 v3 (.tup [.str x, .ref t, .ref v1, .non, .int ((xs.length : Nat) : Int), .str (discT x ks), .ref v2]) = I4 at t4 f3 f1' f2' tz4 ⊢
      have odd7 : ∀ v ∈ [V.str x, .ref t, .ref v1, .non, .int ((xs.length : Nat) : Int), .str (discT x ks), .ref v2], ∃ ty, Odd I4 v ty := fun v hv => by
        simp only [List.mem_cons, List.not_mem_nil, or_false] at hv
        rcases hv with e | e | e | e | e | e | e
        · subst e; exact ⟨_, .str x⟩
        · subst e; exact ⟨_, .tup (tz4 _ _ etz)⟩
        · subst e; exact ⟨_, .tup f1'⟩
        · subst e; exact ⟨_, .non⟩
        · subst e; exact ⟨_, .int _⟩
        · subst e; exact ⟨_, .str _⟩
        · subst e; exact ⟨_, .lst f2'⟩
      refine ⟨v3, rfl, ⟨_, SqT.of f3⟩, fun D nD => ?_⟩
      refine lc_tup (K := K) (a := v3) (xs := [.str x, .ref t, .ref v1, .non, .int ((xs.length : Nat) : Int), .str (discT x ks), .ref v2]) (fun i Hi => L2.Same I4 Hi ∧ Hi D = some (.lst ((List.replicate i false).map V.bl))) ⟨same_upd nD, upd_same⟩ (fun i Hi _ z => SqT.of (z.1 _ _ f3)) ?_ ?_
      · rintro i v Hi hv ⟨sm, eD⟩
        have il : i < 7 := (List.getElem?_eq_some_iff.mp hv).1
        obtain ⟨ty, od⟩ := odd7 v (List.mem_of_getElem? hv)
        have od2 : Odd Hi v ty := by
          cases od with
          | int i => exact .int i
          | str x => exact .str x
          | non => exact .non
          | tup e => exact .tup (sm _ _ e)
          | lst e => exact .lst (sm _ _ e)
        have hoi := sm _ _ (tz4 _ _ hoz)
        have hki : Rws K Hi (.ref t) ks := (hkz.same tz4).same sm
        refine ⟨rfl, ?_⟩
        unfold tYes
        refine iteT ⟨_, rfl, _, rfl, o, dy, _, rfl, hoi, .inl ⟨ty, od2⟩, o, v, x, .ref t, ks, rfl, ⟨dy, hoi⟩, hki, .inl ⟨ty, od2, false, rfl, _, eD, ?_, fun c o e => ?_, ?_⟩⟩
        · rw [List.length_map, List.length_replicate]
          exact Nat.lt_of_le_of_lt (show i ≤ 1000 by omega) (by decide)
        · rw [upd_ne (ne_of_none e nD)]
          exact sm _ _ e
        · rw [upd_same, List.replicate_succ', List.map_append]
          rfl
      rintro I5 ⟨t5, eD⟩
      refine ⟨D, _, rfl, SqL.of eD, _, rfl, ?_⟩
      rw [show (List.replicate [V.str x, .ref t, .ref v1, .non, .int ((xs.length : Nat) : Int), .str (discT x ks), .ref v2].length false).any id = false from rfl]
      refine iteF ?_
      have tz5 := tz4.trans t5
      have et5 := tz5 _ _ etz
      have hk5 : Rws K I5 (.ref t) ks := hkz.same tz5
      have h5 := hz.same tz5
      have bt5 : But h H I5 := btz.trans (Same.but tz5 h)
      clear t1 t2 t3 t4 t5 tz4 tz5 f1 f2 f3 f1' f2' odd7 eD nD m1 m2 m3 etz hoz hkz hz btz
      have l8 : ("abcdefgh" : Str).length = 8 := by decide +kernel
      have l1 : ("1" : Str).length = 1 := by decide +kernel
      have l2 : (" " : Str).length = 1 := by decide +kernel
      refine ⟨_, rfl, ⟨x, rfl⟩, x, rfl, rfl, by omega, ?_⟩
      refine ⟨_, rfl, x, _, rfl, rfl, fitN (by rw [l1]; omega), ?_⟩
      refine ⟨_, rfl, x, _, rfl, rfl, fitN (by rw [l8]; omega), 9, rfl, _, rfl, fitN (by rw [strLen_append, l8]; omega), ?_⟩
      refine ⟨_, rfl, (by show 1 ≤ sizeLine; decide), fun w1 m1 => ?_⟩
      have t1 := same_upd m1 (o := .tup [.str x])
      have f1 : (upd I5 w1 (.tup [.str x])) w1 = some (.tup [.str x]) := upd_same
      generalize upd I5 w1 (.tup [.str x]) = J1 at t1 f1 ⊢
      refine ⟨_, rfl, (by show 1 ≤ sizeLine; decide), fun w2 m2 ne2 => ?_⟩
      have t2 := same_upd m2 (o := .lst [.str x])
      have f2 : (upd J1 w2 (.lst [.str x])) w2 = some (.lst [.str x]) := upd_same
      have w2h := (h5.same t1).fresh m2
      generalize upd J1 w2 (.lst [.str x]) = J2 at t2 f2 ⊢
      refine ⟨_, rfl, _, _, rfl, rfl, fitN (by rw [l2]; omega), (by show 10 ≤ sizeLine; decide), fun w3 m3 => ?_⟩
      have t3 := same_upd m3 (o := .lst [.str "", .str (Txt.upper x), .str (x ++ "1"), .str (cutS (x ++ "abcdefgh") none (some 9)), .non, .int 7, .bl true, .ref w1, .ref w2, .str (" " ++ x)])
      have w3h := ((h5.same t1).same t2).fresh m3
      have hJ := ((h5.same t1).same t2).same t3
      refine ⟨_, rfl, _, rfl, h, 910, _, rfl, hJ.mono (by decide), by show (910 : Int) ≤ 1000000; decide, .inl ⟨w3, _, rfl, upd_same, w3h, by simp, by show 10 < 1000; decide, fun v J4 mv h6 b6 => ?_⟩⟩
      have b56 : But h I5 J4 := (Same.but ((t1.trans t2).trans t3) h).trans b6
      have w1h := ((hJ).nt (t3 _ _ (t2 _ _ f1)))
      obtain ⟨d, dzv, std, bad⟩ : ∃ d, Dz K (del J4 h) v d ∧ St d ∧ ofT d small 1 8 = false := by
        simp only [List.mem_cons, List.not_mem_nil, or_false] at mv
        rcases mv with e | e | e | e | e | e | e | e | e | e
        · subst e; exact ⟨_, .str _, st_s (by decide), of_short (by decide)⟩
        · subst e; exact ⟨_, .str _, st_s (by have := PyProof.Rows.len_upper x; omega), of_upper x1 xl⟩
        · subst e; exact ⟨_, .str _, st_s (by rw [strLen_append, l1]; omega), of_one x⟩
        · subst e
          have c9 := cut9 (x := x ++ "abcdefgh") (by rw [strLen_append, l8]; omega)
          exact ⟨_, .str _, st_s (by rw [c9]; decide), of_long (by rw [c9]; decide)⟩
        · subst e; exact ⟨_, .non, st_n rfl, rfl⟩
        · subst e; exact ⟨_, .int 7, st_n rfl, rfl⟩
        · subst e; exact ⟨_, .bl true, st_n rfl, rfl⟩
        · subst e; exact ⟨_, .tup (off_at w1h (b6 _ _ w1h (t3 _ _ (t2 _ _ f1)))) (.cons (.str x) .nil), st_n rfl, rfl⟩
        · subst e; exact ⟨_, .lst (off_at w2h (b6 _ _ w2h (t3 _ _ f2))) ne2 (.cons (.str x) .nil), st_n rfl, rfl⟩
        · subst e; exact ⟨_, .str _, st_s (by rw [strLen_append, l2]; omega), of_blank x⟩
      have et6 := b56 _ _ th et5
      have hk6 : Rws K (del J4 h) (.ref t) ks := by
        obtain ⟨t', xs', e1, e2, a⟩ := rws_tup hk5
        cases e1
        rw [et5] at e2
        cases e2
        refine ⟨?_, hk5.2⟩
        refine .tup (off_at th et6) (ra_off h5 a b56)
      have ra6 : DzAll K (del J4 h) xs (ks.map kyP) := by
        obtain ⟨t', xs', e1, e2, a⟩ := rws_tup hk6
        cases e1
        rw [off_at th et6] at e2
        cases e2
        exact a
      have dzr6 : Dz K J4 (.ref t) (rwP ks) := hk6.1.same off_all
      -- what is refused
      refine ⟨_, rfl, _, rfl, v, .ref t, d, rwP ks, rfl, dzv.same off_all, std, dzr6, s3r, by rw [bad]; rfl, fun J5 u5 => ⟨true, rfl, iteT ?_⟩⟩
      have b5h : But h J4 J5 := Same.but u5 h
      refine ⟨_, rfl, _, rfl, _, rfl, h, 911, t, xs, ks, rfl, u5 _ _ et6, ra6.same (off_but b5h), gk, k1, k30, (h6.same u5).mono (by decide), by show (911 : Int) + 100 ≤ 1000000; decide, fun r dr J6 zr sr br h7 b7 => ?_⟩
      refine ⟨.str x, r, .str x, dr, rfl, .str x, sx, zr.same off_all, sr, by rw [br, Bool.and_false], fun J7 u7 => ⟨true, rfl, iteT ?_⟩⟩
      refine ⟨_, rfl, (by show 0 ≤ sizeLine; decide), fun z nz => ?_⟩
      have uz := same_upd nz (o := .tup [])
      have dzv7 : Dz K (upd J7 z (.tup [])) v d := (((dzv.same (off_but (b5h.trans b7))).same off_all).same u7).same uz
      refine ⟨v, .ref z, d, .tuple [], rfl, dzv7, std, .tup upd_same .nil, fun ds e => (by cases e; exact ⟨by simp, fun d hd => by cases hd⟩), by rw [bad]; rfl, fun J8 u8 => ?_⟩
      exact q J8 (bt5.trans (b56.trans (b5h.trans (b7.trans (Same.but (u7.trans (uz.trans u8)) h)))))
end
end K47
set_option Elab.async false
set_option linter.all false
set_option maxRecDepth 100000
set_option maxHeartbeats 4000000
set_option pp.maxSteps 400
set_option pp.deepTerms false
namespace K47
open PySem PySem.Spec PyProof.Rows L2
open Xk Az
section
variable {P : Program} {w : World} {K : PySem.W.Frag} {mg : Str → Option Value} {base : Heap} {C : Addr}
def spLaw (K : PySem.W.Frag) : Sp := fun vs H Q _ => ∃ (a : Addr) (ns : List Int), vs = [.ref a] ∧ SqL K H a (ns.map V.int) ∧ ns.length ≤ 63 ∧ ∀ H', Q (.bl true) H'
theorem ok_law {f : Addr} {fd : FuncData} {e : Ex} {fR : Addr} {fdR : FuncData} (D : Df K mg "law" ["_law_script"] sLaw f fd) (T : Txt K mg C e) (cH : Ca P w K mg base 1 "_law_hand" ["_law_script", "_law_k"] (spHand K)) (DR : Df K mg "_law_right" ["_law_hand_here"] sRight fR fdR) (GR : Gn P w K mg base 9 fR fdR ["_law_hand_here"] spRight) : Gn P w K mg base 10 f fd ["_law_script"] (spLaw K) := by
  refine gn_body D.fn scLaw (fun vs H Q E h => ?_) (fun cdv A outer s H vs Q E hg hr h => ?_)
  · obtain ⟨a, ns, rfl, hS, hlen, q⟩ := h
    rfl
  · obtain ⟨a, ns, rfl, hS, hlen, q⟩ := h
    refine ⟨_, (pss_one (ps_ret (pe_callB (cr_all (by rfl)) (by rfl) T.all (by decide +kernel) (pa_cons (pe_lc (own := [("_law_k", 1)]) (g := gName 1) (tt := tYes) (te := tCall spRight [] E0 (tCons (tCall (spHand K) [] E0 (tCons (tVar 0) (tCons (tVar 1) tNil))) tNil)) (by rfl) scLaw.nd (pi_range1 (by rfl) T.range (pa_cons (pe_callB (call_max2 (by rfl)) (by rfl) T.max (by decide +kernel) (pa_cons pe_int (pa_cons (pe_callB (call_min2 (by rfl)) (by rfl) T.min (by decide +kernel) (pa_cons pe_int (pa_cons (pe_callB call_len_seq (by rfl) T.len PySem.boot_len (pa_cons (pv 0) pa_nil)) pa_nil))) pa_nil))) pa_nil)) (blkOk_by (own := [("_law_k", 1)]) (N := ["_law_script", "_law_k"]) (sc := defScope sLaw) (by decide +kernel)) (fun _ _ _ _ _ => pg_name (i := 1) scLaw.nd rfl (.inl rfl)) (fun _ _ _ _ _ => pts_nil) (fun _ _ _ _ _ => pe_gn GR hg hr (by rfl) DR.mgf DR.fn.kp DR.bd (pa_cons (pe_ca cH hr (by decide) (by rfl) (pa_cons (pv 0) (pa_cons (pv 1) pa_nil))) pa_nil))) pa_nil)))), ?_⟩
    refine ⟨_, rfl, a, _, rfl, .inl hS, 6, _, rfl, 1, _, rfl, ?_⟩
    obtain ⟨m, em, m0, m6⟩ : ∃ m : Int, (if (if ((ns.map V.int).length : Int) < 6 then ((ns.map V.int).length : Int) else 6) > 1 then (if ((ns.map V.int).length : Int) < 6 then ((ns.map V.int).length : Int) else 6) else 1) = m ∧ 0 ≤ m ∧ m ≤ 6 := ⟨_, rfl, by split <;> (try split) <;> omega, by split <;> (try split) <;> omega⟩
    rw [em]
    clear em
    refine ⟨_, rfl, by omega, by omega, fun L nL => ?_⟩
    refine lc_range (lo := 0) (fun i Hi => L2.Same H Hi ∧ Hi L = some (.lst ((List.replicate i true).map V.bl))) ⟨same_upd nL, upd_same⟩ ?_ ?_
    · rintro i Hi hi ⟨sm, hL⟩
      have hi' : i < m.toNat := hi
      refine ⟨rfl, ?_⟩
      unfold tYes
      refine iteT ?_
      refine ⟨_, rfl, _, rfl, a, 0 + (i : Int), ns, rfl, by omega, by omega, sm.seq hS, fun p g m' np g0 m0' m1' => ?_⟩
      refine ⟨p, rfl, ⟨g, m', 0, upd_same, g0, m0', m1', Int.le_refl _, Int.le_refl _⟩, fun H' bt => ?_⟩
      have nLp : L ≠ p := ne_of_none hL np
      refine ⟨_, bt L _ nLp (same_upd np _ _ hL), ?_, fun b o e => ?_, ?_⟩
      · rw [List.length_map, List.length_replicate]
        exact Nat.lt_of_le_of_lt (show i ≤ 1000 by omega) (by decide)
      · rw [upd_ne (ne_of_none e nL)]
        have e2 := sm _ _ e
        exact bt _ _ (ne_of_none e2 np) (same_upd np _ _ e2)
      · rw [upd_same, List.replicate_succ', List.map_append]
        rfl
    · rintro He ⟨sm, hL⟩
      refine ⟨L, _, rfl, SqL.of hL, ?_⟩
      rw [show (List.replicate _ true).all id = true from List.all_eq_true.mpr fun b hb => (List.mem_replicate.mp hb).2]
      exact q _
end
end K47
set_option Elab.async false
set_option linter.all false
set_option maxRecDepth 100000
set_option maxHeartbeats 4000000
set_option pp.maxSteps 400
set_option pp.deepTerms false
namespace K47
open PySem PySem.Spec PyProof.Rows L2
open Xk Az
theorem kit_self {K : PySem.W.Frag} {C : Addr} : PySem.W.kitOne K (.ref C) (.ref C) = some true := by
  unfold PySem.W.kitOne
  simp
theorem kit_in {K : PySem.W.Frag} {t : Value} {c : Addr} {b : Bool} (ic : PySem.W.isClsIn K c = true) (ty : PySem.W.typeIn K (.ref c) = some (.type "type")) (sb : PySem.W.subIn K t (.ref c) = some b) : PySem.W.kitCls K t (.ref c) = some b := by
  have h : ((PySem.W.clsIn K c).isSome && PySem.W.typeIn K (.ref c) == some (.type "type")) = true := by
    rw [show (PySem.W.clsIn K c).isSome = true from ic, ty]
    rfl
  unfold PySem.W.kitCls
  simp only [h, if_true]
  exact sb
theorem kit_no {K : PySem.W.Frag} {a c : Addr} (ic : PySem.W.isClsIn K c = true) (ty : PySem.W.typeIn K (.ref c) = some (.type "type")) (sb : PySem.W.subIn K (.ref a) (.ref c) = some false) (me : PySem.W.subIn K (.ref a) (.ref a) = some true) :
    PySem.W.kitOne K (.ref a) (.ref c) = some false := by
  have ne : ((Value.ref a == Value.ref c) = true) = False := by
    refine propext ⟨fun z => ?_, False.elim⟩
    have z2 : a = c := Value.ref.inj (beq_iff_eq.mp z)
    rw [← z2, me] at sb
    cases sb
  unfold PySem.W.kitOne
  simp only [ne, if_false]
  exact kit_in ic ty sb
theorem kit_yes {K : PySem.W.Frag} {a c : Addr} (ic : PySem.W.isClsIn K c = true) (ty : PySem.W.typeIn K (.ref c) = some (.type "type")) (sb : PySem.W.subIn K (.ref a) (.ref c) = some true) : PySem.W.kitOne K (.ref a) (.ref c) = some true := by
  unfold PySem.W.kitOne
  split
  · rfl
  · exact kit_in ic ty sb
theorem kit_ve {K : PySem.W.Frag} {a : Addr} (sb : PySem.W.subIn K (.ref a) (.type "ValueError") = some true) : PySem.W.kitOne K (.ref a) (.type "ValueError") = some true := by
  have h : PySem.W.kitMeta "ValueError" = true := by decide +kernel
  unfold PySem.W.kitOne PySem.W.kitCls
  split
  · rfl
  · simp only [h, if_true]
    exact sb
theorem kit_skip {K : PySem.W.Frag} {t c : Value} {r : List Value} {b : Bool} (h : PySem.W.kitOne K t c = some false) (hr : PySem.W.kitAny K t r = some b) : PySem.W.kitAny K t (c :: r) = some b := by
  unfold PySem.W.kitAny
  rw [h]
  exact hr
theorem exm_is {K : PySem.W.Frag} {t : Value} {c : Addr} {b : Bool} (ic : PySem.W.isClsIn K c = true) (ty : PySem.W.typeIn K (.ref c) = some (.type "type")) (be : PySem.W.subIn K (.ref c) (.type "BaseException") = some true) (sb : PySem.W.subIn K t (.ref c) = some b) :
    PySem.W.exmOne K t (.ref c) = some b := by
  unfold PySem.W.exmOne
  rw [be, if_pos (by decide)]
  exact kit_in ic ty sb
theorem exm_3 {K : PySem.W.Frag} {t c1 c2 c3 : Value} {b2 b3 : Bool} (h1 : PySem.W.exmOne K t c1 = some true) (h2 : PySem.W.exmOne K t c2 = some b2) (h3 : PySem.W.exmOne K t c3 = some b3) : PySem.W.exmAny K t [c1, c2, c3] = some true := by
  unfold PySem.W.exmAny PySem.W.exmAny PySem.W.exmAny PySem.W.exmAny
  rw [h1, h2, h3]
  rfl
theorem kit_lk {K : PySem.W.Frag} {a : Addr} (sb : PySem.W.subIn K (.ref a) (.type "LookupError") = some false) : PySem.W.kitOne K (.ref a) (.type "LookupError") = some false := by
  have h : PySem.W.kitMeta "LookupError" = true := by decide +kernel
  have ne : (Value.ref a == Value.type "LookupError") = false := rfl
  unfold PySem.W.kitOne PySem.W.kitCls
  rw [ne]
  simp only [h, if_true, Bool.false_eq_true, if_false]
  exact sb
theorem vals_getD : ∀ {zs : List V} {ws : List Value} (i : Nat), Vals zs ws → RelV (zs.getD i .non) (ws.getD i .none)
  | [], [], _, _ => rfl
  | _ :: _, _ :: _, 0, .cons r _ => r
  | _ :: _, _ :: _, i + 1, .cons _ r => vals_getD i r
theorem all_mk {l : PySem.W.OpenLaw} {w : World} {K : PySem.W.Frag} {h : Heap} {mg : Str → Option Value} {fa cDisc cNotSuch cLost cTaken cNoCustom cNoDay cNoEntry cNoKey cNoLength cNoLine cNoName cNoText cSame cNoDisc f0 f1 f2 f3 f4 f5 f6 f7 f8 f9 f10 f11 f12 f13 f14 f15 f16 f17 f18 f19 f20 f21 : Addr}
    {od0 an0 od1 an1 od2 an2 od3 an3 od4 an4 od5 an5 od6 an6 od7 an7 od8 an8 od9 an9 od10 an10 od11 an11 od12 an12 od13 an13 od14 an14 od15 an15 od16 an16 od17 an17 od18 an18 od19 an19 od20 an20 od21 an21 : Option Addr}
    {sl0 sl1 sl2 sl3 sl4 sl5 sl6 sl7 sl8 sl9 sl10 sl11 sl12 sl13 sl14 sl15 sl16 sl17 sl18 sl19 sl20 sl21 : Array (Option Value)}
    {oc0 kV0 dc0 pm0 cd0 ct0 oc1 kV1 dc1 pm1 cd1 ct1 oc2 kV2 dc2 pm2 cd2 ct2 oc3 kV3 dc3 pm3 cd3 ct3 oc4 kV4 dc4 pm4 cd4 ct4 oc5 kV5 dc5 pm5 cd5 ct5 oc6 kV6 dc6 pm6 cd6 ct6 oc7 kV7 dc7 pm7 cd7 ct7 oc8 kV8 dc8 pm8 cd8 ct8 oc9 kV9 dc9 pm9 cd9 ct9 oc10 kV10 dc10 pm10 cd10 ct10 oc11 kV11 dc11 pm11 cd11 ct11 oc12 kV12 dc12 pm12 cd12 ct12 oc13 kV13 dc13 pm13 cd13 ct13 oc14 kV14 dc14 pm14 cd14 ct14 oc15 kV15 dc15 pm15 cd15 ct15 oc16 kV16 dc16 pm16 cd16 ct16 oc17 kV17 dc17 pm17 cd17 ct17 oc18 kV18 dc18 pm18 cd18 ct18 oc19 kV19 dc19 pm19 cd19 ct19 oc20 kV20 dc20 pm20 cd20 ct20 oc21 kV21 dc21 pm21 cd21 ct21 : Value}
    {u_SMALL_LETTERS u_LONGEST_WORD u_KEY_PARTS u_MOST_ROWS : Tok}
    (X : K.In h) (G : h.Ns mainGlobals mg) (hfa : mg "law" = some (.ref fa))
    (a_Disc : PySem.W.nsIn K mainGlobals "Disc" = some (some (.ref cDisc)))
    (a_NotSuch : PySem.W.nsIn K mainGlobals "NotSuch" = some (some (.ref cNotSuch)))
    (a_Lost : PySem.W.nsIn K mainGlobals "Lost" = some (some (.ref cLost)))
    (a_Taken : PySem.W.nsIn K mainGlobals "Taken" = some (some (.ref cTaken)))
    (a_NoCustom : PySem.W.nsIn K mainGlobals "NoCustom" = some (some (.ref cNoCustom)))
    (a_NoDay : PySem.W.nsIn K mainGlobals "NoDay" = some (some (.ref cNoDay)))
    (a_NoEntry : PySem.W.nsIn K mainGlobals "NoEntry" = some (some (.ref cNoEntry)))
    (a_NoKey : PySem.W.nsIn K mainGlobals "NoKey" = some (some (.ref cNoKey)))
    (a_NoLength : PySem.W.nsIn K mainGlobals "NoLength" = some (some (.ref cNoLength)))
    (a_NoLine : PySem.W.nsIn K mainGlobals "NoLine" = some (some (.ref cNoLine)))
    (a_NoName : PySem.W.nsIn K mainGlobals "NoName" = some (some (.ref cNoName)))
    (a_NoText : PySem.W.nsIn K mainGlobals "NoText" = some (some (.ref cNoText)))
    (a_Same : PySem.W.nsIn K mainGlobals "Same" = some (some (.ref cSame)))
    (a_NoDisc : PySem.W.nsIn K mainGlobals "NoDisc" = some (some (.ref cNoDisc)))
    (a0 : PySem.W.nsIn K mainGlobals "is_whole" = some (some (.ref f0)))
    (l0 : K.lookup f0 = some ⟨oc0, od0, .func (PySem.W.fnOf "is_whole" "is_whole" (defArgs sIsWhole) (defBody sIsWhole) (defScope sIsWhole) .none kV0 dc0 pm0 an0 cd0 ct0), sl0⟩)
    (c0 : PySem.W.codeIn K cd0 "is_whole" = true)
    (k0 : PySem.W.keepIn K (.ref f0) = true)
    (a1 : PySem.W.nsIn K mainGlobals "is_text_of" = some (some (.ref f1)))
    (l1 : K.lookup f1 = some ⟨oc1, od1, .func (PySem.W.fnOf "is_text_of" "is_text_of" (defArgs sIsTextOf) (defBody sIsTextOf) (defScope sIsTextOf) .none kV1 dc1 pm1 an1 cd1 ct1), sl1⟩)
    (c1 : PySem.W.codeIn K cd1 "is_text_of" = true)
    (k1 : PySem.W.keepIn K (.ref f1) = true)
    (a2 : PySem.W.nsIn K mainGlobals "is_small_text" = some (some (.ref f2)))
    (l2 : K.lookup f2 = some ⟨oc2, od2, .func (PySem.W.fnOf "is_small_text" "is_small_text" (defArgs sIsSmallText) (defBody sIsSmallText) (defScope sIsSmallText) .none kV2 dc2 pm2 an2 cd2 ct2), sl2⟩)
    (c2 : PySem.W.codeIn K cd2 "is_small_text" = true)
    (k2 : PySem.W.keepIn K (.ref f2) = true)
    (a3 : PySem.W.nsIn K mainGlobals "is_word" = some (some (.ref f3)))
    (l3 : K.lookup f3 = some ⟨oc3, od3, .func (PySem.W.fnOf "is_word" "is_word" (defArgs sIsWord) (defBody sIsWord) (defScope sIsWord) .none kV3 dc3 pm3 an3 cd3 ct3), sl3⟩)
    (c3 : PySem.W.codeIn K cd3 "is_word" = true)
    (k3 : PySem.W.keepIn K (.ref f3) = true)
    (a4 : PySem.W.nsIn K mainGlobals "is_key" = some (some (.ref f4)))
    (l4 : K.lookup f4 = some ⟨oc4, od4, .func (PySem.W.fnOf "is_key" "is_key" (defArgs sIsKey) (defBody sIsKey) (defScope sIsKey) .none kV4 dc4 pm4 an4 cd4 ct4), sl4⟩)
    (c4 : PySem.W.codeIn K cd4 "is_key" = true)
    (k4 : PySem.W.keepIn K (.ref f4) = true)
    (a5 : PySem.W.nsIn K mainGlobals "show_key" = some (some (.ref f5)))
    (l5 : K.lookup f5 = some ⟨oc5, od5, .func (PySem.W.fnOf "show_key" "show_key" (defArgs sShowKey) (defBody sShowKey) (defScope sShowKey) .none kV5 dc5 pm5 an5 cd5 ct5), sl5⟩)
    (c5 : PySem.W.codeIn K cd5 "show_key" = true)
    (k5 : PySem.W.keepIn K (.ref f5) = true)
    (a6 : PySem.W.nsIn K mainGlobals "show_keys" = some (some (.ref f6)))
    (l6 : K.lookup f6 = some ⟨oc6, od6, .func (PySem.W.fnOf "show_keys" "show_keys" (defArgs sShowKeys) (defBody sShowKeys) (defScope sShowKeys) .none kV6 dc6 pm6 an6 cd6 ct6), sl6⟩)
    (c6 : PySem.W.codeIn K cd6 "show_keys" = true)
    (k6 : PySem.W.keepIn K (.ref f6) = true)
    (a7 : PySem.W.nsIn K mainGlobals "are_rows" = some (some (.ref f7)))
    (l7 : K.lookup f7 = some ⟨oc7, od7, .func (PySem.W.fnOf "are_rows" "are_rows" (defArgs sAreRows) (defBody sAreRows) (defScope sAreRows) .none kV7 dc7 pm7 an7 cd7 ct7), sl7⟩)
    (c7 : PySem.W.codeIn K cd7 "are_rows" = true)
    (k7 : PySem.W.keepIn K (.ref f7) = true)
    (a8 : PySem.W.findIn K (.ref cDisc) "__init__" = some (some (.ref f8)))
    (i8 : PySem.W.isFn K (.ref f8) = true)
    (l8 : K.lookup f8 = some ⟨oc8, od8, .func (PySem.W.fnOf "__init__" "Disc.__init__" (defArgs sDiscInit) (defBody sDiscInit) (defScope sDiscInit) .none kV8 dc8 pm8 an8 cd8 ct8), sl8⟩)
    (c8 : PySem.W.codeIn K cd8 "Disc.__init__" = true)
    (k8 : PySem.W.keepIn K (.ref f8) = true)
    (a9 : PySem.W.findIn K (.ref cDisc) "__len__" = some (some (.ref f9)))
    (i9 : PySem.W.isFn K (.ref f9) = true)
    (l9 : K.lookup f9 = some ⟨oc9, od9, .func (PySem.W.fnOf "__len__" "Disc.__len__" (defArgs sDiscLen) (defBody sDiscLen) (defScope sDiscLen) .none kV9 dc9 pm9 an9 cd9 ct9), sl9⟩)
    (c9 : PySem.W.codeIn K cd9 "Disc.__len__" = true)
    (k9 : PySem.W.keepIn K (.ref f9) = true)
    (a10 : PySem.W.findIn K (.ref cDisc) "__eq__" = some (some (.ref f10)))
    (i10 : PySem.W.isFn K (.ref f10) = true)
    (l10 : K.lookup f10 = some ⟨oc10, od10, .func (PySem.W.fnOf "__eq__" "Disc.__eq__" (defArgs sDiscEq) (defBody sDiscEq) (defScope sDiscEq) .none kV10 dc10 pm10 an10 cd10 ct10), sl10⟩)
    (c10 : PySem.W.codeIn K cd10 "Disc.__eq__" = true)
    (k10 : PySem.W.keepIn K (.ref f10) = true)
    (a11 : PySem.W.findIn K (.ref cDisc) "__str__" = some (some (.ref f11)))
    (i11 : PySem.W.isFn K (.ref f11) = true)
    (l11 : K.lookup f11 = some ⟨oc11, od11, .func (PySem.W.fnOf "__str__" "Disc.__str__" (defArgs sDiscStr) (defBody sDiscStr) (defScope sDiscStr) .none kV11 dc11 pm11 an11 cd11 ct11), sl11⟩)
    (c11 : PySem.W.codeIn K cd11 "Disc.__str__" = true)
    (k11 : PySem.W.keepIn K (.ref f11) = true)
    (a12 : PySem.W.findIn K (.ref cDisc) "__repr__" = some (some (.ref f12)))
    (i12 : PySem.W.isFn K (.ref f12) = true)
    (l12 : K.lookup f12 = some ⟨oc12, od12, .func (PySem.W.fnOf "__repr__" "Disc.__repr__" (defArgs sDiscRepr) (defBody sDiscRepr) (defScope sDiscRepr) .none kV12 dc12 pm12 an12 cd12 ct12), sl12⟩)
    (c12 : PySem.W.codeIn K cd12 "Disc.__repr__" = true)
    (k12 : PySem.W.keepIn K (.ref f12) = true)
    (a13 : PySem.W.nsIn K mainGlobals "_law_hand" = some (some (.ref f13)))
    (l13 : K.lookup f13 = some ⟨oc13, od13, .func (PySem.W.fnOf "_law_hand" "_law_hand" (defArgs sHand) (defBody sHand) (defScope sHand) .none kV13 dc13 pm13 an13 cd13 ct13), sl13⟩)
    (c13 : PySem.W.codeIn K cd13 "_law_hand" = true)
    (k13 : PySem.W.keepIn K (.ref f13) = true)
    (a14 : PySem.W.nsIn K mainGlobals "_law_take" = some (some (.ref f14)))
    (l14 : K.lookup f14 = some ⟨oc14, od14, .func (PySem.W.fnOf "_law_take" "_law_take" (defArgs sTake) (defBody sTake) (defScope sTake) .none kV14 dc14 pm14 an14 cd14 ct14), sl14⟩)
    (c14 : PySem.W.codeIn K cd14 "_law_take" = true)
    (k14 : PySem.W.keepIn K (.ref f14) = true)
    (a15 : PySem.W.nsIn K mainGlobals "_law_of" = some (some (.ref f15)))
    (l15 : K.lookup f15 = some ⟨oc15, od15, .func (PySem.W.fnOf "_law_of" "_law_of" (defArgs sOf) (defBody sOf) (defScope sOf) .none kV15 dc15 pm15 an15 cd15 ct15), sl15⟩)
    (c15 : PySem.W.codeIn K cd15 "_law_of" = true)
    (k15 : PySem.W.keepIn K (.ref f15) = true)
    (a16 : PySem.W.nsIn K mainGlobals "_law_word" = some (some (.ref f16)))
    (l16 : K.lookup f16 = some ⟨oc16, od16, .func (PySem.W.fnOf "_law_word" "_law_word" (defArgs sWord) (defBody sWord) (defScope sWord) .none kV16 dc16 pm16 an16 cd16 ct16), sl16⟩)
    (c16 : PySem.W.codeIn K cd16 "_law_word" = true)
    (k16 : PySem.W.keepIn K (.ref f16) = true)
    (a17 : PySem.W.nsIn K mainGlobals "_law_some" = some (some (.ref f17)))
    (l17 : K.lookup f17 = some ⟨oc17, od17, .func (PySem.W.fnOf "_law_some" "_law_some" (defArgs sSome) (defBody sSome) (defScope sSome) .none kV17 dc17 pm17 an17 cd17 ct17), sl17⟩)
    (c17 : PySem.W.codeIn K cd17 "_law_some" = true)
    (k17 : PySem.W.keepIn K (.ref f17) = true)
    (a18 : PySem.W.nsIn K mainGlobals "_law_refused" = some (some (.ref f18)))
    (l18 : K.lookup f18 = some ⟨oc18, od18, .func (PySem.W.fnOf "_law_refused" "_law_refused" (defArgs sRefused) (defBody sRefused) (defScope sRefused) .none kV18 dc18 pm18 an18 cd18 ct18), sl18⟩)
    (c18 : PySem.W.codeIn K cd18 "_law_refused" = true)
    (k18 : PySem.W.keepIn K (.ref f18) = true)
    (a19 : PySem.W.nsIn K mainGlobals "_law_spoilt" = some (some (.ref f19)))
    (l19 : K.lookup f19 = some ⟨oc19, od19, .func (PySem.W.fnOf "_law_spoilt" "_law_spoilt" (defArgs sSpoilt) (defBody sSpoilt) (defScope sSpoilt) .none kV19 dc19 pm19 an19 cd19 ct19), sl19⟩)
    (c19 : PySem.W.codeIn K cd19 "_law_spoilt" = true)
    (k19 : PySem.W.keepIn K (.ref f19) = true)
    (a20 : PySem.W.nsIn K mainGlobals "_law_right" = some (some (.ref f20)))
    (l20 : K.lookup f20 = some ⟨oc20, od20, .func (PySem.W.fnOf "_law_right" "_law_right" (defArgs sRight) (defBody sRight) (defScope sRight) .none kV20 dc20 pm20 an20 cd20 ct20), sl20⟩)
    (c20 : PySem.W.codeIn K cd20 "_law_right" = true)
    (k20 : PySem.W.keepIn K (.ref f20) = true)
    (a21 : PySem.W.nsIn K mainGlobals "law" = some (some (.ref f21)))
    (l21 : K.lookup f21 = some ⟨oc21, od21, .func (PySem.W.fnOf "law" "law" (defArgs sLaw) (defBody sLaw) (defScope sLaw) .none kV21 dc21 pm21 an21 cd21 ct21), sl21⟩)
    (c21 : PySem.W.codeIn K cd21 "law" = true)
    (k21 : PySem.W.keepIn K (.ref f21) = true)
    (g_SMALL_LETTERS : PySem.W.nsIn K mainGlobals "SMALL_LETTERS" = some (some (.str "abcdefghijklmnopqrstuvwxyz" u_SMALL_LETTERS)))
    (g_LONGEST_WORD : PySem.W.nsIn K mainGlobals "LONGEST_WORD" = some (some (.int 8 u_LONGEST_WORD)))
    (g_KEY_PARTS : PySem.W.nsIn K mainGlobals "KEY_PARTS" = some (some (.int 2 u_KEY_PARTS)))
    (g_MOST_ROWS : PySem.W.nsIn K mainGlobals "MOST_ROWS" = some (some (.int 30 u_MOST_ROWS)))
    (ic_NotSuch : PySem.W.isClsIn K cNotSuch = true)
    (ty_NotSuch : PySem.W.typeIn K (.ref cNotSuch) = some (.type "type"))
    (sb_NotSuch : PySem.W.subIn K (.ref cNoDisc) (.ref cNotSuch) = some true)
    (ic_Lost : PySem.W.isClsIn K cLost = true)
    (ty_Lost : PySem.W.typeIn K (.ref cLost) = some (.type "type"))
    (sb_Lost : PySem.W.subIn K (.ref cNoDisc) (.ref cLost) = some false)
    (ic_Taken : PySem.W.isClsIn K cTaken = true)
    (ty_Taken : PySem.W.typeIn K (.ref cTaken) = some (.type "type"))
    (sb_Taken : PySem.W.subIn K (.ref cNoDisc) (.ref cTaken) = some false)
    (ic_NoCustom : PySem.W.isClsIn K cNoCustom = true)
    (ty_NoCustom : PySem.W.typeIn K (.ref cNoCustom) = some (.type "type"))
    (sb_NoCustom : PySem.W.subIn K (.ref cNoDisc) (.ref cNoCustom) = some false)
    (ic_NoDay : PySem.W.isClsIn K cNoDay = true)
    (ty_NoDay : PySem.W.typeIn K (.ref cNoDay) = some (.type "type"))
    (sb_NoDay : PySem.W.subIn K (.ref cNoDisc) (.ref cNoDay) = some false)
    (ic_NoEntry : PySem.W.isClsIn K cNoEntry = true)
    (ty_NoEntry : PySem.W.typeIn K (.ref cNoEntry) = some (.type "type"))
    (sb_NoEntry : PySem.W.subIn K (.ref cNoDisc) (.ref cNoEntry) = some false)
    (ic_NoKey : PySem.W.isClsIn K cNoKey = true)
    (ty_NoKey : PySem.W.typeIn K (.ref cNoKey) = some (.type "type"))
    (sb_NoKey : PySem.W.subIn K (.ref cNoDisc) (.ref cNoKey) = some false)
    (ic_NoLength : PySem.W.isClsIn K cNoLength = true)
    (ty_NoLength : PySem.W.typeIn K (.ref cNoLength) = some (.type "type"))
    (sb_NoLength : PySem.W.subIn K (.ref cNoDisc) (.ref cNoLength) = some false)
    (ic_NoLine : PySem.W.isClsIn K cNoLine = true)
    (ty_NoLine : PySem.W.typeIn K (.ref cNoLine) = some (.type "type"))
    (sb_NoLine : PySem.W.subIn K (.ref cNoDisc) (.ref cNoLine) = some false)
    (ic_NoName : PySem.W.isClsIn K cNoName = true)
    (ty_NoName : PySem.W.typeIn K (.ref cNoName) = some (.type "type"))
    (sb_NoName : PySem.W.subIn K (.ref cNoDisc) (.ref cNoName) = some false)
    (ic_NoText : PySem.W.isClsIn K cNoText = true)
    (ty_NoText : PySem.W.typeIn K (.ref cNoText) = some (.type "type"))
    (sb_NoText : PySem.W.subIn K (.ref cNoDisc) (.ref cNoText) = some false)
    (ic_Same : PySem.W.isClsIn K cSame = true)
    (ty_Same : PySem.W.typeIn K (.ref cSame) = some (.type "type"))
    (sb_Same : PySem.W.subIn K (.ref cNoDisc) (.ref cSame) = some false)
    (ic_NoDisc : PySem.W.isClsIn K cNoDisc = true)
    (ty_NoDisc : PySem.W.typeIn K (.ref cNoDisc) = some (.type "type"))
    (sb_NoDisc : PySem.W.subIn K (.ref cNoDisc) (.ref cNoDisc) = some true)
    (be_NotSuch : PySem.W.subIn K (.ref cNotSuch) (.type "BaseException") = some true)
    (be_Lost : PySem.W.subIn K (.ref cLost) (.type "BaseException") = some true)
    (be_Taken : PySem.W.subIn K (.ref cTaken) (.type "BaseException") = some true)
    (sVE : PySem.W.subIn K (.ref cNoDisc) (.type "ValueError") = some true)
    (sLE : PySem.W.subIn K (.ref cNoDisc) (.type "LookupError") = some false)
    (xX : PySem.W.excIn K cNoDisc [.type "ValueError", .type "Exception", .type "BaseException", .type "object"] "ValueError.__new__" = true)
    (exX : PySem.W.subIn K (.ref cNoDisc) (.type "BaseException") = some true)
    (kX : PySem.W.keepIn K (.ref cNoDisc) = true)
    (gaX : PySem.W.findIn K (.ref cNoDisc) "__getattribute__" = some (some (.builtin "BaseException.__getattribute__")))
    (ggX : PySem.W.findIn K (.ref cNoDisc) "__getattr__" = some none)
    (hdX : PySem.W.hasDictIn K cNoDisc = true)
    (haX : PySem.W.findIn K (.ref cNoDisc) "__class__" = some (some (.builtin "object.__class__")))
    (hmX : PySem.W.mroIn K cNoDisc (.type "object") = some true)
    (pg : PySem.W.plainGet K cDisc Str.empty = true)
    (hd : PySem.W.hasDictIn K cDisc = true)
    (po : PySem.W.plainOver K cDisc = true)
    (sa : PySem.W.findIn K (.ref cDisc) "__setattr__" = some (some (.builtin "object.__setattr__")))
    (mk : PySem.W.makesIn K cDisc = true)
    (kc : PySem.W.keepIn K (.ref cDisc) = true)
    (nL : PySem.W.findIn K (.ref cDisc) "label" = some none)
    (nR : PySem.W.findIn K (.ref cDisc) "rows" = some none)
    (ha : PySem.W.findIn K (.ref cDisc) "__class__" = some (some (.builtin "object.__class__")))
    (hn : PySem.W.specialIn K (.builtin "object.__class__") "__get__" = some (some (.builtin "getset_descriptor.__get__")))
    (ht : PySem.W.takesIn K (.builtin "object.__class__") = some true)
    (hm : PySem.W.mroIn K cDisc (.type "object") = some true)
    (sint : PySem.W.subIn K (.type "int") (.ref cDisc) = some false)
    (sstr : PySem.W.subIn K (.type "str") (.ref cDisc) = some false)
    (sNoneType : PySem.W.subIn K (.type "NoneType") (.ref cDisc) = some false)
    (stuple : PySem.W.subIn K (.type "tuple") (.ref cDisc) = some false)
    (slist : PySem.W.subIn K (.type "list") (.ref cDisc) = some false)
    (rint : PySem.W.subIn K (.ref cDisc) (.type "int") = some false)
    (rstr : PySem.W.subIn K (.ref cDisc) (.type "str") = some false)
    (rNoneType : PySem.W.subIn K (.ref cDisc) (.type "NoneType") = some false)
    (rtuple : PySem.W.subIn K (.ref cDisc) (.type "tuple") = some false)
    (rlist : PySem.W.subIn K (.ref cDisc) (.type "list") = some false)
    (tyC : PySem.W.typeIn K (.ref cDisc) = some (.type "type"))
    (nE : PySem.W.findIn K (.ref cDisc) "__ne__" = some (some (.builtin "object.__ne__")))
    (z_isinstance : PySem.W.nsIn K mainGlobals "isinstance" = some none)
    (z_int : PySem.W.nsIn K mainGlobals "int" = some none)
    (z_bool : PySem.W.nsIn K mainGlobals "bool" = some none)
    (z_str : PySem.W.nsIn K mainGlobals "str" = some none)
    (z_tuple : PySem.W.nsIn K mainGlobals "tuple" = some none)
    (z_list : PySem.W.nsIn K mainGlobals "list" = some none)
    (z_len : PySem.W.nsIn K mainGlobals "len" = some none)
    (z_all : PySem.W.nsIn K mainGlobals "all" = some none)
    (z_any : PySem.W.nsIn K mainGlobals "any" = some none)
    (z_abs : PySem.W.nsIn K mainGlobals "abs" = some none)
    (z_zip : PySem.W.nsIn K mainGlobals "zip" = some none)
    (z_range : PySem.W.nsIn K mainGlobals "range" = some none)
    (z_repr : PySem.W.nsIn K mainGlobals "repr" = some none)
    (z_max : PySem.W.nsIn K mainGlobals "max" = some none)
    (z_min : PySem.W.nsIn K mainGlobals "min" = some none)
    (z_ValueError : PySem.W.nsIn K mainGlobals "ValueError" = some none)
    (z_LookupError : PySem.W.nsIn K mainGlobals "LookupError" = some none)
    : ∃ fd : FuncData, (∀ (s : Shared) (v : Value), BindsTo s fd ⟨[v], []⟩ [("_law_script", v)]) ∧
      ∀ base : Heap, K.In base → base.Ns mainGlobals mg → base.NoDigits → Gn l.prog w K mg base 10 fa fd ["_law_script"] (spLaw K) := by
  have e := hfa.symm.trans (PySem.W.mg_of X G a21)
  cases e
  have F0 := fun_mk (st := sIsWhole) l0 c0 k0
  have D0 : Df K mg "is_whole" ["thing"] sIsWhole f0 _ := ⟨F0, PySem.W.mg_of X G a0, F0.binds (ps := ["thing"]) fun _ _ _ _ _ _ us hl => match us, hl with | [_], _ => rfl⟩
  have F1 := fun_mk (st := sIsTextOf) l1 c1 k1
  have D1 : Df K mg "is_text_of" ["thing", "signs", "least", "most"] sIsTextOf f1 _ := ⟨F1, PySem.W.mg_of X G a1, F1.binds (ps := ["thing", "signs", "least", "most"]) fun _ _ _ _ _ _ us hl => match us, hl with | [_, _, _, _], _ => rfl⟩
  have F2 := fun_mk (st := sIsSmallText) l2 c2 k2
  have D2 : Df K mg "is_small_text" ["thing", "least", "most"] sIsSmallText f2 _ := ⟨F2, PySem.W.mg_of X G a2, F2.binds (ps := ["thing", "least", "most"]) fun _ _ _ _ _ _ us hl => match us, hl with | [_, _, _], _ => rfl⟩
  have F3 := fun_mk (st := sIsWord) l3 c3 k3
  have D3 : Df K mg "is_word" ["thing"] sIsWord f3 _ := ⟨F3, PySem.W.mg_of X G a3, F3.binds (ps := ["thing"]) fun _ _ _ _ _ _ us hl => match us, hl with | [_], _ => rfl⟩
  have F4 := fun_mk (st := sIsKey) l4 c4 k4
  have D4 : Df K mg "is_key" ["thing"] sIsKey f4 _ := ⟨F4, PySem.W.mg_of X G a4, F4.binds (ps := ["thing"]) fun _ _ _ _ _ _ us hl => match us, hl with | [_], _ => rfl⟩
  have F5 := fun_mk (st := sShowKey) l5 c5 k5
  have D5 : Df K mg "show_key" ["key"] sShowKey f5 _ := ⟨F5, PySem.W.mg_of X G a5, F5.binds (ps := ["key"]) fun _ _ _ _ _ _ us hl => match us, hl with | [_], _ => rfl⟩
  have F6 := fun_mk (st := sShowKeys) l6 c6 k6
  have D6 : Df K mg "show_keys" ["keys"] sShowKeys f6 _ := ⟨F6, PySem.W.mg_of X G a6, F6.binds (ps := ["keys"]) fun _ _ _ _ _ _ us hl => match us, hl with | [_], _ => rfl⟩
  have F7 := fun_mk (st := sAreRows) l7 c7 k7
  have D7 : Df K mg "are_rows" ["thing"] sAreRows f7 _ := ⟨F7, PySem.W.mg_of X G a7, F7.binds (ps := ["thing"]) fun _ _ _ _ _ _ us hl => match us, hl with | [_], _ => rfl⟩
  have F8 := fun_mk (st := sDiscInit) l8 c8 k8
  have B8 := F8.binds (ps := ["self", "label", "rows"]) fun _ _ _ _ _ _ us hl => match us, hl with | [_, _, _], _ => rfl
  have F9 := fun_mk (st := sDiscLen) l9 c9 k9
  have B9 := F9.binds (ps := ["self"]) fun _ _ _ _ _ _ us hl => match us, hl with | [_], _ => rfl
  have F10 := fun_mk (st := sDiscEq) l10 c10 k10
  have B10 := F10.binds (ps := ["self", "other"]) fun _ _ _ _ _ _ us hl => match us, hl with | [_, _], _ => rfl
  have F11 := fun_mk (st := sDiscStr) l11 c11 k11
  have B11 := F11.binds (ps := ["self"]) fun _ _ _ _ _ _ us hl => match us, hl with | [_], _ => rfl
  have F12 := fun_mk (st := sDiscRepr) l12 c12 k12
  have B12 := F12.binds (ps := ["self"]) fun _ _ _ _ _ _ us hl => match us, hl with | [_], _ => rfl
  have F13 := fun_mk (st := sHand) l13 c13 k13
  have D13 : Df K mg "_law_hand" ["_law_script", "_law_k"] sHand f13 _ := ⟨F13, PySem.W.mg_of X G a13, F13.binds (ps := ["_law_script", "_law_k"]) fun _ _ _ _ _ _ us hl => match us, hl with | [_, _], _ => rfl⟩
  have F14 := fun_mk (st := sTake) l14 c14 k14
  have D14 : Df K mg "_law_take" ["_law_hand_here", "_law_many"] sTake f14 _ := ⟨F14, PySem.W.mg_of X G a14, F14.binds (ps := ["_law_hand_here", "_law_many"]) fun _ _ _ _ _ _ us hl => match us, hl with | [_, _], _ => rfl⟩
  have F15 := fun_mk (st := sOf) l15 c15 k15
  have D15 : Df K mg "_law_of" ["_law_hand_here", "_law_some_here"] sOf f15 _ := ⟨F15, PySem.W.mg_of X G a15, F15.binds (ps := ["_law_hand_here", "_law_some_here"]) fun _ _ _ _ _ _ us hl => match us, hl with | [_, _], _ => rfl⟩
  have F16 := fun_mk (st := sWord) l16 c16 k16
  have D16 : Df K mg "_law_word" ["_law_hand_here"] sWord f16 _ := ⟨F16, PySem.W.mg_of X G a16, F16.binds (ps := ["_law_hand_here"]) fun _ _ _ _ _ _ us hl => match us, hl with | [_], _ => rfl⟩
  have F17 := fun_mk (st := sSome) l17 c17 k17
  have D17 : Df K mg "_law_some" ["_law_hand_here"] sSome f17 _ := ⟨F17, PySem.W.mg_of X G a17, F17.binds (ps := ["_law_hand_here"]) fun _ _ _ _ _ _ us hl => match us, hl with | [_], _ => rfl⟩
  have F18 := fun_mk (st := sRefused) l18 c18 k18
  have D18 : Df K mg "_law_refused" ["_law_call", "_law_some_here"] sRefused f18 _ := ⟨F18, PySem.W.mg_of X G a18, F18.binds (ps := ["_law_call", "_law_some_here"]) fun _ _ _ _ _ _ us hl => match us, hl with | [_, _], _ => rfl⟩
  have F19 := fun_mk (st := sSpoilt) l19 c19 k19
  have D19 : Df K mg "_law_spoilt" ["_law_hand_here", "_law_some_here"] sSpoilt f19 _ := ⟨F19, PySem.W.mg_of X G a19, F19.binds (ps := ["_law_hand_here", "_law_some_here"]) fun _ _ _ _ _ _ us hl => match us, hl with | [_, _], _ => rfl⟩
  have F20 := fun_mk (st := sRight) l20 c20 k20
  have D20 : Df K mg "_law_right" ["_law_hand_here"] sRight f20 _ := ⟨F20, PySem.W.mg_of X G a20, F20.binds (ps := ["_law_hand_here"]) fun _ _ _ _ _ _ us hl => match us, hl with | [_], _ => rfl⟩
  have F21 := fun_mk (st := sLaw) l21 c21 k21
  have D21 : Df K mg "law" ["_law_script"] sLaw fa _ := ⟨F21, PySem.W.mg_of X G a21, F21.binds (ps := ["_law_script"]) fun _ _ _ _ _ _ us hl => match us, hl with | [_], _ => rfl⟩
  let e : Ex := ⟨cNotSuch, cLost, cTaken, cNoCustom, cNoDay, cNoEntry, cNoKey, cNoLength, cNoLine, cNoName, cNoText, cSame, cNoDisc⟩
  have no : ∀ {c : Addr}, PySem.W.isClsIn K c = true → PySem.W.typeIn K (.ref c) = some (.type "type") → PySem.W.subIn K (.ref cNoDisc) (.ref c) = some false → PySem.W.kitOne K (.ref cNoDisc) (.ref c) = some false := fun a b d => kit_no a b d sb_NoDisc
  have exs : ∀ {c : Addr} {b : Bool}, PySem.W.isClsIn K c = true → PySem.W.typeIn K (.ref c) = some (.type "type") → PySem.W.subIn K (.ref c) (.type "BaseException") = some true → PySem.W.subIn K (.ref cNoDisc) (.ref c) = some b → PySem.W.exmOne K (.ref cNoDisc) (.ref c) = some b := fun a b d g => exm_is a b d g
  have T : Txt K mg cDisc e := ⟨⟨pg, hd, po, sa⟩,
    nL,
    nR,
    PySem.W.mg_of X G a_Disc,
    ⟨⟨pg, hd, po, sa⟩, ha, hn, ht, hm, kit_self⟩,
    ⟨_, PySem.W.mg_of X G g_SMALL_LETTERS⟩,
    ⟨_, PySem.W.mg_of X G g_LONGEST_WORD⟩,
    ⟨_, PySem.W.mg_of X G g_KEY_PARTS⟩,
    ⟨_, PySem.W.mg_of X G g_MOST_ROWS⟩,
    PySem.W.mg_of X G a_NotSuch,
    PySem.W.mg_of X G a_Lost,
    PySem.W.mg_of X G a_Taken,
    PySem.W.mg_of X G a_NoCustom,
    PySem.W.mg_of X G a_NoDay,
    PySem.W.mg_of X G a_NoEntry,
    PySem.W.mg_of X G a_NoKey,
    PySem.W.mg_of X G a_NoLength,
    PySem.W.mg_of X G a_NoLine,
    PySem.W.mg_of X G a_NoName,
    PySem.W.mg_of X G a_NoText,
    PySem.W.mg_of X G a_Same,
    PySem.W.mg_of X G a_NoDisc,
    PySem.W.mg_none_of X G z_isinstance,
    PySem.W.mg_none_of X G z_int,
    PySem.W.mg_none_of X G z_bool,
    PySem.W.mg_none_of X G z_str,
    PySem.W.mg_none_of X G z_tuple,
    PySem.W.mg_none_of X G z_list,
    PySem.W.mg_none_of X G z_len,
    PySem.W.mg_none_of X G z_all,
    PySem.W.mg_none_of X G z_any,
    PySem.W.mg_none_of X G z_abs,
    PySem.W.mg_none_of X G z_zip,
    PySem.W.mg_none_of X G z_range,
    PySem.W.mg_none_of X G z_repr,
    PySem.W.mg_none_of X G z_max,
    PySem.W.mg_none_of X G z_min,
    PySem.W.mg_none_of X G z_ValueError,
    PySem.W.mg_none_of X G z_LookupError,
    xX,
    kX,
    exX,
    ty_NoDisc,
    ⟨ic_NoDisc, gaX, ggX, exX, hdX, haX, hn, ht, hmX⟩,
    exm_3 (exs ic_NotSuch ty_NotSuch be_NotSuch sb_NotSuch) (exs ic_Lost ty_Lost be_Lost sb_Lost) (exs ic_Taken ty_Taken be_Taken sb_Taken),
    kit_skip (no ic_NoCustom ty_NoCustom sb_NoCustom) (kit_skip (no ic_NoDay ty_NoDay sb_NoDay) (kit_skip (no ic_NoEntry ty_NoEntry sb_NoEntry) (kit_skip (no ic_NoKey ty_NoKey sb_NoKey) (kit_skip (no ic_NoLength ty_NoLength sb_NoLength) (kit_skip (no ic_NoLine ty_NoLine sb_NoLine) (kit_skip (no ic_NoName ty_NoName sb_NoName) (kit_skip (no ic_NoText ty_NoText sb_NoText) (kit_skip (no ic_Same ty_Same sb_Same) (kit_skip (no ic_Lost ty_Lost sb_Lost) (kit_skip (no ic_Taken ty_Taken sb_Taken) (rfl))))))))))),
    kit_self,
    kit_ve sVE,
    kit_lk sLE⟩
  have Wc : OwnC K cDisc f10 := ⟨a10, i10, nE, hm, rint, rstr, rNoneType, rtuple, rlist⟩
  have Z : KitC K cDisc := kitC_mk tyC hm sint sstr sNoneType stuple slist
  refine ⟨PySem.W.fnOf "law" "law" (defArgs sLaw) (defBody sLaw) (defScope sLaw) .none kV21 dc21 pm21 an21 cd21 ct21, fun s v => .of_eq rfl, fun base kb gb nd => ?g⟩
  case g =>
    have cWh := D0.ca (ok_whole (P := l.prog) (w := w) (base := base) D0 T)
    have cO := D1.ca (ok_of (P := l.prog) (w := w) (base := base) D1 T)
    have cS := D2.ca (ok_small D2 T cO)
    have cWd := D3.ca (ok_word8 D3 T cS)
    have cK := D4.ca (ok_key D4 T cWd cWh)
    have cRw := D7.ca (ok_rows D7 T cK)
    have cSk := D5.ca (ok_sk (P := l.prog) (w := w) (base := base) D5 T)
    have cSks := D6.ca (ok_sks D6 T cSk)
    have G2 : Dc l.prog w K mg base cDisc e f8 _ := ⟨⟨mk, a8, i8, kc⟩, ok_init F8 T cWd cRw, B8, ⟨fun s us ws _ l1 l2 => match us, ws, l1, l2 with | [_], [_, _], _, _ => .of_eq rfl, fun r1 r2 => Vals.append r1 (.cons (vals_getD 1 r2) (.cons (vals_getD 0 r2) .nil))⟩⟩
    have O : Own l.prog w K mg base cDisc f10 f11 f12 f9 _ _ _ _ := ⟨Wc, Z, ok_eq F10 T Z, B10, a11, i11, ok_str F11 T cSks, B11, a12, i12, ok_repr F12 T, B12, a9, i9, ok_len F9 T, B9⟩
    have cH := D13.ca (ok_hand (P := l.prog) (w := w) (base := base) D13 T)
    have cT := D14.ca (ok_take (P := l.prog) (w := w) (base := base) D14)
    have cP := D15.ca (ok_pick D15 T cT)
    have cW := D16.ca (ok_wd D16 T cT cP)
    have cSo := D17.ca (ok_some D17 T cT cP cW)
    have cRf := D18.ca (ok_refused D18 T G2)
    have cSp := D19.ca (ok_spoilt D19 T cT cP)
    exact ok_law D21 T cH D20 (ok_right D20 T G2 O cT cP cW cSo cRf cSp)
end K47
open PySem PySem.W PyProof.Rows
set_option maxRecDepth 100000 in
set_option maxHeartbeats 0 in
theorem PySem.Challenge.cw_takesworks_k47_discs_holds : PySem.Challenge.rw_takesworks_k47_discs.Holds := by
  w_on; o_law; k_head; (case hw => w_witness2)
  k_fill
  refine K47.walk_go (l := PySem.Challenge.rw_takesworks_k47_discs) (n := 63) (k := 10) (x := "_law_script") (sp := K47.spLaw) rfl (by decide) rfl ⟨rfl, by decide, by decide⟩ (fun w h Y => PySem.W.kIn_of Y) ?F
    (fun _ _ a ns hl hS => ⟨a, ns, rfl, hS, hl, fun _ => rfl⟩)
  case F =>
    intro w mg fa h KX G hmg
    refine' K47.all_mk KX G hmg ?a_Disc ?a_NotSuch ?a_Lost ?a_Taken ?a_NoCustom ?a_NoDay ?a_NoEntry ?a_NoKey ?a_NoLength ?a_NoLine ?a_NoName ?a_NoText ?a_Same ?a_NoDisc ?a0 ?l0 ?c0 ?k0 ?a1 ?l1 ?c1 ?k1 ?a2 ?l2 ?c2 ?k2 ?a3 ?l3 ?c3 ?k3 ?a4 ?l4 ?c4 ?k4 ?a5 ?l5 ?c5 ?k5 ?a6 ?l6 ?c6 ?k6 ?a7 ?l7 ?c7 ?k7 ?a8 ?i8 ?l8 ?c8 ?k8 ?a9 ?i9 ?l9 ?c9 ?k9 ?a10 ?i10 ?l10 ?c10 ?k10 ?a11 ?i11 ?l11 ?c11 ?k11 ?a12 ?i12 ?l12 ?c12 ?k12 ?a13 ?l13 ?c13 ?k13 ?a14 ?l14 ?c14 ?k14 ?a15 ?l15 ?c15 ?k15 ?a16 ?l16 ?c16 ?k16 ?a17 ?l17 ?c17 ?k17 ?a18 ?l18 ?c18 ?k18 ?a19 ?l19 ?c19 ?k19 ?a20 ?l20 ?c20 ?k20 ?a21 ?l21 ?c21 ?k21 ?g_SMALL_LETTERS ?g_LONGEST_WORD ?g_KEY_PARTS ?g_MOST_ROWS ?ic_NotSuch ?ty_NotSuch ?sb_NotSuch ?ic_Lost ?ty_Lost ?sb_Lost ?ic_Taken ?ty_Taken ?sb_Taken ?ic_NoCustom ?ty_NoCustom ?sb_NoCustom ?ic_NoDay ?ty_NoDay ?sb_NoDay ?ic_NoEntry ?ty_NoEntry ?sb_NoEntry ?ic_NoKey ?ty_NoKey ?sb_NoKey ?ic_NoLength ?ty_NoLength ?sb_NoLength ?ic_NoLine ?ty_NoLine ?sb_NoLine ?ic_NoName ?ty_NoName ?sb_NoName ?ic_NoText ?ty_NoText ?sb_NoText ?ic_Same ?ty_Same ?sb_Same ?ic_NoDisc ?ty_NoDisc ?sb_NoDisc ?be_NotSuch ?be_Lost ?be_Taken ?sVE ?sLE ?xX ?exX ?kX ?gaX ?ggX ?hdX ?haX ?hmX ?pg ?hd ?po ?sa ?mk ?kc ?nL ?nR ?ha ?hn ?ht ?hm ?sint ?sstr ?sNoneType ?stuple ?slist ?rint ?rstr ?rNoneType ?rtuple ?rlist ?tyC ?nE ?z_isinstance ?z_int ?z_bool ?z_str ?z_tuple ?z_list ?z_len ?z_all ?z_any ?z_abs ?z_zip ?z_range ?z_repr ?z_max ?z_min ?z_ValueError ?z_LookupError
    (case a_Disc => k_is)
    (case a_NotSuch => k_is)
    (case a_Lost => k_is)
    (case a_Taken => k_is)
    (case a_NoCustom => k_is)
    (case a_NoDay => k_is)
    (case a_NoEntry => k_is)
    (case a_NoKey => k_is)
    (case a_NoLength => k_is)
    (case a_NoLine => k_is)
    (case a_NoName => k_is)
    (case a_NoText => k_is)
    (case a_Same => k_is)
    (case a_NoDisc => k_is)
    (case a0 => k_is)
    (case l0 => k_is)
    (case c0 => k_is)
    (case k0 => k_is)
    (case a1 => k_is)
    (case l1 => k_is)
    (case c1 => k_is)
    (case k1 => k_is)
    (case a2 => k_is)
    (case l2 => k_is)
    (case c2 => k_is)
    (case k2 => k_is)
    (case a3 => k_is)
    (case l3 => k_is)
    (case c3 => k_is)
    (case k3 => k_is)
    (case a4 => k_is)
    (case l4 => k_is)
    (case c4 => k_is)
    (case k4 => k_is)
    (case a5 => k_is)
    (case l5 => k_is)
    (case c5 => k_is)
    (case k5 => k_is)
    (case a6 => k_is)
    (case l6 => k_is)
    (case c6 => k_is)
    (case k6 => k_is)
    (case a7 => k_is)
    (case l7 => k_is)
    (case c7 => k_is)
    (case k7 => k_is)
    (case a8 => k_is)
    (case i8 => k_is)
    (case l8 => k_is)
    (case c8 => k_is)
    (case k8 => k_is)
    (case a9 => k_is)
    (case i9 => k_is)
    (case l9 => k_is)
    (case c9 => k_is)
    (case k9 => k_is)
    (case a10 => k_is)
    (case i10 => k_is)
    (case l10 => k_is)
    (case c10 => k_is)
    (case k10 => k_is)
    (case a11 => k_is)
    (case i11 => k_is)
    (case l11 => k_is)
    (case c11 => k_is)
    (case k11 => k_is)
    (case a12 => k_is)
    (case i12 => k_is)
    (case l12 => k_is)
    (case c12 => k_is)
    (case k12 => k_is)
    (case a13 => k_is)
    (case l13 => k_is)
    (case c13 => k_is)
    (case k13 => k_is)
    (case a14 => k_is)
    (case l14 => k_is)
    (case c14 => k_is)
    (case k14 => k_is)
    (case a15 => k_is)
    (case l15 => k_is)
    (case c15 => k_is)
    (case k15 => k_is)
    (case a16 => k_is)
    (case l16 => k_is)
    (case c16 => k_is)
    (case k16 => k_is)
    (case a17 => k_is)
    (case l17 => k_is)
    (case c17 => k_is)
    (case k17 => k_is)
    (case a18 => k_is)
    (case l18 => k_is)
    (case c18 => k_is)
    (case k18 => k_is)
    (case a19 => k_is)
    (case l19 => k_is)
    (case c19 => k_is)
    (case k19 => k_is)
    (case a20 => k_is)
    (case l20 => k_is)
    (case c20 => k_is)
    (case k20 => k_is)
    (case a21 => k_is)
    (case l21 => k_is)
    (case c21 => k_is)
    (case k21 => k_is)
    (case g_SMALL_LETTERS => k_is)
    (case g_LONGEST_WORD => k_is)
    (case g_KEY_PARTS => k_is)
    (case g_MOST_ROWS => k_is)
    (case ic_NotSuch => k_is)
    (case ty_NotSuch => k_is)
    (case sb_NotSuch => k_is)
    (case ic_Lost => k_is)
    (case ty_Lost => k_is)
    (case sb_Lost => k_is)
    (case ic_Taken => k_is)
    (case ty_Taken => k_is)
    (case sb_Taken => k_is)
    (case ic_NoCustom => k_is)
    (case ty_NoCustom => k_is)
    (case sb_NoCustom => k_is)
    (case ic_NoDay => k_is)
    (case ty_NoDay => k_is)
    (case sb_NoDay => k_is)
    (case ic_NoEntry => k_is)
    (case ty_NoEntry => k_is)
    (case sb_NoEntry => k_is)
    (case ic_NoKey => k_is)
    (case ty_NoKey => k_is)
    (case sb_NoKey => k_is)
    (case ic_NoLength => k_is)
    (case ty_NoLength => k_is)
    (case sb_NoLength => k_is)
    (case ic_NoLine => k_is)
    (case ty_NoLine => k_is)
    (case sb_NoLine => k_is)
    (case ic_NoName => k_is)
    (case ty_NoName => k_is)
    (case sb_NoName => k_is)
    (case ic_NoText => k_is)
    (case ty_NoText => k_is)
    (case sb_NoText => k_is)
    (case ic_Same => k_is)
    (case ty_Same => k_is)
    (case sb_Same => k_is)
    (case ic_NoDisc => k_is)
    (case ty_NoDisc => k_is)
    (case sb_NoDisc => k_is)
    (case be_NotSuch => k_is)
    (case be_Lost => k_is)
    (case be_Taken => k_is)
    (case sVE => k_is)
    (case sLE => k_is)
    (case xX => k_exc)
    (case exX => k_is)
    (case kX => k_is)
    (case gaX => k_is)
    (case ggX => k_is)
    (case hdX => k_is)
    (case haX => k_is)
    (case hmX => k_is)
    (case pg => k_is)
    (case hd => k_is)
    (case po => k_is)
    (case sa => k_is)
    (case mk => k_is)
    (case kc => k_is)
    (case nL => k_is)
    (case nR => k_is)
    (case ha => k_is)
    (case hn => k_is)
    (case ht => k_is)
    (case hm => k_is)
    (case sint => k_is)
    (case sstr => k_is)
    (case sNoneType => k_is)
    (case stuple => k_is)
    (case slist => k_is)
    (case rint => k_is)
    (case rstr => k_is)
    (case rNoneType => k_is)
    (case rtuple => k_is)
    (case rlist => k_is)
    (case tyC => k_is)
    (case nE => k_is)
    (case z_isinstance => k_is)
    (case z_int => k_is)
    (case z_bool => k_is)
    (case z_str => k_is)
    (case z_tuple => k_is)
    (case z_list => k_is)
    (case z_len => k_is)
    (case z_all => k_is)
    (case z_any => k_is)
    (case z_abs => k_is)
    (case z_zip => k_is)
    (case z_range => k_is)
    (case z_repr => k_is)
    (case z_max => k_is)
    (case z_min => k_is)
    (case z_ValueError => k_is)
    (case z_LookupError => k_is)
