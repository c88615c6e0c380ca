import PyProof.Rows.All
import Wide.All
import OpenK.AllK
import Wide.FinOn
import HandS.ForMost
import HandS.ForExc
import HandS.Wide
import HandS.Flow
import HandS.IsInst
import HandS.Codes
import HandS.ExcInit
import HandS.ExcField
import HandS.ExcIs
import HandS.CallSlots
import HandS.Defaults
import HandS.MakeKw
import HandS.MakeKwOnly
import KE.KExcIs
import KE.KTryMore
import HandS.RaiseMore
import HandS.FStrTup
import PyProof.ReprRoads
import PyProof.StrLawsRepr
import HandS.Text
import HandS.StrMore
import PyProof.FitsReplace
import PyProof.StrLawsFirst
import HandS.Base
import PyProof.StrOps2
import HandS.TupLe
import HandS.Zip
import HandS.Walk
import HandS.OwnEq
import HandS.FStr
import KE.KCallOwn
import HandS.TupAny
import HandS.TupMul
import HandS.Style
import HandS.IterVal
import HandS.ExcOwn
import PyProof.Rows.StrPartPair
import PyProof.StrBlockL
import HandS.Deep
import KE.IntTextText
import KE.IntTextLaws
import PyProof.Rows.StrFirst
import PySem.Challenge.RW_takesworks_k66_discs_read
set_option Elab.async false
set_option linter.all false
set_option maxRecDepth 100000
set_option maxHeartbeats 4000000
set_option pp.maxSteps 400
set_option pp.deepTerms false
/-! A caught exception that is kept: tracked as an object of its own, with its class and its dict. -/
namespace Xk
open PySem PySem.Spec PyProof.Rows L2
/-- at a: an exception of the class cls, its dict at d (if it has one) -/
def ExK (cls : Value) (d : Option Addr) (a : Addr) : HO := .ext fun h => ∃ oe : Obj, h.get? a = some oe ∧ Zc cls d oe ∧ ∃ vs, oe.data = .fields vs
theorem exK_ok {P : Program} {w : World} {H : Hp} {h : Heap} {a : Addr} {cls : Value} {d : Option Addr} {oe : Obj} {vs : Array Value}
    (e : h.get? a = some oe) (z : Zc cls d oe) (hd : oe.data = .fields vs) : ObjOk P w H h a (ExK cls d a) :=
  ⟨⟨oe, e, z, vs, hd⟩, ⟨oe, e⟩, fun _ _ y k => by
    obtain ⟨o, q, r⟩ := y
    exact ⟨o, k o q, r⟩⟩
theorem exK_at {P : Program} {w : World} {H : Hp} {h : Heap} {a : Addr} {cls : Value} {d : Option Addr} (hok : HOk P w H h) (e : H a = some (ExK cls d a)) :
    ∃ oe : Obj, h.get? a = some oe ∧ Zc cls d oe ∧ ∃ vs, oe.data = .fields vs := by
  have z : ObjOk P w H h a (.ext fun h => ∃ oe : Obj, h.get? a = some oe ∧ Zc cls d oe ∧ ∃ vs, oe.data = .fields vs) := hok a _ e
  exact z.1
section
variable {X : Cx} {pins : List (Addr × Obj)} {σ : L2.St} {H : Hp} {s : Shared}
/-- an object that came during the call, untracked as yet, is tracked from here on -/
theorem track {a : Addr} {o : HO} (I : Inv X pins σ H s) (h0 : X.s_0.heap.get? a = none) (na : H a = none) (nL : a ≠ X.env.locals)
    (nC : ∀ x c, X.env.cells.lookup x = some c → c ≠ a) (nP : ∀ p ∈ X.pn ++ pins, p.1 ≠ a) (new : ObjOk X.prog X.w (upd H a o) s.heap a o) : Inv X pins σ (upd H a o) s := by
  have n0 : ∀ {b : Addr} {u : Obj}, X.s_0.heap.get? b = some u → b ≠ a := fun {b u} e z => by
    rw [z, h0] at e
    cases e
  refine ⟨I.ok, I.os, I.bare, ⟨I.base.keep, I.base.slot, fun b u e n hx => ?_, I.base.there, fun b xs e => ?_, fun b u v e => ?_, fun b ps e => ?_⟩, I.loc, I.cell, ?_, fun x c e => ?_, fun p hp => ?_, fun b u e => ?_, I.len⟩
  · rw [upd_ne (n0 e)]
    exact I.base.free b u e n hx
  · have q := I.base.tups b xs e
    rw [upd_ne (ne_of_none q na)]
    exact q
  · have q := I.base.frzs b u v e
    rw [upd_ne (ne_of_none q na)]
    exact q
  · obtain ⟨m, q⟩ := I.base.tbls b ps e
    exact ⟨m, by rw [upd_ne (ne_of_none q na)]; exact q⟩
  · rw [upd_ne (Ne.symm nL)]
    exact I.free
  · rw [upd_ne (nC x c e)]
    exact I.freeC x c e
  · obtain ⟨e1, e2, e3⟩ := I.pin p hp
    exact ⟨e1, by rw [upd_ne (nP p hp)]; exact e2, e3⟩
  · by_cases hb : b = a
    · subst hb
      rw [upd_same] at e
      cases e
      exact new
    · rw [upd_ne hb] at e
      refine (I.hok b u e).stay (fun _ _ _ q => q) (fun c q => ?_) fun c xs q => ?_
      · rw [upd_ne (ne_of_none q na)]
        exact q
      · rw [upd_ne (ne_of_none q na)]
        exact q
end
theorem flying_kept {B h h' : Heap} {l : List Env} {a : Addr} {Z : Obj → Prop} (f : HandSPX.FlyingZ B l a Z h) (k : ∀ b o, h.get? b = some o → h'.get? b = some o) : HandSPX.FlyingZ B l a Z h' := by
  obtain ⟨f1, f2, f3, oe, vs, T, oT, ts, t1, t2, t3, t4, t5, t6, t7, t8, t9⟩ := f
  exact ⟨fun b o e => k b o (f1 b o e), f2, f3.of_keeps fun b o e _ => ⟨o, k b o e, rfl⟩, oe, vs, T, oT, ts, k _ _ t1, t2, t3, t4, t5, t6, k _ _ t7, t8, t9⟩
/-- what the clause 'except (A, B, C) as n' wishes of an exception of the body: slot i is n's; the exception is tracked -/
def wKeep (K : PySem.W.Frag) (cs : List Value) (i : Nat) (ts : Addr → TS) (Wout : WX) (D : Ends) : WX := fun cls d σ H =>
  ∃ b, PySem.W.exmAny K cls cs = some b ∧
    (b = true → ∀ a, H a = none → ts a { nx := fun σ' H' => D.nx (σ'.set i none) H', rt := D.rt, bk := fun σ' H' => D.bk (σ'.set i none) H', ct := fun σ' H' => D.ct (σ'.set i none) H' } (σ.set i (some (.ref a))) (upd H a (ExK cls d a))) ∧
    (b = false → Wout cls d σ H)
/-- a module's own class by its name -/
structure Nm (X : Cx) (x : Str) (C : Addr) : Prop where
  gl : Gl X x
  db : (x == ("__debug__" : Str)) = false
  mg : X.mg x = some (.ref C)
section
variable {X : Cx} {x1 x2 x3 n : Str} {C1 C2 C3 : Addr} {i : Nat} {body suite : List Stmt} {b₀ : Stmt} {p1 p2 p3 tp pos pos' : Pos} {tb : WX → TS} {ts : Addr → TS} {Wout : WX} {cx}
theorem ps_try_keep (hs : X.stack = X.env :: X.outer) (hf : X.env.frame = some X.env.locals) (hex : X.ex = []) (hN : X.N.Nodup) (hi : X.N[i]? = some n) (hln : X.env.kindOf n = some .local)
    (n1 : Nm X x1 C1) (n2 : Nm X x2 C2) (n3 : Nm X x3 C3) (tk : Takes X Wout)
    (hb : ∀ (W : WX) (pn : List (Addr × Obj)) (xe : Value → Shared → Prop), Takes (X.tr pn xe) W → PassesOwn (model X.prog X.w) X.A X.env xe → PSs (X.tr pn xe) body (tb W))
    (hsu : ∀ (a : Addr) (pn : List (Addr × Obj)), PSs (X.suite a pn) (b₀ :: suite) (ts a)) :
    PS X (.Try body [.ExceptHandler (some (.Tuple [.Name x1 p1, .Name x2 p2, .Name x3 p3] cx tp)) (some n) (b₀ :: suite) pos'] [] [] pos) (fun D σ H => tb (wKeep X.K [.ref C1, .ref C2, .ref C3] i ts Wout D) D σ H) := by
  refine ⟨fun pins s σ H D I h => ?_⟩
  have ok := I.ok
  have frs2 : X.A.frames = some (X.env :: X.outer) := by rw [ok.frames, hs]
  refine wpAny_Try_except ?_
  refine wpAny_mono ((hb (wKeep X.K [.ref C1, .ref C2, .ref C3] i ts Wout D) (X.pn ++ pins)
    (fun e s₁ => wpAny (model X.prog X.w) X.A (noteFrame e X.env) (fun _ s₂ => wpAny (model X.prog X.w) X.A (setFlight e none) (fun _ s₃ => wpAny (model X.prog X.w) X.A
      (handleBy e X.env [.ExceptHandler (some (.Tuple [.Name x1 p1, .Name x2 p2, .Name x3 p3] cx tp)) (some n) (b₀ :: suite) pos']) (SP X pins D) X.xe s₃) X.xe s₂) X.xe s₁)
    (fun u s' air => ?_) PassesOwn.looking).run [] s σ H D (I.toTry _) h) (fun f s1 hsp => ?_) (fun e s1 he => he)
  · obtain ⟨a, B, sI, pins', σ', H', cls, d, rfl, J', nb, up, sky, na, os, ag, b, hb1, hyes, hno⟩ := air
    have J : Inv X pins σ' H' sI := J'.ofTry ok
    have sky2 : Sky B (X.env :: X.outer) a (Zc cls d) X.env.locals s'.heap := by
      rw [← hs]
      exact sky
    refine Sky.land Zc.steady frs2 hf sky2 fun h3 fl3 up3 => ?_
    obtain ⟨oe3, vs3, he3, hz3, hd3⟩ := fl3.there
    have nfr : a ∉ frs (X.env :: X.outer) := fun hm => by
      obtain ⟨_, o', e', hnf⟩ := fl3.2.2.1.mem hm
      rw [he3] at e'
      cases e'
      exact hnf _ hd3
    have nL : a ≠ X.env.locals := fun z => nfr (List.mem_filterMap.mpr ⟨X.env, List.mem_cons_self, by rw [hf, z]⟩)
    have nF : a ∉ X.fs := fun hm => by
      obtain ⟨e, he, q⟩ := List.mem_filterMap.mp hm
      exact nfr (List.mem_filterMap.mpr ⟨e, List.mem_cons_of_mem _ he, q⟩)
    -- it was not there when the call began
    have aI : sI.heap.get? a = none := by
      cases e : sI.heap.get? a with
      | none => rfl
      | some o =>
        have z := nb a o e (by rw [hs]; exact nfr)
        rw [fl3.2.1] at z
        cases z
    have a0 : X.s_0.heap.get? a = none := by
      cases e : X.s_0.heap.get? a with
      | none => rfl
      | some o =>
        obtain ⟨o', z⟩ := J.base.there a o e (by rw [hex]; exact fun z => nomatch z)
        rw [aI] at z
        cases z
    have nP : ∀ p ∈ X.pn ++ pins, p.1 ≠ a := fun p hp z => by
      have q := (J.pin p hp).1
      rw [z, aI] at q
      cases q
    have trk : ∀ {h4 : Heap} {s4 : Shared}, s4.heap = h4 → HandSPX.FlyingZ B (X.env :: X.outer) a (Zc cls d) h4 → Inv X pins σ' H' s4 → Inv X pins σ' (upd H' a (ExK cls d a)) s4 := fun {h4 s4} e4 fl4 J4 => by
      subst e4
      obtain ⟨oe4, vs4, he4, hz4, hd4⟩ := fl4.there
      refine track J4 a0 na nL (fun x c e z => ?_) nP (exK_ok he4 hz4 hd4)
      obtain ⟨v, o, eo, ed⟩ := J4.cell x c e
      rw [z, he4] at eo
      cases eo
      rw [hd4] at ed
      cases ed
    have J3 : Inv X pins σ' H' { s' with heap := h3 } := J.landed nb fl3.1 (up.trans up3) os ag
    have S3 : Inv (X.suite a (X.pn ++ pins)) [] σ' H' { s' with heap := h3 } :=
      ⟨J3.ok.suite _ _, J3.os, J3.bare, J3.base, J3.loc, J3.cell, J3.free, J3.freeC, fun p hp => J3.pin p (by rw [List.append_nil] at hp; exact hp), J3.hok, J3.len⟩
    refine wpAny_handleBy_cons (codeAny_handlers_test ?_) (by intro q; cases q)
    have own : ∀ {x : Str} {C : Addr} {p : Pos} {Q : Value → Shared → Prop} {E : Value → Shared → Prop}, Nm X x C → Q (.ref C) { s' with heap := h3 } →
        wpAny (model X.prog X.w) (X.A.mark (some (.ref a))) (eval (.Name x p) X.env) Q E { s' with heap := h3 } := fun {x C p Q E} z q => ld_glob (X := X.suite a (X.pn ++ pins)) S3 z.gl z.mg q z.db
    have tup : ∀ {Q : Value → Shared → Prop} {E : Value → Shared → Prop}, Q (.ref h3.objs.size) { s' with heap := h3.push { cls := .type "tuple", data := .seq [Value.ref C1, .ref C2, .ref C3].toArray } } →
        wpAny (model X.prog X.w) (X.A.mark (some (.ref a))) (eval (.Tuple [.Name x1 p1, .Name x2 p2, .Name x3 p3] cx tp) X.env) Q E { s' with heap := h3 } := fun {Q E} q => by
      refine wpAny_Tuple_spliced ?_
      show wpAny _ _ (spliced ((false, eval (.Name x1 p1) X.env) :: (false, eval (.Name x2 p2) X.env) :: (false, eval (.Name x3 p3) X.env) :: [])) _ _ _
      exact Calls.spliced_cons (own n1 (Calls.spliced_cons (own n2 (Calls.spliced_cons (own n3 (Calls.spliced_nil ⟨by show 3 ≤ sizeLine; decide, q⟩))))))
    refine tup ?_
    have k4 : ∀ b o, h3.get? b = some o → (h3.push { cls := .type "tuple", data := .seq [Value.ref C1, .ref C2, .ref C3].toArray }).get? b = some o := fun b o e => Heap.get?_push_of_some _ e
    have t4 := Heap.get?_push_size h3 (o := { cls := .type "tuple", data := .seq [Value.ref C1, .ref C2, .ref C3].toArray }) rfl
    generalize h3.push { cls := .type "tuple", data := .seq [Value.ref C1, .ref C2, .ref C3].toArray } = h4 at k4 t4 ⊢
    have fl4 := flying_kept fl3 k4
    have J4 : Inv X pins σ' H' { s' with heap := h4 } := J3.kept k4
    have LT : PySem.W.Looks (model X.prog X.w) h4 (typeOf (.ref a)) cls := fun A Q E s k q => wpAny_typeOf_ref (k _ _ (k4 _ _ he3)) (by rw [hz3.1]; exact q)
    refine (PySem.W.exm_tup3 (M := model X.prog X.w) J4.kIn LT t4 hb1).here ?_
    cases b with
    | true =>
      refine codeAny_handlers_suite_as ?_
      refine HandSPX.lands_againZ fl4 fun h5 fl5 up5 => ?_
      have J5 : Inv X pins σ' H' { s' with heap := h5 } := J.landed nb fl5.1 ((up.trans up3).trans ((Heap.UpToSlots.of_keeps k4).trans up5)) os ag
      have T5 := trk rfl fl5 J5
      have S5 : Inv (X.suite a (X.pn ++ pins)) [] σ' (upd H' a (ExK cls d a)) { s' with heap := h5 } :=
        ⟨T5.ok.suite _ _, T5.os, T5.bare, T5.base, T5.loc, T5.cell, T5.free, T5.freeC, fun p hp => T5.pin p (by rw [List.append_nil] at hp; exact hp), T5.hok, T5.len⟩
      refine store_ok (X := X.suite a (X.pn ++ pins)) (v := .ref a) S5 hN hi (.inl hln) rfl (fun s6 S6 => ?_) (.inr hln)
      refine wpAny_mono ((hsu a (X.pn ++ pins)).run [] s6 _ _ _ S6 (hyes rfl a na)) (fun f s7 hsp => ?_) (fun _ _ z => False.elim z)
      have back : ∀ {σ7 : L2.St} {H7 : Hp}, Inv (X.suite a (X.pn ++ pins)) [] σ7 H7 s7 → Inv X pins σ7 H7 s7 := fun {σ7 H7} S7 =>
        ⟨ok, S7.os, S7.bare, S7.base, S7.loc, S7.cell, S7.free, S7.freeC, fun p hp => S7.pin p (by rw [List.append_nil]; exact hp), S7.hok, S7.len⟩
      cases f with
      | next =>
        obtain ⟨σ7, H7, S7, q7⟩ := hsp
        exact gone_ok (back S7) hN hi hln fun s8 J8 => ⟨_, _, J8, q7⟩
      | brk =>
        obtain ⟨σ7, H7, S7, q7⟩ := hsp
        exact gone_ok (back S7) hN hi hln fun s8 J8 => ⟨_, _, J8, q7⟩
      | cont =>
        obtain ⟨σ7, H7, S7, q7⟩ := hsp
        exact gone_ok (back S7) hN hi hln fun s8 J8 => ⟨_, _, J8, q7⟩
      | ret u =>
        obtain ⟨v7, σ7, H7, S7, r7, q7⟩ := hsp
        exact gone_ok (back S7) hN hi hln fun s8 J8 => ⟨_, _, _, J8, r7, q7⟩
    | false =>
      refine wpAny_handleBy_nil ?_
      obtain ⟨k1, k2, k3, oe, vs, T, oT, ts', he, hz, hd, h1, hr⟩ := id fl4
      unfold PySem.passOn
      refine wpAny_bind (wpAny_field he hd h1 ?_)
      rw [if_neg (by simp : ¬ ((Value.ref T == Value.none) = true))]
      have fin : wpAny (model X.prog X.w) X.A (setFlight (.ref a) X.env.frame) (fun _ s5 => wpAny (model X.prog X.w) X.A (throw (.ref a) : Sem Flow) (SP X pins D) X.xe s5) X.xe { s' with heap := h4 } := by
        rw [hf]
        refine HandSPX.setFlight_upZ fl4 fun h5 hh5 up5 => wpAny_throw (tk _ _ ?_)
        exact ⟨a, B, sI, pins, σ', H', cls, d, rfl, J, nb, (up.trans up3).trans ((Heap.UpToSlots.of_keeps k4).trans up5), .inr (.inr (by rw [hs]; exact hh5)), na, os, ag, hno rfl⟩
      first
        | exact wpAny_bind (wpAny_pure (wpAny_bind fin))
        | exact wpAny_bind fin
  · cases f with
    | next =>
      obtain ⟨σ', H', J', q⟩ := hsp
      exact wpAny_execs_nil ⟨σ', H', J'.ofTry ok, q⟩
    | brk =>
      obtain ⟨σ', H', J', q⟩ := hsp
      exact ⟨σ', H', J'.ofTry ok, q⟩
    | cont =>
      obtain ⟨σ', H', J', q⟩ := hsp
      exact ⟨σ', H', J'.ofTry ok, q⟩
    | ret u =>
      obtain ⟨v, σ', H', J', r, q⟩ := hsp
      exact ⟨v, σ', H', J'.ofTry ok, r, q⟩
end
end Xk
set_option Elab.async false
set_option linter.all false
set_option maxRecDepth 100000
set_option maxHeartbeats 4000000
set_option pp.maxSteps 400
set_option pp.deepTerms false
namespace Xk
open PySem PySem.Spec PyProof.Rows L2
/-- what an own exception class says, so that its kept instances are read and asked -/
structure XcC (K : PySem.W.Frag) (C : Addr) : Prop where
  cl : (PySem.W.clsIn K C).isSome = true
  ga : PySem.W.findIn K (.ref C) "__getattribute__" = some (some (.builtin "BaseException.__getattribute__"))
  gg : PySem.W.findIn K (.ref C) "__getattr__" = some none
  sb : PySem.W.subIn K (.ref C) (.type "BaseException") = some true
  hd : PySem.W.hasDictIn K C = true
  ha : PySem.W.findIn K (.ref C) "__class__" = some (some (.builtin "object.__class__"))
  hn : PySem.W.specialIn K (.builtin "object.__class__") "__get__" = some (some (.builtin "getset_descriptor.__get__"))
  ht : PySem.W.takesIn K (.builtin "object.__class__") = some true
  hm : PySem.W.mroIn K C (.type "object") = some true
/-- a kept exception of the class at C with the fields fs -/
def Kept (H : Hp) (a C : Addr) (fs : List (Str × V)) : Prop := ∃ d, H a = some (ExK (.ref C) (some d) a) ∧ H d = some (.xd fs)
theorem Kept.same {H H' : Hp} {a C : Addr} {fs : List (Str × V)} (k : Kept H a C fs) (s : L2.Same H H') : Kept H' a C fs := by
  obtain ⟨d, e1, e2⟩ := k
  exact ⟨d, s _ _ e1, s _ _ e2⟩
section
variable {X : Cx} {pins : List (Addr × Obj)} {σ : L2.St} {H : Hp} {s : Shared}
theorem Kept.inst {a C : Addr} {fs : List (Str × V)} (I : Inv X pins σ H s) (k : Kept H a C fs) :
    ∃ (oe od : Obj) (mA : Str → Option Value), PySem.W.InstAt s.heap a oe C (some od) ∧ (∀ n, PySem.W.lookIn n od = some (mA n)) ∧ ∀ f, RelO (fs.lookup f) (mA f) := by
  obtain ⟨d, e1, e2⟩ := k
  obtain ⟨oe, he, hz, vs, hv⟩ := exK_at I.hok e1
  have hx : ObjOk X.prog X.w H s.heap d (.xd fs) := I.hok d _ e2
  obtain ⟨mA, hns, hr⟩ := hx
  obtain ⟨od, ho, hl⟩ := lookIn_ns hns
  refine ⟨oe, od, mA, ⟨he, hz.1, by unfold PySem.W.notCls; rw [hv] <;> rfl, by rw [hz.2]; exact ho⟩, hl, hr⟩
end
/-- e.f of a kept exception -/
def tKf (C : Addr) (f : Str) (te : TE) : TE := fun σ H Q => te σ H fun x H1 => ∃ (a : Addr) (fs : List (Str × V)) (v : V), x = .ref a ∧ Kept H1 a C fs ∧ fs.lookup f = some v ∧ Q v H1
theorem pe_kf {X : Cx} {C : Addr} {e : Expr} {te : TE} {pos : Pos} {n : Str} (T : XcC X.K C) (hno : PySem.W.findIn X.K (.ref C) n = some none) (he : PE X e te)
    (hb : attributeBase e n X.env (eval e X.env) = eval e X.env := by rfl) : PE X (.Attribute e n pos) (tKf C n te) := by
  refine ⟨fun pins s σ H Q I h => attr_of hb (thn (he.run pins s σ H _ I h) fun u s1 z => ?_)⟩
  obtain ⟨x, H1, I1, rx, a, fs, v, ex, k, l, q⟩ := z
  subst ex
  obtain rfl : u = Value.ref a := rx
  obtain ⟨oe, od, mA, J, hl, hr⟩ := k.inst I1
  obtain ⟨y, hy, ry⟩ := RelO.some_of (v := v) (o := mA n) (by rw [← l]; exact hr n)
  exact HandSPX.exc_get I1.kIn J T.ga T.gg T.sb (PySem.W.findObj_own T.hd hno rfl (by rw [hl, hy])) (handed_of ry) ⟨v, H1, I1.tok _, ry, q⟩
/-- isinstance(e, c), isinstance(e, (c1, ..)) of a kept exception -/
def rIsK (K : PySem.W.Frag) (C : Addr) : List V → Hp → VK → Prop := fun xs H Q => ∃ (a : Addr) (fs : List (Str × V)) (c : V) (u : Value) (b : Bool), xs = [.ref a, c] ∧ Kept H a C fs ∧ ClsV c u ∧ PySem.W.kitOne K (.ref C) u = some b ∧ Q (.bl b) H
def rIsKT (K : PySem.W.Frag) (C : Addr) : List V → Hp → VK → Prop := fun xs H Q => ∃ (a tp : Addr) (fs : List (Str × V)) (cs : List V) (us : List Value) (b : Bool), xs = [.ref a, .ref tp] ∧ Kept H a C fs ∧
  H tp = some (.tup cs) ∧ Paired ClsV cs us ∧ PySem.W.kitAny K (.ref C) us = some b ∧ Q (.bl b) H
theorem call_isK {X : Cx} {C : Addr} (T : XcC X.K C) : CallR X (.builtin "isinstance") (rIsK X.K C) := by
  intro pins s σ H xs us Q I r h
  obtain ⟨a, fs, c, u, b, rfl, k, hc, e, q⟩ := h
  obtain ⟨u1, u2, rfl, r1, r2⟩ := vals2 r
  have e2 := hc.eq r2
  subst e2
  cases (show u1 = Value.ref a from r1)
  obtain ⟨oe, od, mA, J, _, _⟩ := k.inst I
  exact PySem.W.kia_one (PySem.W.kitx_exc (ox := oe) (od := some od) T.cl T.ga T.gg T.sb T.ha T.hn T.ht T.hm) I.kIn J e (fun z => nomatch z) fun tk => ⟨.bl b, H, I.tok tk, rfl, q⟩
theorem call_isKT {X : Cx} {C : Addr} (T : XcC X.K C) : CallR X (.builtin "isinstance") (rIsKT X.K C) := by
  intro pins s σ H xs us Q I r h
  obtain ⟨a, tp, fs, cs, ws, b, rfl, k, hT, hc, e, q⟩ := h
  obtain ⟨u1, u2, rfl, r1, r2⟩ := vals2 r
  cases (show u1 = Value.ref a from r1)
  cases (show u2 = Value.ref tp from r2)
  obtain ⟨oe, od, mA, J, _, _⟩ := k.inst I
  have ht : ObjOk X.prog X.w H s.heap tp (.tup cs) := I.hok tp _ hT
  obtain ⟨_, its, rv, o, h1, h2, n, h3⟩ := ht
  have e3 := ClsV.all hc rv
  subst e3
  obtain ⟨oc, od2, dt, sl⟩ := o
  simp only at h2 h3
  subst h2 h3
  exact PySem.W.kia_tup (PySem.W.kitx_exc (ox := oe) (od := some od) T.cl T.ga T.gg T.sb T.ha T.hn T.ht T.hm) I.kIn J h1 e (fun z => nomatch z) fun tk => ⟨.bl b, H, I.tok tk, rfl, q⟩
/-! ### B.__init__(self, ..), B an own class over ValueError without own __init__ -/
structure BiC (K : PySem.W.Frag) (B : Addr) : Prop where
  rd : PySem.W.readsIn K B (.type "type") = true
  sp : PySem.W.specialIn K (.ref B) "__getattribute__" = some (some (.builtin "type.__getattribute__"))
  fi : PySem.W.findCls K (.ref B) (.type "type") "__init__" = some (.val (.builtin "ValueError.__init__"))
theorem pe_binit {X : Cx} {B : Addr} {x : Str} {e : Expr} {es : List Expr} {ta : TA} {p1 p2 pos : Pos} {pl : Sem Bool} (T : BiC X.K B) (gl : Gl X x) (mg : X.mg x = some (.ref B)) (ha : PA X (e :: es) ta) (hdb : (x == ("__debug__" : Str)) = false := by decide)
    (hc : eval (.Call (.Attribute (.Name x p1) "__init__" p2) (e :: es) [] pos) X.env = (do
      let ov ← eval (.Name x p1) X.env
      standAt p2.atName
      let (f, first) ← holding [ov] (getMethod ov "__init__" pl)
      callWith pos f first (backTo pos (starEach (e :: es) X.env)) (backToKw pos (keywordEach [] X.env))) := by rfl)
    (he : starEach (e :: es) X.env = (false, eval e X.env) :: starEach es X.env := by rfl) (hpl : (backTo pos (starEach es X.env)).any (·.1) = false := by rfl) :
    PE X (.Call (.Attribute (.Name x p1) "__init__" p2) (e :: es) [] pos) (tVeI X.K ta) := by
  refine ⟨fun pins s σ H Q I h => PySem.W.methodCall_KW (ld_glob I gl mg ?_ hdb) hc⟩
  refine PySem.W.method_cls I.kIn T.sp (PySem.W.cls_value I.kIn T.rd T.fi (by decide +kernel) ?_)
  show wpAny _ _ (callWith pos (Value.builtin "ValueError.__init__") [] (backTo pos (starEach (e :: es) X.env)) []) _ _ _
  refine PyProof.Rows.callWith_method1 (thn (ha.run pos pins _ σ H _ (I.tok _) h) fun us s1 z => ?_) he hpl
  obtain ⟨vs, H1, I1, r1, a, C, ws, ev, hl, Tx, ea, q⟩ := z
  subst ev
  cases r1 with
  | @cons _ u0 _ ur ra rw' =>
    obtain rfl : u0 = Value.ref a := ra
    refine oinit_ok Tx I1 ea ?_ fun s' J => ⟨.non, H1, J, rfl, q⟩
    rw [← Paired.length rw', sizeLine_eq]
    omega
/-! ### calls in a try's body: what is raised is wished for at the slots -/
section
variable {X : Cx} {CX : CXT} {k n : Nat} {f C : Addr} {fd : FuncData} {ps ks : List Str} {sp : Sp} {dvs : List V} {ds : List Value} {E : L2.St → XK} {x : Str} {p pos : Pos} {e : Expr} {es : List Expr} {kws : List Keyword} {t tk : TA}
  {g : List Value → List Value → List Value} {gV : List V → List V → List V}
def tMakeS (C : Addr) (sp : Sp) (dvs : List V) (E : L2.St → XK) (t : TA) : TE := fun σ H Q => t σ H fun vs H1 => ∀ x dx, H1 x = none → H1 dx = none → dx ≠ x →
  sp (.ref x :: (vs ++ dvs)) (upd (upd H1 dx (.own x)) x (.ins C dx [])) (fun v H2 => v = .non ∧ Q (.ref x) H2) (E σ)
theorem pe_makeS (M : Mk X.K C f) (F : FnOk X.prog X.w X.K X.mg X.base CX k f fd ps sp) (room : Room (k + 1) X.A) (gl : Gl X x) (mg : X.mg x = some (.ref C)) (bd : Binds X.K fd ps ds) (rd : Vals dvs ds) (px : ∀ σ, PassesAt CX X σ (E σ))
    (ha : PA X (e :: es) t) (hdb : (x == ("__debug__" : Str)) = false := by decide) (he : starEach (e :: es) X.env = (false, eval e X.env) :: starEach es X.env := by rfl) (hpl : (backTo pos (starEach es X.env)).any (·.1) = false := by rfl) :
    PE X (.Call (.Name x p) (e :: es) [] pos) (tMakeS C sp dvs E t) := by
  refine ⟨fun pins s σ H Q I h => wpAny_Call_Name_kw (ld_glob I gl mg ?_ hdb)⟩
  refine PySem.W.callWith_K (h₀ := X.base) I.ok.mod.kin M.kp (thn (ha.run pos pins s σ H _ I h) fun us s1 z => ?_) he hpl
  obtain ⟨vs, H1, I1, r, q⟩ := z
  refine ⟨I1.kIn, ?_⟩
  have q1 := q (s1.heap.objs.size + 1) s1.heap.objs.size (I1.hok.fresh (Nat.le_succ _)) (I1.hok.fresh (Nat.le_refl _)) (Nat.ne_of_lt (Nat.lt_succ_self _))
  have I2 := Inv.made (C := C) I1
  have r2 : Vals (V.ref (s1.heap.objs.size + 1) :: (vs ++ dvs)) (Value.ref (s1.heap.objs.size + 1) :: (us ++ ds)) := .cons rfl (r.append rd)
  have many : (Value.ref (s1.heap.objs.size + 1) :: us ++ ds).length = ps.length := (r2.length.symm.trans (F.len _ _ _ _ q1))
  refine wpAny_call (make_map (f := f) I1.kIn M.makes M.init (beq_iff_eq.mp M.fn) (codeAny_mono (F.run _ X.stack _ _ ⟨Value.ref (s1.heap.objs.size + 1) :: us, []⟩ (Value.ref (s1.heap.objs.size + 1) :: (us ++ ds)) _ _ (E σ)
    (room.make C us []) (I2.env0.make C us []) (bd _ (Value.ref (s1.heap.objs.size + 1) :: us) I2.kIn many) r2 q1) fun r s' z => ?_))
  cases r with
  | error e => exact px σ pins _ _ e s' I2 z
  | ok fl =>
    cases fl with
    | ret u =>
      obtain ⟨v, H', I3, rv, ev, q3⟩ := I2.after z
      subst ev
      exact ⟨rv, ⟨V.ref (s1.heap.objs.size + 1), H', I3, rfl, q3⟩⟩
    | next => exact False.elim z
    | brk => exact False.elim z
    | cont => exact False.elim z
def tMakeKS (C : Addr) (m : Nat) (sp : Sp) (gV : List V → List V → List V) (E : L2.St → XK) (tk : TA) : TE := fun σ H Q => tk σ H fun zs H2 => zs.length = m ∧
  ∀ x dx, H2 x = none → H2 dx = none → dx ≠ x → sp (gV [.ref x] zs) (upd (upd H2 dx (.own x)) x (.ins C dx [])) (fun v H3 => v = .non ∧ Q (.ref x) H3) (E σ)
theorem pe_makeKS (M : Mk X.K C f) (F : FnOk X.prog X.w X.K X.mg X.base CX k f fd ps sp) (room : Room (k + 1) X.A) (gl : Gl X x) (mg : X.mg x = some (.ref C)) (kb : KBn X.K fd ps 1 ks g gV) (px : ∀ σ, PassesAt CX X σ (E σ)) (pk : PK X kws tk)
    (hall : (backToKw pos (keywordEach kws X.env)).all (·.1.isSome) = true := by rfl) (hks : (backToKw pos (keywordEach kws X.env)).filterMap (·.1) = ks := by rfl) (hdb : (x == ("__debug__" : Str)) = false := by decide)
    (hpl : ((backTo pos (starEach [] X.env)).any (·.1) || (backToKw pos (keywordEach kws X.env)).any (·.1.isNone)) = false := by rfl) :
    PE X (.Call (.Name x p) [] kws pos) (tMakeKS C ks.length sp gV E tk) := by
  refine ⟨fun pins s σ H Q I h => wpAny_Call_Name_kw (ld_glob I gl mg ?_ hdb)⟩
  refine PySem.W.callWith_KW0 (h₀ := X.base) I.ok.mod.kin M.kp hall (thn (pk.run pos pins s σ H _ I h) fun ws s1 z => ?_) hpl
  obtain ⟨zs, H1, I1, rz, l2, q⟩ := z
  refine ⟨I1.kIn, ?_⟩
  rw [hks]
  have q1 := q (s1.heap.objs.size + 1) s1.heap.objs.size (I1.hok.fresh (Nat.le_succ _)) (I1.hok.fresh (Nat.le_refl _)) (Nat.ne_of_lt (Nat.lt_succ_self _))
  have I2 := Inv.made (C := C) I1
  have r1 : Vals [V.ref (s1.heap.objs.size + 1)] [Value.ref (s1.heap.objs.size + 1)] := .cons rfl .nil
  have r2 := kb.rel r1 rz
  refine wpAny_call (make_map (f := f) I1.kIn M.makes M.init (beq_iff_eq.mp M.fn) (codeAny_mono (F.run _ X.stack _ _ ⟨[Value.ref (s1.heap.objs.size + 1)], ks.zip ws⟩ (g [Value.ref (s1.heap.objs.size + 1)] ws) _ _ (E σ)
    (room.make C [] (ks.zip ws)) (I2.env0.make C [] (ks.zip ws)) (kb.to _ [Value.ref (s1.heap.objs.size + 1)] ws I2.kIn rfl (rz.length.symm.trans l2)) r2 q1) fun r s' z => ?_))
  cases r with
  | error e => exact px σ pins _ _ e s' I2 z
  | ok fl =>
    cases fl with
    | ret u =>
      obtain ⟨v, H', I3, rv, ev, q3⟩ := I2.after z
      subst ev
      exact ⟨rv, ⟨V.ref (s1.heap.objs.size + 1), H', I3, rfl, q3⟩⟩
    | next => exact False.elim z
    | brk => exact False.elim z
    | cont => exact False.elim z
def tCallKS (m : Nat) (sp : Sp) (gV : List V → List V → List V) (E : L2.St → XK) (tk : TA) : TE := fun σ H Q => tk σ H fun zs H2 => zs.length = m ∧ sp (gV [] zs) H2 Q (E σ)
theorem pe_callKS (F : FnOk X.prog X.w X.K X.mg X.base CX k f fd ps sp) (room : Room k X.A) (gl : Gl X x) (mg : X.mg x = some (.ref f)) (kp : PySem.W.keepIn X.K (.ref f) = true) (kb : KBn X.K fd ps 0 ks g gV) (px : ∀ σ, PassesAt CX X σ (E σ)) (pk : PK X kws tk)
    (hall : (backToKw pos (keywordEach kws X.env)).all (·.1.isSome) = true := by rfl) (hks : (backToKw pos (keywordEach kws X.env)).filterMap (·.1) = ks := by rfl) (hdb : (x == ("__debug__" : Str)) = false := by decide)
    (hpl : ((backTo pos (starEach [] X.env)).any (·.1) || (backToKw pos (keywordEach kws X.env)).any (·.1.isNone)) = false := by rfl) :
    PE X (.Call (.Name x p) [] kws pos) (tCallKS ks.length sp gV E tk) := by
  refine ⟨fun pins s σ H Q I h => wpAny_Call_Name_kw (ld_glob I gl mg ?_ hdb)⟩
  refine PySem.W.callWith_KW0 (h₀ := X.base) I.ok.mod.kin kp hall (thn (pk.run pos pins s σ H _ I h) fun ws s1 z => ?_) hpl
  obtain ⟨zs, H1, I1, rz, l2, q⟩ := z
  refine ⟨I1.kIn, ?_⟩
  rw [hks]
  have rn : Vals [] [] := .nil
  have r2 := kb.rel rn rz
  refine wpAny_call (codeAny_mono (F.run X.A X.stack s1 H1 ⟨[], ks.zip ws⟩ (g [] ws) (gV [] zs) Q (E σ) room I1.env0 (kb.to s1 [] ws I1.kIn rfl (rz.length.symm.trans l2)) r2 q) fun r s' z => ?_)
  cases r with
  | error e => exact px σ pins _ _ e s' I1 z
  | ok fl =>
    cases fl with
    | ret u => exact I1.after z
    | next => exact False.elim z
    | brk => exact False.elim z
    | cont => exact False.elim z
end
end Xk
set_option Elab.async false
set_option linter.all false
set_option maxRecDepth 100000
set_option maxHeartbeats 4000000
set_option pp.maxSteps 400
set_option pp.deepTerms false
/-! Things of any kind: texts, numbers, truths, None, and lists, tuples, dicts of these, at any depth. -/
namespace Az
open PySem PySem.Spec PyProof.Rows L2
def keyD : Key → PyData
  | .inl i => .int i
  | .inr x => .str x
mutual
inductive Dz (K : PySem.W.Frag) (H : Hp) : V → PyData → Prop
  | non : Dz K H .non .none
  | bl (b : Bool) : Dz K H (.bl b) (.bool b)
  | int (i : Int) : Dz K H (.int i) (.int i)
  | str (x : Str) : Dz K H (.str x) (.str x)
  | lst {a : Addr} {xs : List V} {ds : List PyData} : H a = some (.lst xs) → a ≠ sysModules → DzAll K H xs ds → Dz K H (.ref a) (.list ds)
  | tup {a : Addr} {xs : List V} {ds : List PyData} : H a = some (.tup xs) → DzAll K H xs ds → Dz K H (.ref a) (.tuple ds)
  | dct {a : Addr} {kvs : List (Key × V)} {ds : List (PyData × PyData)} : H a = some (.dK kvs) → DzKv K H kvs ds → Dz K H (.ref a) (.dict ds)
inductive DzAll (K : PySem.W.Frag) (H : Hp) : List V → List PyData → Prop
  | nil : DzAll K H [] []
  | cons {v : V} {vs : List V} {d : PyData} {ds : List PyData} : Dz K H v d → DzAll K H vs ds → DzAll K H (v :: vs) (d :: ds)
inductive DzKv (K : PySem.W.Frag) (H : Hp) : List (Key × V) → List (PyData × PyData) → Prop
  | nil : DzKv K H [] []
  | cons {k : Key} {v : V} {kvs : List (Key × V)} {d : PyData} {ds : List (PyData × PyData)} : Dz K H v d → DzKv K H kvs ds → DzKv K H ((k, v) :: kvs) ((keyD k, d) :: ds)
end
section
variable {K : PySem.W.Frag} {H H' : Hp}
mutual
/-- what is read of a thing stays while its objects do -/
theorem Dz.keep (s : ∀ b o, H b = some o → (∀ x, o ≠ .own x) → H' b = some o) : ∀ {v : V} {d : PyData}, Dz K H v d → Dz K H' v d
  | _, _, .non => .non
  | _, _, .bl b => .bl b
  | _, _, .int i => .int i
  | _, _, .str x => .str x
  | _, _, .lst e n r => .lst (s _ _ e (fun _ z => by cases z)) n (DzAll.keep s r)
  | _, _, .tup e r => .tup (s _ _ e (fun _ z => by cases z)) (DzAll.keep s r)
  | _, _, .dct e r => .dct (s _ _ e (fun _ z => by cases z)) (DzKv.keep s r)
theorem DzAll.keep (s : ∀ b o, H b = some o → (∀ x, o ≠ .own x) → H' b = some o) : ∀ {v : List V} {d : List PyData}, DzAll K H v d → DzAll K H' v d
  | _, _, .nil => .nil
  | _, _, .cons h r => .cons (Dz.keep s h) (DzAll.keep s r)
theorem DzKv.keep (s : ∀ b o, H b = some o → (∀ x, o ≠ .own x) → H' b = some o) : ∀ {v : List (Key × V)} {d : List (PyData × PyData)}, DzKv K H v d → DzKv K H' v d
  | _, _, .nil => .nil
  | _, _, .cons h r => .cons (Dz.keep s h) (DzKv.keep s r)
end
theorem Dz.same {v : V} {d : PyData} (h : Dz K H v d) (s : L2.Same H H') : Dz K H' v d := h.keep fun b o e _ => s b o e
theorem DzAll.same {v : List V} {d : List PyData} (h : DzAll K H v d) (s : L2.Same H H') : DzAll K H' v d := h.keep fun b o e _ => s b o e
/-- the kind of a thing -/
def kindD : PyData → String
  | .none => "NoneType"
  | .bool _ => "bool"
  | .int _ => "int"
  | .str _ => "str"
  | .list _ => "list"
  | .tuple _ => "tuple"
  | .dict _ => "dict"
theorem Dz.ty {v : V} {d : PyData} (h : Dz K H v d) : TyX K H v (.type (kindD d)) := by
  cases h with
  | non => exact .base .non
  | bl b => exact .base (.bl b)
  | int i => exact .base (.int i)
  | str x => exact .base (.str x)
  | lst e _ _ => exact .base (.lst e)
  | tup e _ => exact .base (.tup e)
  | dct e _ => exact .base (.dK e)
end
section
variable {X : Cx} {pins : List (Addr × Obj)} {σ : L2.St} {H : Hp} {s : Shared}
theorem pairs_keys {P : Program} {w : World} : ∀ {es : List DictEntry} {vs : List (Key × Value)}, PySem.Pairs (mixKind P w) es vs → ∃ as, ReadsAll s.heap (es.map (·.key)) (vs.map fun p => keyD p.1) as ∧ as = []
  | _, _, .nil => ⟨[], .nil, rfl⟩
  | e :: es, (k, u) :: vs, .cons h1 h2 r => by
    obtain ⟨as, q, rfl⟩ := pairs_keys r
    rcases keyIs_shape (show keyIs k e.key = true from h1) with ⟨i, t, rfl, ek⟩ | ⟨x, t, rfl, ek⟩
    · refine ⟨[] ++ [], .cons ?_ q, rfl⟩
      show Reads s.heap e.key (.int i) []
      rw [ek]
      exact .int i t
    · refine ⟨[] ++ [], .cons ?_ q, rfl⟩
      show Reads s.heap e.key (.str x) []
      rw [ek]
      exact .str x t
theorem pairs_vals {P : Program} {w : World} : ∀ {es : List DictEntry} {vs : List (Key × Value)}, PySem.Pairs (mixKind P w) es vs → es.map (·.val) = vs.map (·.2)
  | _, _, .nil => rfl
  | e :: es, (k, u) :: vs, .cons h1 h2 r => by
    rw [List.map_cons, List.map_cons, pairs_vals r, h2]
mutual
theorem Dz.reads (I : Inv X pins σ H s) : ∀ (d : PyData) (v : V) (u : Value), Dz X.K H v d → RelV v u → ∃ as, Reads s.heap u d as ∧ sysModules ∉ as
  | .none, _, _, h, r => by
    cases h
    cases r
    exact ⟨[], .none, by simp⟩
  | .bool b, _, _, h, r => by
    cases h
    cases r
    exact ⟨[], .bool b, by simp⟩
  | .int i, _, _, h, r => by
    cases h
    obtain ⟨t, rfl⟩ := r
    exact ⟨[], .int i t, by simp⟩
  | .str x, _, _, h, r => by
    cases h
    obtain ⟨t, rfl⟩ := r
    exact ⟨[], .str x t, by simp⟩
  | .list ds, _, _, h, r => by
    cases h with
    | @lst a xs _ e ne ha =>
      cases r
      have ok : ObjOk X.prog X.w H s.heap a (.lst xs) := I.hok a _ e
      obtain ⟨_, its, n, rv, eh⟩ := ok
      obtain ⟨as, q, na⟩ := DzAll.reads I ds xs its ha rv
      refine ⟨a :: as, .list eh rfl rfl (by simpa using q), fun m => ?_⟩
      rcases List.mem_cons.mp m with z | z
      · exact ne z.symm
      · exact na z
  | .tuple ds, _, _, h, r => by
    cases h with
    | @tup a xs _ e ha =>
      cases r
      have ok : ObjOk X.prog X.w H s.heap a (.tup xs) := I.hok a _ e
      obtain ⟨_, its, rv, o, eh, ec, n, ed⟩ := ok
      obtain ⟨as, q, na⟩ := DzAll.reads I ds xs its ha rv
      exact ⟨as, .tuple eh ec ed (by simpa using q), na⟩
  | .dict ds, _, _, h, r => by
    cases h with
    | @dct a kvs _ e ha =>
      cases r
      obtain ⟨_, ne, vs, rel, o, es, ep, eh, ex, ed, _, pr, _⟩ := dk_of I.hok e
      obtain ⟨as, q1, rfl⟩ := pairs_keys (s := s) pr
      obtain ⟨bs, q2, nb⟩ := DzKv.reads I ds kvs vs ha rel
      have hk : (vs.map fun p => keyD p.1) = ds.map (·.1) := DzKv.keys ha rel
      rw [hk] at q1
      refine ⟨a :: [] ++ bs, .dict eh ex.1 ed q1 (by rw [pairs_vals pr]; exact q2), fun m => ?_⟩
      rcases List.mem_cons.mp m with z | z
      · rw [← z] at ne
        simp at ne
      · exact nb z
theorem DzAll.reads (I : Inv X pins σ H s) : ∀ (ds : List PyData) (vs : List V) (us : List Value), DzAll X.K H vs ds → Vals vs us → ∃ as, ReadsAll s.heap us ds as ∧ sysModules ∉ as
  | [], _, _, h, r => by
    cases h
    cases r
    exact ⟨[], .nil, by simp⟩
  | d :: ds, _, _, h, r => by
    cases h with
    | cons h1 h2 =>
      cases r with
      | cons r1 r2 =>
        obtain ⟨as, q1, n1⟩ := Dz.reads I d _ _ h1 r1
        obtain ⟨bs, q2, n2⟩ := DzAll.reads I ds _ _ h2 r2
        exact ⟨as ++ bs, .cons q1 q2, fun m => (List.mem_append.mp m).elim n1 n2⟩
theorem DzKv.reads (I : Inv X pins σ H s) : ∀ (ds : List (PyData × PyData)) (kvs : List (Key × V)) (vs : List (Key × Value)), DzKv X.K H kvs ds → KV kvs vs → ∃ as, ReadsAll s.heap (vs.map (·.2)) (ds.map (·.2)) as ∧ sysModules ∉ as
  | [], _, _, h, r => by
    cases h
    cases r
    exact ⟨[], .nil, by simp⟩
  | (_, d) :: ds, _, _, h, r => by
    cases h with
    | cons h1 h2 =>
      cases r with
      | cons r1 r2 =>
        obtain ⟨as, q1, n1⟩ := Dz.reads I d _ _ h1 r1.2
        obtain ⟨bs, q2, n2⟩ := DzKv.reads I ds _ _ h2 r2
        exact ⟨as ++ bs, .cons q1 q2, fun m => (List.mem_append.mp m).elim n1 n2⟩
theorem DzKv.keys {K : PySem.W.Frag} : ∀ {ds : List (PyData × PyData)} {kvs : List (Key × V)} {vs : List (Key × Value)}, DzKv K H kvs ds → KV kvs vs → (vs.map fun p => keyD p.1) = ds.map (·.1)
  | [], _, _, h, r => by
    cases h
    cases r
    rfl
  | (_, d) :: ds, _, _, h, r => by
    cases h with
    | cons h1 h2 =>
      cases r with
      | cons r1 r2 =>
        rw [List.map_cons, List.map_cons, DzKv.keys h2 r2, ← r1.1]
end
/-- repr of a thing -/
def rReprZ (K : PySem.W.Frag) : List V → Hp → VK → Prop := fun xs H Q => ∃ (v : V) (d : PyData), xs = [v] ∧ Dz K H v d ∧ d.showable = true ∧ d.depth ≤ 60 ∧ d.shown.length ≤ sizeLine ∧ Q (.str d.shown) H
theorem cr_reprZ {k : Nat} (quiet : X.A.guards = some []) (room : Room k X.A) : CallR X (.builtin "repr") (rReprZ X.K) := by
  intro pins s σ H xs us Q I r h
  obtain ⟨v, d, rfl, hd, hs, hp, hz, q⟩ := h
  obtain ⟨u, rfl, rx⟩ := vals1 r
  have hu := room.units
  cases hd with
  | non =>
    cases rx
    exact PySem.P.repr_of_none ⟨.str _, H, I.tok _, ⟨_, rfl⟩, q⟩
  | bl b =>
    cases rx
    exact PySem.P.repr_of_bool ⟨.str _, H, I.tok _, ⟨_, rfl⟩, q⟩
  | int i =>
    obtain ⟨t, rfl⟩ := rx
    exact PySem.P.repr_of_int (by simpa [PyData.showable] using hs) ⟨.str _, H, I.tok _, ⟨_, rfl⟩, q⟩
  | str x =>
    obtain ⟨t, rfl⟩ := rx
    exact PySem.P.repr_of_str ⟨.str _, H, I.tok _, ⟨_, rfl⟩, q⟩ hz
  | lst e n ha =>
    obtain ⟨as, rd, na⟩ := Dz.reads I _ _ u (.lst e n ha) rx
    cases rx
    exact repr_of_reads' rd hs (fun _ => na) quiet (by omega) (fun _ _ z => z) (fun h' u tk kept => ⟨.str _, H, I.kept kept, ⟨u, rfl⟩, q⟩) hz
  | tup e ha =>
    obtain ⟨as, rd, na⟩ := Dz.reads I _ _ u (.tup e ha) rx
    cases rx
    exact repr_of_reads' rd hs (fun _ => na) quiet (by omega) (fun _ _ z => z) (fun h' u tk kept => ⟨.str _, H, I.kept kept, ⟨u, rfl⟩, q⟩) hz
  | dct e ha =>
    obtain ⟨as, rd, na⟩ := Dz.reads I _ _ u (.dct e ha) rx
    cases rx
    exact repr_of_reads' rd hs (fun _ => na) quiet (by omega) (fun _ _ z => z) (fun h' u tk kept => ⟨.str _, H, I.kept kept, ⟨u, rfl⟩, q⟩) hz
/-- a list of written items: new, and no table of modules -/
def tLstZ (t : TA) : TE := fun σ H Q => t σ H fun xs H1 => xs.length ≤ sizeLine ∧ ∀ p, H1 p = none → p ≠ sysModules → Q (.ref p) (upd H1 p (.lst xs))
theorem pe_lstZ {es : List Expr} {t : TA} {pos : Pos} (h : PA X es t) : PE X (.List es pos) (tLstZ t) := by
  refine ⟨fun pins s σ H Q I hq => wpAny_List_spliced (thn (h.run pos pins s σ H _ I hq) fun us s1 z => ?_)⟩
  obtain ⟨xs, H1, I1, r, z, q⟩ := z
  refine ⟨by rw [← r.length]; exact z, ?_⟩
  have new : H1 s1.heap.objs.size = none := I1.hok.fresh (Nat.le_refl _)
  refine ⟨.ref s1.heap.objs.size, upd H1 s1.heap.objs.size (.lst xs), I1.laid (t' := s1.toks) (fun b u e => Heap.get?_push_of_some _ e) (Nat.le_refl _) ?_, rfl, q _ new (Nat.ne_of_gt I1.big)⟩
  exact ⟨z, us, 0, r, Heap.get?_push_size _ rfl⟩
end
end Az
namespace Az
open PySem PySem.Spec PyProof.Rows L2
/-- a thing that is shown in n signs at most, at most k deep -/
structure Nice (d : PyData) (k n : Nat) : Prop where
  sh : d.showable = true
  dp : d.depth ≤ k
  sz : d.shown.length ≤ n
theorem Nice.mono {d : PyData} {k k' n n' : Nat} (h : Nice d k n) (hk : k ≤ k') (hn : n ≤ n') : Nice d k' n' := ⟨h.sh, Nat.le_trans h.dp hk, Nat.le_trans h.sz hn⟩
theorem nice_int {i : Int} {n : Nat} (h : i.natAbs.log2 < 1920) (hn : (Str.ofString (toString i)).length ≤ n) : Nice (.int i) 0 n :=
  ⟨by simpa [PyData.showable] using h, by simp [PyData.depth], by simpa [PyData.shown] using hn⟩
theorem nice_none : Nice .none 0 4 := ⟨by simp [PyData.showable], by simp [PyData.depth], by simp only [PyData.shown]; decide +kernel⟩
theorem nice_bool (b : Bool) : Nice (.bool b) 0 5 := ⟨by simp [PyData.showable], by simp [PyData.depth], by simp only [PyData.shown]; cases b <;> decide +kernel⟩
theorem nice_str {x : Str} {n : Nat} (h : (reprText x).length ≤ n) : Nice (.str x) 0 n := ⟨by simp [PyData.showable], by simp [PyData.depth], by simpa [PyData.shown] using h⟩
theorem list_le : ∀ ts : List Str, (listText ts).length ≤ piled ts + 2
  | [] => by decide +kernel
  | t :: ts => by
    have e : (textFrom 0 "[" (t :: ts)).length = 1 + t.length + piled ts := by
      show (textFrom 1 (("[" : Str) ++ ((if 0 > 0 then ", " else "" : String) : Str) ++ t) ts).length = _
      rw [textFrom_length_pos ts 1 _ (by decide), strLen_append, strLen_append]
      rfl
    unfold listText
    rw [strLen_append, e, piled_cons]
    show 1 + t.length + piled ts + 1 ≤ _
    omega
theorem dict_le (ps : List Str) : (dictText ps).length ≤ piled ps + 2 := by
  unfold dictText
  rw [strLen_append, strLen_append]
  show 1 + (Str.join ", " ps).length + 1 ≤ _
  cases ps with
  | nil => decide
  | cons p r =>
    have := join_length_add (p :: r) (by simp)
    omega
theorem nice_tup1 {d : PyData} {k n : Nat} (h : Nice d k n) : Nice (.tuple [d]) (k + 1) (n + 4) := by
  refine ⟨by simp [PyData.showable, PyData.showableAll, h.sh], ?_, ?_⟩
  · simp only [PyData.depth, PyData.depthAll]
    have := h.dp
    omega
  · simp only [PyData.shown, PyData.shownAll]
    have a := fmt_text [d.shown]
    simp only [piled_cons, piled_nil] at a
    have := h.sz
    omega
theorem nice_lst1 {d : PyData} {k n : Nat} (h : Nice d k n) : Nice (.list [d]) (k + 1) (n + 4) := by
  refine ⟨by simp [PyData.showable, PyData.showableAll, h.sh], ?_, ?_⟩
  · simp only [PyData.depth, PyData.depthAll]
    have := h.dp
    omega
  · simp only [PyData.shown, PyData.shownAll]
    have a := list_le [d.shown]
    simp only [piled_cons, piled_nil] at a
    have := h.sz
    omega
theorem nice_dct1 {d : PyData} {k n m : Nat} {x : Str} (hx : (reprText x).length ≤ m) (h : Nice d k n) : Nice (.dict [(.str x, d)]) (k + 1) (n + m + 6) := by
  refine ⟨by simp [PyData.showable, PyData.showableKv, h.sh], ?_, ?_⟩
  · simp only [PyData.depth, PyData.depthKv]
    have := h.dp
    omega
  · simp only [PyData.shown, PyData.shownKv]
    have a := dict_le [reprText x ++ ": " ++ d.shown]
    simp only [piled_cons, piled_nil, strLen_append] at a
    have c : ((": " : Str)).length = 2 := by decide +kernel
    have := h.sz
    omega
theorem nice_tup0 : Nice (.tuple []) 1 2 := ⟨by simp [PyData.showable, PyData.showableAll], by simp [PyData.depth, PyData.depthAll], by simp only [PyData.shown, PyData.shownAll]; decide +kernel⟩
theorem nice_lst0 : Nice (.list []) 1 2 := ⟨by simp [PyData.showable, PyData.showableAll], by simp [PyData.depth, PyData.depthAll], by simp only [PyData.shown, PyData.shownAll]; decide +kernel⟩
theorem nice_dct0 : Nice (.dict []) 1 2 := ⟨by simp [PyData.showable, PyData.showableKv], by simp [PyData.depth, PyData.depthKv], by simp only [PyData.shown, PyData.shownKv]; decide +kernel⟩
end Az
set_option Elab.async false
set_option linter.all false
set_option maxRecDepth 100000
set_option maxHeartbeats 4000000
set_option pp.maxSteps 400
set_option pp.deepTerms false
namespace Az
open PySem PySem.Spec PyProof.Rows L2
/-! ### texts of signs that have a number of eight places -/
def Asc (x : Str) : Prop := ∀ c ∈ x.cps.toList, c < 16 ^ 8
theorem asc_str (s : String) : Asc (Str.ofString s) := fun c hc => by
  rw [Str.ofString_eq_toList] at hc
  simp only [List.mem_map] at hc
  obtain ⟨k, _, rfl⟩ := hc
  exact Nat.lt_of_lt_of_le (UInt32.toNat_lt k.val) (by decide)
theorem Asc.app {x y : Str} (h1 : Asc x) (h2 : Asc y) : Asc (x ++ y) := fun c hc => by
  rw [Str.cps_append, Array.toList_append, List.mem_append] at hc
  exact hc.elim (h1 c) (h2 c)
theorem asc_hex (l : List Char) (n : Nat) : ∀ c ∈ List.replicate n 48 ++ l.map Char.toNat, c < 16 ^ 8 := fun c hc => by
  rcases List.mem_append.mp hc with h | h
  · rw [(List.mem_replicate.mp h).2]
    decide
  · obtain ⟨k, _, rfl⟩ := List.mem_map.mp h
    exact Nat.lt_of_lt_of_le (UInt32.toNat_lt k.val) (by decide)
theorem asc_char {q c : Nat} (hc : c < 16 ^ 8) : ∀ d ∈ Builtin.Str.reprChar q c, d < 16 ^ 8 := fun d hd => by
  unfold Builtin.Str.reprChar at hd
  dsimp only at hd
  have two : ∀ a : Nat, a < 16 ^ 8 → d ∈ [92, a] → d < 16 ^ 8 := fun a ha h => by
    simp only [List.mem_cons, List.not_mem_nil, or_false] at h
    rcases h with h | h
    · rw [h]; decide
    · rw [h]; exact ha
  have app : ∀ (a : Nat) (l : List Nat), a < 16 ^ 8 → (∀ c ∈ l, c < 16 ^ 8) → d ∈ [92, a] ++ l → d < 16 ^ 8 := fun a l ha hl h => (List.mem_append.mp h).elim (two a ha) (hl d)
  split at hd
  · exact two c hc hd
  · split at hd
    · exact two 110 (by decide) hd
    · split at hd
      · exact two 114 (by decide) hd
      · split at hd
        · exact two 116 (by decide) hd
        · split at hd
          · simp only [List.mem_cons, List.not_mem_nil, or_false] at hd
            rw [hd]
            exact hc
          · split at hd
            · exact app 120 _ (by decide) (asc_hex _ _) hd
            · split at hd
              · exact app 117 _ (by decide) (asc_hex _ _) hd
              · exact app 85 _ (by decide) (asc_hex _ _) hd
theorem asc_fold {q : Nat} : ∀ (l : List Nat) (acc : Array Nat), (∀ c ∈ l, c < 16 ^ 8) → (∀ c ∈ acc.toList, c < 16 ^ 8) → ∀ c ∈ (l.foldl (fun out c => out ++ (Builtin.Str.reprChar q c).toArray) acc).toList, c < 16 ^ 8
  | [], acc, _, h => h
  | k :: r, acc, hl, ha => by
    rw [List.foldl_cons]
    refine asc_fold r _ (fun c hc => hl c (List.mem_cons_of_mem _ hc)) fun c hc => ?_
    rw [Array.toList_append, List.mem_append] at hc
    exact hc.elim (ha c) fun h => asc_char (hl k List.mem_cons_self) c (by simpa using h)
theorem asc_quote (x : Str) : reprQuote x < 16 ^ 8 := by
  unfold reprQuote
  split <;> decide
theorem asc_repr {x : Str} (h : Asc x) : Asc (reprText x) := fun c hc => by
  unfold reprText at hc
  rw [Array.toList_push, List.mem_append, ← Array.foldl_toList] at hc
  rcases hc with hc | hc
  · refine asc_fold x.cps.toList #[reprQuote x] h (fun d hd => ?_) c hc
    have z : d = reprQuote x := by simpa using hd
    rw [z]
    exact asc_quote x
  · have z : c = reprQuote x := by simpa using hc
    rw [z]
    exact asc_quote x
theorem asc_join : ∀ ts : List Str, (∀ t ∈ ts, Asc t) → Asc (Str.join ", " ts)
  | [], _ => fun c hc => by
    have z : c ∈ (Str.empty).cps.toList := hc
    simp [Str.empty] at z
  | [x], h => h x List.mem_cons_self
  | x :: y :: r, h => ((h x List.mem_cons_self).app (asc_str ", ")).app (asc_join (y :: r) fun t ht => h t (List.mem_cons_of_mem _ ht))
theorem asc_from : ∀ (ts : List Str) (k : Nat) (acc : Str), Asc acc → (∀ t ∈ ts, Asc t) → Asc (textFrom k acc ts)
  | [], _, _, h, _ => h
  | t :: ts, k, acc, h, ht => by
    unfold textFrom
    exact asc_from ts (k + 1) _ ((h.app (asc_str _)).app (ht t List.mem_cons_self)) fun u hu => ht u (List.mem_cons_of_mem _ hu)
mutual
/-- all texts within a thing -/
def ascD : PyData → Prop
  | .none | .bool _ | .int _ => True
  | .str x => Asc x
  | .list xs | .tuple xs => ascAll xs
  | .dict kvs => ascKv kvs
def ascAll : List PyData → Prop
  | [] => True
  | x :: xs => ascD x ∧ ascAll xs
def ascKv : List (PyData × PyData) → Prop
  | [] => True
  | (k, v) :: r => ascD k ∧ ascD v ∧ ascKv r
end
mutual
theorem asc_shown : ∀ d : PyData, ascD d → Asc d.shown
  | .none, _ => asc_str "None"
  | .bool b, _ => by
    simp only [PyData.shown]
    cases b
    · exact asc_str "False"
    · exact asc_str "True"
  | .int i, _ => asc_str (toString i)
  | .str x, h => asc_repr (by simpa [ascD] using h)
  | .list xs, h => by
    simp only [PyData.shown]
    exact (asc_from _ _ _ (asc_str "[") (asc_shownAll xs (by simpa [ascD] using h))).app (asc_str "]")
  | .tuple xs, h => by
    simp only [PyData.shown]
    exact ((asc_str "(").app (asc_join _ (asc_shownAll xs (by simpa [ascD] using h)))).app (asc_str _)
  | .dict kvs, h => by
    simp only [PyData.shown]
    exact ((asc_str "{").app (asc_join _ (asc_shownKv kvs (by simpa [ascD] using h)))).app (asc_str "}")
theorem asc_shownAll : ∀ xs : List PyData, ascAll xs → ∀ t ∈ PyData.shownAll xs, Asc t
  | [], _, t, ht => by
    simp [PyData.shownAll] at ht
  | x :: xs, h, t, ht => by
    have h' : ascD x ∧ ascAll xs := by simpa [ascAll] using h
    simp only [PyData.shownAll, List.mem_cons] at ht
    rcases ht with e | e
    · rw [e]
      exact asc_shown x h'.1
    · exact asc_shownAll xs h'.2 t e
theorem asc_shownKv : ∀ xs : List (PyData × PyData), ascKv xs → ∀ t ∈ PyData.shownKv xs, Asc t
  | [], _, t, ht => by
    simp [PyData.shownKv] at ht
  | (k, v) :: xs, h, t, ht => by
    have h' : ascD k ∧ ascD v ∧ ascKv xs := by simpa [ascKv] using h
    simp only [PyData.shownKv, List.mem_cons] at ht
    rcases ht with e | e
    · rw [e]
      exact ((asc_shown k h'.1).app (asc_str ": ")).app (asc_shown v h'.2.1)
    · exact asc_shownKv xs h'.2.2 t e
end
/-- str of a thing -/
def strD : PyData → Str
  | .str x => x
  | d => d.shown
theorem strD_asc {d : PyData} (h : ascD d) : Asc (strD d) := by
  cases d with
  | str x => simpa [strD, ascD] using h
  | _ => exact asc_shown _ h
theorem len_repr (x : Str) : x.length ≤ (reprText x).length := by
  have grow : ∀ (q : Nat) (l : List Nat) (acc : Array Nat), acc.size + l.length ≤ (l.foldl (fun out c => out ++ (Builtin.Str.reprChar q c).toArray) acc).size := fun q l => by
    induction l with
    | nil => intro acc; simp
    | cons k r ih =>
      intro acc
      have h := ih (acc ++ (Builtin.Str.reprChar q k).toArray)
      have one : 1 ≤ (Builtin.Str.reprChar q k).length := by
        unfold Builtin.Str.reprChar
        dsimp only
        repeat' split
        all_goals simp
        all_goals omega
      rw [List.foldl_cons]
      simp only [Array.size_append, List.size_toArray] at h
      simp only [List.length_cons]
      omega
  have h := grow (reprQuote x) x.cps.toList #[reprQuote x]
  unfold reprText
  show x.length ≤ ((x.cps.foldl (fun out c => out ++ (Builtin.Str.reprChar (reprQuote x) c).toArray) #[reprQuote x]).push (reprQuote x)).size
  rw [Array.size_push, ← Array.foldl_toList]
  have e : x.cps.toList.length = x.length := by simp [Str.length]
  omega
theorem strD_len {d : PyData} : (strD d).length ≤ d.shown.length := by
  cases d with
  | str x =>
    simp only [strD, PyData.shown]
    exact len_repr x
  | _ => exact Nat.le_refl _
section
variable {X : Cx}
def rStrZ (K : PySem.W.Frag) : List V → Hp → VK → Prop := fun xs H Q => ∃ (v : V) (d : PyData), xs = [v] ∧ Dz K H v d ∧ d.showable = true ∧ d.depth ≤ 60 ∧ d.shown.length ≤ sizeLine ∧ Q (.str (strD d)) H
theorem cr_strZ {k : Nat} (quiet : X.A.guards = some []) (room : Room k X.A) : CallR X (.type "str") (rStrZ X.K) := by
  intro pins s σ H xs us Q I r h
  obtain ⟨v, d, rfl, hd, hs, hp, hz, q⟩ := h
  obtain ⟨u, rfl, rx⟩ := vals1 r
  have hu := room.un
  cases hd with
  | non =>
    cases rx
    exact PySem.P.str_of_none ⟨.str _, H, I.tok _, ⟨_, rfl⟩, q⟩
  | bl b =>
    cases rx
    exact PySem.P.str_of_bool ⟨.str _, H, I.tok _, ⟨_, rfl⟩, q⟩
  | int i =>
    obtain ⟨t, rfl⟩ := rx
    exact PySem.P.str_of_int (by simpa [PyData.showable] using hs) ⟨.str _, H, I.tok _, ⟨_, rfl⟩, q⟩
  | str x =>
    obtain ⟨t, rfl⟩ := rx
    exact PySem.P.str_of_str ⟨.str _, H, I, ⟨_, rfl⟩, q⟩
  | lst e n ha =>
    obtain ⟨as, rd, na⟩ := Dz.reads I _ _ u (.lst e n ha) rx
    cases rx
    exact str_of_reads rd hs (fun _ => na) quiet (by omega) (fun _ _ z => z) (fun h' u tk kept => ⟨.str _, H, I.kept kept, ⟨u, rfl⟩, q⟩) hz
  | tup e ha =>
    obtain ⟨as, rd, na⟩ := Dz.reads I _ _ u (.tup e ha) rx
    cases rx
    exact str_of_reads rd hs (fun _ => na) quiet (by omega) (fun _ _ z => z) (fun h' u tk kept => ⟨.str _, H, I.kept kept, ⟨u, rfl⟩, q⟩) hz
  | dct e ha =>
    obtain ⟨as, rd, na⟩ := Dz.reads I _ _ u (.dct e ha) rx
    cases rx
    exact str_of_reads rd hs (fun _ => na) quiet (by omega) (fun _ _ z => z) (fun h' u tk kept => ⟨.str _, H, I.kept kept, ⟨u, rfl⟩, q⟩) hz
end
end Az
set_option Elab.async false
set_option linter.all false
set_option maxRecDepth 100000
set_option maxHeartbeats 4000000
set_option pp.maxSteps 400
set_option pp.deepTerms false
/-! Texts that are parted at one sign and put together again. -/
namespace Xtx
open PySem PySem.Spec PyProof.Rows L2
open PySem.StrLaws PySem.Builtin PySem.Builtin.Str
/-- one sign -/
abbrev s1 (c : Nat) : Str := ⟨#[c]⟩
theorem occ_all (s : Str) (c limit : Nat) : ∀ (n a : Nat) (st : Array Nat × Nat), st.2 ≤ a → st.1.size + n ≤ limit →
    (forIn (List.range' a n) st (occBody s (s1 c) s.length limit)).run.fst.toList = st.1.toList ++ (List.range' a n).filter (fun i => decide (s.cps.toList[i]? = some c))
  | 0, a, st, _, _ => by
    show st.1.toList = st.1.toList ++ []
    rw [List.append_nil]
  | n + 1, a, st, h1, h2 => by
    rw [List.range'_succ, List.forIn_cons, List.filter_cons]
    unfold occBody
    by_cases e : s.cps.toList[a]? = some c
    · have w := (subAt_one s c a).mpr e
      rw [if_pos ⟨⟨⟨by omega, h1⟩, w.1⟩, w.2⟩, if_pos (decide_eq_true e)]
      have ih := occ_all s c limit n (a + 1) (st.1.push a, a + 1) (Nat.le_refl _) (by rw [Array.size_push]; omega)
      refine (show _ = _ from ih).trans ?_
      rw [Array.toList_push, List.append_assoc]
      rfl
    · have w : ¬ (((st.1.size < limit ∧ st.2 ≤ a) ∧ a + (s1 c).length ≤ s.length) ∧ subAt s (s1 c) a = true) := fun z => e ((subAt_one s c a).mp ⟨z.1.2, z.2⟩)
      rw [if_neg w, if_neg (fun z => e (of_decide_eq_true z))]
      exact occ_all s c limit n (a + 1) (st.1, st.2) (by omega) (by show st.1.size + n ≤ limit; omega)
/-- where a sign stands -/
def cuts (s : Str) (c : Nat) : List Nat := (List.range' 0 s.length).filter fun i => decide (s.cps.toList[i]? = some c)
theorem occ_cuts (s : Str) (c : Nat) : occurrences s (s1 c) 0 s.length (s.length + 1) = cuts s c := by
  rw [occ_eq, occ_all s c (s.length + 1) (s.length + 1 - 0) 0 (#[], 0) (Nat.le_refl _) (by simp)]
  unfold cuts
  rw [show s.length + 1 - 0 = s.length + 1 from rfl, List.range'_concat, List.filter_append]
  have e : s.cps.toList[0 + 1 * s.length]? ≠ some c := fun z => by
    have := (List.getElem?_eq_some_iff.mp z).1
    have l : s.length = s.cps.toList.length := rfl
    omega
  rw [List.filter_cons, if_neg (fun z => e (of_decide_eq_true z))]
  simp
/-- without the sign -/
def Fr (c : Nat) (s : Str) : Prop := c ∉ s.cps.toList
theorem zip_free (s : Str) (c : Nat) : ∀ (cs : List Nat) (a : Nat), cs.Pairwise (· < ·) → (∀ i ∈ cs, a ≤ i) → (∀ k, a ≤ k → s.cps.toList[k]? = some c → k ∈ cs) →
    ∀ p ∈ (a :: cs.map (· + 1)).zip (cs ++ [s.length]), Fr c (strSub s p.1 p.2)
  | [], a, _, _, h3, p, hp => by
    simp only [List.map_nil, List.nil_append, List.zip_cons_cons, List.zip_nil_right, List.mem_singleton] at hp
    rw [hp]
    intro m
    rw [strSub_toList] at m
    obtain ⟨k, e⟩ := List.mem_iff_getElem?.mp (List.mem_of_mem_take m)
    rw [List.getElem?_drop] at e
    cases h3 (a + k) (by omega) e
  | i :: cs, a, h1, h2, h3, p, hp => by
    obtain ⟨p1, p2⟩ := List.pairwise_cons.mp h1
    simp only [List.map_cons, List.cons_append, List.zip_cons_cons] at hp
    rcases List.mem_cons.mp hp with e | m
    · rw [e]
      intro m
      rw [strSub_toList] at m
      obtain ⟨k, e⟩ := List.mem_iff_getElem?.mp m
      rw [List.getElem?_take] at e
      split at e
      · rename_i lt
        rw [List.getElem?_drop] at e
        rcases List.mem_cons.mp (h3 (a + k) (by omega) e) with z | z
        · omega
        · have := p1 _ z
          omega
      · cases e
    · refine zip_free s c cs (i + 1) p2 (fun j hj => p1 j hj) (fun k hk e => ?_) p m
      have ai := h2 i List.mem_cons_self
      rcases List.mem_cons.mp (h3 k (by omega) e) with z | z
      · omega
      · exact z
theorem parts_free (s : Str) (c : Nat) : ∀ t ∈ partsBetween s (cuts s c) 1, Fr c t := fun t ht => by
  unfold partsBetween at ht
  obtain ⟨p, hp, rfl⟩ := List.mem_map.mp ht
  refine zip_free s c (cuts s c) 0 ?_ (fun i _ => Nat.zero_le i) (fun k _ e => ?_) p hp
  · exact List.Pairwise.filter _ (List.pairwise_lt_range')
  · have hk := (List.getElem?_eq_some_iff.mp e).1
    refine List.mem_filter.mpr ⟨?_, decide_eq_true e⟩
    rw [List.mem_range'_1]
    exact ⟨Nat.zero_le _, by show k < 0 + s.length; have l : s.length = s.cps.toList.length := rfl; omega⟩
theorem cut_one {c : Nat} : ∀ {p q r t : List Nat}, c ∉ p → c ∉ q → p ++ c :: r = q ++ c :: t → p = q ∧ r = t
  | [], [], _, _, _, _, e => ⟨rfl, (List.cons.inj e).2⟩
  | [], b :: q, _, _, _, h2, e => absurd (by rw [(List.cons.inj e).1]; exact List.mem_cons_self) h2
  | a :: p, [], _, _, h1, _, e => absurd (by rw [← (List.cons.inj e).1]; exact List.mem_cons_self) h1
  | a :: p, b :: q, _, _, h1, h2, e => by
    obtain ⟨e1, e2⟩ := List.cons.inj e
    obtain ⟨e3, e4⟩ := cut_one (fun z => h1 (List.mem_cons_of_mem _ z)) (fun z => h2 (List.mem_cons_of_mem _ z)) e2
    exact ⟨by rw [e1, e3], e4⟩
theorem str_eq {x y : Str} (h : x.cps.toList = y.cps.toList) : x = y := by
  cases x; cases y
  exact congrArg Str.mk (Array.toList_inj.mp h)
theorem join_one (c : Nat) (x y : Str) (r : List Str) : (Str.join (s1 c) (x :: y :: r)).cps.toList = x.cps.toList ++ c :: (Str.join (s1 c) (y :: r)).cps.toList := by
  show (x ++ s1 c ++ Str.join (s1 c) (y :: r)).cps.toList = _
  rw [Str.cps_append, Array.toList_append, Str.cps_append, Array.toList_append, List.append_assoc]
  rfl
/-- rows without the sign are told by their text -/
theorem join_inj {c : Nat} : ∀ {ps qs : List Str}, ps ≠ [] → qs ≠ [] → (∀ p ∈ ps, Fr c p) → (∀ q ∈ qs, Fr c q) → Str.join (s1 c) ps = Str.join (s1 c) qs → ps = qs
  | [], _, h, _, _, _, _ => absurd rfl h
  | _ :: _, [], _, h, _, _, _ => absurd rfl h
  | [p], [q], _, _, _, _, e => by
    have e2 : p = q := e
    rw [e2]
  | [p], q :: q2 :: qs, _, _, hp, hq, e => by
    have w := congrArg (fun s : Str => s.cps.toList) e
    rw [join_one] at w
    refine absurd ?_ (hp p List.mem_cons_self)
    show c ∈ p.cps.toList
    have w2 : p.cps.toList = q.cps.toList ++ c :: (Str.join (s1 c) (q2 :: qs)).cps.toList := w
    rw [w2]
    exact List.mem_append_right _ List.mem_cons_self
  | p :: p2 :: ps, [q], _, _, hp, hq, e => by
    have w := congrArg (fun s : Str => s.cps.toList) e
    rw [join_one] at w
    refine absurd ?_ (hq q List.mem_cons_self)
    show c ∈ q.cps.toList
    have w2 : p.cps.toList ++ c :: (Str.join (s1 c) (p2 :: ps)).cps.toList = q.cps.toList := w
    rw [← w2]
    exact List.mem_append_right _ List.mem_cons_self
  | p :: p2 :: ps, q :: q2 :: qs, _, _, hp, hq, e => by
    have w := congrArg (fun s : Str => s.cps.toList) e
    rw [join_one, join_one] at w
    obtain ⟨e1, e2⟩ := cut_one (hp p List.mem_cons_self) (hq q List.mem_cons_self) w
    have ih := join_inj (List.cons_ne_nil p2 ps) (List.cons_ne_nil q2 qs) (fun z hz => hp z (List.mem_cons_of_mem _ hz)) (fun z hz => hq z (List.mem_cons_of_mem _ hz)) (str_eq e2)
    rw [str_eq e1, ih]
theorem kind1 {c : Nat} (hc : c < 256) : Builtin.Str.strKind (s1 c) = 1 := by
  unfold Builtin.Str.strKind
  rw [if_pos]
  simp [hc]
theorem kind_le (x : Str) : 1 ≤ Builtin.Str.strKind x := by
  unfold Builtin.Str.strKind
  split
  · exact Nat.le_refl _
  · split <;> decide
theorem join_ne {c : Nat} {a b : Str} {r : List Str} : 1 ≤ (Str.join (s1 c) (a :: b :: r)).length := by
  have w := congrArg List.length (join_one c a b r)
  rw [List.length_append, List.length_cons] at w
  show 1 ≤ (Str.join (s1 c) (a :: b :: r)).cps.toList.length
  omega
/-- text.split(sign) of rows put together -/
theorem split_join {c : Nat} (hc : c < 256) {ls : List Str} (ne : ls ≠ []) (fr : ∀ t ∈ ls, Fr c t) : Txt.split (Str.join (s1 c) ls) (s1 c) = ls := by
  obtain ⟨x, ex⟩ : ∃ x, Str.join (s1 c) ls = x := ⟨_, rfl⟩
  rw [ex]
  have one : ls.length = 1 ∨ 1 ≤ x.length := by
    match ls, ne, ex with
    | [a], _, _ => exact .inl rfl
    | a :: b :: r, _, ex => exact .inr (by rw [← ex]; exact join_ne)
  have ck : cuts x c = [] → [x] = ls := fun e => by
    have fx : Fr c x := fun m => by
      obtain ⟨k, hk⟩ := List.mem_iff_getElem?.mp m
      have hl := (List.getElem?_eq_some_iff.mp hk).1
      have : k ∈ cuts x c := List.mem_filter.mpr ⟨by rw [List.mem_range'_1]; exact ⟨Nat.zero_le _, by show k < 0 + x.length; have l : x.length = x.cps.toList.length := rfl; omega⟩, decide_eq_true hk⟩
      rw [e] at this
      cases this
    exact join_inj (List.cons_ne_nil _ _) ne (fun z hz => by rw [List.mem_singleton.mp hz]; exact fx) fr ex.symm
  unfold Txt.split
  by_cases c1 : (decide (x.length < (s1 c).length) || decide (Builtin.Str.strKind x < Builtin.Str.strKind (s1 c))) = true
  · rw [if_pos c1]
    refine ck ?_
    rw [kind1 hc, Bool.or_eq_true, decide_eq_true_eq, decide_eq_true_eq] at c1
    have k1 := kind_le x
    rcases c1 with z | z
    · have z2 : x.length < 1 := z
      unfold cuts
      rw [show x.length = 0 by omega]
      rfl
    · omega
  · rw [if_neg c1, occ_cuts]
    by_cases c2 : (cuts x c).isEmpty = true
    · rw [if_pos c2]
      exact ck (List.isEmpty_iff.mp c2)
    · rw [if_neg c2]
      show partsBetween x (cuts x c) 1 = ls
      have g := glued_between_self x (s1 c) (x.length + 1)
      rw [occ_cuts, glued_eq_join] at g
      refine join_inj (c := c) ?_ ne (parts_free x c) fr (g.trans ex.symm)
      unfold partsBetween
      intro z
      have w := congrArg List.length z
      simp at w
/-! strip, lstrip, rstrip -/
theorem drop_while (p : Nat → Bool) : ∀ l : List Nat, l.drop (l.takeWhile p).length = l.dropWhile p
  | [] => rfl
  | a :: r => by
    rw [List.takeWhile_cons, List.dropWhile_cons]
    split
    · rw [List.length_cons, List.drop_succ_cons, drop_while p r]
    · rfl
theorem take_while (p : Nat → Bool) (l : List Nat) : l.take (l.length - (l.reverse.takeWhile p).length) = (l.reverse.dropWhile p).reverse := by
  rw [← drop_while p l.reverse, List.reverse_drop, List.reverse_reverse, List.length_reverse]
theorem while_le (p : Nat → Bool) : ∀ l : List Nat, (l.takeWhile p).length ≤ l.length
  | [] => Nat.le_refl _
  | a :: r => by
    rw [List.takeWhile_cons]
    split
    · have := while_le p r
      simp only [List.length_cons]
      omega
    · exact Nat.zero_le _
theorem strip_list (goes : Nat → Bool) (l r : Bool) (x : Str) : (Txt.stripBy goes l r x).cps.toList =
    (if r = true then (((if l = true then x.cps.toList.dropWhile goes else x.cps.toList).reverse.dropWhile goes).reverse) else (if l = true then x.cps.toList.dropWhile goes else x.cps.toList)) := by
  have lx : x.length = x.cps.toList.length := rfl
  have e1 : x.cps.toList.drop (stripLo goes l x) = (if l = true then x.cps.toList.dropWhile goes else x.cps.toList) := by
    unfold stripLo
    cases l with
    | true => rw [if_pos rfl, if_pos rfl]; exact drop_while goes _
    | false => rw [if_neg Bool.false_ne_true, if_neg Bool.false_ne_true]; rfl
  have llo : stripLo goes l x ≤ x.cps.toList.length := by
    unfold stripLo
    cases l with
    | true => rw [if_pos rfl]; exact while_le goes _
    | false => rw [if_neg Bool.false_ne_true]; exact Nat.zero_le _
  have e2 : (strSub x (stripLo goes l x) (stripHi goes r x (stripLo goes l x))).cps.toList = (if r = true then (((if l = true then x.cps.toList.dropWhile goes else x.cps.toList).reverse.dropWhile goes).reverse) else (if l = true then x.cps.toList.dropWhile goes else x.cps.toList)) := by
    rw [strSub_toList, ← e1]
    have ly : (x.cps.toList.drop (stripLo goes l x)).length = x.cps.toList.length - stripLo goes l x := List.length_drop
    unfold stripHi
    cases r with
    | true =>
      rw [if_pos rfl, if_pos rfl, ← take_while goes, ly, lx]
      congr 1
      omega
    | false =>
      rw [if_neg Bool.false_ne_true, if_neg Bool.false_ne_true, lx]
      exact List.take_of_length_le (by rw [ly]; exact Nat.le_refl _)
  unfold Txt.stripBy
  split
  · rename_i h
    unfold stripSame at h
    rw [Bool.and_eq_true, beq_iff_eq, beq_iff_eq] at h
    rw [← e2, h.1] at *
    rw [h.2, strSub_toList, List.drop_zero, Nat.sub_zero, lx, List.take_length]
  · exact e2
def bl (c : Nat) : Bool := (" " : Str).cps.contains c
theorem bl_iff (c : Nat) : bl c = decide (c = 32) := by
  unfold bl
  rw [show (" " : Str).cps = #[32] by decide +kernel, Bool.eq_iff_iff, decide_eq_true_iff]
  simp
theorem rs_list (x : Str) : (Txt.rstripChars x " ").cps.toList = (x.cps.toList.reverse.dropWhile bl).reverse := by
  unfold Txt.rstripChars
  rw [strip_list]
  rfl
theorem ls_list (x : Str) : (Txt.lstripChars x " ").cps.toList = x.cps.toList.dropWhile bl := by
  unfold Txt.lstripChars
  rw [strip_list]
  rfl
theorem st_list (x : Str) : (Txt.stripChars x " ").cps.toList = ((x.cps.toList.dropWhile bl).reverse.dropWhile bl).reverse := by
  unfold Txt.stripChars
  rw [strip_list]
  rfl
/-- blanks ahead are taken off -/
theorem ls_blanks (n : Nat) {y : Str} (h : y.cps.toList.head? ≠ some 32) : (Txt.lstripChars ⟨(List.replicate n 32 ++ y.cps.toList).toArray⟩ " ") = y := by
  refine str_eq ?_
  rw [ls_list]
  show (List.replicate n 32 ++ y.cps.toList).dropWhile bl = y.cps.toList
  induction n with
  | zero =>
    rw [List.replicate_zero, List.nil_append]
    cases e : y.cps.toList with
    | nil => rfl
    | cons a r =>
      rw [e] at h
      have ha : a ≠ 32 := fun z => h (by rw [z]; rfl)
      rw [List.dropWhile_cons, bl_iff, decide_eq_false ha]
      rfl
  | succ n ih =>
    rw [List.replicate_succ, List.cons_append, List.dropWhile_cons, bl_iff, decide_eq_true rfl]
    exact ih
end Xtx
set_option Elab.async false
set_option linter.all false
set_option maxRecDepth 100000
set_option maxHeartbeats 4000000
set_option pp.maxSteps 400
set_option pp.deepTerms false
/-! text * int, of any text and any small number from nought on -/
namespace Xrep
open PySem PySem.Spec PyProof.Rows L2
/-- a text so many times -/
def rep (z : Str) (n : Nat) : Str := ⟨(List.replicate n z.cps.toList).flatten.toArray⟩
theorem rep_list (z : Str) (n : Nat) : (rep z n).cps.toList = (List.replicate n z.cps.toList).flatten := by
  unfold rep
  rw [List.toList_toArray]
theorem rep_len (z : Str) (n : Nat) : (rep z n).length = n * z.length := by
  show ((List.replicate n z.cps.toList).flatten.toArray).size = _
  rw [List.size_toArray, List.length_flatten, List.map_replicate, List.sum_replicate_nat]
  rfl
theorem fold_app : ∀ (xs : List (Array Nat)) (a : Array Nat), (xs.foldl (· ++ ·) a).toList = a.toList ++ (xs.map (·.toList)).flatten
  | [], a => by simp
  | x :: r, a => by
    rw [List.foldl_cons, fold_app r (a ++ x), Array.toList_append, List.map_cons, List.flatten_cons, List.append_assoc]
theorem fold_rep (z : Str) (n : Nat) : (⟨(List.replicate n z.cps).foldl (· ++ ·) #[]⟩ : Str) = rep z n := by
  have e := fold_app (List.replicate n z.cps) #[]
  rw [List.nil_append, List.map_replicate] at e
  unfold rep
  rw [← e]
section
variable {X : Cx}
theorem op_rep : OpR X (binaryOp .Mult) (fun x y H Q => ∃ (z : Str) (n : Nat), x = .str z ∧ y = .int (n : Nat) ∧ n ≤ 1000 ∧ z.length ≤ 1000 ∧ Q (.str (rep z n)) H) := by
  intro pins s σ H x y v u Q I rx ry h
  obtain ⟨z, n, rfl, rfl, hn, hz, q⟩ := h
  obtain ⟨t, rfl⟩ := rx
  obtain ⟨t2, rfl⟩ := ry
  have big : z.length * n ≤ 1000000 := Nat.le_trans (Nat.mul_le_mul hz hn) (by decide)
  have r0 : (decide (((n : Nat) : Int) < -(2 ^ 63 : Int)) || decide (((n : Nat) : Int) ≥ 2 ^ 63)) = false := by
    rw [decide_eq_false (show ¬ ((n : Nat) : Int) < -(2 ^ 63 : Int) by omega), decide_eq_false (show ¬ ((n : Nat) : Int) ≥ 2 ^ 63 by omega)]
    rfl
  have tl : Builtin.Str.tooLong (z.length * ((n : Nat) : Int).toNat) = false := by
    show decide (z.length * n > sizeLine) = false
    have : sizeLine = 16777216 := by decide
    exact decide_eq_false (by omega)
  refine PySem.P.mul_str r0 (fun h1 _ => ?_) (fun _ _ => tl) ?_
  · have p : (1 : Int) ≤ (n : Int) := by omega
    have d : (1000 : Int) ≤ (2 ^ 63 - 1) / (n : Int) := by
      refine Int.le_ediv_of_mul_le (by omega) ?_
      have : (1000 : Int) * (n : Int) ≤ 1000000 := by omega
      omega
    omega
  · by_cases h1 : ((n : Nat) : Int) < 1
    · rw [if_pos h1]
      have n0 : n = 0 := by omega
      subst n0
      exact ⟨by decide +kernel, .str Str.empty, H, I.tok _, ⟨_, rfl⟩, q⟩
    · rw [if_neg h1]
      by_cases h2 : (((n : Nat) : Int) == 1 || z.length == 0) = true
      · rw [if_pos h2]
        have e : z = rep z n := by
          rw [Bool.or_eq_true, beq_iff_eq, beq_iff_eq] at h2
          obtain ⟨c⟩ := z
          unfold rep
          rcases h2 with h2 | h2
          · have n1 : n = 1 := by omega
            subst n1
            simp
          · have ce : c = #[] := Array.eq_empty_of_size_eq_zero h2
            subst ce
            simp
        rw [← e] at q
        exact ⟨.str z, H, I, ⟨_, rfl⟩, q⟩
      · rw [if_neg h2]
        have ft : (rep z n).length ≤ sizeLine := by
          rw [rep_len]
          have : sizeLine = 16777216 := by decide
          have : n * z.length = z.length * n := Nat.mul_comm _ _
          omega
        rw [show ((n : Nat) : Int).toNat = n from rfl, fold_rep]
        exact ⟨ft, .str _, H, I.tok _, ⟨_, rfl⟩, q⟩
end
end Xrep
set_option Elab.async false
set_option linter.all false
set_option maxRecDepth 100000
set_option maxHeartbeats 4000000
namespace K66
open PySem PySem.Spec PyProof.Rows L2
/-! ## defs that show things: promises where no showing is under way -/
structure Gn (P : Program) (w : World) (K : PySem.W.Frag) (mg : Str → Option Value) (base : Heap) (k : Nat) (f : Addr) (fd : FuncData) (ps : List Str) (sp : Sp) : Prop where
  many : ∀ vs H Q E, sp vs H Q E → vs.length = ps.length
  go : ∀ (A : Around) (outer : List Env) (s : Shared) (H : Hp) (args : Args) (us : List Value) (vs : List V) (Q : VK) (E : XK), A.guards = some [] → Room k A →
    Env0 P w K mg base A outer s H → BindsTo s fd args (ps.zip us) → Vals vs us → sp vs H Q E → codeAny (model P w) A (.call (.ref f) args) (CR CX0 outer P w H s Q E) s
section
variable {P : Program} {w : World} {K : PySem.W.Frag} {mg : Str → Option Value} {base : Heap}
theorem gn_body {x qual : Str} {st : Stmt} {f : Addr} {fd : FuncData} {N ps : List Str} {k : Nat} {sp : Sp} (F : Fun K x qual st f fd) (S : FnScope N ps (defScope st))
    (many : ∀ vs H Q E, sp vs H Q E → vs.length = ps.length)
    (body : ∀ (cdv : Value) (A : Around) (outer : List Env) (s : Shared) (H : Hp) (vs : List V) (Q : VK) (E : XK), A.guards = some [] →
      Room k (A.deeper (envOfC qual (defScope st) s.heap.objs.size f cdv)) → sp vs H Q E →
      ∃ t, PSs (cxOf CX0 P w K mg base N qual (defScope st) f cdv A outer s H E).nox (defBody st) t ∧ t { nx := fun _ H' => Q .non H', rt := Q } (start N vs) H) :
    Gn P w K mg base (k + 1) f fd ps sp := by
  obtain ⟨oc, od, kV, doc, pm, an, cdv, ct, osl, rfl, lk, hcd⟩ := F.ex
  refine ⟨many, fun A outer s H args us vs Q E hg room en bd rv hsp => ?_⟩
  have kin : K.In s.heap := en.mod.kin.keeps fun b o q => (en.bs b o q).1
  refine Att.call_fn kin (en.mod.nolimit.keeps fun b o q => (en.bs b o q).1) lk hcd room.depth bd ?_ (fun s1 inc => ?_) S.co S.gen S.kind
  · refine List.all_eq_true.mpr fun y hy => ?_
    rcases S.par y.1 (List.of_mem_zip (a := y.1) (b := y.2) hy).1 with q | q
    · rw [q]; rfl
    · rw [q]; rfl
  · obtain ⟨t, ht, hq⟩ := body cdv A outer s H vs Q E hg (room.deeper _) hsp
    have I := inv_start (CX := CX0) (E := E) S room.hd en (many _ _ _ _ hsp) rv inc
    refine wpAny_mono (ht.nox.run [] s1 _ H _ I hq) (fun fl s' hs => ?_) fun _ _ z => z
    cases fl with
    | ret u =>
      obtain ⟨v, _, H', J, r, q⟩ := hs
      exact ⟨v, H', J.os, J.bare, J.base, J.hok, r, q⟩
    | next =>
      obtain ⟨_, H', J, q⟩ := hs
      exact ⟨.non, H', J.os, J.bare, J.base, J.hok, rfl, q⟩
    | brk =>
      obtain ⟨_, _, _, z⟩ := hs
      exact False.elim z
    | cont =>
      obtain ⟨_, _, _, z⟩ := hs
      exact False.elim z
end
section
variable {X : Cx} {k : Nat} {f : Addr} {fd : FuncData} {ps : List Str} {sp : Sp} {x : Str} {p pos : Pos} {e : Expr} {es : List Expr} {t : TA}
theorem pe_gn (F : Gn X.prog X.w X.K X.mg X.base k f fd ps sp) (quiet : X.A.guards = some []) (room : Room k X.A) (gl : Gl X x) (mgf : X.mg x = some (.ref f))
    (kp : PySem.W.keepIn X.K (.ref f) = true) (bd : Binds X.K fd ps []) (ha : PA X (e :: es) t) (hdb : (x == ("__debug__" : Str)) = false := by decide)
    (he : starEach (e :: es) X.env = (false, eval e X.env) :: starEach es X.env := by rfl) (hpl : (backTo pos (starEach es X.env)).any (·.1) = false := by rfl) :
    PE X (.Call (.Name x p) (e :: es) [] pos) (tCall sp [] E0 t) := by
  refine ⟨fun pins s σ H Q I h => wpAny_Call_Name_kw (ld_glob I gl mgf ?_ hdb)⟩
  refine PySem.W.callWith_K (h₀ := X.base) I.ok.mod.kin kp ?_ he hpl
  refine thn (ha.run pos pins s σ H _ I h) fun us s1 z => ?_
  obtain ⟨vs, H1, I1, rv, q⟩ := z
  have q' : sp vs H1 Q E0 := by
    have z := q
    rw [List.append_nil] at z
    exact z
  have many : us.length = ps.length := rv.length.symm.trans (F.many _ _ _ _ q')
  have b1 := bd s1 us I1.kIn (by rw [List.append_nil]; exact many)
  rw [List.append_nil] at b1
  refine ⟨I1.kIn, wpAny_call (codeAny_mono (F.go X.A X.stack s1 H1 ⟨us, []⟩ us vs Q E0 quiet room I1.env0 b1 rv q') fun r s' hr => ?_)⟩
  cases r with
  | error z => exact False.elim hr
  | ok fl =>
    cases fl with
    | ret u => exact I1.after hr
    | next => exact False.elim hr
    | brk => exact False.elim hr
    | cont => exact False.elim hr
/-- repr of data at any depth -/
theorem cr_reprD (quiet : X.A.guards = some []) (room : Room k X.A) : CallR X (.builtin "repr") (fun xs H Q => ∃ (a : Addr) (d : PyData), xs = [.ref a] ∧ Dp X.K H (.ref a) d ∧ d.showable = true ∧ d.hasDict = false ∧
    d.depth ≤ 50 ∧ d.shown.length ≤ sizeLine ∧ Q (.str d.shown) H) := by
  intro pins s σ H xs us Q I r h
  obtain ⟨a, d, rfl, hd, hs, hn, hp, hz, q⟩ := h
  obtain ⟨u, rfl, rx⟩ := vals1 r
  obtain ⟨as, rd⟩ := Dp.reads I d _ u hd rx
  cases rx
  have hu := room.units
  exact repr_of_reads' rd hs (fun z => absurd (hn.symm.trans z) Bool.false_ne_true) quiet (by omega) (fun _ _ z => z) (fun h' u tk kept => ⟨.str d.shown, H, I.kept kept, ⟨u, rfl⟩, q⟩) hz
theorem cr_repr_bl : CallR X (.builtin "repr") (fun xs H Q => ∃ b : Bool, xs = [.bl b] ∧ Q (.str (if b then "True" else "False")) H) := by
  intro pins s σ H xs us Q I r h
  obtain ⟨b, rfl, q⟩ := h
  obtain ⟨u, rfl, rx⟩ := vals1 r
  cases rx
  exact PySem.P.repr_of_bool ⟨.str _, H, I.tok _, ⟨_, rfl⟩, q⟩
end
end K66
set_option Elab.async false
set_option linter.all false
set_option maxRecDepth 100000
set_option maxHeartbeats 4000000
namespace K66
open PySem PySem.Spec PyProof.Rows L2
theorem law_go {P : Program} {w : World} {K : PySem.W.Frag} {mg mb : Str → Option Value} {k : Nat} {fa a : Addr} {fd : FuncData} {x : Str} {sp : Sp} {z : Shared} {vs : List Value} {ns : List Int}
    (kin : K.In z.heap) (nsG : z.heap.Ns mainGlobals mg) (nsB : z.heap.Ns builtinsNs mb) (same : ∀ y : Str, y ≠ "__name__" → mb y = bootBuiltins y) (lim : z.heap.NoLimit) (dig : z.heap.NoDigits) (no : z.gens = #[])
    (at_ : z.heap.get? a = some { cls := .type "list", data := .seq vs.toArray }) (intsA : IntsAre vs ns) (many : ns.length ≤ sizeLine) (room : Room k callerA)
    (F : ∀ base : Heap, K.In base → base.Ns mainGlobals mg → base.NoDigits → Gn P w K mg base k fa fd [x] sp) (bind : ∀ (s : Shared) (u : Value), BindsTo s fd ⟨[u], []⟩ [(x, u)])
    (hsp : ∀ H : Hp, SqL K H a (ns.map V.int) → sp [.ref a] H (fun v _ => v = .bl true) fun _ _ _ => False) :
    codeAny (model P w) callerA (.call (.ref fa) ⟨[.ref a], []⟩) (fun r s' => r = .ok (.ret (.bool true)) ∧ OldK z.heap s'.heap ∧ s'.os = z.os ∧ AllBare s'.gens) z := by
  have rv : Vals (ns.map V.int) vs := vals_ints intsA
  have sz : (ns.map V.int).length ≤ sizeLine := by rw [List.length_map]; exact many
  -- what is tracked: the script, unless it is the module's own
  let u : HO := .frz { cls := .type "list", data := .seq vs.toArray } (.lst (ns.map V.int))
  let H : Hp := fun b => if b = a ∧ K.lookup a = none then some u else none
  have only : ∀ b o, H b = some o → b = a ∧ K.lookup a = none ∧ o = u := fun b o e => by
    by_cases c : b = a ∧ K.lookup a = none
    · have e2 : H b = some u := if_pos c
      rw [e2] at e
      exact ⟨c.1, c.2, (Option.some.inj e).symm⟩
    · have e2 : H b = none := if_neg c
      rw [e2] at e
      cases e
  have sq : SqL K H a (ns.map V.int) := by
    cases hk : K.lookup a with
    | none => exact .inl (.inr ⟨_, if_pos ⟨rfl, hk⟩⟩)
    | some o =>
      have e := kin a o hk
      rw [at_] at e
      cases e
      exact .inr ⟨_, vs.toArray, _, hk, rfl, rfl, rfl, by rw [List.size_toArray, ← rv.length]; exact sz, by simpa using rv⟩
  have hok : HOk P w H z.heap := fun b o e => by
    obtain ⟨rfl, _, rfl⟩ := only b o e
    exact ⟨at_, sz, vs, _, rv, at_⟩
  have dictFree : ∀ {b : Addr} {o : Obj} {es : Array DictEntry} {ep : Nat}, z.heap.get? b = some o → o.data = .dict es ep → H b = none := fun {b o es ep} e d => by
    cases q : H b with
    | none => rfl
    | some v =>
      obtain ⟨rfl, _, _⟩ := only b v q
      rw [at_] at e
      cases e
      cases (show Data.seq vs.toArray _ = Data.dict es ep from d)
  have nsK : ∀ {b : Addr} {m : Str → Option Value}, z.heap.Ns b m → (hidT z.heap H).Ns b m := fun {b m} q => by
    obtain ⟨o, es, ep, e, d, r⟩ := q
    exact ⟨o, es, ep, hidT_get e (dictFree e d), d, r⟩
  have kb : K.In (hidT z.heap H) := fun b o e => by
    refine hidT_get (kin b o e) ?_
    cases q : H b with
    | none => rfl
    | some v =>
      obtain ⟨rfl, n, _⟩ := only b v q
      rw [n] at e
      cases e
  have limB : (hidT z.heap H).NoLimit := by
    obtain ⟨mc, h1, h2⟩ := lim
    exact ⟨mc, nsK h1, h2⟩
  have digB : (hidT z.heap H).NoDigits := by
    obtain ⟨mc, h1, h2⟩ := dig
    exact ⟨mc, nsK h1, h2⟩
  have en : Env0 P w K mg (hidT z.heap H) callerA [] z H :=
    ⟨rfl, ⟨kb, nsK nsG, ⟨mb, nsK nsB, same⟩, limB⟩, fun _ _ e => of_hidT e, Nat.le_of_eq (hidT_size _ _), trivial, (fun b hb => absurd (show b ∈ ([] : List Addr) from hb) List.not_mem_nil), hok, .of_eq no⟩
  refine codeAny_mono ((F _ kb (nsK nsG) digB).go callerA [] z H ⟨[.ref a], []⟩ [.ref a] [.ref a] _ _ rfl room en (bind z (.ref a)) (.cons rfl .nil) (hsp H sq)) fun r s' h => ?_
  match r, h with
  | .error e, h => exact False.elim h
  | .ok .next, h => exact False.elim h
  | .ok .brk, h => exact False.elim h
  | .ok .cont, h => exact False.elim h
  | .ok (.ret y), h =>
    obtain ⟨v, H', os, bare, un, hok', r', q⟩ := h
    obtain rfl : v = .bl true := q
    obtain rfl : y = Value.bool true := r'
    refine ⟨rfl, OldK.of_keep fun b o e => ?_, os, bare⟩
    cases q : H b with
    | none => exact un.keep b o e q (fun y => by cases y) (fun y => by cases y)
    | some v =>
      obtain ⟨rfl, _, rfl⟩ := only b v q
      have e2 := (hok' _ _ (un.frzs _ _ _ q)).1
      rw [at_] at e
      cases e
      exact e2
theorem walk_go {l : PySem.W.OpenLaw} {n k : Nat} {q : Program} {loose : List Str} {XP : (Str → Option Value) → Heap → Prop} {YP : World → Heap → Prop} {d : DefRec} {K : Params → PySem.W.Frag} {sp : PySem.W.Frag → Sp} {x : Str}
    (most : l.most = some n) (small : n ≤ sizeLine) (nodef : d.params.defaults = []) (room : Room k callerA) (hY : ∀ (w : World) (h : Heap), YP w h → (K w.params).In h)
    (F : ∀ (w : World) (mg : Str → Option Value) (fa : Addr) (h : Heap), (K w.params).In h → h.Ns mainGlobals mg → mg d.name = some (.ref fa) →
      ∃ fd : FuncData, (∀ (s : Shared) (u : Value), BindsTo s fd ⟨[u], []⟩ [(x, u)]) ∧ ∀ base : Heap, (K w.params).In base → base.Ns mainGlobals mg → base.NoDigits →
        Gn l.prog w (K w.params) mg base k fa fd [x] (sp (K w.params)))
    (hsp : ∀ (K : PySem.W.Frag) (H : Hp) (a : Addr) (ns : List Int), ns.length ≤ n → SqL K H a (ns.map V.int) → sp K [.ref a] H (fun v _ => v = .bl true) fun _ _ _ => False) :
    PySem.W.WalkO q loose XP YP l.row.toRowW d [] (fun f vs => PySem.call f vs) := by
  refine Att.attach_call most nodef fun w s₀ s₁ mg mb fa o pm cd doc a vs ns G Y _ _ _ hmg hobj hints hlen hg => ?_
  have kin := hY w _ Y
  obtain ⟨fd, hb, hF⟩ := F w mg fa _ kin G.T.g hmg
  exact law_go kin G.T.g G.T.b G.T.builtins G.T.nolimit G.T.nodigits hg hobj hints (Nat.le_trans hlen small) room hF hb fun H hS => hsp _ H a ns hlen hS
end K66
set_option Elab.async false
set_option linter.all false
set_option maxRecDepth 100000
set_option maxHeartbeats 4000000
set_option pp.maxSteps 400
set_option pp.deepTerms false
namespace K66
open PySem PySem.Spec PyProof.Rows L2
/-! ## == by a class's own __eq__, either way about -/
/-- what the written part says of the class -/
structure OwnC (K : PySem.W.Frag) (C f : Addr) : Prop where
  eq : PySem.W.findIn K (.ref C) "__eq__" = some (some (.ref f))
  fn : PySem.W.isFn K (.ref f) = true
  ne : PySem.W.findIn K (.ref C) "__ne__" = some (some (.builtin "object.__ne__"))
  mo : PySem.W.mroIn K C (.type "object") = some true
  sInt : PySem.W.subIn K (.ref C) (.type "int") = some false
  sStr : PySem.W.subIn K (.ref C) (.type "str") = some false
  sNon : PySem.W.subIn K (.ref C) (.type "NoneType") = some false
  sTup : PySem.W.subIn K (.ref C) (.type "tuple") = some false
  sLst : PySem.W.subIn K (.ref C) (.type "list") = some false
section
variable {X : Cx} {pins : List (Addr × Obj)} {σ : L2.St} {H : Hp} {n : Nat} {f C : Addr} {fd : FuncData} {ps : List Str} {sp : Sp}
/-- the end of such a comparison: a truth -/
def BP (X : Cx) (pins : List (Addr × Obj)) (σ : L2.St) (Q : Bool → Hp → Prop) (u : Value) (s' : Shared) : Prop := ∃ b H', u = .bool b ∧ Inv X pins σ H' s' ∧ Q b H'
theorem own_call {A : Around} {s : Shared} {a : Addr} {y : V} {v : Value} {Q : Bool → Hp → Prop} {E : Value → Shared → Prop} (fr : A.frames = some X.stack) (room : Room n A) (F : FnOk X.prog X.w X.K X.mg X.base CX0 n f fd ps sp) (bd : Binds X.K fd ps [])
    (I : Inv X pins σ H s) (rv : RelV y v) (hsp : sp [.ref a, y] H (fun z H' => ∃ b, z = .bl b ∧ Q b H') E0) : wpAny (model X.prog X.w) A (call (.ref f) [.ref a, v]) (BP X pins σ Q) E s := by
  have en : Env0 X.prog X.w X.K X.mg X.base A X.stack s H := by
    have z := I.env0
    exact ⟨fr, z.mod, z.bs, z.bsz, z.funs, z.frf, z.hok, z.bare⟩
  have hl : [V.ref a, y].length = ps.length := F.len _ _ _ _ hsp
  have b1 := bd s [.ref a, v] I.kIn (by simpa using hl)
  rw [List.append_nil] at b1
  refine wpAny_call (codeAny_mono (F.run A X.stack s H ⟨[.ref a, v], []⟩ [.ref a, v] [.ref a, y] _ E0 room en b1 (.cons rfl (.cons rv .nil)) hsp) fun r s2 hr => ?_)
  match r, hr with
  | .error z, hr => exact False.elim hr
  | .ok .next, hr => exact False.elim hr
  | .ok .brk, hr => exact False.elim hr
  | .ok .cont, hr => exact False.elim hr
  | .ok (.ret u), hr =>
    obtain ⟨z, H2, I2, rz, b, rfl, q⟩ := I.after hr
    cases rz
    exact ⟨b, H2, rfl, I2, q⟩
theorem rc_L {A : Around} {s : Shared} {a dx : Addr} {fs : List (Str × V)} {y : V} {v tb : Value} {Q : Bool → Hp → Prop} {E : Value → Shared → Prop} (W : OwnC X.K C f) (fr : A.frames = some X.stack) (room : Room n A)
    (F : FnOk X.prog X.w X.K X.mg X.base CX0 n f fd ps sp) (bd : Binds X.K fd ps []) (I : Inv X pins σ H s) (ha : H a = some (.ins C dx fs)) (rv : RelV y v) (hb : PySem.W.Looks (model X.prog X.w) s.heap (typeOf v) tb)
    (nf : PySem.W.notFirst X.K C tb = true) (hsp : sp [.ref a, y] H (fun z H' => ∃ b, z = .bl b ∧ Q b H') E0) : wpAny (model X.prog X.w) A (richCompare .Eq (.ref a) v) (BP X pins σ Q) E s := by
  obtain ⟨mA, J, _⟩ := ins_get I.hok ha
  obtain ⟨od, J, _⟩ := J.look
  obtain ⟨m, hF⟩ := I.fr
  refine PySem.W.cmp_K (op := .Eq) room.units0 hF I.ok.mod.kin J hb nf W.eq W.fn (wpAny_mono (own_call fr room F bd I rv hsp) (fun u s' hu => ?_) fun _ _ z => z)
  obtain ⟨b, H', rfl, I', q⟩ := hu
  exact ⟨b, H', rfl, I', q⟩
/-- a builtin's own == has no answer, then the class's own is asked -/
theorem rc_R {A : Around} {s : Shared} {a dx : Addr} {fs : List (Str × V)} {y : V} {v : Value} {T id : String} {Q : Bool → Hp → Prop} {E : Value → Shared → Prop} (W : OwnC X.K C f) (fr : A.frames = some X.stack) (room : Room n A)
    (F : FnOk X.prog X.w X.K X.mg X.base CX0 n f fd ps sp) (bd : Binds X.K fd ps []) (I : Inv X pins σ H s) (ha : H a = some (.ins C dx fs)) (rv : RelV y v) (hT : s.TypeIs v T) (one : oneThing? .Eq v (.ref a) = none)
    (sub : PySem.W.subIn X.K (.ref C) (.type T) = some false) (slot : Slot T "__eq__" id) (dec : ∀ E', wpAny (model X.prog X.w) A (call (.builtin id) [v, .ref a]) (fun u s' => u = .notImplemented ∧ s' = s) E' s)
    (hsp : sp [.ref a, y] H (fun z H' => ∃ b, z = .bl b ∧ Q b H') E0) : wpAny (model X.prog X.w) A (richCompare .Eq v (.ref a)) (BP X pins σ Q) E s := by
  obtain ⟨mA, J, _⟩ := ins_get I.hok ha
  obtain ⟨od, J, _⟩ := J.look
  have two : wpAny (model X.prog X.w) A (tryCompare (.ref a) "__eq__" v) (fun r s' => ∃ u, r = some u ∧ BP X pins σ Q u s') E s := by
    unfold tryCompare
    refine wpAny_bind (PySem.W.ifBound_K I.kIn J W.eq W.fn (wpAny_mono (own_call fr room F bd I rv hsp) (fun u s' hu => ?_) fun _ _ z => z))
    obtain ⟨b, H', rfl, I', q⟩ := hu
    exact wpAny_pure ⟨_, rfl, b, H', rfl, I', q⟩
  have first : wpAny (model X.prog X.w) A (tryCompare v "__eq__" (.ref a)) (fun r s' => r = none ∧ s' = s) E s :=
    wpAny_tryCompare_declines hT slot (wpAny_mono (dec E) (fun u s' z => ⟨z.1, rfl, z.2⟩) fun _ _ z => z)
  simp only [richCompare, cmpInfo_Eq, one]
  refine wpAny_holding (wpAny_bind (wpAny_cRoomFor room.units0 ?_))
  refine wpAny_bind (wpAny_typeOf hT (wpAny_bind (J.type.here ?_)))
  split
  · refine wpAny_bind ((PySem.W.looks_subIn I.kIn sub).here ?_)
    simp only [Bool.false_eq_true, if_false, Bool.not_false, if_true]
    refine wpAny_bind (m := tryCompare v _ (.ref a)) (wpAny_mono first (fun r s1 z => ?_) fun _ _ e => e)
    obtain ⟨z1, z2⟩ := z
    subst z1
    subst z2
    refine wpAny_bind (m := tryCompare (.ref a) _ v) (wpAny_mono two (fun r s2 z => ?_) fun _ _ e => e)
    obtain ⟨u, rfl, q⟩ := z
    exact wpAny_pure q
  · rename_i q
    exact absurd (by simp) q
end
end K66
set_option Elab.async false
set_option linter.all false
set_option maxRecDepth 100000
set_option maxHeartbeats 4000000
set_option pp.maxSteps 400
set_option pp.deepTerms false
namespace K66
open PySem PySem.Spec PyProof.Rows L2
section
variable {prog : Program} {w : World} {A : Around} {E : Value → Shared → Prop} {s : Shared} {a C dx : Addr} {K : PySem.W.Frag} {ox : Obj} {od : Option Obj}
theorem dec_none : wpAny (model prog w) A (call (.builtin "NoneType.__eq__") [.none, .ref a]) (fun u s' => u = .notImplemented ∧ s' = s) E s := by
  refine GQ.call_here F.slot_NoneType_eq (T := "NoneType") rfl F.entry_NoneType_eq (F.args_NoneType_eq_2 _ _) ?_
  wp_walk
  exact ⟨rfl, rfl⟩
theorem dec_int {i : Int} {t : Tok} (ho : s.heap.get? a = some (PySem.W.instObj C dx)) : wpAny (model prog w) A (call (.builtin "int.__eq__") [.int i t, .ref a]) (fun u s' => u = .notImplemented ∧ s' = s) E s := by
  refine GQ.call_here F.slot_int_eq (typeIs_int _ _ _) F.entry_int_eq (F.args_int_eq_2 _ _) ?_
  wp_walk using wpAny_load ho
  exact ⟨rfl, rfl⟩
theorem dec_str {i : Str} {t : Tok} (ho : s.heap.get? a = some (PySem.W.instObj C dx)) : wpAny (model prog w) A (call (.builtin "str.__eq__") [.str i t, .ref a]) (fun u s' => u = .notImplemented ∧ s' = s) E s := by
  refine GQ.call_here F.slot_str_eq (typeIs_str _ _ _) F.entry_str_eq (F.args_str_eq_2 _ _) ?_
  wp_walk using wpAny_load ho
  exact ⟨rfl, rfl⟩
theorem isi_no {T : String} {Q : Bool → Shared → Prop} (J : PySem.W.InstAt s.heap a ox C od) (kin : K.In s.heap) (sub : PySem.W.subIn K (.ref C) (.type T) = some false) (h : Q false s) : wpAny (model prog w) A (isInstance (.ref a) (.type T)) Q E s := by
  unfold isInstance
  exact wpAny_bind (J.type.here ((PySem.W.looks_subIn kin sub).here h))
theorem dec_tup {t : Addr} (hT : s.TypeIs (.ref t) "tuple") (J : PySem.W.InstAt s.heap a ox C od) (kin : K.In s.heap) (sub : PySem.W.subIn K (.ref C) (.type "tuple") = some false) :
    wpAny (model prog w) A (call (.builtin "tuple.__eq__") [.ref t, .ref a]) (fun u s' => u = .notImplemented ∧ s' = s) E s := by
  refine GQ.call_here F.slot_tuple_eq hT F.entry_tuple_eq (F.args_tuple_eq_2 _ _) ?_
  wp_walk using isi_no J kin sub
  exact ⟨rfl, rfl⟩
theorem dec_lst {t : Addr} (hT : s.TypeIs (.ref t) "list") (J : PySem.W.InstAt s.heap a ox C od) (kin : K.In s.heap) (sub : PySem.W.subIn K (.ref C) (.type "list") = some false) :
    wpAny (model prog w) A (call (.builtin "list.__eq__") [.ref t, .ref a]) (fun u s' => u = .notImplemented ∧ s' = s) E s := by
  refine GQ.call_here F.slot_list_eq hT F.entry_list_eq (F.args_list_eq_2 _ _) ?_
  wp_walk using isi_no J kin sub
  exact ⟨rfl, rfl⟩
end
section
variable {X : Cx} {pins : List (Addr × Obj)} {σ : L2.St} {H : Hp} {n : Nat} {f C : Addr} {fd : FuncData} {ps : List Str} {sp : Sp}
/-- != of two instances -/
theorem rc_N {A : Around} {s : Shared} {a dx : Addr} {fs : List (Str × V)} {y : V} {v tb : Value} {Q : Bool → Hp → Prop} {E : Value → Shared → Prop} (W : OwnC X.K C f) (fr : A.frames = some X.stack) (room : Room (n + 1) A)
    (F : FnOk X.prog X.w X.K X.mg X.base CX0 n f fd ps sp) (bd : Binds X.K fd ps []) (I : Inv X pins σ H s) (ha : H a = some (.ins C dx fs)) (rv : RelV y v) (hb : PySem.W.Looks (model X.prog X.w) s.heap (typeOf v) tb)
    (nf : PySem.W.notFirst X.K C tb = true) (hsp : sp [.ref a, y] H (fun z H' => ∃ b, z = .bl b ∧ Q (!b) H') E0) : wpAny (model X.prog X.w) A (richCompare .NotEq (.ref a) v) (BP X pins σ Q) E s := by
  obtain ⟨mA, J, _⟩ := ins_get I.hok ha
  obtain ⟨od, J, _⟩ := J.look
  have inner : wpAny (model X.prog X.w) A.in1 (Builtin.«object.__ne__» ⟨[.ref a, v], []⟩) (fun fl s' => ∃ u, fl = .done (.ret u) ∧ u ≠ .notImplemented ∧ BP X pins σ Q u s') E s := by
    unfold Builtin.«object.__ne__»
    refine wpAny_bind (m := slotArgs "__ne__" 1 _) (wpAny_pure ?_)
    dsimp only
    refine wpAny_bind (wpAny_cRoomFor room.in1.units0 ?_)
    refine wpAny_bind (PySem.W.ifBound_K I.kIn J W.eq W.fn (wpAny_mono (own_call (A := A.in1) fr room.in1 F bd I rv hsp) (fun u s' hu => ?_) fun _ _ z => z))
    obtain ⟨b, H', rfl, I', q⟩ := hu
    dsimp only
    refine wpAny_bind (m := truthy (.bool b)) (wpAny_truthy_bool ?_)
    exact wpAny_pure ⟨_, rfl, by simp, !b, H', rfl, I', q⟩
  have call_ : wpAny (model X.prog X.w) A (call (.builtin "object.__ne__") [.ref a, v]) (fun u s' => u ≠ .notImplemented ∧ BP X pins σ Q u s') E s := by
    refine wpAny_call (codeAny_call_builtin PySem.F.cmp_object.ne.plain PySem.F.cmpEntry_ne (PySem.W.check_slot PySem.F.cmpKind_ne PySem.F.cmpSplit_ne (J.type.andThen (PySem.W.looks_mroIn I.kIn W.mo)) (PySem.F.cmpArgs_ne _ _) (wpAny_mono inner (fun fl s' z => ?_) fun _ _ z => z)))
    obtain ⟨u, rfl, z1, z2⟩ := z
    exact ⟨z1, z2⟩
  have one : wpAny (model X.prog X.w) A (tryCompare (.ref a) "__ne__" v) (fun r s' => ∃ u, r = some u ∧ BP X pins σ Q u s') E s := by
    unfold tryCompare
    refine wpAny_bind ?_
    simp only [callSpecialIfBound?, bindSpecialIfBound?]
    refine wpAny_holding (wpAny_bind (wpAny_bind (wpAny_bind (J.type.here ((PySem.W.looks_findIn I.kIn W.ne).here ?_)))))
    refine wpAny_bind (wpAny_askSetting (wpAny_ite ?_))
    have fin : wpAny (model X.prog X.w) A (call (.builtin "object.__ne__") ([.ref a] ++ [v]) >>= fun z => pure (some z)) (fun r s1 => wpAny (model X.prog X.w) A (match r with
        | some .notImplemented => pure none
        | none => pure none
        | some z => pure (some z)) (fun r s' => ∃ u, r = some u ∧ BP X pins σ Q u s') E s1) E s := by
      refine wpAny_bind (wpAny_mono call_ (fun u s' z => wpAny_pure ?_) fun _ _ z => z)
      obtain ⟨z1, b, H', rfl, z2⟩ := z
      exact wpAny_pure ⟨_, rfl, b, H', rfl, z2⟩
    split
    · exact wpAny_bind (wpAny_of_eq (PySem.F.cmp_object.ne.bind _) (wpAny_pure (by exact fin)))
    · exact wpAny_tryCatch (wpAny_bind (wpAny_of_eq (PySem.F.cmp_object.ne.bind _) (wpAny_pure (by exact fin))))
  unfold richCompare
  simp only [oneThing_ref]
  refine wpAny_holding (wpAny_bind (wpAny_cRoomFor room.units0 ?_))
  refine wpAny_bind (J.type.here (wpAny_bind (hb.here ?_)))
  split
  · rename_i d
    have no : PySem.W.subIn X.K tb (.ref C) = some false := by
      rcases Bool.or_eq_true_iff.mp nf with z | z
      · rw [beq_iff_eq.mp z] at d
        simp at d
      · exact beq_iff_eq.mp z
    refine wpAny_bind ((PySem.W.looks_subIn I.kIn no).here ?_)
    simp only [Bool.false_eq_true, if_false]
    refine wpAny_bind (m := tryCompare (.ref a) _ v) (wpAny_mono one (fun r s' z => ?_) fun _ _ z => z)
    obtain ⟨u, rfl, q⟩ := z
    exact wpAny_pure q
  · refine wpAny_bind (wpAny_pure ?_)
    simp only [Bool.false_eq_true, if_false]
    refine wpAny_bind (m := tryCompare (.ref a) _ v) (wpAny_mono one (fun r s' z => ?_) fun _ _ z => z)
    obtain ⟨u, rfl, q⟩ := z
    exact wpAny_pure q
end
end K66
set_option Elab.async false
set_option linter.all false
set_option maxRecDepth 100000
set_option maxHeartbeats 4000000
set_option pp.maxSteps 400
set_option pp.deepTerms false
namespace K66
open PySem PySem.Spec PyProof.Rows L2
open AutoSeq1 (wpAny_loadPart')
section
variable {prog : Program} {w : World} {A : Around}
theorem in_loop {l x : Addr} {as : List Addr} {e : Addr → Bool} {J : Nat → Shared → Prop} {Y : Shared → Prop} {R : Result → Shared → Prop} (hl : ∀ i s, J i s → ∃ n, s.heap.get? l = some { cls := .type "list", data := .seq (as.map Value.ref).toArray n })
    (turn : ∀ i c s, as[i]? = some c → J i s → wpAny (model prog w) A.in1 (eqBool (.ref c) (.ref x)) (fun r s' => r = e c ∧ (e c = true → Y s') ∧ (e c = false → J (i + 1) s')) (fun z s' => R (.error z) s') s)
    (yes : ∀ s, Y s → R (.ok (.ret (.bool true))) s) (no : ∀ s, J as.length s → R (.ok (.ret (.bool false))) s) (k : Nat) :
    ∀ i : Nat, as.length - i = k → i ≤ as.length → ∀ s, J i s → wpAny (model prog w) A.in1 (Builtin.«list.__contains__.loop» ⟨[.ref l, .ref x, rawInt i], []⟩) (GQ.FinOf prog w A R) (fun z s' => R (.error z) s') s := by
  induction k with
  | zero =>
    intro i hk hi s h
    obtain ⟨n, e1⟩ := hl i s h
    have he : i = as.length := by omega
    have fin := no s (he ▸ h)
    obtain ⟨hp, g, d, tk, os⟩ := s
    wp_walk using wpAny_loadPart' e1
    have none_ : (as.map Value.ref).toArray[((i : Nat) : Int).toNat]? = none := by simp; omega
    rw [none_]
    wp_walk
    exact fin
  | succ k ih =>
    intro i hk hi s h
    obtain ⟨n, e1⟩ := hl i s h
    have lt : i < as.length := by omega
    have ht := turn i as[i] s (List.getElem?_eq_getElem lt) h
    obtain ⟨hp, g, d, tk, os⟩ := s
    wp_walk using wpAny_loadPart' e1
    have some_ : (as.map Value.ref).toArray[((i : Nat) : Int).toNat]? = some (.ref as[i]) := by simp [lt]
    have hc : ((i : Int) + 1) = ((i + 1 : Nat) : Int) := by omega
    rw [some_]
    refine wpAny_bind (wpAny_mono ht (fun r s2 h2 => ?_) fun _ _ z => z)
    obtain ⟨hr, h3, h4⟩ := h2
    subst hr
    cases hb : e as[i] with
    | true =>
      have y2 := yes s2 (h3 hb)
      obtain ⟨hp2, g2, d2, tk2, os2⟩ := s2
      wp_walk
      exact y2
    | false =>
      have rec_ := ih (i + 1) (by omega) (by omega) s2 (h4 hb)
      obtain ⟨hp2, g2, d2, tk2, os2⟩ := s2
      wp_walk
      rw [hc]
      exact ⟨plainId_quiet MeetsSeq.plain_contains_loop _, codeAny_builtin MeetsSeq.entry_contains_loop (by
        rw [Around.under_plainId MeetsSeq.plain_contains_loop _]
        exact rec_)⟩
end
section
variable {X : Cx} {n : Nat} {f C : Addr} {fd : FuncData} {ps : List Str} {sp : Sp}
/-- what is asked of the items and of what is looked for -/
structure InD (sp : Sp) (C : Addr) (H : Hp) (a l : Addr) (as : List Addr) (e : Addr → Bool) : Prop where
  ha : ∃ dx fs, H a = some (.ins C dx fs)
  hl : H l = some (.lst (as.map V.ref))
  ne : ∀ c ∈ as, c ≠ a
  it : ∀ c ∈ as, ∃ dx fs, H c = some (.ins C dx fs)
  ask : ∀ c ∈ as, ∀ (H' : Hp) (Q : Bool → Hp → Prop), Same H H' → (∀ H2, Same H' H2 → Q (e c) H2) → sp [.ref c, .ref a] H' (fun z H2 => ∃ b, z = .bl b ∧ Q b H2) E0
theorem as_ref : ∀ {as : List Addr} {its : List Value}, Vals (as.map V.ref) its → its = as.map Value.ref
  | [], _, .nil => rfl
  | a :: as, _, .cons r t => by
    cases r
    rw [as_ref t]
    rfl
theorem contains_own (W : OwnC X.K C f) (room : Room (n + 2) X.A) (F : FnOk X.prog X.w X.K X.mg X.base CX0 n f fd ps sp) (bd : Binds X.K fd ps []) {pins : List (Addr × Obj)} {σ : L2.St} {H : Hp} {s : Shared} {a l : Addr} {as : List Addr} {e : Addr → Bool}
    {E : Value → Shared → Prop} {Q : Bool → Shared → Prop} (I : Inv X pins σ H s) (d : InD sp C H a l as e) (q : ∀ H' s', Inv X pins σ H' s' → Same H H' → Q (as.any e) s') :
    wpAny (model X.prog X.w) X.A (call (.builtin "list.__contains__") [.ref l, .ref a]) (fun u s' => ∃ b, u = .bool b ∧ Q b s') E s := by
  have at_ : ∀ {s' : Shared} {H' : Hp}, Inv X pins σ H' s' → Same H H' → ∃ n, s'.heap.get? l = some { cls := .type "list", data := .seq (as.map Value.ref).toArray n } := fun {s' H'} I' sm => by
    obtain ⟨_, its, m, r, e1⟩ := I'.hok l _ (sm _ _ d.hl)
    rw [as_ref r] at e1
    exact ⟨m, e1⟩
  obtain ⟨m0, e0⟩ := at_ I (Same.refl H)
  refine GQ.call_here PySem.F.slot_list_contains ⟨_, e0, rfl⟩ PySem.F.entry_list_contains (PySem.F.args_list_contains_2 _ _) ?_
  have loop := in_loop (prog := X.prog) (w := X.w) (A := X.A) (l := l) (x := a) (as := as) (e := e) (J := fun i s' => ∃ H', Inv X pins σ H' s' ∧ Same H H' ∧ (as.take i).any e = false) (Y := fun s' => ∃ H', Inv X pins σ H' s' ∧ Same H H' ∧ as.any e = true)
    (R := wants (fun u s' => ∃ b, u = .bool b ∧ Q b s') E) (fun i s' z => by
      obtain ⟨H', I', sm, _⟩ := z
      exact at_ I' sm) (fun i c s' hc z => ?_) (fun s' z => ?_) (fun s' z => ?_) as.length 0 (by omega) (Nat.zero_le _) s ⟨H, I, Same.refl H, by simp⟩
  · obtain ⟨hp, g, dd, tk, os⟩ := s
    wp_walk using wpAny_loadPart' e0
    exact ⟨plainId_quiet MeetsSeq.plain_contains_loop _, codeAny_builtin MeetsSeq.entry_contains_loop (by
      rw [Around.under_plainId MeetsSeq.plain_contains_loop _]
      exact loop)⟩
  · obtain ⟨H', I', sm, no⟩ := z
    have cm : c ∈ as := List.mem_of_getElem? hc
    obtain ⟨dx, fs, ec⟩ := d.it c cm
    obtain ⟨dxa, fsa, ea⟩ := d.ha
    obtain ⟨mB, JB, _⟩ := ins_get I'.hok (sm _ _ ea)
    obtain ⟨oB, JB, _⟩ := JB.look
    refine GQ.eqBool_refG (d.ne c cm) (wpAny_mono (rc_L (A := X.A.in1) (n := n) W (by show X.A.frames = some X.stack; exact I.ok.frames) (room.in1.mono (Nat.le_succ _)) F bd I' (sm _ _ ec) (y := .ref a) rfl JB.type (by simp [PySem.W.notFirst])
      (d.ask c cm H' (fun b H2 => b = e c ∧ Same H' H2) sm fun H2 s2 => ⟨rfl, s2⟩)) (fun u s2 hu => ?_) fun _ _ z => z)
    obtain ⟨b, H2, rfl, I2, rfl, s2⟩ := hu
    refine ⟨_, rfl, rfl, fun y => ⟨H2, I2, sm.trans s2, List.any_eq_true.mpr ⟨c, cm, y⟩⟩, fun y => ⟨H2, I2, sm.trans s2, ?_⟩⟩
    rw [List.take_add_one, hc, List.any_append, no]
    simp [y]
  · obtain ⟨H', I', sm, y⟩ := z
    refine ⟨true, rfl, ?_⟩
    have r := q H' s' I' sm
    rw [y] at r
    exact r
  · obtain ⟨H', I', sm, y⟩ := z
    rw [List.take_length] at y
    refine ⟨false, rfl, ?_⟩
    have r := q H' s' I' sm
    rw [y] at r
    exact r
def rInO (sp : Sp) (C : Addr) (neg : Bool) : R2 := fun x y H Q => ∃ (a l : Addr) (as : List Addr) (e : Addr → Bool), x = .ref a ∧ y = .ref l ∧ InD sp C H a l as e ∧ ∀ H', Same H H' → Q (.bl (if neg = true then !as.any e else as.any e)) H'
theorem op_inO (W : OwnC X.K C f) (room : Room (n + 2) X.A) (F : FnOk X.prog X.w X.K X.mg X.base CX0 n f fd ps sp) (bd : Binds X.K fd ps []) : OpR X (compareOp .In) (rInO sp C false) := by
  intro pins s σ H x y u v Q I rx ry h
  obtain ⟨a, l, as, e, rfl, rfl, d, q⟩ := h
  cases rx
  cases ry
  obtain ⟨_, its, m, r, e1⟩ := I.hok l _ d.hl
  show wpAny (model X.prog X.w) X.A (do return Value.bool (← contains (.ref l) (.ref a))) _ _ s
  refine wpAny_bind (wpAny_contains_slot ⟨_, e1, rfl⟩ PySem.F.slot_list_contains (wpAny_mono (contains_own (Q := fun b s' => EP X pins σ Q (.bool b) s') W room F bd I d fun H' s' I' sm => ⟨.bl (as.any e), H', I', rfl, q H' sm⟩) (fun z s' hz => ?_) fun _ _ z => z))
  obtain ⟨b, rfl, hq⟩ := hz
  exact wpAny_truthy_bool (wpAny_pure hq)
theorem op_notInO (W : OwnC X.K C f) (room : Room (n + 2) X.A) (F : FnOk X.prog X.w X.K X.mg X.base CX0 n f fd ps sp) (bd : Binds X.K fd ps []) : OpR X (compareOp .NotIn) (rInO sp C true) := by
  intro pins s σ H x y u v Q I rx ry h
  obtain ⟨a, l, as, e, rfl, rfl, d, q⟩ := h
  cases rx
  cases ry
  obtain ⟨_, its, m, r, e1⟩ := I.hok l _ d.hl
  show wpAny (model X.prog X.w) X.A (do return Value.bool (!(← contains (.ref l) (.ref a)))) _ _ s
  refine wpAny_bind (wpAny_contains_slot ⟨_, e1, rfl⟩ PySem.F.slot_list_contains (wpAny_mono (contains_own (Q := fun b s' => EP X pins σ Q (.bool (!b)) s') W room F bd I d fun H' s' I' sm => ⟨.bl (!as.any e), H', I', rfl, q H' sm⟩) (fun z s' hz => ?_) fun _ _ z => z))
  obtain ⟨b, rfl, hq⟩ := hz
  exact wpAny_truthy_bool (wpAny_pure hq)
end
end K66
set_option Elab.async false
set_option linter.all false
set_option maxRecDepth 100000
set_option maxHeartbeats 4000000
set_option pp.maxSteps 400
set_option pp.deepTerms false
namespace K66
open PySem PySem.Spec PyProof.Rows L2
open Xk Az Xtx
def top (i : Nat) : Stmt := PySem.Challenge.pw_takesworks_k66_discs_read.main.body.getD i (.Pass ⟨0, 0, 0, 0⟩)
abbrev sNoTextInit : Stmt := inClass (top 9) 0
abbrev sIsWhole : Stmt := top 21
abbrev sIsTextOf : Stmt := top 22
abbrev sIsSmallText : Stmt := top 23
abbrev sIsWord : Stmt := top 24
abbrev sIsKey : Stmt := top 27
abbrev sShowKey : Stmt := top 29
abbrev sShowKeys : Stmt := top 30
abbrev sAreRows : Stmt := top 33
abbrev sDiscInit : Stmt := inClass (top 34) 0
abbrev sDiscLen : Stmt := inClass (top 34) 1
abbrev sDiscEq : Stmt := inClass (top 34) 2
abbrev sDiscStr : Stmt := inClass (top 34) 3
abbrev sDiscRepr : Stmt := inClass (top 34) 4
abbrev sAreFigures : Stmt := top 38
abbrev sNumberIn : Stmt := top 39
abbrev sKeyIn : Stmt := top 40
abbrev sAllIn : Stmt := top 41
abbrev sKeysIn : Stmt := top 42
abbrev sDiscIn : Stmt := top 43
abbrev sSoWritten : Stmt := top 44
abbrev sReadDisc : Stmt := top 45
abbrev sHand : Stmt := top 47
abbrev sTake : Stmt := top 48
abbrev sPick : Stmt := top 49
abbrev sKey : Stmt := top 50
abbrev sFigures : Stmt := top 51
abbrev sNumber : Stmt := top 52
abbrev sLawKeyIn : Stmt := top 53
abbrev sBent : Stmt := top 54
abbrev sAlone : Stmt := top 55
abbrev sTextOf : Stmt := top 56
abbrev sLawDiscIn : Stmt := top 57
abbrev sRightRow : Stmt := top 58
abbrev sRight : Stmt := top 59
abbrev sLaw : Stmt := top 60
theorem scNoTextInit : FnScope ["self", "row", "wanted"] ["self", "row", "wanted"] (defScope sNoTextInit) := ⟨rfl, rfl, rfl, by decide +kernel, rfl, by decide +kernel, by decide +kernel⟩
theorem scIsWhole : FnScope ["thing"] ["thing"] (defScope sIsWhole) := ⟨rfl, rfl, rfl, by decide +kernel, rfl, by decide +kernel, by decide +kernel⟩
theorem scIsTextOf : FnScope ["thing", "signs", "least", "most", "sign"] ["thing", "signs", "least", "most"] (defScope sIsTextOf) := ⟨rfl, rfl, rfl, by decide +kernel, rfl, by decide +kernel, by decide +kernel⟩
theorem scIsSmallText : FnScope ["thing", "least", "most"] ["thing", "least", "most"] (defScope sIsSmallText) := ⟨rfl, rfl, rfl, by decide +kernel, rfl, by decide +kernel, by decide +kernel⟩
theorem scIsWord : FnScope ["thing"] ["thing"] (defScope sIsWord) := ⟨rfl, rfl, rfl, by decide +kernel, rfl, by decide +kernel, by decide +kernel⟩
theorem scIsKey : FnScope ["thing", "house", "number"] ["thing"] (defScope sIsKey) := ⟨rfl, rfl, rfl, by decide +kernel, rfl, by decide +kernel, by decide +kernel⟩
theorem scShowKey : FnScope ["key", "house", "number"] ["key"] (defScope sShowKey) := ⟨rfl, rfl, rfl, by decide +kernel, rfl, by decide +kernel, by decide +kernel⟩
theorem scShowKeys : FnScope ["keys", "key"] ["keys"] (defScope sShowKeys) := ⟨rfl, rfl, rfl, by decide +kernel, rfl, by decide +kernel, by decide +kernel⟩
theorem scAreRows : FnScope ["thing", "key"] ["thing"] (defScope sAreRows) := ⟨rfl, rfl, rfl, by decide +kernel, rfl, by decide +kernel, by decide +kernel⟩
theorem scDiscInit : FnScope ["self", "label", "rows"] ["self", "label", "rows"] (defScope sDiscInit) := ⟨rfl, rfl, rfl, by decide +kernel, rfl, by decide +kernel, by decide +kernel⟩
theorem scDiscLen : FnScope ["self"] ["self"] (defScope sDiscLen) := ⟨rfl, rfl, rfl, by decide +kernel, rfl, by decide +kernel, by decide +kernel⟩
theorem scDiscEq : FnScope ["self", "other"] ["self", "other"] (defScope sDiscEq) := ⟨rfl, rfl, rfl, by decide +kernel, rfl, by decide +kernel, by decide +kernel⟩
theorem scDiscStr : FnScope ["self"] ["self"] (defScope sDiscStr) := ⟨rfl, rfl, rfl, by decide +kernel, rfl, by decide +kernel, by decide +kernel⟩
theorem scDiscRepr : FnScope ["self"] ["self"] (defScope sDiscRepr) := ⟨rfl, rfl, rfl, by decide +kernel, rfl, by decide +kernel, by decide +kernel⟩
theorem scAreFigures : FnScope ["text", "least", "most"] ["text", "least", "most"] (defScope sAreFigures) := ⟨rfl, rfl, rfl, by decide +kernel, rfl, by decide +kernel, by decide +kernel⟩
theorem scNumberIn : FnScope ["text"] ["text"] (defScope sNumberIn) := ⟨rfl, rfl, rfl, by decide +kernel, rfl, by decide +kernel, by decide +kernel⟩
theorem scKeyIn : FnScope ["text", "house", "blank", "figures", "key"] ["text"] (defScope sKeyIn) := ⟨rfl, rfl, rfl, by decide +kernel, rfl, by decide +kernel, by decide +kernel⟩
theorem scAllIn : FnScope ["reader", "text", "things", "piece"] ["reader", "text"] (defScope sAllIn) := ⟨rfl, rfl, rfl, by decide +kernel, rfl, by decide +kernel, by decide +kernel⟩
theorem scKeysIn : FnScope ["text"] ["text"] (defScope sKeysIn) := ⟨rfl, rfl, rfl, by decide +kernel, rfl, by decide +kernel, by decide +kernel⟩
theorem scDiscIn : FnScope ["text", "label", "between", "rest", "rows"] ["text"] (defScope sDiscIn) := ⟨rfl, rfl, rfl, by decide +kernel, rfl, by decide +kernel, by decide +kernel⟩
theorem scSoWritten : FnScope ["reader", "text", "wanted", "row", "thing"] ["reader", "text", "wanted", "row"] (defScope sSoWritten) := ⟨rfl, rfl, rfl, by decide +kernel, rfl, by decide +kernel, by decide +kernel⟩
theorem scReadDisc : FnScope ["text"] ["text"] (defScope sReadDisc) := ⟨rfl, rfl, rfl, by decide +kernel, rfl, by decide +kernel, by decide +kernel⟩
theorem scHand : FnScope ["_law_script", "_law_k", "_law_cell", "_law_great"] ["_law_script", "_law_k"] (defScope sHand) := ⟨rfl, rfl, rfl, by decide +kernel, rfl, by decide +kernel, by decide +kernel⟩
theorem scTake : FnScope ["_law_hand_here", "_law_many", "_law_digit", "_law_mixed"] ["_law_hand_here", "_law_many"] (defScope sTake) := ⟨rfl, rfl, rfl, by decide +kernel, rfl, by decide +kernel, by decide +kernel⟩
theorem scPick : FnScope ["_law_hand_here", "_law_some"] ["_law_hand_here", "_law_some"] (defScope sPick) := ⟨rfl, rfl, rfl, by decide +kernel, rfl, by decide +kernel, by decide +kernel⟩
theorem scKey : FnScope ["_law_hand_here", "_law_house", "_law_k"] ["_law_hand_here"] (defScope sKey) := ⟨rfl, rfl, rfl, by decide +kernel, rfl, by decide +kernel, by decide +kernel⟩
theorem scFigures : FnScope ["_law_word", "_law_sign"] ["_law_word"] (defScope sFigures) := ⟨rfl, rfl, rfl, by decide +kernel, rfl, by decide +kernel, by decide +kernel⟩
theorem scNumber : FnScope ["_law_word"] ["_law_word"] (defScope sNumber) := ⟨rfl, rfl, rfl, by decide +kernel, rfl, by decide +kernel, by decide +kernel⟩
theorem scLawKeyIn : FnScope ["_law_text", "_law_parts", "_law_sign"] ["_law_text"] (defScope sLawKeyIn) := ⟨rfl, rfl, rfl, by decide +kernel, rfl, by decide +kernel, by decide +kernel⟩
theorem scBent : FnScope ["_law_hand_here", "_law_text", "_law_words", "_law_sign", "_law_way", "_law_joint", "_law_at", "_law_bits", "_law_spot", "_law_other"] ["_law_hand_here", "_law_text", "_law_words"] (defScope sBent) := ⟨rfl, rfl, rfl, by decide +kernel, rfl, by decide +kernel, by decide +kernel⟩
theorem scAlone : FnScope ["_law_e"] ["_law_e"] (defScope sAlone) := ⟨rfl, rfl, rfl, by decide +kernel, rfl, by decide +kernel, by decide +kernel⟩
theorem scTextOf : FnScope ["_law_label", "_law_keys", "_law_house", "_law_number_here"] ["_law_label", "_law_keys"] (defScope sTextOf) := ⟨rfl, rfl, rfl, by decide +kernel, rfl, by decide +kernel, by decide +kernel⟩
theorem scLawDiscIn : FnScope ["_law_row", "_law_at", "_law_head", "_law_keys", "_law_good", "_law_part", "_law_sign"] ["_law_row"] (defScope sLawDiscIn) := ⟨rfl, rfl, rfl, by decide +kernel, rfl, by decide +kernel, by decide +kernel⟩
theorem scRightRow : FnScope ["_law_row", "_law_due", "_law_caught", "_law_found", "_law_e"] ["_law_row"] (defScope sRightRow) := ⟨rfl, rfl, rfl, by decide +kernel, rfl, by decide +kernel, by decide +kernel⟩
theorem scRight : FnScope ["_law_hand_here", "_law_keys", "_law_label", "_law_row", "_law_words", "_law_turn", "_law_some", "_law_bend", "_law_k"] ["_law_hand_here"] (defScope sRight) := ⟨rfl, rfl, rfl, by decide +kernel, rfl, by decide +kernel, by decide +kernel⟩
theorem scLaw : FnScope ["_law_script", "_law_k"] ["_law_script"] (defScope sLaw) := ⟨rfl, rfl, rfl, by decide +kernel, rfl, by decide +kernel, by decide +kernel⟩
/-! ## objects -/
/-- all that was tracked stands but for the hand -/
def But (h : Addr) (H H' : Hp) : Prop := ∀ b o, b ≠ h → H b = some o → H' b = some o
theorem But.refl (h : Addr) (H : Hp) : But h H H := fun _ _ _ e => e
theorem But.trans {h : Addr} {H H1 H2 : Hp} (p : But h H H1) (q : But h H1 H2) : But h H H2 := fun b o n e => q b o n (p b o n e)
theorem Same.but {H H' : Hp} (s : Same H H') (h : Addr) : But h H H' := fun b o _ e => s b o e
theorem But.seqT {K : PySem.W.Frag} {h : Addr} {H H' : Hp} (s : But h H H') {t : Addr} {xs : List V} (n : t ≠ h) (q : SqT K H t xs) : SqT K H' t xs := by
  rcases q with (q | ⟨o, q⟩) | q
  · exact .inl (.inl (s _ _ n q))
  · exact .inl (.inr ⟨o, s _ _ n q⟩)
  · exact .inr q
theorem But.seqL {K : PySem.W.Frag} {h : Addr} {H H' : Hp} (s : But h H H') {t : Addr} {xs : List V} (n : t ≠ h) (q : SqL K H t xs) : SqL K H' t xs := by
  rcases q with (q | ⟨o, q⟩) | q
  · exact .inl (.inl (s _ _ n q))
  · exact .inl (.inr ⟨o, s _ _ n q⟩)
  · exact .inr q
theorem Same.seqT {K : PySem.W.Frag} {H H' : Hp} (s : Same H H') {t : Addr} {xs : List V} (q : SqT K H t xs) : SqT K H' t xs := by
  rcases q with (q | ⟨o, q⟩) | q
  · exact .inl (.inl (s _ _ q))
  · exact .inl (.inr ⟨o, s _ _ q⟩)
  · exact .inr q
theorem same_upd {H : Hp} {p : Addr} {o : HO} (h : H p = none) : Same H (upd H p o) := fun b x e => by
  rw [upd_ne (ne_of_none e h)]
  exact e
theorem but_upd {H : Hp} {p : Addr} {o : HO} : But p H (upd H p o) := fun b x n e => by
  rw [upd_ne n]
  exact e
/-- the hand: what is left of the cell, what it is mixed of, how often it was asked -/
def Hand (n : Int) (H : Hp) (a : Addr) : Prop := ∃ g m c : Int, H a = some (.lst [.int g, .int m, .int c]) ∧ 0 ≤ g ∧ 0 ≤ m ∧ m < 2305843009213693951 ∧ 0 ≤ c ∧ c ≤ n
theorem Hand.mono {n n' : Int} {H : Hp} {a : Addr} (h : Hand n H a) (l : n ≤ n') : Hand n' H a := by
  obtain ⟨g, m, c, e, h1, h2, h3, h4, h5⟩ := h
  exact ⟨g, m, c, e, h1, h2, h3, h4, Int.le_trans h5 l⟩
theorem Hand.same {n : Int} {H H' : Hp} {a : Addr} (h : Hand n H a) (s : Same H H') : Hand n H' a := by
  obtain ⟨g, m, c, e, r⟩ := h
  exact ⟨g, m, c, s _ _ e, r⟩
theorem Hand.at_ {n : Int} {H : Hp} {a : Addr} (h : Hand n H a) : ∃ xs, H a = some (.lst xs) := by
  obtain ⟨g, m, c, e, r⟩ := h
  exact ⟨_, e⟩
theorem Hand.ne_tup {K : PySem.W.Frag} {n : Int} {H : Hp} {a t : Addr} {xs : List V} (h : Hand n H a) (e : H t = some (.tup xs)) : t ≠ a := by
  obtain ⟨ys, e2⟩ := h.at_
  exact ne_of e e2 (by intro z; cases z)
theorem But.free {h l : Addr} {H H' : Hp} (b : But h H H') (ne : l ≠ h) (e : H' l = none) : H l = none := by
  cases q : H l with
  | none => rfl
  | some o =>
    rw [b l o ne q] at e
    cases e
theorem Hand.fresh {n : Int} {H : Hp} {a l : Addr} (h : Hand n H a) (e : H l = none) : l ≠ a := by
  obtain ⟨xs, q⟩ := h.at_
  exact (ne_of_none q e).symm
/-- a Length -/
def LenAt (C : Addr) (H : Hp) (x : Addr) (i : Int) : Prop := ∃ dx, H x = some (.ins C dx [("seconds", .int i)])
theorem LenAt.same {C : Addr} {H H' : Hp} {x : Addr} {i : Int} (h : LenAt C H x i) (s : L2.Same H H') : LenAt C H' x i := by
  obtain ⟨dx, e⟩ := h
  exact ⟨dx, s _ _ e⟩
theorem LenAt.but {C h : Addr} {n : Int} {H H' : Hp} {x : Addr} {i : Int} (q : LenAt C H x i) (hh : Hand n H h) (s : But h H H') : LenAt C H' x i := by
  obtain ⟨dx, e⟩ := q
  obtain ⟨ys, e2⟩ := hh.at_
  exact ⟨dx, s _ _ (ne_of e e2 (by intro z; cases z)) e⟩
theorem f_s (i : Int) : ([(("seconds" : Str), V.int i)] : List (Str × V)).lookup ("seconds" : Str) = some (.int i) := by rw [List.lookup_cons_self]
theorem Hand.upd {n : Int} {H : Hp} {a p : Addr} {x : HO} (h : Hand n H a) (ne : a ≠ p) : Hand n (L2.upd H p x) a := by
  obtain ⟨g, m, c, e, r⟩ := h
  exact ⟨g, m, c, by rw [upd_ne ne]; exact e, r⟩
/-- an exception's making ends so -/
theorem made_x {H : Hp} {a d : Addr} {o1 o2 o3 o4 : HO} (na : H a = none) (nd : H d = none) (ne : d ≠ a) : upd (del (upd (upd (upd H a o1) d o2) a o3) a) d o4 = upd H d o4 := by
  funext b
  by_cases hd : b = d
  · rw [hd, upd_same, upd_same]
  · rw [upd_ne hd, upd_ne hd]
    by_cases ha : b = a
    · rw [ha, del_same, na]
    · rw [del_ne ha, upd_ne ha, upd_ne hd, upd_ne ha]
section
variable {X : Cx}
theorem pi_alt {tg e : Expr} {w1 w2 : TI} (h1 : PI X tg e w1) (h2 : PI X tg e w2) : PI X tg e (fun σ H R => w1 σ H R ∨ w2 σ H R) :=
  ⟨fun pins s σ H R I h => h.elim (h1.run pins s σ H R I) (h2.run pins s σ H R I)⟩
theorem pe_alt {e : Expr} {t1 t2 : TE} (h1 : PE X e t1) (h2 : PE X e t2) : PE X e (fun σ H Q => t1 σ H Q ∨ t2 σ H Q) :=
  ⟨fun pins s σ H Q I h => h.elim (h1.run pins s σ H Q I) (h2.run pins s σ H Q I)⟩
theorem sl_alt {r1 r2 : V → Option Int → Option Int → Hp → VK → Prop} (h1 : SlR X r1) (h2 : SlR X r2) : SlR X (fun x lo hi H Q => r1 x lo hi H Q ∨ r2 x lo hi H Q) :=
  fun pins s σ H x v vl vu lo hi sl Q I rx hs pl pu h => h.elim (h1 pins s σ H x v vl vu lo hi sl Q I rx hs pl pu) (h2 pins s σ H x v vl vu lo hi sl Q I rx hs pl pu)
end
theorem off_all {h : Addr} {H : Hp} : L2.Same (del H h) H := fun b o e => by
  by_cases z : b = h
  · rw [z, del_same] at e
    cases e
  · rw [del_ne z] at e
    exact e
theorem off_but {h : Addr} {H H' : Hp} (s : But h H H') : L2.Same (del H h) (del H' h) := fun b o e => by
  by_cases z : b = h
  · rw [z, del_same] at e
    cases e
  · rw [del_ne z] at e
    rw [del_ne z]
    exact s b o z e
theorem off_new {h p : Addr} {H : Hp} {o : HO} (ne : p ≠ h) : del (upd H p o) h p = some o := by rw [del_ne ne, upd_same]
theorem off_at {h p : Addr} {H : Hp} {o : HO} (ne : p ≠ h) (e : H p = some o) : del H h p = some o := by rw [del_ne ne, e]
/-- things of the built-in kinds that are asked -/
inductive Odd (H : Hp) : V → String → Prop where
  | int (i : Int) : Odd H (.int i) "int"
  | str (x : Str) : Odd H (.str x) "str"
  | non : Odd H .non "NoneType"
  | tup {a : Addr} {xs : List V} (e : H a = some (.tup xs)) : Odd H (.ref a) "tuple"
  | lst {a : Addr} {xs : List V} (e : H a = some (.lst xs)) : Odd H (.ref a) "list"
abbrev OddT (t : String) : Prop := t = "int" ∨ t = "str" ∨ t = "NoneType" ∨ t = "tuple" ∨ t = "list"
theorem Odd.one {H : Hp} {o : V} {t : String} (h : Odd H o t) : OddT t := by
  cases h <;> simp [OddT]
theorem Odd.ty {K : PySem.W.Frag} {H : Hp} {o : V} {t : String} (h : Odd H o t) : TyX K H o (.type t) := by
  cases h with
  | int i => exact .base (.int i)
  | str x => exact .base (.str x)
  | non => exact .base .non
  | tup e => exact .base (.tup e)
  | lst e => exact .base (.lst e)
theorem Odd.same {H H' : Hp} {o : V} {t : String} (h : Odd H o t) (s : Same H H') : Odd H' o t := by
  cases h with
  | int i => exact .int i
  | str x => exact .str x
  | non => exact .non
  | tup e => exact .tup (s _ _ e)
  | lst e => exact .lst (s _ _ e)
structure KitC (K : PySem.W.Frag) (C : Addr) : Prop where
  me : PySem.W.kitOne K (.ref C) (.ref C) = some true
  no : ∀ t : String, OddT t → PySem.W.kitOne K (.type t) (.ref C) = some false
  sub : ∀ t : String, OddT t → PySem.W.subIn K (.type t) (.ref C) = some false
theorem kitC_mk {K : PySem.W.Frag} {C : Addr} (ty : PySem.W.typeIn K (.ref C) = some (.type "type")) (mo : PySem.W.mroIn K C (.type "object") = some true) (s1 : PySem.W.subIn K (.type "int") (.ref C) = some false)
    (s2 : PySem.W.subIn K (.type "str") (.ref C) = some false) (s3 : PySem.W.subIn K (.type "NoneType") (.ref C) = some false) (s4 : PySem.W.subIn K (.type "tuple") (.ref C) = some false) (s5 : PySem.W.subIn K (.type "list") (.ref C) = some false) : KitC K C := by
  have cl : (PySem.W.clsIn K C).isSome = true := by
    unfold PySem.W.mroIn at mo
    cases e : PySem.W.clsIn K C with
    | none => rw [e] at mo; cases mo
    | some c => rfl
  have sub : ∀ t : String, OddT t → PySem.W.subIn K (.type t) (.ref C) = some false := fun t ht => by
    rcases ht with rfl | rfl | rfl | rfl | rfl
    · exact s1
    · exact s2
    · exact s3
    · exact s4
    · exact s5
  refine ⟨?_, fun t ht => ?_, sub⟩
  · unfold PySem.W.kitOne
    simp
  · have q : (Value.type t == Value.ref C) = false := rfl
    unfold PySem.W.kitOne
    rw [q]
    simp only [Bool.false_eq_true, if_false]
    unfold PySem.W.kitCls
    dsimp only
    rw [cl, ty]
    simp only [beq_self_eq_true, Bool.and_self, if_true]
    exact sub t ht
section
variable {X : Cx} {pins : List (Addr × Obj)} {σ : L2.St} {H : Hp} {s : Shared} {n : Nat} {f C : Addr} {fd : FuncData} {ps : List Str} {sp : Sp}
/-- a def of the written part is run somewhere below -/
theorem own_run {A : Around} {vs : List V} {us : List Value} {Q : VK} {E : Value → Shared → Prop} (fr : A.frames = some X.stack) (room : Room n A) (F : FnOk X.prog X.w X.K X.mg X.base CX0 n f fd ps sp) (bd : Binds X.K fd ps [])
    (I : Inv X pins σ H s) (rv : Vals vs us) (hsp : sp vs H Q E0) : wpAny (model X.prog X.w) A (call (.ref f) us) (EP X pins σ Q) E s := by
  have en : Env0 X.prog X.w X.K X.mg X.base A X.stack s H := by
    have z := I.env0
    exact ⟨fr, z.mod, z.bs, z.bsz, z.funs, z.frf, z.hok, z.bare⟩
  have hl : vs.length = ps.length := F.len _ _ _ _ hsp
  have b1 := bd s us I.kIn (by simpa [← rv.length] using hl)
  rw [List.append_nil] at b1
  refine wpAny_call (codeAny_mono (F.run A X.stack s H ⟨us, []⟩ us vs _ E0 room en b1 rv hsp) fun r s2 hr => ?_)
  match r, hr with
  | .error z, hr => exact False.elim hr
  | .ok .next, hr => exact False.elim hr
  | .ok .brk, hr => exact False.elim hr
  | .ok .cont, hr => exact False.elim hr
  | .ok (.ret u), hr => exact I.after hr
theorem odd_looks {y : V} {v : Value} {t : String} (I : Inv X pins σ H s) (rv : RelV y v) (o : Odd H y t) : PySem.W.Looks (model X.prog X.w) s.heap (typeOf v) (.type t) := by
  obtain ⟨P, Z, p, _⟩ := kit_of I rv (o.ty (K := X.K))
  exact Z.ty _ _ I.kIn p
/-- day == thing -/
def rEqL (C : Addr) (sp : Sp) : R2 := fun x y H Q => ∃ (a dx : Addr) (fs : List (Str × V)), x = .ref a ∧ H a = some (.ins C dx fs) ∧ ((∃ t, Odd H y t) ∨ ∃ b dz gs, y = .ref b ∧ H b = some (.ins C dz gs)) ∧
  sp [.ref a, y] H (fun z H' => ∃ b, z = .bl b ∧ Q (.bl b) H') E0
theorem op_eqL (W : OwnC X.K C f) (Z : KitC X.K C) (room : Room n X.A) (F : FnOk X.prog X.w X.K X.mg X.base CX0 n f fd ps sp) (bd : Binds X.K fd ps []) : OpR X (compareOp .Eq) (rEqL C sp) := by
  intro pins s σ H x y u v Q I rx ry h
  obtain ⟨a, dx, fs, rfl, ha, hy, hsp⟩ := h
  cases rx
  have fin : ∀ tb, PySem.W.Looks (model X.prog X.w) s.heap (typeOf v) tb → PySem.W.notFirst X.K C tb = true → wpAny (model X.prog X.w) X.A (compareOp .Eq (.ref a) v) (EP X pins σ Q) X.xe s := fun tb hb nf => by
    show wpAny (model X.prog X.w) X.A (richCompare .Eq (.ref a) v) _ _ s
    refine wpAny_mono (rc_L (Q := fun b H' => Q (.bl b) H') W I.ok.frames room F bd I ha ry hb nf hsp) (fun z s' hz => ?_) fun _ _ z => z
    obtain ⟨b, H', rfl, I', q⟩ := hz
    exact ⟨.bl b, H', I', rfl, q⟩
  rcases hy with ⟨t, o⟩ | ⟨b, dz, gs, rfl, hb⟩
  · refine fin _ (odd_looks I ry o) ?_
    unfold PySem.W.notFirst
    rw [Z.sub t o.one]
    simp
  · cases ry
    obtain ⟨mB, JB, _⟩ := ins_get I.hok hb
    obtain ⟨oB, JB, _⟩ := JB.look
    exact fin _ JB.type (by simp [PySem.W.notFirst])
/-- day != day -/
def rNeL (C : Addr) (sp : Sp) : R2 := fun x y H Q => ∃ (a dx : Addr) (fs : List (Str × V)) (b dz : Addr) (gs : List (Str × V)), x = .ref a ∧ H a = some (.ins C dx fs) ∧ y = .ref b ∧ H b = some (.ins C dz gs) ∧
  sp [.ref a, y] H (fun z H' => ∃ b, z = .bl b ∧ Q (.bl (!b)) H') E0
theorem op_neL (W : OwnC X.K C f) (room : Room (n + 1) X.A) (F : FnOk X.prog X.w X.K X.mg X.base CX0 n f fd ps sp) (bd : Binds X.K fd ps []) : OpR X (compareOp .NotEq) (rNeL C sp) := by
  intro pins s σ H x y u v Q I rx ry h
  obtain ⟨a, dx, fs, b, dz, gs, rfl, ha, rfl, hb, hsp⟩ := h
  cases rx
  cases ry
  obtain ⟨mB, JB, _⟩ := ins_get I.hok hb
  obtain ⟨oB, JB, _⟩ := JB.look
  show wpAny (model X.prog X.w) X.A (richCompare .NotEq (.ref a) (.ref b)) _ _ s
  refine wpAny_mono (rc_N (Q := fun b H' => Q (.bl b) H') (y := .ref b) W I.ok.frames room F bd I ha rfl JB.type (by simp [PySem.W.notFirst]) hsp) (fun z s' hz => ?_) fun _ _ z => z
  obtain ⟨b, H', rfl, I', q⟩ := hz
  exact ⟨.bl b, H', I', rfl, q⟩
/-- thing == day -/
def rEqR (C : Addr) (sp : Sp) : R2 := fun x y H Q => ∃ (a dx : Addr) (fs : List (Str × V)), y = .ref a ∧ H a = some (.ins C dx fs) ∧
  (((∃ t, Odd H x t) ∧ sp [.ref a, x] H (fun z H' => ∃ b, z = .bl b ∧ Q (.bl b) H') E0) ∨ ∃ b dz gs, x = .ref b ∧ H b = some (.ins C dz gs) ∧ sp [.ref b, .ref a] H (fun z H' => ∃ b, z = .bl b ∧ Q (.bl b) H') E0)
theorem op_eqR (W : OwnC X.K C f) (room : Room n X.A) (F : FnOk X.prog X.w X.K X.mg X.base CX0 n f fd ps sp) (bd : Binds X.K fd ps []) : OpR X (compareOp .Eq) (rEqR C sp) := by
  intro pins s σ H x y u v Q I rx ry h
  obtain ⟨a, dx, fs, rfl, ha, h⟩ := h
  cases ry
  show wpAny (model X.prog X.w) X.A (richCompare .Eq u (.ref a)) _ _ s
  have fin : ∀ {A : Around} {z : Value} {s' : Shared}, BP X pins σ (fun b H' => Q (.bl b) H') z s' → EP X pins σ Q z s' := fun {A z s'} hz => by
    obtain ⟨b, H', rfl, I', q⟩ := hz
    exact ⟨.bl b, H', I', rfl, q⟩
  obtain ⟨mA, J, eI⟩ := ins_get I.hok ha
  obtain ⟨oA, J', _⟩ := J.look
  rcases h with ⟨⟨t, o⟩, hsp⟩ | ⟨b, dz, gs, rfl, hb, hsp⟩
  · cases o with
    | int i =>
      obtain ⟨tk, rfl⟩ := rx
      refine wpAny_mono (rc_R (Q := fun b H' => Q (.bl b) H') (y := .int i) W I.ok.frames room F bd I ha ⟨tk, rfl⟩ (typeIs_int _ _ _) rfl W.sInt PySem.F.slot_int_eq (fun E' => dec_int J.obj) hsp) (fun z s' hz => fin (A := X.A) hz) fun _ _ z => z
    | str i =>
      obtain ⟨tk, rfl⟩ := rx
      refine wpAny_mono (rc_R (Q := fun b H' => Q (.bl b) H') (y := .str i) W I.ok.frames room F bd I ha ⟨tk, rfl⟩ (typeIs_str _ _ _) rfl W.sStr PySem.F.slot_str_eq (fun E' => dec_str J.obj) hsp) (fun z s' hz => fin (A := X.A) hz) fun _ _ z => z
    | non =>
      cases rx
      refine wpAny_mono (rc_R (Q := fun b H' => Q (.bl b) H') (y := .non) W I.ok.frames room F bd I ha rfl (T := "NoneType") rfl rfl W.sNon PySem.F.slot_NoneType_eq (fun E' => dec_none) hsp) (fun z s' hz => fin (A := X.A) hz) fun _ _ z => z
    | @tup b xs e =>
      cases rx
      obtain ⟨_, _, _, ob, h1, h2, _⟩ := (show ObjOk X.prog X.w H s.heap b (.tup xs) from I.hok b _ e)
      refine wpAny_mono (rc_R (Q := fun b H' => Q (.bl b) H') (y := .ref b) W I.ok.frames room F bd I ha rfl (T := "tuple") ⟨ob, h1, h2⟩ rfl W.sTup PySem.F.slot_tuple_eq (fun E' => dec_tup ⟨ob, h1, h2⟩ J' I.kIn W.sTup) hsp) (fun z s' hz => fin (A := X.A) hz) fun _ _ z => z
    | @lst b xs e =>
      cases rx
      obtain ⟨_, _, k, _, h1⟩ := (show ObjOk X.prog X.w H s.heap b (.lst xs) from I.hok b _ e)
      refine wpAny_mono (rc_R (Q := fun b H' => Q (.bl b) H') (y := .ref b) W I.ok.frames room F bd I ha rfl (T := "list") ⟨_, h1, rfl⟩ rfl W.sLst PySem.F.slot_list_eq (fun E' => dec_lst ⟨_, h1, rfl⟩ J' I.kIn W.sLst) hsp) (fun z s' hz => fin (A := X.A) hz) fun _ _ z => z
  · cases rx
    refine wpAny_mono (rc_L (Q := fun b H' => Q (.bl b) H') (y := .ref a) W I.ok.frames room F bd I hb rfl J'.type (by simp [PySem.W.notFirst]) hsp) (fun z s' hz => fin (A := X.A) hz) fun _ _ z => z
/-- str(o) by its own __str__ -/
theorem cr_strO (hs : PySem.W.findIn X.K (.ref C) "__str__" = some (some (.ref f))) (hf : PySem.W.isFn X.K (.ref f) = true) (room : Room (n + 2) X.A) (F : FnOk X.prog X.w X.K X.mg X.base CX0 n f fd ps sp) (bd : Binds X.K fd ps []) :
    CallR X (.type "str") (fun xs H Q => ∃ (a dx : Addr) (fs : List (Str × V)), xs = [.ref a] ∧ H a = some (.ins C dx fs) ∧ sp [.ref a] H (fun z H' => ∃ y, z = .str y ∧ Q (.str y) H') E0) := by
  intro pins s σ H xs us Q I r h
  obtain ⟨a, dx, fs, rfl, ha, hsp⟩ := h
  obtain ⟨u, rfl, rx⟩ := vals1 r
  cases rx
  obtain ⟨mA, J, _⟩ := ins_get I.hok ha
  obtain ⟨oA, J, _⟩ := J.look
  refine PySem.W.kso_call room.in1.in1.units0 I.kIn J hs hf (wpAny_mono (own_run (A := X.A.in1.in1) (vs := [.ref a]) I.ok.frames room.in1.in1 F bd I (.cons rfl .nil) hsp) (fun v s' hv => ?_) fun _ _ z => z)
  obtain ⟨v', H', I', rv, y, rfl, q⟩ := hv
  obtain ⟨tk, rfl⟩ := rv
  exact ⟨.str y, H', I', ⟨tk, rfl⟩, q⟩
/-- repr(o) by its own __repr__ -/
theorem cr_reprO (hs : PySem.W.findIn X.K (.ref C) "__repr__" = some (some (.ref f))) (hf : PySem.W.isFn X.K (.ref f) = true) (room : Room (n + 1) X.A) (F : FnOk X.prog X.w X.K X.mg X.base CX0 n f fd ps sp) (bd : Binds X.K fd ps []) :
    CallR X (.builtin "repr") (fun xs H Q => ∃ (a dx : Addr) (fs : List (Str × V)), xs = [.ref a] ∧ H a = some (.ins C dx fs) ∧ sp [.ref a] H (fun z H' => ∃ y, z = .str y ∧ Q (.str y) H') E0) := by
  intro pins s σ H xs us Q I r h
  obtain ⟨a, dx, fs, rfl, ha, hsp⟩ := h
  obtain ⟨u, rfl, rx⟩ := vals1 r
  cases rx
  obtain ⟨mA, J, _⟩ := ins_get I.hok ha
  obtain ⟨oA, J, _⟩ := J.look
  refine Calls.call_function_entry PySem.F.kind_repr PySem.F.plain_repr PySem.F.entry_repr (PySem.F.args_repr1 _) ?_
  unfold Builtin.«repr»
  refine wpAny_bind (m := oneArg "repr" _) (wpAny_pure ?_)
  refine wpAny_bind (wpAny_cRoomFor room.in1.units0 ?_)
  refine wpAny_bind (wpAny_bind (J.type.here ((PySem.W.looks_findIn I.kIn hs).here ?_)))
  refine wpAny_bind (m := callSpecialIfBound? (.ref a) (Str.ofString "__repr__") _) (PySem.W.ifBound_K I.kIn J hs hf (wpAny_mono (own_run (A := X.A.in1) (vs := [.ref a]) I.ok.frames room.in1 F bd I (.cons rfl .nil) hsp) (fun v s' hv => ?_) fun _ _ z => z))
  obtain ⟨v', H', I', rv, y, rfl, q⟩ := hv
  obtain ⟨tk, rfl⟩ := rv
  refine wpAny_bind (wpAny_isInstance (T := "str") (b := true) rfl isSubtype_str_str ?_)
  exact wpAny_pure ⟨_, rfl, .str y, H', I', ⟨tk, rfl⟩, q⟩
end
section
variable {X : Cx}
theorem cr_alt {f : Value} {r1 r2 : List V → Hp → VK → Prop} (h1 : CallR X f r1) (h2 : CallR X f r2) : CallR X f (fun xs H Q => r1 xs H Q ∨ r2 xs H Q) :=
  fun pins s σ H xs us Q I r h => h.elim (h1 pins s σ H xs us Q I r) (h2 pins s σ H xs us Q I r)
end
theorem ps_no {X : Cx} {st : Stmt} : PS X st (fun _ _ _ => False) := ⟨fun _ _ _ _ _ _ h => False.elim h⟩
end K66
set_option Elab.async false
set_option linter.all false
set_option maxRecDepth 100000
set_option maxHeartbeats 4000000
set_option pp.maxSteps 400
set_option pp.deepTerms false
namespace K66
open PySem PySem.Spec PyProof.Rows L2
open Xk Az Xtx
section
variable {P : Program} {w : World} {K : PySem.W.Frag} {mg : Str → Option Value} {base : Heap} {C : Addr}
/-- a def that may be called by its name -/
structure Ca (P : Program) (w : World) (K : PySem.W.Frag) (mg : Str → Option Value) (base : Heap) (k : Nat) (x : Str) (ps : List Str) (sp : Sp) : Prop where
  ex : ∃ (f : Addr) (fd : FuncData), FnOk P w K mg base CX0 k f fd ps sp ∧ mg x = some (.ref f) ∧ PySem.W.keepIn K (.ref f) = true ∧ Binds K fd ps []
/-- a def of the text, as the head finds it -/
structure Df (K : PySem.W.Frag) (mg : Str → Option Value) (x : Str) (ps : List Str) (st : Stmt) (f : Addr) (fd : FuncData) : Prop where
  fn : Fun K x x st f fd
  mgf : mg x = some (.ref f)
  bd : Binds K fd ps []
theorem Df.ca {k : Nat} {x : Str} {ps : List Str} {st : Stmt} {f : Addr} {fd : FuncData} {sp : Sp} (d : Df K mg x ps st f fd)
    (h : FnOk P w K mg base CX0 k f fd ps sp) : Ca P w K mg base k x ps sp := ⟨f, fd, h, d.mgf, d.fn.kp, d.bd⟩
section
variable {X : Cx} {k j : Nat} {x : Str} {ps : List Str} {sp : Sp} {p pos : Pos} {e : Expr} {es : List Expr} {t : TA}
theorem pe_ca (c : Ca X.prog X.w X.K X.mg X.base k x ps sp) (hr : Room j X.A) (hk : k ≤ j) (hg : Gl X x) (ha : PA X (e :: es) t) (hdb : (x == ("__debug__" : Str)) = false := by decide)
    (he : starEach (e :: es) X.env = (false, eval e X.env) :: starEach es X.env := by rfl) (hpl : (backTo pos (starEach es X.env)).any (·.1) = false := by rfl) :
    PE X (.Call (.Name x p) (e :: es) [] pos) (tCall sp [] E0 t) := by
  obtain ⟨f, fd, F, hm, kp, b⟩ := c.ex
  exact pe_call F (hr.mono hk) hg hm kp b .nil pass0 ha hdb he hpl
end
/-- the refusals: where their classes stand -/
structure Ex where
  NotSuch : Addr
  Lost : Addr
  Taken : Addr
  NoCustom : Addr
  NoDay : Addr
  NoDisc : Addr
  NoEntry : Addr
  NoKey : Addr
  NoLength : Addr
  NoLine : Addr
  NoName : Addr
  NoNumber : Addr
  NoPath : Addr
  Same : Addr
  Struck : Addr
  Twice : Addr
  NoText : Addr
def small : Str := "abcdefghijklmnopqrstuvwxyz"
def figs : Str := "0123456789"
/-- what the top has left, besides the defs -/
structure Txt (K : PySem.W.Frag) (mg : Str → Option Value) (C : Addr) (e : Ex) : Prop where
  cl : Cls K C
  nL : NoAttr K C "label"
  nR : NoAttr K C "rows"
  mgC : mg "Disc" = some (.ref C)
  ins : C8.InsC K C
  sm : ∃ t, mg "SMALL_LETTERS" = some (.str small t)
  lw : ∃ t, mg "LONGEST_WORD" = some (.int 8 t)
  kp : ∃ t, mg "KEY_PARTS" = some (.int 2 t)
  mr : ∃ t, mg "MOST_ROWS" = some (.int 30 t)
  fg : ∃ t, mg "FIGURES" = some (.str figs t)
  mf : ∃ t, mg "MOST_FIGURES" = some (.int 30 t)
  mNotSuch : mg "NotSuch" = some (.ref e.NotSuch)
  mLost : mg "Lost" = some (.ref e.Lost)
  mTaken : mg "Taken" = some (.ref e.Taken)
  mNoCustom : mg "NoCustom" = some (.ref e.NoCustom)
  mNoDay : mg "NoDay" = some (.ref e.NoDay)
  mNoDisc : mg "NoDisc" = some (.ref e.NoDisc)
  mNoEntry : mg "NoEntry" = some (.ref e.NoEntry)
  mNoKey : mg "NoKey" = some (.ref e.NoKey)
  mNoLength : mg "NoLength" = some (.ref e.NoLength)
  mNoLine : mg "NoLine" = some (.ref e.NoLine)
  mNoName : mg "NoName" = some (.ref e.NoName)
  mNoNumber : mg "NoNumber" = some (.ref e.NoNumber)
  mNoPath : mg "NoPath" = some (.ref e.NoPath)
  mSame : mg "Same" = some (.ref e.Same)
  mStruck : mg "Struck" = some (.ref e.Struck)
  mTwice : mg "Twice" = some (.ref e.Twice)
  mNoText : mg "NoText" = some (.ref e.NoText)
  isi : mg "isinstance" = none
  int : mg "int" = none
  bool : mg "bool" = none
  str : mg "str" = none
  tuple : mg "tuple" = none
  list : mg "list" = none
  len : mg "len" = none
  all : mg "all" = none
  abs : mg "abs" = none
  range : mg "range" = none
  repr : mg "repr" = none
  max : mg "max" = none
  min : mg "min" = none
  enumerate : mg "enumerate" = none
  ValueError : mg "ValueError" = none
  oex : OexC K e.NoText
  xc : XcC K e.NoText
  bi : BiC K e.NotSuch
  f1 : PySem.W.findIn K (.ref e.NoText) "row" = some none
  f2 : PySem.W.findIn K (.ref e.NoText) "wanted" = some none
  exm : PySem.W.exmAny K (.ref e.NoText) [.ref e.NotSuch, .ref e.Lost, .ref e.Taken] = some true
  kit1 : PySem.W.kitAny K (.ref e.NoText) [.ref e.Lost, .ref e.Taken, .ref e.NoCustom, .ref e.NoDay, .ref e.NoDisc, .ref e.NoEntry, .ref e.NoKey, .ref e.NoLength] = some false
  kit2 : PySem.W.kitAny K (.ref e.NoText) [.ref e.NoLine, .ref e.NoName, .ref e.NoNumber, .ref e.NoPath, .ref e.Same, .ref e.Struck, .ref e.Twice] = some false
  kit3 : PySem.W.kitOne K (.ref e.NoText) (.ref e.NoText) = some true
  kit4 : PySem.W.kitOne K (.ref e.NoText) (.ref e.NotSuch) = some true
  kit5 : PySem.W.kitOne K (.ref e.NoText) (.type "ValueError") = some true
/-- the number of a thing that is a whole one -/
def wh : PyData → Option Int
  | .int i => some i
  | _ => none
def spWhole (K : PySem.W.Frag) : Sp := fun vs H Q _ => ∃ (v : V) (d : PyData), vs = [v] ∧ Dz K H v d ∧ Q (.bl (wh d).isSome) H
def isStr : PyData → Bool
  | .str _ => true
  | _ => false
def isTup : PyData → Bool
  | .tuple _ => true
  | _ => false
theorem z_str : ∀ d : PyData, PySem.W.kitOne K (.type (kindD d)) (.type "str") = some (isStr d)
  | .none => kit_ty (a := "NoneType") (b := "str") (r := false) (by decide +kernel)
  | .bool _ => kit_ty (a := "bool") (b := "str") (r := false) (by decide +kernel)
  | .int _ => kit_ty (a := "int") (b := "str") (r := false) (by decide +kernel)
  | .str _ => kit_ty (a := "str") (b := "str") (r := true) (by decide +kernel)
  | .list _ => kit_ty (a := "list") (b := "str") (r := false) (by decide +kernel)
  | .tuple _ => kit_ty (a := "tuple") (b := "str") (r := false) (by decide +kernel)
  | .dict _ => kit_ty (a := "dict") (b := "str") (r := false) (by decide +kernel)
theorem z_tup : ∀ d : PyData, PySem.W.kitOne K (.type (kindD d)) (.type "tuple") = some (isTup d)
  | .none => kit_ty (a := "NoneType") (b := "tuple") (r := false) (by decide +kernel)
  | .bool _ => kit_ty (a := "bool") (b := "tuple") (r := false) (by decide +kernel)
  | .int _ => kit_ty (a := "int") (b := "tuple") (r := false) (by decide +kernel)
  | .str _ => kit_ty (a := "str") (b := "tuple") (r := false) (by decide +kernel)
  | .list _ => kit_ty (a := "list") (b := "tuple") (r := false) (by decide +kernel)
  | .tuple _ => kit_ty (a := "tuple") (b := "tuple") (r := true) (by decide +kernel)
  | .dict _ => kit_ty (a := "dict") (b := "tuple") (r := false) (by decide +kernel)
theorem len_cps (x : Str) : x.length = x.cps.toList.length := by
  rw [Array.length_toList]
  rfl
def chk (x sg : Str) : Bool := x.cps.toList.all fun c => decide (c ∈ sg.cps.toList)
def ofT (d : PyData) (sg : Str) (a b : Int) : Bool := match d with
  | .str x => decide (a ≤ (x.length : Int)) && decide ((x.length : Int) ≤ b) && chk x sg
  | _ => false
def St (d : PyData) : Prop := ∀ x, d = .str x → x.length ≤ 50000
def spTextOf (K : PySem.W.Frag) : Sp := fun vs H Q _ => ∃ (v : V) (d : PyData) (sg : Str) (a b : Int), vs = [v, .str sg, .int a, .int b] ∧ Dz K H v d ∧ (∀ x, d = .str x → x.length ≤ 50000) ∧ ∀ H', L2.Same H H' → Q (.bl (ofT d sg a b)) H'
def spSmall (K : PySem.W.Frag) : Sp := fun vs H Q _ => ∃ (v : V) (d : PyData) (a b : Int), vs = [v, .int a, .int b] ∧ Dz K H v d ∧ St d ∧ ∀ H', L2.Same H H' → Q (.bl (ofT d small a b)) H'
def spWord (K : PySem.W.Frag) : Sp := fun vs H Q _ => ∃ (v : V) (d : PyData), vs = [v] ∧ Dz K H v d ∧ St d ∧ ∀ H', L2.Same H H' → Q (.bl (ofT d small 1 8)) H'
def nn (d : PyData) : Bool := match wh d with
  | some i => decide (0 ≤ i)
  | none => false
def kyD (d : PyData) : Bool := match d with
  | .tuple [a, b] => ofT a small 1 8 && nn b
  | _ => false
def S2 (d : PyData) : Prop := ∀ ds, d = .tuple ds → ∀ e ∈ ds, St e
def spIsKey (K : PySem.W.Frag) : Sp := fun vs H Q _ => ∃ (v : V) (d : PyData), vs = [v] ∧ Dz K H v d ∧ S2 d ∧ ∀ H', L2.Same H H' → Q (.bl (kyD d)) H'
def rwD (d : PyData) : Bool := match d with
  | .tuple ds => decide ((1 : Int) ≤ ds.length) && decide ((ds.length : Int) ≤ 30) && ds.all kyD
  | _ => false
def S3 (d : PyData) : Prop := ∀ ds, d = .tuple ds → ds.length ≤ 60000 ∧ ∀ e ∈ ds, S2 e
def spAreRows (K : PySem.W.Frag) : Sp := fun vs H Q _ => ∃ (v : V) (d : PyData), vs = [v] ∧ Dz K H v d ∧ S3 d ∧ ∀ H', L2.Same H H' → Q (.bl (rwD d)) H'
theorem ok_whole {f : Addr} {fd : FuncData} {e : Ex} (D : Df K mg "is_whole" ["thing"] sIsWhole f fd) (T : Txt K mg C e) : FnOk P w K mg base CX0 1 f fd ["thing"] (spWhole K) := by
  refine D.fn.ok scIsWhole (fun vs H Q E h => ?_) (fun cdv A outer s H vs Q E hr h => ?_)
  · obtain ⟨v, d, rfl, h, q⟩ := h
    rfl
  · obtain ⟨v, d, rfl, h, q⟩ := h
    refine ⟨_, (pss_one (ps_ret (pe_and (pe_callB call_isi (by rfl) T.isi (by decide +kernel) (pa_cons (pv 0) (pa_cons (pe_bltn (v := .ty "int") (by rfl) T.int (by decide +kernel) rfl) pa_nil))) (pe_one (pe_not (pe_callB call_isi (by rfl) T.isi (by decide +kernel) (pa_cons (pv 0) (pa_cons (pe_bltn (v := .ty "bool") (by rfl) T.bool (by decide +kernel) rfl) pa_nil)))))))), ?_⟩
    cases d with
    | int i =>
      have ty : TyX K H v (.type "int") := h.ty
      refine ⟨_, rfl, _, _, _, _, true, rfl, .ty _, ty, kit_ty (by decide +kernel), true, rfl, iteT ?_⟩
      exact ⟨_, rfl, _, _, _, _, false, rfl, .ty _, ty, kit_ty (by decide +kernel), false, rfl, q⟩
    | bool b =>
      have ty : TyX K H v (.type "bool") := h.ty
      refine ⟨_, rfl, _, _, _, _, true, rfl, .ty _, ty, kit_ty (by decide +kernel), true, rfl, iteT ?_⟩
      exact ⟨_, rfl, _, _, _, _, true, rfl, .ty _, ty, kit_ty (by decide +kernel), true, rfl, q⟩
    | none  =>
      have ty : TyX K H v (.type "NoneType") := h.ty
      exact ⟨_, rfl, _, _, _, _, false, rfl, .ty _, ty, kit_ty (by decide +kernel), false, rfl, iteF q⟩
    | str x =>
      have ty : TyX K H v (.type "str") := h.ty
      exact ⟨_, rfl, _, _, _, _, false, rfl, .ty _, ty, kit_ty (by decide +kernel), false, rfl, iteF q⟩
    | list ds =>
      have ty : TyX K H v (.type "list") := h.ty
      exact ⟨_, rfl, _, _, _, _, false, rfl, .ty _, ty, kit_ty (by decide +kernel), false, rfl, iteF q⟩
    | tuple ds =>
      have ty : TyX K H v (.type "tuple") := h.ty
      exact ⟨_, rfl, _, _, _, _, false, rfl, .ty _, ty, kit_ty (by decide +kernel), false, rfl, iteF q⟩
    | dict ds =>
      have ty : TyX K H v (.type "dict") := h.ty
      exact ⟨_, rfl, _, _, _, _, false, rfl, .ty _, ty, kit_ty (by decide +kernel), false, rfl, iteF q⟩
theorem ok_of {f : Addr} {fd : FuncData} {e : Ex} (D : Df K mg "is_text_of" ["thing", "signs", "least", "most"] sIsTextOf f fd) (T : Txt K mg C e) : FnOk P w K mg base CX0 1 f fd ["thing", "signs", "least", "most"] (spTextOf K) := by
  refine D.fn.ok scIsTextOf (fun vs H Q E h => ?_) (fun cdv A outer s H vs Q E hr h => ?_)
  · obtain ⟨v, d, sg, a, b, rfl, hz, sz, q⟩ := h
    rfl
  · obtain ⟨v, d, sg, a, b, rfl, hz, sz, q⟩ := h
    refine ⟨_, (pss_cons (ps_if (PW.pt (pw_or (pt_not (pt_val (pe_callB call_isi (by rfl) T.isi (by decide +kernel) (pa_cons (pv 0) (pa_cons (pe_bltn (v := .ty "str") (by rfl) T.str (by decide +kernel) rfl) pa_nil))))) (pw_or1 (pt_not (pt_chain op_le op_le (pv 2) (pe_callB call_len_str (by rfl) T.len PySem.boot_len (pa_cons (pv 0) pa_nil)) (pv 3)))))) (pss_one (ps_ret pe_bl)) pss_nil)
      (pss_one (ps_ret (pe_callB (cr_all (by rfl)) (by rfl) T.all (by decide +kernel) (pa_cons (pe_lc (own := [("sign", 4)]) (g := gName 4) (tt := tYes) (by rfl) scIsTextOf.nd (pi_str (pv 0)) (blkOk_by (own := [("sign", 4)]) (N := ["thing", "signs", "least", "most", "sign"]) (sc := defScope sIsTextOf) (by decide +kernel)) (fun _ _ _ _ _ => pg_name (i := 4) scIsTextOf.nd rfl (.inl rfl)) (fun _ _ _ _ _ => pts_nil) (fun _ _ _ _ _ => pe_cmpR op_in_sign (pv 4) (pv 1) (by rfl))) pa_nil))))), ?_⟩
    refine ⟨_, rfl, _, _, _, _, isStr d, rfl, .ty _, hz.ty, z_str d, _, rfl, ?_⟩
    have qf : ofT d sg a b = false → Q (.bl false) H := fun e => by
      have w := q H (Same.refl H)
      rw [e] at w
      exact w
    cases hz with
    | str x =>
      have lx := sz x rfl
      have fit : x.length ≤ sizeLine := Nat.le_trans lx (by decide)
      refine iteF ⟨_, rfl, _, rfl, x, rfl, fit, a, _, rfl, rfl, _, rfl, ?_⟩
      have eo : ofT (.str x) sg a b = (decide (a ≤ (x.length : Int)) && decide ((x.length : Int) ≤ b) && chk x sg) := rfl
      cases c1 : decide (a ≤ (x.length : Int)) with
      | false => exact iteF ⟨_, rfl, iteT (qf (by rw [eo, c1]; rfl))⟩
      | true =>
        refine iteT ⟨_, rfl, _, b, rfl, rfl, _, rfl, ?_⟩
        cases c2 : decide ((x.length : Int) ≤ b) with
        | false => exact iteT (qf (by rw [eo, c1, c2]; rfl))
        | true =>
          refine iteF ⟨_, rfl, x, rfl, fun L nL => ?_⟩
          have sL := same_upd nL (o := .lst [])
          refine lc_it (walk_str (z := x)) (fun i Hi => ∃ bs : List Bool, bs = (x.cps.toList.take i).map (fun c => decide (c ∈ sg.cps.toList)) ∧ Hi L = some (.lst (bs.map V.bl)) ∧ L2.Same H Hi) ?_ (fun _ _ _ _ => trivial) ?_ ?_
          · exact ⟨[], rfl, upd_same, sL⟩
          · rintro i v Hi Hi' _ ⟨bs, eb, eL, sm⟩ ⟨rfl, c, ec, rfl⟩
            rw [← Array.getElem?_toList] at ec
            refine ⟨rfl, ?_⟩
            unfold tYes
            refine iteT ⟨_, rfl, _, rfl, c, sg, rfl, rfl, ?_⟩
            have il : i < x.cps.toList.length := (List.getElem?_eq_some_iff.mp ec).1
            refine ⟨_, eL, ?_, bs ++ [decide (c ∈ sg.cps.toList)], ?_, ?_, fun b o e => ?_⟩
            · rw [List.length_map, eb, List.length_map, List.length_take]
              refine Nat.lt_of_le_of_lt (show min i x.cps.toList.length ≤ 50000 from ?_) (by decide)
              rw [← len_cps]
              omega
            · rw [List.take_succ, ec, List.map_append, eb]
              rfl
            · rw [upd_same, List.map_append]
              rfl
            · rw [upd_ne (ne_of_none e nL)]
              exact sm _ _ e
          · rintro He ⟨bs, eb, eL, sm⟩
            refine ⟨L, _, rfl, SqL.of eL, ?_⟩
            have w := q He sm
            rw [eo, c1, c2] at w
            rw [eb, List.take_of_length_le (by rw [Array.length_toList]; exact Nat.le_refl _), List.all_map]
            exact w
    | _ => exact iteT (qf rfl)
theorem ok_small {f : Addr} {fd : FuncData} {e : Ex} (D : Df K mg "is_small_text" ["thing", "least", "most"] sIsSmallText f fd) (T : Txt K mg C e) (cO : Ca P w K mg base 1 "is_text_of" ["thing", "signs", "least", "most"] (spTextOf K)) : FnOk P w K mg base CX0 2 f fd ["thing", "least", "most"] (spSmall K) := by
  obtain ⟨_, gS⟩ := T.sm
  obtain ⟨_, gW⟩ := T.lw
  obtain ⟨_, gK⟩ := T.kp
  obtain ⟨_, gM⟩ := T.mr
  obtain ⟨_, gF⟩ := T.fg
  obtain ⟨_, gN⟩ := T.mf
  refine D.fn.ok scIsSmallText (fun vs H Q E h => ?_) (fun cdv A outer s H vs Q E hr h => ?_)
  · obtain ⟨v, d, a, b, rfl, hz, sz, q⟩ := h
    rfl
  · obtain ⟨v, d, a, b, rfl, hz, sz, q⟩ := h
    refine ⟨_, (pss_one (ps_ret (pe_ca cO hr (by decide) (by rfl) (pa_cons (pv 0) (pa_cons (pe_glob (v := .str small) (by rfl) gS ⟨_, rfl⟩) (pa_cons (pv 1) (pa_cons (pv 2) pa_nil))))))), ?_⟩
    exact ⟨_, rfl, _, rfl, _, rfl, v, d, small, a, b, rfl, hz, sz, q⟩
theorem ok_word8 {f : Addr} {fd : FuncData} {e : Ex} (D : Df K mg "is_word" ["thing"] sIsWord f fd) (T : Txt K mg C e) (cS : Ca P w K mg base 2 "is_small_text" ["thing", "least", "most"] (spSmall K)) : FnOk P w K mg base CX0 3 f fd ["thing"] (spWord K) := by
  obtain ⟨_, gS⟩ := T.sm
  obtain ⟨_, gW⟩ := T.lw
  obtain ⟨_, gK⟩ := T.kp
  obtain ⟨_, gM⟩ := T.mr
  obtain ⟨_, gF⟩ := T.fg
  obtain ⟨_, gN⟩ := T.mf
  refine D.fn.ok scIsWord (fun vs H Q E h => ?_) (fun cdv A outer s H vs Q E hr h => ?_)
  · obtain ⟨v, d, rfl, hz, sz, q⟩ := h
    rfl
  · obtain ⟨v, d, rfl, hz, sz, q⟩ := h
    refine ⟨_, (pss_one (ps_ret (pe_ca cS hr (by decide) (by rfl) (pa_cons (pv 0) (pa_cons pe_int (pa_cons (pe_glob (v := .int 8) (by rfl) gW ⟨_, rfl⟩) pa_nil)))))), ?_⟩
    exact ⟨_, rfl, v, d, 1, 8, rfl, hz, sz, q⟩
theorem dz_len {H : Hp} : ∀ {xs : List V} {ds : List PyData}, DzAll K H xs ds → xs.length = ds.length
  | [], _, .nil => rfl
  | _ :: _, _, .cons _ hr => by rw [List.length_cons, List.length_cons, dz_len hr]
theorem dz_get {H : Hp} : ∀ {xs : List V} {ds : List PyData} {i : Nat} {v : V}, DzAll K H xs ds → xs[i]? = some v → ∃ d, ds[i]? = some d ∧ Dz K H v d
  | [], _, _, _, .nil, e => by simp at e
  | _ :: _, _, 0, _, .cons hd _, e => by
    cases e
    exact ⟨_, rfl, hd⟩
  | _ :: _, _, i + 1, _, .cons _ hr, e => dz_get (i := i) hr e
theorem len3 {α : Type} {a b c : α} {r : List α} (e : ¬(!decide (V.int (((a :: b :: c :: r).length : Nat) : Int) = V.int 2)) = true) : (0 : Nat) ≠ 0 := fun _ => by
  have n : ¬ V.int (((a :: b :: c :: r).length : Nat) : Int) = V.int 2 := fun z => by
    have := V.int.inj z
    simp at this
    omega
  rw [decide_eq_false n] at e
  exact e rfl
theorem ok_key {f : Addr} {fd : FuncData} {e : Ex} (D : Df K mg "is_key" ["thing"] sIsKey f fd) (T : Txt K mg C e) (cWd : Ca P w K mg base 3 "is_word" ["thing"] (spWord K)) (cWh : Ca P w K mg base 1 "is_whole" ["thing"] (spWhole K)) : FnOk P w K mg base CX0 4 f fd ["thing"] (spIsKey K) := by
  obtain ⟨_, gS⟩ := T.sm
  obtain ⟨_, gW⟩ := T.lw
  obtain ⟨_, gK⟩ := T.kp
  obtain ⟨_, gM⟩ := T.mr
  obtain ⟨_, gF⟩ := T.fg
  obtain ⟨_, gN⟩ := T.mf
  refine D.fn.ok scIsKey (fun vs H Q E h => ?_) (fun cdv A outer s H vs Q E hr h => ?_)
  · obtain ⟨v, d, rfl, hz, s2, q⟩ := h
    rfl
  · obtain ⟨v, d, rfl, hz, s2, q⟩ := h
    refine ⟨_, (pss_cons (ps_if (PW.pt (pw_or (pt_not (pt_val (pe_callB call_isi (by rfl) T.isi (by decide +kernel) (pa_cons (pv 0) (pa_cons (pe_bltn (v := .ty "tuple") (by rfl) T.tuple (by decide +kernel) rfl) pa_nil))))) (pw_or1 (pt_cmpR op_ne (pe_callB call_len_seq (by rfl) T.len PySem.boot_len (pa_cons (pv 0) pa_nil)) (pe_glob (v := .int 2) (by rfl) gK ⟨_, rfl⟩) (nomark _))))) (pss_one (ps_ret pe_bl)) pss_nil)
      (pss_cons (ps_asg (pv 0) (pg_tup (by rfl) (pgs_cons (pg_name (i := 1) scIsKey.nd rfl (.inl rfl)) (pgs_cons (pg_name (i := 2) scIsKey.nd rfl (.inl rfl)) pgs_nil))))
      (pss_one (ps_ret (pe_and (pe_ca cWd hr (by decide) (by rfl) (pa_cons (pv 1) pa_nil)) (pe_and (pe_ca cWh hr (by decide) (by rfl) (pa_cons (pv 2) pa_nil)) (pe_one (pe_cmpR op_ge (pv 2) pe_int (nomark _))))))))), ?_⟩
    refine ⟨_, rfl, _, _, _, _, isTup d, rfl, .ty _, hz.ty, z_tup d, _, rfl, ?_⟩
    have qf : kyD d = false → Q (.bl false) H := fun e => by
      have w := q H (Same.refl H)
      rw [e] at w
      exact w
    cases hz with
    | @tup t xs ds et ra =>
      refine iteF ⟨_, rfl, t, xs, rfl, .inr (SqT.of et), rfl, _, rfl, ?_⟩
      match xs, ds, ra with
      | [], _, .nil => exact iteT (qf rfl)
      | [_], _, .cons _ .nil => exact iteT (qf rfl)
      | _ :: _ :: _ :: r, _, .cons _ (.cons _ (.cons _ _)) => exact ite2 (fun _ => qf rfl) (fun e => absurd rfl (len3 e))
      | [va, vb], _, .cons (d := a) ha (.cons (d := b) hb .nil) =>
        obtain ⟨ta, tb⟩ : St a ∧ St b := ⟨s2 _ rfl a (by simp), s2 _ rfl b (by simp)⟩
        refine iteF ⟨_, rfl, t, _, rfl, SqT.of et, rfl, _, _, rfl, _, _, rfl, rfl, ?_⟩
        refine ⟨_, rfl, va, a, rfl, ha, ta, fun H1 s1 => ⟨_, rfl, ?_⟩⟩
        cases c : ofT a small 1 8 with
        | false =>
          have w := q H1 s1
          rw [show kyD (.tuple [a, b]) = false by show (ofT a small 1 8 && nn b) = false; rw [c]; rfl] at w
          exact iteF w
        | true =>
          have w := fun H' sm => q H' sm
          rw [show kyD (.tuple [a, b]) = nn b by show (ofT a small 1 8 && nn b) = _; rw [c]; rfl] at w
          refine iteT ⟨_, rfl, vb, b, rfl, hb.same s1, _, rfl, ?_⟩
          unfold nn at w
          cases wb : wh b with
          | none =>
            rw [wb] at w
            exact iteF (w H1 s1)
          | some i =>
            have eb : vb = .int i := by
              cases hb <;> simp [wh] at wb
              rw [wb]
            subst eb
            rw [wb] at w
            exact iteT ⟨_, rfl, i, 0, rfl, rfl, w H1 s1⟩
    | _ => exact iteT (qf rfl)
theorem ok_rows {f : Addr} {fd : FuncData} {e : Ex} (D : Df K mg "are_rows" ["thing"] sAreRows f fd) (T : Txt K mg C e) (cK : Ca P w K mg base 4 "is_key" ["thing"] (spIsKey K)) : FnOk P w K mg base CX0 5 f fd ["thing"] (spAreRows K) := by
  obtain ⟨_, gS⟩ := T.sm
  obtain ⟨_, gW⟩ := T.lw
  obtain ⟨_, gK⟩ := T.kp
  obtain ⟨_, gM⟩ := T.mr
  obtain ⟨_, gF⟩ := T.fg
  obtain ⟨_, gN⟩ := T.mf
  refine D.fn.ok scAreRows (fun vs H Q E h => ?_) (fun cdv A outer s H vs Q E hr h => ?_)
  · obtain ⟨v, d, rfl, hz, s3, q⟩ := h
    rfl
  · obtain ⟨v, d, rfl, hz, s3, q⟩ := h
    refine ⟨_, (pss_one (ps_ret (pe_and (pe_callB call_isi (by rfl) T.isi (by decide +kernel) (pa_cons (pv 0) (pa_cons (pe_bltn (v := .ty "tuple") (by rfl) T.tuple (by decide +kernel) rfl) pa_nil))) (pe_and (pe_chain op_le op_le pe_int (pe_callB call_len_seq (by rfl) T.len PySem.boot_len (pa_cons (pv 0) pa_nil)) (pe_glob (v := .int 30) (by rfl) gM ⟨_, rfl⟩)) (pe_one (pe_callB (cr_all (by rfl)) (by rfl) T.all (by decide +kernel) (pa_cons (pe_lc (own := [("key", 1)]) (g := gName 1) (tt := tYes) (te := tCall (spIsKey K) [] E0 (tCons (tVar 1) tNil)) (by rfl) scAreRows.nd (pi_tup (pv 0)) (blkOk_by (own := [("key", 1)]) (N := ["thing", "key"]) (sc := defScope sAreRows) (by decide +kernel)) (fun _ _ _ _ _ => pg_name (i := 1) scAreRows.nd rfl (.inl rfl)) (fun _ _ _ _ _ => pts_nil) (fun _ _ _ _ _ => pe_ca cK hr (by decide) (by rfl) (pa_cons (pv 1) pa_nil))) pa_nil))))))), ?_⟩
    refine ⟨_, rfl, _, _, _, _, isTup d, rfl, .ty _, hz.ty, z_tup d, _, rfl, ?_⟩
    cases hz with
    | @tup t xs ds et ra =>
      obtain ⟨l60000, s2⟩ := s3 _ rfl
      have lx := dz_len ra
      refine iteT ⟨_, rfl, t, xs, rfl, .inr (SqT.of et), 1, _, rfl, rfl, _, rfl, ?_⟩
      have qz : ∀ H', L2.Same H H' → rwD (.tuple ds) = false → Q (.bl false) H' := fun H' sm e => by
        have w := q H' sm
        rw [e] at w
        exact w
      cases c1 : decide ((1 : Int) ≤ (xs.length : Int)) with
      | false => exact iteF ⟨_, rfl, iteF (qz H (Same.refl H) (by unfold rwD; dsimp only; rw [← lx, c1]; rfl))⟩
      | true =>
        refine iteT ⟨_, 30, rfl, rfl, _, rfl, ?_⟩
        cases c2 : decide ((xs.length : Int) ≤ 30) with
        | false => exact iteF (qz H (Same.refl H) (by unfold rwD; dsimp only; rw [← lx, c1, c2]; rfl))
        | true =>
          refine iteT ⟨_, rfl, t, rfl, ⟨_, SqT.of et⟩, fun D nD => ?_⟩
          refine lc_tup (K := K) (a := t) (xs := xs) (fun i Hi => L2.Same H Hi ∧ Hi D = some (.lst (((ds.map kyD).take i).map V.bl))) ⟨same_upd nD, upd_same⟩ (fun i Hi _ z => SqT.of (z.1 _ _ et)) ?_ ?_
          · rintro i x Hi hx ⟨sm, eD⟩
            have il : i < xs.length := (List.getElem?_eq_some_iff.mp hx).1
            obtain ⟨di, edi, dzi⟩ := dz_get ra hx
            refine ⟨rfl, ?_⟩
            unfold tYes
            refine iteT ⟨_, rfl, x, di, rfl, dzi.same sm, s2 di (List.mem_of_getElem? edi), fun H1 s1 => ⟨_, s1 _ _ eD, ?_, fun c o e => ?_, ?_⟩⟩
            · rw [List.length_map, List.length_take]
              exact Nat.lt_of_le_of_lt (Nat.le_trans (Nat.min_le_left _ _) (show i ≤ 60000 by omega)) (by decide)
            · rw [upd_ne (ne_of_none e nD)]
              exact s1 _ _ (sm _ _ e)
            · rw [upd_same, List.take_add_one, List.getElem?_map, edi, List.map_append]
              rfl
          · rintro H2 ⟨s2', eD⟩
            have tk : (ds.map kyD).take xs.length = ds.map kyD := List.take_of_length_le (by rw [List.length_map]; omega)
            rw [tk] at eD
            refine ⟨D, _, rfl, SqL.of eD, ?_⟩
            have w := q H2 s2'
            have er : rwD (.tuple ds) = (ds.map kyD).all id := by
              unfold rwD
              dsimp only
              rw [← lx, c1, c2, List.all_map]
              rfl
            rw [er] at w
            exact w
    | _ => exact iteF (q H (Same.refl H))
end
end K66
set_option Elab.async false
set_option linter.all false
set_option maxRecDepth 100000
set_option maxHeartbeats 4000000
set_option pp.maxSteps 400
set_option pp.deepTerms false
namespace K66
open PySem PySem.Spec PyProof.Rows L2
open Xk Az Xtx
section
variable {P : Program} {w : World} {K : PySem.W.Frag} {mg : Str → Option Value} {base : Heap} {C : Addr}
/-- a Disc -/
def discF (v r : V) : List (Str × V) := [("label", v), ("rows", r)]
def DiscAt (C : Addr) (H : Hp) (x : Addr) (v r : V) : Prop := ∃ dx, H x = some (.ins C dx (discF v r))
theorem DiscAt.same {C : Addr} {H H' : Hp} {x : Addr} {v r : V} (h : DiscAt C H x v r) (s : L2.Same H H') : DiscAt C H' x v r := by
  obtain ⟨dx, e⟩ := h
  exact ⟨dx, s _ _ e⟩
theorem f_l (v r : V) : (discF v r).lookup ("label" : Str) = some v := by unfold discF; rw [List.lookup_cons_self]
theorem f_r (v r : V) : (discF v r).lookup ("rows" : Str) = some r := by
  unfold discF
  rw [List.lookup_cons, show (("rows" : Str) == ("label" : Str)) = false by decide +kernel]
  exact List.lookup_cons_self
def spInit (K : PySem.W.Frag) (C : Addr) (e : Ex) : Sp := fun vs H Q E => ∃ (x dx : Addr) (v r : V) (d dr : PyData), vs = [.ref x, v, r] ∧ H x = some (.ins C dx []) ∧ Dz K H v d ∧ St d ∧ Dz K H r dr ∧ S3 dr ∧
  ofT d small 1 8 = true ∧ rwD dr = true ∧ ∀ H' : Hp, (∀ b o, H b = some o → b ≠ x → H' b = some o) → DiscAt C H' x v r → Q .non H'
theorem ok_init {f : Addr} {fd : FuncData} {e : Ex} (F : Fun K "__init__" "Disc.__init__" sDiscInit f fd) (T : Txt K mg C e) (cWd : Ca P w K mg base 3 "is_word" ["thing"] (spWord K)) (cRw : Ca P w K mg base 5 "are_rows" ["thing"] (spAreRows K)) : FnOk P w K mg base CX0 6 f fd ["self", "label", "rows"] (spInit K C e) := by
  refine F.ok scDiscInit (fun vs H Q E h => ?_) (fun cdv A outer s H vs Q E hr h => ?_)
  · obtain ⟨x, dx, v, r, d, dr, rfl, hx, hd, sd, hr2, sr, q1, q2, q3⟩ := h
    rfl
  · obtain ⟨x, dx, v, r, d, dr, rfl, hx, hd, sd, hr2, sr, q1, q2, q3⟩ := h
    refine ⟨_, (pss_cons (ps_if (pt_not (pt_val (pe_ca cWd hr (by decide) (by rfl) (pa_cons (pv 1) pa_nil)))) (pss_one ps_no) pss_nil)
      (pss_cons (ps_if (pt_not (pt_val (pe_ca cRw hr (by decide) (by rfl) (pa_cons (pv 2) pa_nil)))) (pss_one ps_no) pss_nil)
      (pss_cons (ps_fld (pv 0) (pv 1) rfl)
      (pss_one (ps_fld (pv 0) (pv 2) rfl))))), ?_⟩
    refine ⟨_, rfl, v, d, rfl, hd, sd, fun H1 s1 => ⟨_, rfl, ?_⟩⟩
    rw [q1]
    refine iteF ⟨_, rfl, r, dr, rfl, hr2.same s1, sr, fun H2 s2 => ⟨_, rfl, ?_⟩⟩
    have s12 := s1.trans s2
    rw [q2]
    refine iteF ?_
    refine ⟨_, rfl, _, rfl, x, C, dx, [], rfl, s12 _ _ hx, T.cl, T.nL, (by decide), ?_⟩
    exact ⟨_, rfl, _, rfl, x, C, dx, _, rfl, upd_same, T.cl, T.nR, (by show 1 < 1000; decide), q3 _ (fun b o e n => by rw [upd_ne n, upd_ne n]; exact s12 _ _ e) ⟨dx, upd_same⟩⟩
end
end K66
set_option Elab.async false
set_option linter.all false
set_option maxRecDepth 100000
set_option maxHeartbeats 4000000
set_option pp.maxSteps 400
set_option pp.deepTerms false
namespace K66
open PySem PySem.Spec PyProof.Rows L2
open Xk Az Xtx
section
variable {P : Program} {w : World} {K : PySem.W.Frag} {mg : Str → Option Value} {base : Heap} {C : Addr}
/-- house and number -/
abbrev Ky := Str × Int
def kyP (k : Ky) : PyData := .tuple [.str k.1, .int k.2]
def rwP (ks : List Ky) : PyData := .tuple (ks.map kyP)
/-- rows of a disc, where they stand -/
def kyT (k : Ky) : Str := k.1 ++ " " ++ Str.ofString (toString k.2)
def kysT (ks : List Ky) : Str := Txt.join ", " (ks.map kyT)
structure GoodK (k : Ky) : Prop where
  w1 : 1 ≤ k.1.length
  w8 : k.1.length ≤ 8
  ws : ∀ c ∈ k.1.cps.toList, c ∈ small.cps.toList
  n0 : 0 ≤ k.2
  n1 : k.2 < 10 ^ 30
def Rws (K : PySem.W.Frag) (H : Hp) (v : V) (ks : List Ky) : Prop := Dz K H v (rwP ks) ∧ (∀ k ∈ ks, GoodK k) ∧ 1 ≤ ks.length ∧ ks.length ≤ 31
theorem Rws.same {H H' : Hp} {v : V} {ks : List Ky} (h : Rws K H v ks) (s : L2.Same H H') : Rws K H' v ks := ⟨h.1.same s, h.2⟩
theorem rws_tup {H : Hp} {v : V} {ks : List Ky} (h : Rws K H v ks) : ∃ t xs, v = .ref t ∧ H t = some (.tup xs) ∧ DzAll K H xs (ks.map kyP) := by
  obtain ⟨z, _⟩ := h
  unfold rwP at z
  cases z with
  | tup e r => exact ⟨_, _, rfl, e, r⟩
theorem dz_key {H : Hp} {v : V} {k : Ky} (h : Dz K H v (kyP k)) : ∃ t, v = .ref t ∧ H t = some (.tup [.str k.1, .int k.2]) := by
  unfold kyP at h
  cases h with
  | tup e r =>
    cases r with
    | cons h1 r =>
      cases r with
      | cons h2 r =>
        cases r
        cases h1
        cases h2
        exact ⟨_, rfl, e⟩
def spShowKey : Sp := fun vs H Q _ => ∃ (t : Addr) (k : Ky), vs = [.ref t] ∧ H t = some (.tup [.str k.1, .int k.2]) ∧ GoodK k ∧ Q (.str (kyT k)) H
def spShowKeys (K : PySem.W.Frag) : Sp := fun vs H Q _ => ∃ (v : V) (ks : List Ky), vs = [v] ∧ Rws K H v ks ∧ ∀ H', L2.Same H H' → Q (.str (kysT ks)) H'
theorem fitN {n : Nat} (h : n ≤ 100000) : n ≤ sizeLine := Nat.le_trans h (by decide)
theorem lg {i : Int} (h0 : -(10 ^ 31) < i) (h1 : i < 10 ^ 31) : i.natAbs.log2 < 1920 := by
  have h2 : i.natAbs < 2 ^ 110 := by
    have : (10 : Int) ^ 31 < 2 ^ 110 := by decide
    omega
  exact Nat.lt_of_lt_of_le (PySem.Flt.log2_lt_of (by decide) h2) (by decide)
theorem big39 : (10 : Int) ^ 30 < 10 ^ 39 := by decide
theorem tx_le {i : Int} (h0 : -(10 ^ 30) ≤ i) (h1 : i ≤ 10 ^ 30) : (Str.ofString (toString i)).length ≤ 40 := by
  have b := big39
  cases i with
  | ofNat m =>
    have c : (Int.ofNat m) = (m : Int) := rfl
    exact Nat.le_trans (toString_length_le (v := (m : Int)) (by omega) (k := 39) (by decide) (by omega)) (by decide)
  | negSucc m =>
    have c : Int.negSucc m = -((m : Int) + 1) := rfl
    have z := toString_length_le (v := ((m + 1 : Nat) : Int)) (by omega) (k := 39) (by decide) (by omega)
    rw [PySem.ofString_length] at z ⊢
    have z2 : (toString (m + 1)).length ≤ 39 := z
    show ("-" ++ toString (m + 1)).length ≤ 40
    rw [String.length_append]
    have : "-".length = 1 := rfl
    omega
theorem kyT_len {k : Ky} (h : GoodK k) : (kyT k).length ≤ 60 := by
  unfold kyT
  rw [strLen_append, strLen_append, show (" " : Str).length = 1 by decide +kernel]
  have := h.w8
  have := tx_le (i := k.2) (by have := h.n0; omega) (Int.le_of_lt h.n1)
  omega
theorem ok_sk {f : Addr} {fd : FuncData} {e : Ex} (D : Df K mg "show_key" ["key"] sShowKey f fd) (T : Txt K mg C e) : FnOk P w K mg base CX0 1 f fd ["key"] spShowKey := by
  refine D.fn.ok scShowKey (fun vs H Q E h => ?_) (fun cdv A outer s H vs Q E hr h => ?_)
  · obtain ⟨t, k, rfl, et, gk, q⟩ := h
    rfl
  · obtain ⟨t, k, rfl, et, gk, q⟩ := h
    refine ⟨_, (pss_cons (ps_asg (pv 0) (pg_tup (by rfl) (pgs_cons (pg_name (i := 1) scShowKey.nd rfl (.inl rfl)) (pgs_cons (pg_name (i := 2) scShowKey.nd rfl (.inl rfl)) pgs_nil))))
      (pss_one (ps_ret (pe_joined (.cons (pe_fmt (pv 1)) (.cons pe_str (.cons (pe_fmt (pv 2)) .nil))))))), ?_⟩
    refine ⟨_, rfl, t, _, rfl, SqT.of et, rfl, _, _, rfl, _, _, rfl, rfl, ?_⟩
    have e0 : Str.empty.length = 0 := rfl
    have e1 : (" " : Str).length = 1 := by decide +kernel
    have lw := gk.w8
    have ln := tx_le (i := k.2) (by have := gk.n0; omega) (Int.le_of_lt gk.n1)
    refine ⟨_, rfl, .inl ⟨_, rfl, fitN (by omega), _, rfl, fitN ?_, _, rfl, fitN ?_, _, rfl, .inr ⟨_, rfl, lg (by have := gk.n0; omega) (by have := (Int.le_of_lt gk.n1); omega), _, rfl, fitN ?_, ?_⟩⟩⟩
    · rw [strLen_append, e0]; omega
    · rw [strLen_append, strLen_append, e0, e1]; omega
    · rw [strLen_append, strLen_append, strLen_append, e0, e1]
      have : (toString k.2 : Str).length = (Str.ofString (toString k.2)).length := rfl
      omega
    · show Q (V.str (Str.empty ++ k.1 ++ " " ++ Str.ofString (toString k.2))) H
      rw [Str.empty_append]
      exact q
theorem sum_le {ys : List Str} {b : Nat} (h : ∀ y ∈ ys, y.length ≤ b) : (ys.map (·.length)).sum ≤ ys.length * b := by
  induction ys with
  | nil => simp
  | cons y r ih =>
    rw [List.map_cons, List.sum_cons, List.length_cons, Nat.add_mul]
    have := h y List.mem_cons_self
    have := ih fun z hz => h z (List.mem_cons_of_mem _ hz)
    omega
theorem ky_sum {ks : List Ky} (h : ∀ k ∈ ks, GoodK k) (l : ks.length ≤ 31) : ((ks.map kyT).map (·.length)).sum + (ks.map kyT).length * (", " : Str).length ≤ 2000 := by
  have a := sum_le (ys := ks.map kyT) (b := 60) fun y hy => by
    obtain ⟨k, hk, rfl⟩ := List.mem_map.mp hy
    exact kyT_len (h k hk)
  rw [show (", " : Str).length = 2 by decide +kernel]
  rw [List.length_map] at a ⊢
  omega
theorem kysT_len {ks : List Ky} (h : ∀ k ∈ ks, GoodK k) (l : ks.length ≤ 31) : (kysT ks).length ≤ 2000 := by
  unfold kysT
  rw [TL.join_eq]
  exact Nat.le_trans (PySem.StrLaws.join_length_le _ _) (ky_sum h l)
theorem ok_sks {f : Addr} {fd : FuncData} {e : Ex} (D : Df K mg "show_keys" ["keys"] sShowKeys f fd) (T : Txt K mg C e) (cSk : Ca P w K mg base 1 "show_key" ["key"] spShowKey) : FnOk P w K mg base CX0 2 f fd ["keys"] (spShowKeys K) := by
  refine D.fn.ok scShowKeys (fun vs H Q E h => ?_) (fun cdv A outer s H vs Q E hr h => ?_)
  · obtain ⟨v, ks, rfl, hk, q⟩ := h
    rfl
  · obtain ⟨v, ks, rfl, hk, q⟩ := h
    refine ⟨_, (pss_one (ps_ret (pe_m1 F.slot_str_join F.type_str_join mt_join pe_str (pe_lc (own := [("key", 1)]) (g := gName 1) (tt := tYes) (by rfl) scShowKeys.nd (pi_tup (pv 0)) (blkOk_by (own := [("key", 1)]) (N := ["keys", "key"]) (sc := defScope sShowKeys) (by decide +kernel)) (fun _ _ _ _ _ => pg_name (i := 1) scShowKeys.nd rfl (.inl rfl)) (fun _ _ _ _ _ => pts_nil) (fun _ _ _ _ _ => pe_ca cSk hr (by decide) (by rfl) (pa_cons (pv 1) pa_nil)))))), ?_⟩
    obtain ⟨t, xs, rfl, et, ra⟩ := rws_tup hk
    obtain ⟨_, gk, k1, k30⟩ := hk
    have lx := dz_len ra
    rw [List.length_map] at lx
    refine ⟨⟨_, rfl⟩, _, rfl, t, rfl, ⟨_, SqT.of et⟩, fun D nD => ?_⟩
    refine lc_tup (K := K) (a := t) (xs := xs) (fun i Hi => L2.Same H Hi ∧ Hi D = some (.lst (((ks.map kyT).take i).map V.str))) ⟨same_upd nD, upd_same⟩ (fun i Hi _ z => SqT.of (z.1 _ _ et)) ?_ ?_
    · rintro i x Hi hx ⟨sm, eD⟩
      have il : i < xs.length := (List.getElem?_eq_some_iff.mp hx).1
      obtain ⟨di, edi, dzi⟩ := dz_get ra hx
      rw [List.getElem?_map] at edi
      obtain ⟨k, ek, rfl⟩ := Option.map_eq_some_iff.mp edi
      obtain ⟨tk, rfl, etk⟩ := dz_key dzi
      refine ⟨rfl, ?_⟩
      unfold tYes
      refine iteT ⟨_, rfl, tk, k, rfl, sm _ _ etk, gk k (List.mem_of_getElem? ek), _, eD, ?_, fun c o e => ?_, ?_⟩
      · rw [List.length_map, List.length_take]
        exact Nat.lt_of_le_of_lt (Nat.le_trans (Nat.min_le_left _ _) (show i ≤ 1000 by omega)) (by decide)
      · rw [upd_ne (ne_of_none e nD)]
        exact sm _ _ e
      · rw [upd_same, List.take_add_one, List.getElem?_map, ek, List.map_append]
        rfl
    · rintro H2 ⟨s2, eD⟩
      have tk : (ks.map kyT).take xs.length = ks.map kyT := List.take_of_length_le (by rw [List.length_map]; omega)
      rw [tk] at eD
      exact ⟨_, D, ks.map kyT, rfl, rfl, .inl (SqL.of eD), Nat.le_trans (ky_sum gk k30) (by decide), q H2 s2⟩
end
end K66
set_option Elab.async false
set_option linter.all false
set_option maxRecDepth 100000
set_option maxHeartbeats 4000000
set_option pp.maxSteps 400
set_option pp.deepTerms false
namespace K66
open PySem PySem.Spec PyProof.Rows L2
open Xk Az Xtx
section
variable {P : Program} {w : World} {K : PySem.W.Frag} {mg : Str → Option Value} {base : Heap} {C : Addr}
def discT (x : Str) (ks : List Ky) : Str := "disc " ++ x ++ ": " ++ kysT ks
def discR (x : Str) (n : Nat) : Str := "Disc('" ++ x ++ "', " ++ Str.ofString (toString (n : Int)) ++ ")"
def spStr (K : PySem.W.Frag) (C : Addr) : Sp := fun vs H Q _ => ∃ (a : Addr) (x : Str) (r : V) (ks : List Ky), vs = [.ref a] ∧ DiscAt C H a (.str x) r ∧ x.length ≤ 8 ∧ Rws K H r ks ∧ ∀ H', L2.Same H H' → Q (.str (discT x ks)) H'
def spRepr (K : PySem.W.Frag) (C : Addr) : Sp := fun vs H Q _ => ∃ (a : Addr) (x : Str) (t : Addr) (xs : List V), vs = [.ref a] ∧ DiscAt C H a (.str x) (.ref t) ∧ x.length ≤ 8 ∧ H t = some (.tup xs) ∧ xs.length ≤ 1000 ∧ Q (.str (discR x xs.length)) H
/-- whether two discs are the same -/
def spEq (K : PySem.W.Frag) (C : Addr) : Sp := fun vs H Q _ => ∃ (a : Addr) (o : V) (x : Str) (r : V) (ks : List Ky), vs = [.ref a, o] ∧ DiscAt C H a (.str x) r ∧ Rws K H r ks ∧
  ((∃ t, Odd H o t ∧ Q (.bl false) H) ∨ ∃ (b : Addr) (x2 : Str) (r2 : V) (ks2 : List Ky), o = .ref b ∧ DiscAt C H b (.str x2) r2 ∧ Rws K H r2 ks2 ∧ Q (.bl (decide (x = x2) && PyData.eqv (rwP ks) (rwP ks2))) H)
theorem asc_small : ∀ c ∈ small.cps.toList, c < 128 := by decide +kernel
theorem ky_dp {H : Hp} : ∀ {xs : List V} {ks : List Ky}, DzAll K H xs (ks.map kyP) → DpAll K H xs (ks.map kyP)
  | [], [], .nil => .nil
  | _ :: _, k :: ks, .cons h r => by
    obtain ⟨t, rfl, e⟩ := dz_key h
    exact .cons (.tup (SqT.of e) (.cons (.str k.1) (.cons (.int k.2) .nil))) (ky_dp r)
theorem rws_dp {H : Hp} {v : V} {ks : List Ky} (h : Rws K H v ks) : Dp K H v (rwP ks) := by
  obtain ⟨t, xs, rfl, e, r⟩ := rws_tup h
  exact .tup (SqT.of e) (ky_dp r)
theorem strOk_w {k : Ky} (h : GoodK k) : PyData.strOk k.1 = true := by
  unfold PyData.strOk
  rw [← Array.all_toList, List.all_eq_true]
  intro c hc
  exact decide_eq_true (Nat.lt_of_lt_of_le (asc_small c (h.ws c hc)) (by decide))
theorem ky_lay : ∀ {ks : List Ky}, (∀ k ∈ ks, GoodK k) → PyData.canLayAll0 (ks.map kyP) = true ∧ PyData.depthAll (ks.map kyP) ≤ 3
  | [], _ => ⟨by simp [PyData.canLayAll0], by simp [PyData.depthAll]⟩
  | k :: ks, h => by
    obtain ⟨a, b⟩ := ky_lay (ks := ks) fun z hz => h z (List.mem_cons_of_mem _ hz)
    have w := strOk_w (h k List.mem_cons_self)
    constructor
    · simp [kyP, PyData.canLayAll0, PyData.canLay0, w, a]
    · simp only [List.map_cons, PyData.depthAll, kyP, PyData.depth]
      omega
theorem rws_shaped {ks : List Ky} (h : ∀ k ∈ ks, GoodK k) : SeqAt.shaped (rwP ks) = true := by
  obtain ⟨a, b⟩ := ky_lay h
  unfold SeqAt.shaped rwP
  have h1 : (PyData.tuple (ks.map kyP)).canLay0 = true := by simp only [PyData.canLay0]; exact a
  have h2 : (PyData.tuple (ks.map kyP)).depth ≤ 64 := by simp only [PyData.depth]; omega
  rw [h1, decide_eq_true h2]
  rfl
theorem ok_str {f : Addr} {fd : FuncData} {e : Ex} (F : Fun K "__str__" "Disc.__str__" sDiscStr f fd) (T : Txt K mg C e) (cSks : Ca P w K mg base 2 "show_keys" ["keys"] (spShowKeys K)) : FnOk P w K mg base CX0 3 f fd ["self"] (spStr K C) := by
  refine F.ok scDiscStr (fun vs H Q E h => ?_) (fun cdv A outer s H vs Q E hr h => ?_)
  · obtain ⟨a, x, r, ks, rfl, ⟨dx, ha⟩, lx, hk, q⟩ := h
    rfl
  · obtain ⟨a, x, r, ks, rfl, ⟨dx, ha⟩, lx, hk, q⟩ := h
    refine ⟨_, (pss_one (ps_ret (pe_joined (.cons pe_str (.cons (pe_fmt (pe_fld (pv 0) rfl)) (.cons pe_str (.cons (pe_fmt (pe_ca cSks hr (by decide) (by rfl) (pa_cons (pe_fld (pv 0) rfl) pa_nil))) .nil))))))), ?_⟩
    have e0 : Str.empty.length = 0 := rfl
    have e1 : ("disc " : Str).length = 5 := by decide +kernel
    have e2 : (": " : Str).length = 2 := by decide +kernel
    have lk := kysT_len hk.2.1 hk.2.2.2
    refine ⟨_, rfl, fitN ?_, _, rfl, a, C, dx, _, _, rfl, ha, T.cl, T.nL, f_l _ _, .inl ⟨_, rfl, fitN (by omega), _, rfl, fitN ?_, _, rfl, fitN ?_, _, rfl, a, C, dx, _, _, rfl, ha, T.cl, T.nR, f_r _ _, r, ks, rfl, hk, fun H1 s1 => .inl ⟨_, rfl, fitN (by omega), _, rfl, fitN ?_, ?_⟩⟩⟩
    · rw [strLen_append, e0, e1]; decide
    · rw [strLen_append, strLen_append, e0, e1]; omega
    · rw [strLen_append, strLen_append, strLen_append, e0, e1, e2]; omega
    · rw [strLen_append, strLen_append, strLen_append, strLen_append, e0, e1, e2]; omega
    · show Q (V.str (Str.empty ++ "disc " ++ x ++ ": " ++ kysT ks)) H1
      rw [Str.empty_append]
      exact q H1 s1
theorem ok_eq {f : Addr} {fd : FuncData} {e : Ex} (F : Fun K "__eq__" "Disc.__eq__" sDiscEq f fd) (T : Txt K mg C e) (Z : KitC K C) : FnOk P w K mg base CX0 1 f fd ["self", "other"] (spEq K C) := by
  refine F.ok scDiscEq (fun vs H Q E h => ?_) (fun cdv A outer s H vs Q E hr h => ?_)
  · obtain ⟨a, o, x, r, ks, rfl, ⟨dx, ha⟩, hk, q⟩ := h
    rfl
  · obtain ⟨a, o, x, r, ks, rfl, ⟨dx, ha⟩, hk, q⟩ := h
    refine ⟨_, (pss_one (ps_ret (pe_and (pe_callB call_isi (by rfl) T.isi (by decide +kernel) (pa_cons (pv 1) (pa_cons (pe_glob (v := .ref C) (by rfl) T.mgC rfl) pa_nil))) (pe_and (pe_cmpR op_eq (pe_fld (pv 0) rfl) (pe_fld (pv 1) rfl) (nomark _)) (pe_one (pe_cmpR (op_eqD hr.units) (pe_fld (pv 0) rfl) (pe_fld (pv 1) rfl) (nomark _))))))), ?_⟩
    rcases q with ⟨t, ho, q⟩ | ⟨b, x2, r2, ks2, rfl, ⟨dz, hb⟩, hk2, q⟩
    · exact ⟨_, rfl, _, _, _, _, false, rfl, .own C, ho.ty, Z.no t ho.one, false, rfl, iteF q⟩
    · refine ⟨_, rfl, _, _, _, _, true, rfl, .own C, .base (.ins hb T.cl T.ins.ha T.ins.hn T.ins.htk T.ins.hm), Z.me, true, rfl, iteT ?_⟩
      refine ⟨_, rfl, a, C, dx, _, _, rfl, ha, T.cl, T.nL, f_l _ _, _, rfl, b, C, dz, _, _, rfl, hb, T.cl, T.nL, f_l _ _, rfl, _, rfl, ?_⟩
      have es : decide (V.str x = V.str x2) = decide (x = x2) := decide_eq_decide.mpr ⟨fun z => V.str.inj z, fun z => by rw [z]⟩
      rw [es]
      cases c : decide (x = x2) with
      | false =>
        rw [c] at q
        exact iteF q
      | true =>
        rw [c, Bool.true_and] at q
        exact iteT ⟨_, rfl, a, C, dx, _, _, rfl, ha, T.cl, T.nR, f_r _ _, _, rfl, b, C, dz, _, _, rfl, hb, T.cl, T.nR, f_r _ _, _, _, rws_dp hk, rws_dp hk2, rws_shaped hk.2.1, rws_shaped hk2.2.1, q⟩
end
end K66
set_option Elab.async false
set_option linter.all false
set_option maxRecDepth 100000
set_option maxHeartbeats 4000000
set_option pp.maxSteps 400
set_option pp.deepTerms false
namespace K66
open PySem PySem.Spec PyProof.Rows L2
open Xk Az Xtx
section
variable {P : Program} {w : World} {K : PySem.W.Frag} {mg : Str → Option Value} {base : Heap} {C : Addr}
abbrev far : Int := 1000000
def spHand (K : PySem.W.Frag) : Sp := fun vs H Q _ => ∃ (a : Addr) (k : Int) (ns : List Int), vs = [.ref a, .int k] ∧ 0 ≤ k ∧ SqL K H a (ns.map V.int) ∧
  ∀ p g m, H p = none → 0 ≤ g → 0 ≤ m → m < 2305843009213693951 → Q (.ref p) (upd H p (.lst [.int g, .int m, .int 0]))
def spTake : Sp := fun vs H Q _ => ∃ (h : Addr) (many n : Int), vs = [.ref h, .int many] ∧ 0 < many ∧ many < 10 ^ 30 ∧ Hand n H h ∧ n ≤ far ∧
  ∀ d H', 0 ≤ d → d < many → Hand (n + 1) H' h → But h H H' → Q (.int d) H'
def spPick : Sp := fun vs H Q _ => ∃ (h : Addr) (n : Int) (s : V), vs = [.ref h, s] ∧ Hand n H h ∧ n ≤ far ∧
  ((∃ (l : Addr) (xs : List V), s = .ref l ∧ H l = some (.lst xs) ∧ l ≠ h ∧ xs ≠ [] ∧ xs.length < 1000 ∧ ∀ v H', v ∈ xs → Hand (n + 1) H' h → But h H H' → Q v H') ∨
   (∃ x : Str, s = .str x ∧ 0 < x.length ∧ x.length < 1000 ∧ ∀ c H', c ∈ x.cps.toList → Hand (n + 1) H' h → But h H H' → Q (.str ⟨#[c]⟩) H'))
theorem wide30 {g many : Int} (m1 : 0 < many) (m2 : many < 10 ^ 30) : CDivW g many := by
  have h : (10 : Int) ^ 30 < 2 ^ 110 := by decide
  exact wide_div (b := 110) m1 (by omega) (by decide) (by decide)
theorem lt30 {n : Nat} (h : n < 1000) : (n : Int) < 10 ^ 30 := Int.lt_trans (Int.ofNat_lt.mpr h) (by decide)
theorem lt30i {i : Int} (h : i < 1000000) : i < 10 ^ 30 := Int.lt_trans h (by decide)
theorem b01 (b : Bool) : -(2 ^ 64) < (if b = true then (1 : Int) else 0) ∧ (if b = true then (1 : Int) else 0) < 2 ^ 64 := by cases b <;> decide
theorem b0 (b : Bool) : 0 ≤ (if b = true then (1 : Int) else 0) := by cases b <;> decide
theorem ok_hand {f : Addr} {fd : FuncData} {e : Ex} (D : Df K mg "_law_hand" ["_law_script", "_law_k"] sHand f fd) (T : Txt K mg C e) : FnOk P w K mg base CX0 1 f fd ["_law_script", "_law_k"] (spHand K) := by
  refine D.fn.ok scHand (fun vs H Q E h => ?_) (fun cdv A outer s H vs Q E hr h => ?_)
  · obtain ⟨a, k, ns, rfl, _⟩ := h
    rfl
  · obtain ⟨a, k, ns, rfl, hk, hS, q⟩ := h
    refine ⟨_, pss_cons (ps_set (i := 2) scHand.nd rfl (.inl rfl) (pe_ifExp (pt_cmpR op_lt (pv 1) (pe_callB call_len_seq (by rfl) T.len PySem.boot_len (pa_cons (pv 0) pa_nil)) (nomark _)) (pe_ix ix_list (pv 0) (pv 1) (fun _ _ => rfl)) pe_int))
      (pss_cons (ps_set (i := 3) scHand.nd rfl (.inl rfl) (pe_op op_mul (pe_op op_mod (pe_callB call_abs (by rfl) T.abs (by decide +kernel) (pa_cons (pv 2) pa_nil)) (pe_op op_mulW (pe_op op_pow pe_int pe_int) (pe_op op_pow pe_int pe_int)))
        (pe_callTy call_int1 (by rfl) T.int (by decide +kernel) (pa_cons (pe_cmpR op_ge (pe_callB call_abs (by rfl) T.abs (by decide +kernel) (pa_cons (pv 2) pa_nil)) (pe_op op_pow pe_int pe_int) (nomark _)) pa_nil))))
      (pss_one (ps_ret (pe_lst (pa_cons (pv 3) (pa_cons (pe_op op_mod (pe_op op_add (pe_op op_add (pe_op op_mod (pv 2) pe_int) (pe_op op_mul pe_int (pv 1))) pe_int) pe_int) (pa_cons pe_int pa_nil))))))), ?_⟩
    refine ⟨_, rfl, _, rfl, a, _, rfl, .inl hS, k, _, rfl, rfl, _, rfl, ?_⟩
    refine ite2 (fun e => ?_) (fun e => ?_)
    · have hlt : k < ((ns.map V.int).length : Int) := of_decide_eq_true e
      rw [List.length_map] at hlt
      obtain ⟨j, rfl⟩ : ∃ j : Nat, k = (j : Int) := ⟨k.toNat, by omega⟩
      have hj : j < ns.length := by omega
      have hat : atI (ns.map V.int) ((j : Nat) : Int) = some (.int ns[j]) := atI_nat (by rw [List.getElem?_map, List.getElem?_eq_getElem hj]; rfl)
      refine ⟨_, rfl, _, rfl, a, _, _, _, rfl, rfl, hS, hat, ?_⟩
      refine ⟨_, rfl, ns[j], rfl, 10, 60, rfl, rfl, ⟨by decide, by decide, by decide⟩, 10, 60, rfl, rfl, ⟨by decide, by decide, by decide⟩, _, _, rfl, rfl, ?_, _, _, rfl, rfl, ?_, ?_⟩
      · exact wide_mul (a := 300) (b := 300) (by decide +kernel) (by decide +kernel) (by decide) (by decide) (by decide)
      · show (0 : Int) < 10 ^ (60 : Int).toNat * 10 ^ (60 : Int).toNat
        decide +kernel
      · refine ⟨_, rfl, ns[j], rfl, 10, 18, rfl, rfl, ⟨by decide, by decide, by decide⟩, _, _, rfl, rfl, .inr ⟨_, rfl, _, _, rfl, rfl, .inr ?_, ?_⟩⟩
        · exact b01 _
        · refine ⟨_, rfl, _, rfl, ns[j], 2305843009213693951, rfl, rfl, (by show (0 : Int) < 2305843009213693951; decide), _, rfl, 7919, _, rfl, rfl, .inl (by decide), _, _, rfl, rfl, _, _, rfl, rfl, _, _, rfl, rfl, (by show (0 : Int) < 2305843009213693951; decide), (by show 3 ≤ sizeLine; decide), fun p np => ?_⟩
          refine q p _ _ np ?_ (Int.emod_nonneg _ (by decide)) (Int.emod_lt_of_pos _ (by decide))
          refine Int.mul_nonneg (Int.emod_nonneg _ (by decide +kernel)) ?_
          exact b0 _
    · refine ⟨_, rfl, 0, rfl, 10, 60, rfl, rfl, ⟨by decide, by decide, by decide⟩, 10, 60, rfl, rfl, ⟨by decide, by decide, by decide⟩, _, _, rfl, rfl, ?_, _, _, rfl, rfl, ?_, ?_⟩
      · exact wide_mul (a := 300) (b := 300) (by decide +kernel) (by decide +kernel) (by decide) (by decide) (by decide)
      · show (0 : Int) < 10 ^ (60 : Int).toNat * 10 ^ (60 : Int).toNat
        decide +kernel
      · refine ⟨_, rfl, 0, rfl, 10, 18, rfl, rfl, ⟨by decide, by decide, by decide⟩, _, _, rfl, rfl, .inr ⟨_, rfl, _, _, rfl, rfl, .inr ?_, ?_⟩⟩
        · exact b01 _
        · refine ⟨_, rfl, _, rfl, 0, 2305843009213693951, rfl, rfl, (by show (0 : Int) < 2305843009213693951; decide), _, rfl, 7919, _, rfl, rfl, .inl (by decide), _, _, rfl, rfl, _, _, rfl, rfl, _, _, rfl, rfl, (by show (0 : Int) < 2305843009213693951; decide), (by show 3 ≤ sizeLine; decide), fun p np => ?_⟩
          refine q p _ _ np ?_ (Int.emod_nonneg _ (by decide)) (Int.emod_lt_of_pos _ (by decide))
          refine Int.mul_nonneg (Int.emod_nonneg _ (by decide +kernel)) ?_
          exact b0 _
theorem ok_take {f : Addr} {fd : FuncData} (D : Df K mg "_law_take" ["_law_hand_here", "_law_many"] sTake f fd) : FnOk P w K mg base CX0 1 f fd ["_law_hand_here", "_law_many"] spTake := by
  refine D.fn.ok scTake (fun vs H Q E h => ?_) (fun cdv A outer s H vs Q E hr h => ?_)
  · obtain ⟨h, many, n, rfl, _⟩ := h
    rfl
  · obtain ⟨h, many, n, rfl, m1, m2, ⟨g, m, c, hh, g0, k0, k1, c0, c1⟩, hn, q⟩ := h
    refine ⟨_, pss_cons (ps_if (pt_cmpR op_gt (pe_ix ix_list (pv 0) pe_int (fun _ _ => rfl)) pe_int (nomark _))
        (pss_cons (ps_set (i := 2) scTake.nd rfl (.inl rfl) (pe_op op_mod (pe_ix ix_list (pv 0) pe_int (fun _ _ => rfl)) (pv 1)))
        (pss_cons (ps_asg (pe_op op_fdivW (pe_ix ix_list (pv 0) pe_int (fun _ _ => rfl)) (pv 1)) (pg_sub (pv 0) pe_int set_list))
        (pss_one (ps_ret (pv 2))))) pss_nil)
      (pss_cons (ps_asg (pe_op op_add (pe_ix ix_list (pv 0) pe_int (fun _ _ => rfl)) pe_int) (pg_sub (pv 0) pe_int set_list))
      (pss_cons (ps_set (i := 3) scTake.nd rfl (.inl rfl) (pe_op op_mod (pe_op op_mul (pe_op op_add (pe_op op_add (pe_ix ix_list (pv 0) pe_int (fun _ _ => rfl))
          (pe_op op_mul (pe_op op_mul pe_int (pe_ix ix_list (pv 0) pe_int (fun _ _ => rfl))) (pe_ix ix_list (pv 0) pe_int (fun _ _ => rfl)))) pe_int) pe_int) pe_int))
      (pss_cons (ps_set (i := 3) scTake.nd rfl (.inl rfl) (pe_op op_mod (pe_op op_mul (pv 3) (pe_op op_add (pe_op op_mod (pv 3) pe_int) (pe_op op_mul pe_int (pe_ix ix_list (pv 0) pe_int (fun _ _ => rfl))))) pe_int))
      (pss_one (ps_ret (pe_op op_mod (pe_op op_add (pe_op op_fdiv (pv 3) pe_int) (pe_op op_fdiv (pv 3) pe_int)) (pv 1))))))), ?_⟩
    have far' : n ≤ 1000000 := hn
    refine ⟨_, rfl, h, _, 0, _, rfl, rfl, SqL.of hh, atI_nat (j := 0) rfl, g, 0, rfl, rfl, _, rfl, ite2 (fun e => ?_) (fun e => ?_)⟩
    · refine ⟨_, rfl, h, _, 0, _, rfl, rfl, SqL.of hh, atI_nat (j := 0) rfl, _, rfl, g, many, rfl, rfl, m1, ?_⟩
      refine ⟨_, rfl, h, _, 0, _, rfl, rfl, SqL.of hh, atI_nat (j := 0) rfl, _, rfl, g, many, rfl, rfl, wide30 m1 m2, _, rfl, h, _, 0, 0, rfl, rfl, hh, rfl, ?_⟩
      refine ⟨_, rfl, ?_⟩
      exact q _ _ (Int.emod_nonneg _ (by omega)) (Int.emod_lt_of_pos _ m1) ⟨g / many, m, c, upd_same, Int.ediv_nonneg g0 (by omega), k0, k1, c0, by omega⟩ but_upd
    · refine ⟨_, rfl, h, _, 2, _, rfl, rfl, SqL.of hh, atI_nat (j := 2) rfl, c, 1, rfl, rfl, _, rfl, h, _, 2, 2, rfl, rfl, hh, rfl, ?_⟩
      have h2 : (upd H h (.lst [.int g, .int m, .int (c + 1)])) h = some (.lst [.int g, .int m, .int (c + 1)]) := upd_same
      have s2 := SqL.of (K := K) h2
      refine ⟨_, rfl, h, _, 1, _, rfl, rfl, s2, atI_nat (j := 1) rfl, _, rfl, h, _, 2, _, rfl, rfl, s2, atI_nat (j := 2) rfl, 65537, c + 1, rfl, rfl, .inl (by decide), _, rfl, h, _, 2, _, rfl, rfl, s2, atI_nat (j := 2) rfl, _, c + 1, rfl, rfl, .inr (by omega),
        m, _, rfl, rfl, _, 11, rfl, rfl, _, 48271, rfl, rfl, .inr (by decide), _, 2305843009213693921, rfl, rfl, (by show (0 : Int) < 2305843009213693921; decide), ?_⟩
      generalize (m + 65537 * (c + 1) * (c + 1) + 11) * 48271 = z
      have z0 : 0 ≤ z % 2305843009213693921 := Int.emod_nonneg _ (by decide)
      have z1 : z % 2305843009213693921 < 2305843009213693921 := Int.emod_lt_of_pos _ (by decide)
      refine ⟨_, rfl, _, rfl, _, 1000003, rfl, rfl, (by show (0 : Int) < 1000003; decide), _, rfl, h, _, 2, _, rfl, rfl, s2, atI_nat (j := 2) rfl, 99991, c + 1, rfl, rfl, .inl (by decide), _, _, rfl, rfl, _, _, rfl, rfl, .inl (by omega),
        _, 2305843009213693907, rfl, rfl, (by show (0 : Int) < 2305843009213693907; decide), ?_⟩
      refine ⟨_, rfl, _, 97, rfl, rfl, ⟨by decide, by decide⟩, _, rfl, _, 1000033, rfl, rfl, ⟨by decide, by decide⟩, _, _, rfl, rfl, _, rfl, _, many, rfl, rfl, m1, ?_⟩
      exact q _ _ (Int.emod_nonneg _ (by omega)) (Int.emod_lt_of_pos _ m1) ⟨g, m, c + 1, h2, g0, k0, k1, by omega, by omega⟩ but_upd
theorem ok_pick {f : Addr} {fd : FuncData} {e : Ex} (D : Df K mg "_law_pick" ["_law_hand_here", "_law_some"] sPick f fd) (T : Txt K mg C e) (cT : Ca P w K mg base 1 "_law_take" ["_law_hand_here", "_law_many"] spTake) : FnOk P w K mg base CX0 2 f fd ["_law_hand_here", "_law_some"] spPick := by
  refine D.fn.ok scPick (fun vs H Q E h => ?_) (fun cdv A outer s H vs Q E hr h => ?_)
  · obtain ⟨h, n, s, rfl, hh, hn, q⟩ := h
    rfl
  · obtain ⟨h, n, s, rfl, hh, hn, q⟩ := h
    refine ⟨_, (pss_one (ps_ret (pe_ix ix_seq (pv 1) (pe_ca cT hr (by decide) (by rfl) (pa_cons (pv 0) (pa_cons (pe_callB (cr_alt call_len_seq call_len_str) (by rfl) T.len PySem.boot_len (pa_cons (pv 1) pa_nil)) pa_nil))) (fun _ _ => rfl)))), ?_⟩
    refine ⟨_, rfl, _, rfl, _, rfl, ?_⟩
    rcases q with ⟨l, xs, rfl, hl, nl, ne, few, q⟩ | ⟨x, rfl, pos, few, q⟩
    · have pos : 0 < xs.length := List.length_pos_iff.mpr ne
      refine .inl ⟨l, xs, rfl, .inl (SqL.of hl), h, (xs.length : Int), n, rfl, by omega, lt30 few, hh, hn, fun d H' d0 d1 hh' bt => ?_⟩
      obtain ⟨j, rfl⟩ : ∃ j : Nat, d = (j : Int) := ⟨d.toNat, by omega⟩
      have hj : j < xs.length := by omega
      refine .inl ⟨l, xs, _, xs[j], rfl, rfl, SqL.of (bt _ _ nl hl), atI_nat (List.getElem?_eq_getElem hj), ?_⟩
      exact q _ H' (List.getElem_mem hj) hh' bt
    · have sz : x.length ≤ sizeLine := Nat.le_trans (show x.length ≤ 1000 by omega) (by decide)
      refine .inr ⟨x, rfl, sz, h, (x.length : Int), n, rfl, by omega, lt30 few, hh, hn, fun d H' d0 d1 hh' bt => ?_⟩
      obtain ⟨j, rfl⟩ : ∃ j : Nat, d = (j : Int) := ⟨d.toNat, by omega⟩
      have hj : j < x.cps.toList.length := by
        have : x.length = x.cps.toList.length := by rw [Array.length_toList]; rfl
        omega
      refine .inr (.inr ⟨x, _, x.cps.toList[j], rfl, rfl, sz, atI_nat (List.getElem?_eq_getElem hj), ?_⟩)
      exact q _ H' (List.getElem_mem hj) hh' bt
end
end K66
set_option Elab.async false
set_option linter.all false
set_option maxRecDepth 100000
set_option maxHeartbeats 4000000
set_option pp.maxSteps 400
set_option pp.deepTerms false
namespace K66
open PySem PySem.Spec PyProof.Rows L2
open Xk Az Xtx
section
variable {P : Program} {w : World} {K : PySem.W.Frag} {mg : Str → Option Value} {base : Heap} {C : Addr}
def letts (x : Str) : Prop := ∀ c ∈ x.cps.toList, c ∈ small.cps.toList
theorem fig_iff (c : Nat) : c ∈ figs.cps.toList ↔ 48 ≤ c ∧ c ≤ 57 := by
  rw [show figs.cps.toList = [48, 49, 50, 51, 52, 53, 54, 55, 56, 57] by decide +kernel]
  simp only [List.mem_cons, List.not_mem_nil, or_false]
  omega
theorem chk_figs (z : Str) : chk z figs = true ↔ NumText.AllDigits z.cps.toList := by
  unfold chk
  rw [List.all_eq_true]
  constructor
  · intro h c hc
    exact (fig_iff c).mp (of_decide_eq_true (h c hc))
  · intro h c hc
    exact decide_eq_true ((fig_iff c).mpr (h c hc))
theorem ofT_iff {x sg : Str} {a b : Int} : ofT (.str x) sg a b = true ↔ a ≤ (x.length : Int) ∧ (x.length : Int) ≤ b ∧ chk x sg = true := by
  show (decide (a ≤ (x.length : Int)) && decide ((x.length : Int) ≤ b) && chk x sg) = true ↔ _
  rw [Bool.and_eq_true, Bool.and_eq_true, decide_eq_true_eq, decide_eq_true_eq]
  exact ⟨fun h => ⟨h.1.1, h.1.2, h.2⟩, fun h => ⟨⟨h.1, h.2.1⟩, h.2.2⟩⟩
theorem chk_iff {x sg : Str} : chk x sg = true ↔ ∀ c ∈ x.cps.toList, c ∈ sg.cps.toList := by
  unfold chk
  rw [List.all_eq_true]
  exact ⟨fun h c hc => of_decide_eq_true (h c hc), fun h c hc => decide_eq_true (h c hc)⟩
/-- the text of a number -/
abbrev nT (n : Int) : Str := Str.ofString (toString n)
theorem nT_list (m : Nat) : (nT (m : Int)).cps.toList = TL.numL m := TL.tl_num m
theorem numL_head {n : Nat} (h : 0 < n) : ∃ c r, TL.numL n = c :: r ∧ 49 ≤ c := by
  induction n using Nat.strongRecOn with
  | _ n ih =>
    by_cases c : n < 10
    · exact ⟨48 + n, [], TL.numL_lt c, by omega⟩
    · obtain ⟨d, r, e, g⟩ := ih (n / 10) (by omega) (by omega)
      exact ⟨d, r ++ [48 + n % 10], by rw [TL.numL_step (by omega), e]; rfl, g⟩
theorem digits_lt : ∀ (cs : List Nat) (a : Nat), NumText.AllDigits cs → cs.foldl (fun acc c => acc * 10 + (c - 48)) a < (a + 1) * 10 ^ cs.length
  | [], a, _ => by simp
  | c :: r, a, h => by
    have hc := h c List.mem_cons_self
    have ih := digits_lt r (a * 10 + (c - 48)) fun d hd => h d (List.mem_cons_of_mem _ hd)
    rw [List.foldl_cons, List.length_cons]
    refine Nat.lt_of_lt_of_le ih ?_
    rw [Nat.pow_succ, Nat.mul_comm (10 ^ r.length) 10, ← Nat.mul_assoc]
    exact Nat.mul_le_mul_right _ (by omega)
def numP (z : Str) : Option Int :=
  if ofT (.str z) figs 1 30 = true then (if z.cps.toList.head? = some 48 ∧ z ≠ "0" then none else some ((NumText.digitsVal z.cps.toList : Nat) : Int)) else none
theorem num_of {m : Nat} (h : m < 10 ^ 30) : numP (nT (m : Int)) = some (m : Int) := by
  have el := nT_list m
  have len : (nT (m : Int)).length = (TL.numL m).length := by rw [len_cps, el]
  have a : ofT (.str (nT (m : Int))) figs 1 30 = true := by
    rw [ofT_iff, len]
    have l1 := TL.numL_len (k := 30) (by decide) h
    have l2 : 0 < (TL.numL m).length := List.length_pos_iff.mpr (TL.numL_ne m)
    exact ⟨by omega, by omega, (chk_figs _).mpr (by rw [el]; exact TL.numL_digits m)⟩
  unfold numP
  rw [if_pos a, if_neg, el, TL.numL_val]
  rintro ⟨h1, h2⟩
  by_cases z : m = 0
  · subst z
    exact h2 (by decide +kernel)
  · obtain ⟨c, r, e, g⟩ := numL_head (Nat.pos_of_ne_zero z)
    rw [el, e] at h1
    have : c = 48 := by simpa using h1
    omega
theorem num_back {z : Str} {n : Int} (h : numP z = some n) : ∃ m : Nat, n = (m : Int) ∧ m < 10 ^ 30 ∧ z = nT (m : Int) := by
  unfold numP at h
  by_cases a : ofT (.str z) figs 1 30 = true
  · rw [if_pos a] at h
    by_cases b : z.cps.toList.head? = some 48 ∧ z ≠ "0"
    · rw [if_pos b] at h; cases h
    · rw [if_neg b] at h
      cases h
      obtain ⟨l1, l30, ck⟩ := ofT_iff.mp a
      have ad := (chk_figs z).mp ck
      have lz := len_cps z
      refine ⟨_, rfl, ?_, Xtx.str_eq ?_⟩
      · have d := digits_lt z.cps.toList 0 ad
        rw [Nat.zero_add, Nat.one_mul] at d
        exact Nat.lt_of_lt_of_le d (Nat.pow_le_pow_right (by decide) (by omega))
      · rw [nT_list]
        unfold TL.numL
        obtain ⟨k, hk⟩ : ∃ k, z.cps.toList.length = k + 1 := ⟨z.cps.toList.length - 1, by omega⟩
        rw [NumText.toDigits_digitsVal k z.cps.toList hk ad, List.map_map]
        · conv => lhs; rw [← List.map_id z.cps.toList]
          refine List.map_congr_left fun c hc => ?_
          have := ad c hc
          have v : ∀ c : Nat, 48 ≤ c → c ≤ 57 → (Char.ofNat c).toNat = c := by
            intro c h1 h2
            have cs : c = 48 ∨ c = 49 ∨ c = 50 ∨ c = 51 ∨ c = 52 ∨ c = 53 ∨ c = 54 ∨ c = 55 ∨ c = 56 ∨ c = 57 := by omega
            rcases cs with rfl | rfl | rfl | rfl | rfl | rfl | rfl | rfl | rfl | rfl <;> rfl
          exact (v c this.1 this.2).symm
        · by_cases k0 : k = 0
          · exact .inl k0
          · right
            cases e : z.cps.toList with
            | nil => rw [e] at hk; cases hk
            | cons c r =>
              refine ⟨c, r, rfl, ?_⟩
              have hc := ad c (by rw [e]; exact List.mem_cons_self)
              have n48 : c ≠ 48 := fun q => b ⟨by rw [e, q]; rfl, fun q2 => by
                rw [q2] at hk
                exact k0 (by have : ("0" : Str).cps.toList.length = 1 := by decide +kernel
                             omega)⟩
              omega
  · rw [if_neg a] at h; cases h
/-! keys -/
theorem gk_house {k : Ky} (g : GoodK k) : ofT (.str k.1) small 1 8 = true := ofT_iff.mpr ⟨by have := g.w1; omega, by have := g.w8; omega, chk_iff.mpr g.ws⟩
theorem small_not {x : Str} {c : Nat} (h : letts x) (nc : c ∉ small.cps.toList) : c ∉ x.cps.toList := fun m => nc (h c m)
theorem tl_bl : TL.tl " " = 32 :: [] := by decide +kernel
theorem tl_cb : TL.tl ", " = 44 :: [32] := by decide +kernel
theorem tl_cl : TL.tl ": " = 58 :: [32] := by decide +kernel
theorem part_ky {k : Ky} (g : GoodK k) : Txt.partition (kyT k) " " = (k.1, (" " : Str), nT k.2) := TL.partition_app tl_bl (small_not g.ws (by decide +kernel))
def keyP (x : Str) : Option Ky := match numP (Txt.partition x " ").2.2 with
  | some n => if ofT (.str (Txt.partition x " ").1) small 1 8 = true then some ((Txt.partition x " ").1, n) else none
  | none => none
theorem gk_num {k : Ky} (g : GoodK k) : numP (nT k.2) = some k.2 := by
  have h0 := g.n0
  have h1 := g.n1
  obtain ⟨m, hm⟩ : ∃ m : Nat, k.2 = (m : Int) := ⟨k.2.toNat, by omega⟩
  rw [hm] at h1 ⊢
  refine num_of ?_
  have e : ((10 : Int) ^ 30) = ((10 ^ 30 : Nat) : Int) := by decide
  rw [e] at h1
  exact Int.ofNat_lt.mp h1
theorem key_of {k : Ky} (g : GoodK k) : keyP (kyT k) = some k := by
  unfold keyP
  rw [part_ky g]
  dsimp only
  rw [gk_num g]
  dsimp only
  rw [if_pos (gk_house g)]
theorem good_of {a : Str} {z : Str} {n : Int} (h : numP z = some n) (ha : ofT (.str a) small 1 8 = true) : GoodK (a, n) := by
  obtain ⟨m, rfl, m1, _⟩ := num_back h
  obtain ⟨l1, l8, ck⟩ := ofT_iff.mp ha
  have e : ((10 : Int) ^ 30) = ((10 ^ 30 : Nat) : Int) := by decide
  exact ⟨by show 1 ≤ a.length; omega, by show a.length ≤ 8; omega, chk_iff.mp ck, by show (0 : Int) ≤ (m : Int); omega, by show (m : Int) < 10 ^ 30; rw [e]; exact Int.ofNat_lt.mpr m1⟩
theorem key_good {x : Str} {k : Ky} (h : keyP x = some k) : GoodK k := by
  unfold keyP at h
  split at h
  · rename_i n hn
    by_cases a : ofT (.str (Txt.partition x " ").1) small 1 8 = true
    · rw [if_pos a] at h
      cases h
      exact good_of hn a
    · rw [if_neg a] at h; cases h
  · cases h
theorem joinL_cons (S p : List Nat) {X : List (List Nat)} (h : X ≠ []) : TL.joinL S (p :: X) = p ++ (S ++ TL.joinL S X) := by
  cases X with
  | nil => exact absurd rfl h
  | cons q r => rfl
theorem spl_ne (S : List Nat) : ∀ (n k : Nat) (acc L : List Nat), L.length ≤ n → TL.spl S k acc L ≠ []
  | _, k, acc, [], _ => by rw [TL.spl_nil]; simp
  | n + 1, k, acc, c :: r, h => by
    rw [List.length_cons] at h
    cases k with
    | succ k =>
      rw [TL.spl_pass]
      rw [List.drop_succ_cons, ← TL.spl_pass S k]
      exact spl_ne S n k acc r (by omega)
    | zero =>
      cases hp : TL.pre S (c :: r) with
      | true => rw [TL.spl_hit hp]; simp
      | false => rw [TL.spl_miss hp]; exact spl_ne S n 0 _ r (by omega)
theorem join_spl {S : List Nat} (hS : S ≠ []) : ∀ (n : Nat) (acc L : List Nat), L.length ≤ n → TL.joinL S (TL.spl S 0 acc L) = acc ++ L
  | _, acc, [], _ => by rw [TL.spl_nil, List.append_nil]; rfl
  | n + 1, acc, c :: r, h => by
    rw [List.length_cons] at h
    cases hp : TL.pre S (c :: r) with
    | true =>
      rw [TL.spl_hit hp, TL.spl_pass, joinL_cons _ _ (spl_ne S _ 0 [] _ (Nat.le_refl _)), join_spl hS n [] (r.drop (S.length - 1)) (by rw [List.length_drop]; omega), List.nil_append]
      have e : (c :: r).take S.length = S := eq_of_beq hp
      have l : 0 < S.length := List.length_pos_iff.mpr hS
      congr 1
      have d := List.take_append_drop S.length (c :: r)
      rw [e] at d
      obtain ⟨m, hm⟩ : ∃ m, S.length = m + 1 := ⟨S.length - 1, by omega⟩
      rw [hm, List.drop_succ_cons] at d
      rw [hm, Nat.add_sub_cancel]
      exact d
    | false =>
      rw [TL.spl_miss hp, join_spl hS n (acc ++ [c]) r (by omega), List.append_assoc]
      rfl
theorem join_split {x y : Str} (hy : TL.tl y ≠ []) (hk : y.cps.all (· < 256) = true) : Txt.join y (Txt.split x y) = x := by
  refine Xtx.str_eq ?_
  show TL.tl (Txt.join y (Txt.split x y)) = TL.tl x
  rw [TL.join_eq, TL.tl_join, TL.split_spl x y hy (TL.kind_ok hk), join_spl hy _ [] (TL.tl x) (Nat.le_refl _), List.nil_append]
end
end K66
set_option Elab.async false
set_option linter.all false
set_option maxRecDepth 100000
set_option maxHeartbeats 4000000
set_option pp.maxSteps 400
set_option pp.deepTerms false
namespace K66
open PySem PySem.Spec PyProof.Rows L2
open Xk Az Xtx
section
variable {P : Program} {w : World} {K : PySem.W.Frag} {mg : Str → Option Value} {base : Heap} {C : Addr}
theorem nT_free {k : Ky} (g : GoodK k) {c : Nat} (h : c < 48 ∨ 57 < c) : c ∉ (nT k.2).cps.toList := by
  have h0 := g.n0
  obtain ⟨m, hm⟩ : ∃ m : Nat, k.2 = (m : Int) := ⟨k.2.toNat, by omega⟩
  rw [hm, nT_list]
  exact TL.numL_free h
theorem ky_join (k : Ky) : kyT k = Txt.join " " [k.1, nT k.2] := by
  rw [TL.join_eq]
  rfl
theorem ky_parts {k : Ky} (g : GoodK k) : Txt.split (kyT k) " " = [k.1, nT k.2] := by
  rw [ky_join]
  refine TL.split_join tl_bl (by decide +kernel) (by simp) fun p hp => ?_
  rcases List.mem_cons.mp hp with z | z
  · rw [z]; exact small_not g.ws (by decide +kernel)
  · rw [List.mem_singleton.mp z]; exact nT_free g (by omega)
theorem ky_free {k : Ky} (g : GoodK k) {c : Nat} (h1 : c ∉ small.cps.toList) (h2 : c < 48 ∨ 57 < c) (h3 : c ≠ 32) : c ∉ (kyT k).cps.toList := by
  unfold kyT
  rw [Str.cps_append, Array.toList_append, Str.cps_append, Array.toList_append, show (" " : Str).cps.toList = [32] by decide +kernel]
  intro m
  rcases List.mem_append.mp m with m | m
  · rcases List.mem_append.mp m with m | m
    · exact small_not g.ws h1 m
    · exact h3 (List.mem_singleton.mp m)
  · exact nT_free g h2 m
def lkeyP (x : Str) : Option Ky := match Txt.split x " " with
  | [a, b] => match numP b with
    | some n => if ofT (.str a) small 1 8 = true then some (a, n) else none
    | none => none
  | _ => none
theorem lkey_of {k : Ky} (g : GoodK k) : lkeyP (kyT k) = some k := by
  unfold lkeyP
  rw [ky_parts g]
  dsimp only
  rw [gk_num g]
  dsimp only
  rw [if_pos (gk_house g)]
theorem lkey_back {x : Str} {k : Ky} (h : lkeyP x = some k) : GoodK k ∧ x = kyT k := by
  unfold lkeyP at h
  split at h
  · rename_i a b e
    cases hn : numP b with
    | none => rw [hn] at h; cases h
    | some n =>
      rw [hn] at h
      dsimp only at h
      by_cases c : ofT (.str a) small 1 8 = true
      · rw [if_pos c] at h
        cases h
        refine ⟨good_of hn c, ?_⟩
        obtain ⟨m, rfl, _, eb⟩ := num_back hn
        have j := join_split (x := x) (y := " ") (by rw [tl_bl]; simp) (by decide +kernel)
        rw [e, eb] at j
        rw [← j, ky_join]
      · rw [if_neg c] at h; cases h
  · cases h
structure Vd (l : Str) (ks : List Ky) : Prop where
  l1 : 1 ≤ l.length
  l8 : l.length ≤ 8
  ll : letts l
  gk : ∀ k ∈ ks, GoodK k
  k1 : 1 ≤ ks.length
  k30 : ks.length ≤ 30
theorem kys_split {ks : List Ky} (h : ∀ k ∈ ks, GoodK k) (k1 : 1 ≤ ks.length) : Txt.split (kysT ks) ", " = ks.map kyT := by
  unfold kysT
  refine TL.split_join tl_cb (by decide +kernel) (fun e => ?_) fun p hp => ?_
  · rw [List.map_eq_nil_iff] at e
    rw [e] at k1
    cases k1
  · obtain ⟨k, hk, rfl⟩ := List.mem_map.mp hp
    exact ky_free (h k hk) (by decide +kernel) (by omega) (by decide)
theorem disc_list (l : Str) (ks : List Ky) : (discT l ks).cps.toList = [100, 105, 115, 99, 32] ++ (l.cps.toList ++ (58 :: 32 :: (kysT ks).cps.toList)) := by
  unfold discT
  rw [Str.cps_append, Array.toList_append, Str.cps_append, Array.toList_append, Str.cps_append, Array.toList_append, show ("disc " : Str).cps.toList = [100, 105, 115, 99, 32] by decide +kernel, show (": " : Str).cps.toList = [58, 32] by decide +kernel]
  simp only [List.append_assoc, List.cons_append, List.nil_append]
theorem disc_pre (l : Str) (ks : List Ky) : Txt.removeprefix (discT l ks) "disc " = l ++ ": " ++ kysT ks := by
  have e5 : ("disc " : Str).length = 5 := by decide +kernel
  have es : Builtin.Str.subAt (discT l ks) "disc " 0 = true := by
    rw [StrLaws.subAt_eq, List.drop_zero, disc_list, e5]
    rfl
  have len : (discT l ks).length = 5 + (l.cps.toList ++ 58 :: 32 :: (kysT ks).cps.toList).length := by
    rw [len_cps, disc_list, List.length_append]
    rfl
  rw [StrLaws.removeprefix_eq, es, e5, decide_eq_true (show 0 + 5 ≤ (discT l ks).length by omega), show (true && true) = true from rfl, if_pos rfl]
  refine Xtx.str_eq ?_
  show (List.drop 5 (discT l ks).cps.toList).take _ = _
  rw [disc_list, show (5 : Nat) = [100, 105, 115, 99, 32].length from rfl, List.drop_left, List.take_of_length_le]
  · rw [Str.cps_append, Array.toList_append, Str.cps_append, Array.toList_append, show (": " : Str).cps.toList = [58, 32] by decide +kernel]
    simp only [List.append_assoc, List.cons_append, List.nil_append]
  · rw [len]
    simp only [List.length_cons, List.length_nil]
    omega
theorem disc_part {l : Str} (h : letts l) (y : Str) : Txt.partition (l ++ ": " ++ y) ": " = (l, (": " : Str), y) := TL.partition_app tl_cl (small_not h (by decide +kernel))
theorem at_drop {x y : Str} {i : Nat} (hy : TL.tl y ≠ []) (h : StrLaws.At x y x.length i) : x.cps.toList = x.cps.toList.take i ++ (y.cps.toList ++ x.cps.toList.drop (i + y.length)) := by
  have p := (TL.at_iff hy i).mp h
  have e : ((TL.tl x).drop i).take (TL.tl y).length = TL.tl y := eq_of_beq p
  have d := List.take_append_drop (TL.tl y).length ((TL.tl x).drop i)
  rw [e, List.drop_drop] at d
  have t := List.take_append_drop i x.cps.toList
  rw [show List.drop i x.cps.toList = (TL.tl x).drop i from rfl, ← d] at t
  rw [show y.length = (TL.tl y).length from len_cps y]
  exact t.symm
theorem disc_find {l : Str} {ks : List Ky} (h : letts l) : Txt.find (discT l ks) ": " = ((5 + l.length : Nat) : Int) := by
  have hy : TL.tl (": " : Str) ≠ [] := by rw [tl_cl]; simp
  have at0 : StrLaws.At (discT l ks) ": " (discT l ks).length (5 + l.length) := by
    refine (TL.at_iff hy _).mpr ?_
    show TL.pre (TL.tl ": ") ((discT l ks).cps.toList.drop (5 + l.length)) = true
    rw [disc_list, tl_cl, ← List.append_assoc, len_cps l, show 5 + l.cps.toList.length = ([100, 105, 115, 99, 32] ++ l.cps.toList).length by rw [List.length_append]; rfl, List.drop_left]
    exact TL.pre_self [58, 32] _
  rcases find_whole (discT l ks) ": " with ⟨_, no⟩ | ⟨i, e, ha, no⟩
  · exact absurd at0 (no _)
  · rw [e]
    rcases Nat.lt_trichotomy i (5 + l.length) with c | c | c
    · exfalso
      have p := (TL.at_iff hy i).mp ha
      have q : (TL.tl (discT l ks)).drop i ≠ [] := fun z => by rw [z, tl_cl] at p; cases p
      have il : i < (discT l ks).cps.toList.length := by
        rcases Nat.lt_or_ge i (discT l ks).cps.toList.length with z | z
        · exact z
        · exact absurd (List.drop_eq_nil_of_le z) q
      have q2 : (TL.tl (discT l ks)).drop i = (discT l ks).cps.toList[i] :: (TL.tl (discT l ks)).drop (i + 1) := List.drop_eq_getElem_cons il
      rw [q2, tl_cl] at p
      have hd : (discT l ks).cps.toList[i] = 58 := by
        rcases Nat.decEq ((discT l ks).cps.toList[i]) 58 with z | z
        · rw [TL.pre_of_head _ _ z] at p; cases p
        · exact z
      have hm : (58 : Nat) ∈ [100, 105, 115, 99, 32] ++ l.cps.toList := by
        have g : ([100, 105, 115, 99, 32] ++ l.cps.toList)[i]? = some 58 := by
          have w := List.getElem?_eq_getElem il
          rw [hd, disc_list, ← List.append_assoc, List.getElem?_append_left (by rw [List.length_append, ← len_cps l]; exact c)] at w
          exact w
        exact List.mem_of_getElem? g
      rcases List.mem_append.mp hm with z | z
      · revert z; decide
      · exact small_not h (by decide +kernel) z
    · rw [c]
    · exact absurd at0 (no _ c)
theorem cut_to (x : Str) (k : Nat) : (cutS x none (some (k : Int))).cps.toList = x.cps.toList.take k := by
  unfold cutS
  show (x.cps.toList.drop (HT.sIx x.length 0 none)).take (HT.sIx x.length x.length (some (k : Int)) - HT.sIx x.length 0 none) = _
  rw [HT.sIx_nat, show HT.sIx x.length 0 none = 0 from rfl, List.drop_zero, Nat.sub_zero]
  by_cases c : k ≤ x.length
  · rw [Nat.min_eq_left c]
  · rw [Nat.min_eq_right (by omega), List.take_of_length_le (by rw [← len_cps]; exact Nat.le_refl _), List.take_of_length_le (by rw [← len_cps]; omega)]
theorem cut_from (x : Str) (k : Nat) : (cutS x (some (k : Int)) none).cps.toList = x.cps.toList.drop k := by
  unfold cutS
  show (x.cps.toList.drop (HT.sIx x.length 0 (some (k : Int)))).take (HT.sIx x.length x.length none - HT.sIx x.length 0 (some (k : Int))) = _
  rw [HT.sIx_nat, show HT.sIx x.length x.length none = x.length from rfl]
  by_cases c : k ≤ x.length
  · rw [Nat.min_eq_left c, List.take_of_length_le (by rw [List.length_drop, ← len_cps]; omega)]
  · rw [Nat.min_eq_right (by omega), List.drop_eq_nil_of_le (by rw [← len_cps]; omega), List.drop_eq_nil_of_le (by rw [← len_cps]; omega), List.take_nil]
theorem disc_head {l : Str} {ks : List Ky} (h : letts l) : Txt.split (cutS (discT l ks) none (some ((5 + l.length : Nat) : Int))) " " = [("disc" : Str), l] := by
  have e : cutS (discT l ks) none (some ((5 + l.length : Nat) : Int)) = Txt.join " " [("disc" : Str), l] := by
    refine Xtx.str_eq ?_
    rw [cut_to, disc_list, ← List.append_assoc, len_cps l, show 5 + l.cps.toList.length = ([100, 105, 115, 99, 32] ++ l.cps.toList).length by rw [List.length_append]; rfl, List.take_left, TL.join_eq]
    show _ = (("disc" : Str) ++ " " ++ l).cps.toList
    rw [Str.cps_append, Array.toList_append, show (("disc" : Str) ++ " ").cps.toList = [100, 105, 115, 99, 32] by decide +kernel]
  rw [e]
  refine TL.split_join tl_bl (by decide +kernel) (by simp) fun p hp => ?_
  rcases List.mem_cons.mp hp with z | z
  · rw [z]; decide +kernel
  · rw [List.mem_singleton.mp z]; exact small_not h (by decide +kernel)
theorem disc_tail (l : Str) (ks : List Ky) : cutS (discT l ks) (some (((5 + l.length : Nat) : Int) + 2)) none = kysT ks := by
  refine Xtx.str_eq ?_
  rw [show ((5 + l.length : Nat) : Int) + 2 = ((5 + l.length + 2 : Nat) : Int) by omega, cut_from, disc_list]
  have e : [100, 105, 115, 99, 32] ++ (l.cps.toList ++ 58 :: 32 :: (kysT ks).cps.toList) = ([100, 105, 115, 99, 32] ++ l.cps.toList ++ [58, 32]) ++ (kysT ks).cps.toList := by
    simp only [List.append_assoc, List.cons_append, List.nil_append]
  rw [e, len_cps l, show 5 + l.cps.toList.length + 2 = ([100, 105, 115, 99, 32] ++ l.cps.toList ++ [58, 32]).length by rw [List.length_append, List.length_append]; rfl, List.drop_left]
/-- what the law's own reading takes is so written -/
theorem disc_back {x l : Str} {ks : List Ky} {i : Nat} (hf : Txt.find x ": " = (i : Int)) (hh : Txt.split (cutS x none (some (i : Int))) " " = [("disc" : Str), l])
    (hk : ∃ ps : List Str, Txt.split (cutS x (some ((i : Int) + 2)) none) ", " = ps ∧ ps.length = ks.length ∧ ∀ (j : Nat) (p : Str) (k : Ky), ps[j]? = some p → ks[j]? = some k → lkeyP p = some k) : x = discT l ks := by
  have hy : TL.tl (": " : Str) ≠ [] := by rw [tl_cl]; simp
  have e2 : (": " : Str).length = 2 := by decide +kernel
  obtain ⟨ps, hp, lp, all⟩ := hk
  rcases find_whole x ": " with ⟨e, _⟩ | ⟨i', e, ha, _⟩
  · rw [e] at hf; omega
  · have ei : i' = i := by rw [hf] at e; omega
    subst ei
    have d := at_drop hy ha
    rw [e2] at d
    have j1 := join_split (x := cutS x none (some (i' : Int))) (y := " ") (by rw [tl_bl]; simp) (by decide +kernel)
    rw [hh] at j1
    have j2 := join_split (x := cutS x (some ((i' : Int) + 2)) none) (y := ", ") (by rw [tl_cb]; simp) (by decide +kernel)
    rw [hp] at j2
    have eps : ps = ks.map kyT := by
      refine List.ext_getElem? fun j => ?_
      rw [List.getElem?_map]
      cases g : ps[j]? with
      | none =>
        have := List.getElem?_eq_none_iff.mp g
        rw [List.getElem?_eq_none (by omega)]
        rfl
      | some p =>
        have jl := (List.getElem?_eq_some_iff.mp g).1
        have gk : ks[j]? = some (ks[j]'(by omega)) := List.getElem?_eq_getElem (by omega)
        rw [gk]
        exact congrArg some (lkey_back (all j p _ g gk)).2
    rw [eps] at j2
    refine Xtx.str_eq ?_
    rw [disc_list, d, ← cut_to, ← j1]
    have c2 : x.cps.toList.drop (i' + 2) = (kysT ks).cps.toList := by
      rw [← cut_from, show ((i' + 2 : Nat) : Int) = (i' : Int) + 2 by omega, ← j2]
      rfl
    rw [c2, TL.join_eq]
    show ((("disc" : Str) ++ " " ++ l).cps.toList) ++ _ = _
    rw [Str.cps_append, Array.toList_append, show (("disc" : Str) ++ " ").cps.toList = [100, 105, 115, 99, 32] by decide +kernel, show (": " : Str).cps.toList = [58, 32] by decide +kernel]
    simp only [List.append_assoc, List.cons_append, List.nil_append]
end
end K66
set_option Elab.async false
set_option linter.all false
set_option maxRecDepth 100000
set_option maxHeartbeats 4000000
set_option pp.maxSteps 400
set_option pp.deepTerms false
namespace K66
open PySem PySem.Spec PyProof.Rows L2
open Xk Az Xtx
section
variable {P : Program} {w : World} {K : PySem.W.Frag} {mg : Str → Option Value} {base : Heap} {C : Addr}
theorem fitN' {n : Nat} (h : n ≤ 50000) : n ≤ sizeLine := Nat.le_trans h (by decide)
/-- what a number's reading tells -/
def nV : Option Int → V
  | none => .non
  | some n => .int n
def nD : Option Int → PyData
  | none => .none
  | some n => .int n
theorem nV_dz {H : Hp} : ∀ o : Option Int, Dz K H (nV o) (nD o)
  | none => .non
  | some n => .int n
def OkAt (H : Hp) (v : V) : Option Ky → Prop
  | none => v = .non
  | some k => ∃ t, v = .ref t ∧ H t = some (.tup [.str k.1, .int k.2])
theorem OkAt.tp {H H' : Hp} {v : V} {o : Option Ky} (h : OkAt H v o) (s : ∀ b xs, H b = some (.tup xs) → H' b = some (.tup xs)) : OkAt H' v o := by
  cases o with
  | none => exact h
  | some k =>
    obtain ⟨t, e, e2⟩ := h
    exact ⟨t, e, s _ _ e2⟩
inductive OksAt (H : Hp) : List V → List (Option Ky) → Prop
  | nil : OksAt H [] []
  | cons {v : V} {vs : List V} {o : Option Ky} {os : List (Option Ky)} : OkAt H v o → OksAt H vs os → OksAt H (v :: vs) (o :: os)
theorem OksAt.tp {H H' : Hp} (s : ∀ b xs, H b = some (.tup xs) → H' b = some (.tup xs)) : ∀ {vs : List V} {os : List (Option Ky)}, OksAt H vs os → OksAt H' vs os
  | _, _, .nil => .nil
  | _, _, .cons h r => .cons (h.tp s) (r.tp s)
theorem OksAt.snoc {H : Hp} {v : V} {o : Option Ky} (h2 : OkAt H v o) : ∀ {vs : List V} {os : List (Option Ky)}, OksAt H vs os → OksAt H (vs ++ [v]) (os ++ [o])
  | _, _, .nil => .cons h2 .nil
  | _, _, .cons h r => .cons h (OksAt.snoc h2 r)
theorem OksAt.len {H : Hp} : ∀ {vs : List V} {os : List (Option Ky)}, OksAt H vs os → vs.length = os.length
  | _, _, .nil => rfl
  | _, _, .cons _ r => congrArg Nat.succ r.len
def oD : Option Ky → PyData
  | none => .none
  | some k => kyP k
theorem OkAt.dp {H : Hp} {v : V} : ∀ {o : Option Ky}, OkAt H v o → Dp K H v (oD o)
  | none, h => by rw [show v = .non from h]; exact .non
  | some k, h => by
    obtain ⟨t, rfl, e⟩ := h
    exact .tup (SqT.of e) (.cons (.str k.1) (.cons (.int k.2) .nil))
theorem OksAt.dp {H : Hp} : ∀ {vs : List V} {os : List (Option Ky)}, OksAt H vs os → DpAll K H vs (os.map oD)
  | _, _, .nil => .nil
  | _, _, .cons h r => .cons h.dp r.dp
theorem os_lay : ∀ {os : List (Option Ky)}, (∀ o ∈ os, ∀ k, o = some k → GoodK k) → PyData.canLayAll0 (os.map oD) = true ∧ PyData.depthAll (os.map oD) ≤ 3
  | [], _ => ⟨by simp [PyData.canLayAll0], by simp [PyData.depthAll]⟩
  | o :: os, h => by
    obtain ⟨a, b⟩ := os_lay (os := os) fun z hz => h z (List.mem_cons_of_mem _ hz)
    cases o with
    | none =>
      constructor
      · simp [oD, PyData.canLayAll0, PyData.canLay0, a]
      · simp only [List.map_cons, PyData.depthAll, oD, PyData.depth]
        omega
    | some k =>
      have w := strOk_w (h _ List.mem_cons_self k rfl)
      constructor
      · simp [oD, kyP, PyData.canLayAll0, PyData.canLay0, w, a]
      · simp only [List.map_cons, PyData.depthAll, oD, kyP, PyData.depth]
        omega
theorem os_shaped {os : List (Option Ky)} (h : ∀ o ∈ os, ∀ k, o = some k → GoodK k) : SeqAt.shaped (.list (os.map oD)) = true := by
  obtain ⟨a, b⟩ := os_lay h
  unfold SeqAt.shaped
  have h1 : (PyData.list (os.map oD)).canLay0 = true := by simp only [PyData.canLay0]; exact a
  have h2 : (PyData.list (os.map oD)).depth ≤ 64 := by simp only [PyData.depth]; omega
  rw [h1, decide_eq_true h2]
  rfl
theorem none_shaped : SeqAt.shaped .none = true := by
  unfold SeqAt.shaped
  simp [PyData.canLay0, PyData.depth]
theorem os_any : ∀ os : List (Option Ky), ((os.map oD).any fun z => PyData.eqv z .none) = decide (none ∈ os)
  | [] => by simp
  | o :: os => by
    rw [List.map_cons, List.any_cons, os_any os]
    cases o with
    | none => simp [oD, PyData.eqv]
    | some k => simp [oD, kyP, PyData.eqv]
/-- all of them, where each is one -/
def allO : List (Option Ky) → Option (List Ky)
  | [] => some []
  | none :: _ => none
  | some k :: r => (allO r).map (k :: ·)
theorem allO_some : ∀ {os : List (Option Ky)} {ks : List Ky}, allO os = some ks → os = ks.map some
  | [], ks, h => by cases h; rfl
  | none :: _, ks, h => by cases h
  | some k :: r, ks, h => by
    unfold allO at h
    cases e : allO r with
    | none => rw [e] at h; cases h
    | some ys =>
      rw [e] at h
      cases h
      rw [List.map_cons, allO_some e]
theorem allO_map : ∀ ks : List Ky, allO (ks.map some) = some ks
  | [] => rfl
  | k :: r => by
    rw [List.map_cons, allO, allO_map r]
    rfl
theorem allO_none : ∀ {os : List (Option Ky)}, allO os = none → none ∈ os
  | [], h => by cases h
  | none :: _, _ => List.mem_cons_self
  | some k :: r, h => by
    unfold allO at h
    cases e : allO r with
    | none => exact List.mem_cons_of_mem _ (allO_none e)
    | some ys => rw [e] at h; cases h
theorem allO_no {os : List (Option Ky)} {ks : List Ky} (h : allO os = some ks) : none ∉ os := fun m => by
  rw [allO_some h] at m
  obtain ⟨k, _, e⟩ := List.mem_map.mp m
  cases e
theorem OksAt.dzk {H : Hp} : ∀ {vs : List V} {ks : List Ky}, OksAt H vs (ks.map some) → DzAll K H vs (ks.map kyP)
  | [], [], _ => .nil
  | _ :: _, k :: ks, .cons h r => by
    obtain ⟨t, rfl, e⟩ := h
    exact .cons (.tup e (.cons (.str k.1) (.cons (.int k.2) .nil))) (OksAt.dzk r)
def spFig : Sp := fun vs H Q _ => ∃ (z : Str) (a b : Int), vs = [.str z, .int a, .int b] ∧ z.length ≤ 50000 ∧ ∀ H', L2.Same H H' → Q (.bl (ofT (.str z) figs a b)) H'
def spNum : Sp := fun vs H Q _ => ∃ (z : Str), vs = [.str z] ∧ z.length ≤ 50000 ∧ ∀ H', L2.Same H H' → Q (nV (numP z)) H'
def spKi : Sp := fun vs H Q _ => ∃ (x : Str), vs = [.str x] ∧ x.length ≤ 50000 ∧ ∀ v H', L2.Same H H' → OkAt H' v (keyP x) → Q v H'
def spAi (fR : Addr) : Sp := fun vs H Q _ => ∃ (x : Str), vs = [.ref fR, .str x] ∧ x.length ≤ 50000 ∧ (allO ((Txt.split x ", ").map keyP) = none → ∀ H', L2.Same H H' → Q .non H') ∧
  (∀ ks, allO ((Txt.split x ", ").map keyP) = some ks → ∀ t xs H', L2.Same H H' → H' t = some (.tup xs) → OksAt H' xs (ks.map some) → Q (.ref t) H')
def spKsi : Sp := fun vs H Q _ => ∃ (x : Str), vs = [.str x] ∧ x.length ≤ 50000 ∧ (allO ((Txt.split x ", ").map keyP) = none → ∀ H', L2.Same H H' → Q .non H') ∧
  (∀ ks, allO ((Txt.split x ", ").map keyP) = some ks → ∀ t xs H', L2.Same H H' → H' t = some (.tup xs) → OksAt H' xs (ks.map some) → Q (.ref t) H')
theorem part_len (x y : Str) : (Txt.partition x y).1.length ≤ x.length ∧ (Txt.partition x y).2.2.length ≤ x.length := by
  rcases partition_whole x y with ⟨h, _⟩ | ⟨i, h, a, _⟩
  · rw [h]
    exact ⟨Nat.le_refl _, Nat.zero_le _⟩
  · rw [h]
    have l : ∀ i j, (Builtin.Str.strSub x i j).length ≤ x.length := fun i j => by
      rw [len_cps, len_cps, StrLaws.strSub_toList, List.length_take, List.length_drop]
      omega
    exact ⟨l _ _, l _ _⟩
theorem ok_fig {f : Addr} {fd : FuncData} {e : Ex} (D : Df K mg "are_figures" ["text", "least", "most"] sAreFigures f fd) (T : Txt K mg C e) (cO : Ca P w K mg base 1 "is_text_of" ["thing", "signs", "least", "most"] (spTextOf K)) : FnOk P w K mg base CX0 2 f fd ["text", "least", "most"] spFig := by
  obtain ⟨_, gS⟩ := T.sm
  obtain ⟨_, gW⟩ := T.lw
  obtain ⟨_, gK⟩ := T.kp
  obtain ⟨_, gM⟩ := T.mr
  obtain ⟨_, gF⟩ := T.fg
  obtain ⟨_, gN⟩ := T.mf
  refine D.fn.ok scAreFigures (fun vs H Q E h => ?_) (fun cdv A outer s H vs Q E hr h => ?_)
  · obtain ⟨z, a, b, rfl, lz, q⟩ := h
    rfl
  · obtain ⟨z, a, b, rfl, lz, q⟩ := h
    refine ⟨_, (pss_one (ps_ret (pe_ca cO hr (by decide) (by rfl) (pa_cons (pv 0) (pa_cons (pe_glob (v := .str figs) (by rfl) gF ⟨_, rfl⟩) (pa_cons (pv 1) (pa_cons (pv 2) pa_nil))))))), ?_⟩
    exact ⟨_, rfl, _, rfl, _, rfl, .str z, .str z, figs, a, b, rfl, .str z, fun x e => by cases e; exact lz, fun H1 s1 => q H1 s1⟩
theorem ok_num {f : Addr} {fd : FuncData} {e : Ex} (D : Df K mg "number_in" ["text"] sNumberIn f fd) (T : Txt K mg C e) (cFg : Ca P w K mg base 2 "are_figures" ["text", "least", "most"] spFig) : FnOk P w K mg base CX0 3 f fd ["text"] spNum := by
  obtain ⟨_, gS⟩ := T.sm
  obtain ⟨_, gW⟩ := T.lw
  obtain ⟨_, gK⟩ := T.kp
  obtain ⟨_, gM⟩ := T.mr
  obtain ⟨_, gF⟩ := T.fg
  obtain ⟨_, gN⟩ := T.mf
  refine D.fn.ok scNumberIn (fun vs H Q E h => ?_) (fun cdv A outer s H vs Q E hr h => ?_)
  · obtain ⟨z, rfl, lz, q⟩ := h
    rfl
  · obtain ⟨z, rfl, lz, q⟩ := h
    refine ⟨_, (pss_cons (ps_if (PW.pt (pw_or (pt_not (pt_val (pe_ca cFg hr (by decide) (by rfl) (pa_cons (pv 0) (pa_cons pe_int (pa_cons (pe_glob (v := .int 30) (by rfl) gN ⟨_, rfl⟩) pa_nil)))))) (pw_or1 (PW.pt (pw_and (pt_cmpR op_eq (pe_ix ix_str (pv 0) pe_int (fun _ _ => rfl)) pe_str (nomark _)) (pw_and1 (pt_cmpR op_ne (pv 0) pe_str (nomark _)))))))) (pss_one (ps_ret pe_non)) pss_nil)
      (pss_one (ps_ret (pe_callTy call_int_str (by rfl) T.int (by decide +kernel) (pa_cons (pv 0) pa_nil))))), ?_⟩
    refine ⟨_, rfl, z, 1, 30, rfl, lz, fun H1 s1 => ⟨_, rfl, ?_⟩⟩
    have qn : numP z = none → Q .non H1 := fun e => by
      have w := q H1 s1
      rw [e] at w
      exact w
    cases c : ofT (.str z) figs 1 30 with
    | false => exact iteT (qn (by unfold numP; rw [c]; rfl))
    | true =>
      obtain ⟨l1, l30, ck⟩ := ofT_iff.mp c
      have ne : z.cps.toList ≠ [] := fun e => by rw [len_cps, e] at l1; exact absurd l1 (by decide)
      obtain ⟨c0, e0⟩ : ∃ d, z.cps.toList.head? = some d := by
        cases e : z.cps.toList.head? with
        | none => exact absurd (List.head?_eq_none_iff.mp e) ne
        | some d => exact ⟨d, rfl⟩
      have a0 : atI z.cps.toList 0 = some c0 := atI_nat (j := 0) (by rw [← List.head?_eq_getElem?]; exact e0)
      have fit := fitN' lz
      have d0 : decide (V.str ⟨#[c0]⟩ = V.str "0") = decide (c0 = 48) := by
        rw [decide_eq_decide]
        constructor
        · intro e
          injection e with e
          have := congrArg (fun s : Str => s.cps.toList) e
          rw [show ("0" : Str).cps.toList = [48] by decide +kernel] at this
          simpa using this
        · intro e
          rw [e]
          exact congrArg V.str (Xtx.str_eq (by decide +kernel))
      have yes : ¬ (z.cps.toList.head? = some 48 ∧ z ≠ "0") → PySem.intText? z = some ((NumText.digitsVal z.cps.toList : Nat) : Int) ∧ Q (.int ((NumText.digitsVal z.cps.toList : Nat) : Int)) H1 := fun h => by
        have w := q H1 s1
        unfold numP at w
        rw [if_pos c, if_neg h] at w
        exact ⟨intText_digits ((chk_figs z).mp ck) ne (by omega), w⟩
      refine iteF ⟨_, rfl, z, 0, c0, rfl, rfl, fit, a0, rfl, _, rfl, ?_⟩
      rw [d0]
      by_cases h0 : c0 = 48
      · rw [decide_eq_true h0]
        refine iteT ⟨_, rfl, rfl, _, rfl, ?_⟩
        by_cases h1 : z = "0"
        · have e1 : (!decide (V.str z = V.str "0")) = false := by rw [h1]; rfl
          rw [e1]
          obtain ⟨g1, g2⟩ := yes fun x => x.2 h1
          exact iteF ⟨_, rfl, z, _, rfl, g1, by omega, g2⟩
        · have e1 : (!decide (V.str z = V.str "0")) = true := by rw [decide_eq_false (fun e => h1 (by injection e))]; rfl
          rw [e1]
          refine iteT (qn ?_)
          unfold numP
          rw [if_pos c, if_pos ⟨by rw [e0, h0], h1⟩]
      · rw [decide_eq_false h0]
        obtain ⟨g1, g2⟩ := yes fun x => by
          rw [e0] at x
          exact h0 (Option.some.inj x.1)
        exact iteF ⟨_, rfl, z, _, rfl, g1, by omega, g2⟩
theorem ok_ki {f : Addr} {fd : FuncData} {e : Ex} (D : Df K mg "key_in" ["text"] sKeyIn f fd) (T : Txt K mg C e) (cNu : Ca P w K mg base 3 "number_in" ["text"] spNum) (cK : Ca P w K mg base 4 "is_key" ["thing"] (spIsKey K)) : FnOk P w K mg base CX0 5 f fd ["text"] spKi := by
  obtain ⟨_, gS⟩ := T.sm
  obtain ⟨_, gW⟩ := T.lw
  obtain ⟨_, gK⟩ := T.kp
  obtain ⟨_, gM⟩ := T.mr
  obtain ⟨_, gF⟩ := T.fg
  obtain ⟨_, gN⟩ := T.mf
  refine D.fn.ok scKeyIn (fun vs H Q E h => ?_) (fun cdv A outer s H vs Q E hr h => ?_)
  · obtain ⟨x, rfl, lx, q⟩ := h
    rfl
  · obtain ⟨x, rfl, lx, q⟩ := h
    refine ⟨_, (pss_cons (ps_asg (pe_partition (pv 0) pe_str) (pg_tup (by rfl) (pgs_cons (pg_name (i := 1) scKeyIn.nd rfl (.inl rfl)) (pgs_cons (pg_name (i := 2) scKeyIn.nd rfl (.inl rfl)) (pgs_cons (pg_name (i := 3) scKeyIn.nd rfl (.inl rfl)) pgs_nil)))))
      (pss_cons (ps_set (i := 4) scKeyIn.nd rfl (.inl rfl) (pe_tup (pa_cons (pv 1) (pa_cons (pe_ca cNu hr (by decide) (by rfl) (pa_cons (pv 3) pa_nil)) pa_nil))))
      (pss_one (ps_ret (pe_ifExp (pt_val (pe_ca cK hr (by decide) (by rfl) (pa_cons (pv 4) pa_nil))) (pv 4) pe_non))))), ?_⟩
    obtain ⟨pl1, pl2⟩ := part_len x " "
    refine ⟨_, rfl, ⟨_, rfl⟩, x, " ", rfl, rfl, rfl, fitN' lx, fun p np => ?_⟩
    have sp := same_upd np (o := .tup [.str (Txt.partition x " ").1, .str (Txt.partition x " ").2.1, .str (Txt.partition x " ").2.2])
    refine ⟨p, _, rfl, SqT.of upd_same, rfl, _, _, rfl, _, _, rfl, _, _, rfl, rfl, ?_⟩
    generalize L2.upd H p (.tup [.str (Txt.partition x " ").1, .str (Txt.partition x " ").2.1, .str (Txt.partition x " ").2.2]) = H1 at sp ⊢
    refine ⟨_, rfl, _, rfl, (Txt.partition x " ").2.2, rfl, by omega, fun H2 s2 => ⟨(by show 2 ≤ sizeLine; decide), fun t nt => ?_⟩⟩
    have st := same_upd nt (o := .tup [.str (Txt.partition x " ").1, nV (numP (Txt.partition x " ").2.2)])
    have et : (L2.upd H2 t (.tup [.str (Txt.partition x " ").1, nV (numP (Txt.partition x " ").2.2)])) t = some (.tup [.str (Txt.partition x " ").1, nV (numP (Txt.partition x " ").2.2)]) := upd_same
    generalize L2.upd H2 t (.tup [.str (Txt.partition x " ").1, nV (numP (Txt.partition x " ").2.2)]) = H3 at st et ⊢
    have s03 := (sp.trans s2).trans st
    have dz : Dz K H3 (.ref t) (.tuple [.str (Txt.partition x " ").1, nD (numP (Txt.partition x " ").2.2)]) := .tup et (.cons (.str _) (.cons (nV_dz _) .nil))
    refine ⟨_, rfl, _, _, rfl, dz, fun ds e => ?_, fun H4 s4 => ⟨_, rfl, ?_⟩⟩
    · cases e
      intro d hd y ey
      rcases List.mem_cons.mp hd with z | z
      · rw [z] at ey
        cases ey
        omega
      · rw [List.mem_singleton.mp z] at ey
        cases e : numP (Txt.partition x " ").2.2 <;> rw [e] at ey <;> cases ey
    have s04 := s03.trans s4
    have et4 := s4 _ _ et
    have kd : kyD (.tuple [.str (Txt.partition x " ").1, nD (numP (Txt.partition x " ").2.2)]) = (ofT (.str (Txt.partition x " ").1) small 1 8 && nn (nD (numP (Txt.partition x " ").2.2))) := rfl
    rw [kd]
    cases hn : numP (Txt.partition x " ").2.2 with
    | none =>
      rw [show nn (nD none) = false from rfl, Bool.and_false]
      refine iteF (q _ H4 s04 ?_)
      unfold keyP
      rw [hn]
      rfl
    | some n =>
      obtain ⟨m, em, _⟩ := num_back hn
      rw [show nn (nD (some n)) = decide (0 ≤ n) from rfl, decide_eq_true (by omega), Bool.and_true]
      rw [hn] at et4
      by_cases a : ofT (.str (Txt.partition x " ").1) small 1 8 = true
      · rw [a]
        refine iteT ⟨_, rfl, q _ H4 s04 ?_⟩
        unfold keyP
        rw [hn]
        dsimp only
        rw [if_pos a]
        exact ⟨t, rfl, et4⟩
      · rw [Bool.eq_false_iff.mpr a]
        refine iteF (q _ H4 s04 ?_)
        unfold keyP
        rw [hn]
        dsimp only
        rw [if_neg a]
        rfl
end
end K66
set_option Elab.async false
set_option linter.all false
set_option maxRecDepth 100000
set_option maxHeartbeats 4000000
set_option pp.maxSteps 400
set_option pp.deepTerms false
namespace K66
open PySem PySem.Spec PyProof.Rows L2
open Xk Az Xtx
section
variable {P : Program} {w : World} {K : PySem.W.Frag} {mg : Str → Option Value} {base : Heap} {C : Addr}
theorem spl_len {S : List Nat} (hS : S ≠ []) : ∀ (n k : Nat) (acc L : List Nat), L.length ≤ n → (TL.spl S k acc L).length ≤ L.length + 1 ∧ ∀ p ∈ TL.spl S k acc L, p.length ≤ acc.length + L.length
  | _, k, acc, [], _ => by
    rw [TL.spl_nil]
    refine ⟨by simp, fun p hp => ?_⟩
    rw [List.mem_singleton.mp hp]
    simp
  | n + 1, k, acc, c :: r, h => by
    rw [List.length_cons] at h ⊢
    cases k with
    | succ k =>
      rw [TL.spl_pass, List.drop_succ_cons, ← TL.spl_pass S k]
      obtain ⟨a, b⟩ := spl_len hS n k acc r (by omega)
      exact ⟨by omega, fun p hp => by have := b p hp; omega⟩
    | zero =>
      cases hp : TL.pre S (c :: r) with
      | true =>
        rw [TL.spl_hit hp, List.length_cons]
        obtain ⟨a, b⟩ := spl_len hS n (S.length - 1) [] r (by omega)
        refine ⟨by omega, fun p hq => ?_⟩
        rcases List.mem_cons.mp hq with z | z
        · rw [z]; omega
        · have := b p z
          simp only [List.length_nil] at this
          omega
      | false =>
        rw [TL.spl_miss hp]
        obtain ⟨a, b⟩ := spl_len hS n 0 (acc ++ [c]) r (by omega)
        refine ⟨by omega, fun p hq => ?_⟩
        have := b p hq
        rw [List.length_append] at this
        simp only [List.length_cons, List.length_nil] at this
        omega
theorem split_len {x y : Str} (hy : TL.tl y ≠ []) (hk : y.cps.all (· < 256) = true) : (Txt.split x y).length ≤ x.length + 1 ∧ ∀ p ∈ Txt.split x y, p.length ≤ x.length := by
  have e := TL.split_spl x y hy (TL.kind_ok hk)
  obtain ⟨a, b⟩ := spl_len hy _ 0 [] (TL.tl x) (Nat.le_refl _)
  rw [← e, List.length_map] at a
  refine ⟨by rw [len_cps x]; exact a, fun p hp => ?_⟩
  have := b (TL.tl p) (by rw [← e]; exact List.mem_map_of_mem hp)
  rw [len_cps p, len_cps x]
  simpa using this
theorem cb_ne : TL.tl ", " ≠ [] := by rw [tl_cb]; simp
theorem cb_256 : (", " : Str).cps.all (· < 256) = true := by decide +kernel
theorem bl_ne : TL.tl " " ≠ [] := by rw [tl_bl]; simp
theorem bl_256 : (" " : Str).cps.all (· < 256) = true := by decide +kernel
theorem r65 {A : Around} {k : Nat} (hr : Room k A) : A.units + 65 < cLine := by have := hr.un; omega
theorem ok_ai {f : Addr} {fd : FuncData} {e : Ex} {fR : Addr} (D : Df K mg "all_in" ["reader", "text"] sAllIn f fd) (T : Txt K mg C e) (kR : PySem.W.keepIn K (.ref fR) = true) (RR : FnR P w K mg base CX0 5 fR spKi) : FnOk P w K mg base CX0 6 f fd ["reader", "text"] (spAi fR) := by
  refine D.fn.ok scAllIn (fun vs H Q E h => ?_) (fun cdv A outer s H vs Q E hr h => ?_)
  · obtain ⟨x, rfl, lx, q1, q2⟩ := h
    rfl
  · obtain ⟨x, rfl, lx, q1, q2⟩ := h
    refine ⟨_, (pss_cons (ps_setLc (i := 2) (own := [("piece", 3)]) (g := gName 3) (tt := tYes) (te := ItX.tCallV 0 fR spKi E0 (tCons (tVar 3) tNil)) (by rfl) scAllIn.nd rfl rfl (sw_true rfl rfl rfl (by decide +kernel)) (pi_list (pe_m1 F.slot_str_split F.type_str_split mt_split (pv 1) pe_str)) (blkOk_by (own := [("piece", 3)]) (N := ["reader", "text", "things", "piece"]) (sc := defScope sAllIn) (by decide +kernel)) (fun _ _ _ _ _ => pg_name (i := 3) scAllIn.nd rfl (.inl rfl)) (fun _ _ _ _ _ => pts_nil) (fun _ _ _ _ _ => ItX.pe_callV (i := 0) RR hr kR pass0 (by rfl) (by first | exact Or.inl rfl | exact Or.inr (Or.inl rfl) | exact Or.inr (Or.inr rfl)) (pa_cons (pv 3) pa_nil)))
      (pss_one (ps_ret (pe_ifExp (pt_cmpR (op_inD (r65 hr)) pe_non (pv 2) (by rfl)) pe_non (pe_callTy call_tuple_of (by rfl) T.tuple (by decide +kernel) (pa_cons (pv 2) pa_nil)))))), ?_⟩
    obtain ⟨pl1, pl2⟩ := split_len (x := x) cb_ne cb_256
    refine ⟨_, rfl, ⟨_, rfl⟩, x, ", ", rfl, rfl, rfl, Nat.le_trans (show _ ≤ 60000 by omega) (by decide), fun S nS => ?_⟩
    have sS := same_upd nS (o := .lst ((Txt.split x ", ").map V.str))
    have eS : (L2.upd H S (.lst ((Txt.split x ", ").map V.str))) S = some (.lst ((Txt.split x ", ").map V.str)) := upd_same
    generalize L2.upd H S (.lst ((Txt.split x ", ").map V.str)) = H1 at sS eS ⊢
    generalize hps : Txt.split x ", " = ps at pl1 pl2 q1 q2 eS ⊢
    refine ⟨S, rfl, ⟨_, SqL.of eS⟩, fun W nW => ?_⟩
    refine lc_list (K := K) (a := S) (xs := ps.map V.str) (fun i Hi => L2.Same H1 Hi ∧ ∃ vs, Hi W = some (.lst vs) ∧ OksAt Hi vs ((ps.take i).map keyP)) ⟨same_upd nW, [], upd_same, .nil⟩ (fun i Hi _ z => SqL.of (z.1 _ _ eS)) ?_ ?_
    · rintro i v Hi hv ⟨sm, vs, eW, oa⟩
      rw [List.getElem?_map] at hv
      obtain ⟨p, ep, rfl⟩ := Option.map_eq_some_iff.mp hv
      have il := (List.getElem?_eq_some_iff.mp ep).1
      have pl := pl2 p (List.mem_of_getElem? ep)
      refine ⟨rfl, ?_⟩
      unfold tYes
      refine iteT ⟨rfl, _, rfl, p, rfl, by omega, fun v H2 s2 ok => ?_⟩
      have eW2 := s2 _ _ eW
      have vl := oa.len
      rw [List.length_map, List.length_take] at vl
      have tp : ∀ b xs, H2 b = some (.tup xs) → (L2.upd H2 W (.lst (vs ++ [v]))) b = some (.tup xs) := fun b xs e => by
        rw [upd_ne (ne_of e eW2 (by intro z; cases z))]
        exact e
      refine ⟨vs, eW2, ?_, fun b o e => ?_, vs ++ [v], upd_same, ?_⟩
      · exact Nat.lt_of_le_of_lt (show vs.length ≤ 50001 by omega) (by decide)
      · rw [upd_ne (ne_of_none e nW)]
        exact s2 _ _ (sm _ _ e)
      · rw [List.take_add_one, ep, List.map_append]
        exact ((oa.tp fun b xs e => s2 _ _ e).tp tp).snoc (ok.tp tp)
    rintro H2 ⟨s2, vs, eW, oa⟩
    rw [List.take_of_length_le (by rw [List.length_map]; exact Nat.le_refl _)] at oa
    have s02 := sS.trans s2
    refine ⟨_, rfl, .none, _, .non, .lst (SqL.of eW) oa.dp, none_shaped, os_shaped (fun o ho k e => ?_), ?_⟩
    · obtain ⟨p, _, rfl⟩ := List.mem_map.mp ho
      exact key_good e
    rw [os_any]
    cases ha : allO (ps.map keyP) with
    | none =>
      rw [decide_eq_true (allO_none ha)]
      exact ⟨true, rfl, iteT (q1 ha H2 s02)⟩
    | some ks =>
      rw [decide_eq_false (allO_no ha)]
      refine ⟨false, rfl, iteF ⟨_, rfl, W, vs, rfl, .inl ⟨SqL.of eW, fun t nt => ?_⟩⟩⟩
      have st := same_upd nt (o := .tup vs)
      rw [allO_some ha] at oa
      exact q2 ks ha t vs _ (s02.trans st) upd_same (oa.tp fun b xs e => st _ _ e)
theorem ok_ksi {f : Addr} {fd : FuncData} {e : Ex} {fR : Addr} (D : Df K mg "keys_in" ["text"] sKeysIn f fd) (T : Txt K mg C e) (cAi : Ca P w K mg base 6 "all_in" ["reader", "text"] (spAi fR)) (gR : mg "key_in" = some (.ref fR)) : FnOk P w K mg base CX0 7 f fd ["text"] spKsi := by
  refine D.fn.ok scKeysIn (fun vs H Q E h => ?_) (fun cdv A outer s H vs Q E hr h => ?_)
  · obtain ⟨x, rfl, lx, q1, q2⟩ := h
    rfl
  · obtain ⟨x, rfl, lx, q1, q2⟩ := h
    refine ⟨_, (pss_one (ps_ret (pe_ca cAi hr (by decide) (by rfl) (pa_cons (pe_glob (v := .ref fR) (by rfl) gR rfl) (pa_cons (pv 0) pa_nil))))), ?_⟩
    exact ⟨_, rfl, x, rfl, lx, q1, q2⟩
end
end K66
set_option Elab.async false
set_option linter.all false
set_option maxRecDepth 100000
set_option maxHeartbeats 4000000
set_option pp.maxSteps 400
set_option pp.deepTerms false
namespace K66
open PySem PySem.Spec PyProof.Rows L2
open Xk Az Xtx
section
variable {P : Program} {w : World} {K : PySem.W.Frag} {mg : Str → Option Value} {base : Heap} {C : Addr}
/-- Disc, made -/
structure Dc (P : Program) (w : World) (K : PySem.W.Frag) (mg : Str → Option Value) (base : Heap) (C : Addr) (e : Ex) (f : Addr) (fd : FuncData) : Prop where
  mm : Mk K C f
  ok : FnOk P w K mg base CX0 6 f fd ["self", "label", "rows"] (spInit K C e)
  bd : Binds K fd ["self", "label", "rows"] []
structure Own (P : Program) (w : World) (K : PySem.W.Frag) (mg : Str → Option Value) (base : Heap) (C fE fS : Addr) (fdE fdS : FuncData) : Prop where
  W : OwnC K C fE
  Z : KitC K C
  okE : FnOk P w K mg base CX0 1 fE fdE ["self", "other"] (spEq K C)
  bdE : Binds K fdE ["self", "other"] []
  hs : PySem.W.findIn K (.ref C) "__str__" = some (some (.ref fS))
  sf : PySem.W.isFn K (.ref fS) = true
  okS : FnOk P w K mg base CX0 3 fS fdS ["self"] (spStr K C)
  bdS : Binds K fdS ["self"] []
theorem ofT_yes {x : Str} (l1 : 1 ≤ x.length) (l8 : x.length ≤ 8) (h : letts x) : ofT (.str x) small 1 8 = true := ofT_iff.mpr ⟨by omega, by omega, chk_iff.mpr h⟩
theorem ky_yes {k : Ky} (h : GoodK k) : kyD (kyP k) = true := by
  show (ofT (.str k.1) small 1 8 && decide (0 ≤ k.2)) = true
  rw [gk_house h, decide_eq_true h.n0]
  rfl
theorem rw_iff {ks : List Ky} (h : ∀ k ∈ ks, GoodK k) : rwD (rwP ks) = true ↔ 1 ≤ ks.length ∧ ks.length ≤ 30 := by
  show (decide ((1 : Int) ≤ ((ks.map kyP).length : Int)) && decide (((ks.map kyP).length : Int) ≤ 30) && (ks.map kyP).all kyD) = true ↔ _
  have c : (ks.map kyP).all kyD = true := List.all_eq_true.mpr fun d hd => by
    obtain ⟨k, hk, rfl⟩ := List.mem_map.mp hd
    exact ky_yes (h k hk)
  rw [c, Bool.and_true, Bool.and_eq_true, decide_eq_true_eq, decide_eq_true_eq, List.length_map]
  omega
theorem s3_rw {ks : List Ky} (h : ∀ k ∈ ks, GoodK k) (l : ks.length ≤ 60000) : S3 (rwP ks) := fun ds e => by
  unfold rwP at e
  cases e
  refine ⟨by rw [List.length_map]; exact l, fun d hd => ?_⟩
  obtain ⟨k, hk, rfl⟩ := List.mem_map.mp hd
  intro ds e y hy
  cases e
  intro z ez
  rcases List.mem_cons.mp hy with q | q
  · rw [q] at ez
    cases ez
    have := (h k hk).w8
    omega
  · rw [List.mem_singleton.mp q] at ez
    cases ez
theorem all_good {ps : List Str} {ks : List Ky} (h : allO (ps.map keyP) = some ks) : (∀ k ∈ ks, GoodK k) ∧ ks.length = ps.length := by
  have e := allO_some h
  have l := congrArg List.length e
  rw [List.length_map, List.length_map] at l
  refine ⟨fun k hk => ?_, l.symm⟩
  have m : some k ∈ ps.map keyP := by rw [e]; exact List.mem_map_of_mem hk
  obtain ⟨p, _, hp⟩ := List.mem_map.mp m
  exact key_good hp
theorem split_pos {x y : Str} (hy : TL.tl y ≠ []) (hk : y.cps.all (· < 256) = true) : 1 ≤ (Txt.split x y).length := by
  have e := TL.split_spl x y hy (TL.kind_ok hk)
  have n := spl_ne (TL.tl y) _ 0 [] (TL.tl x) (Nat.le_refl _)
  rw [← e] at n
  rcases Nat.eq_zero_or_pos (Txt.split x y).length with z | z
  · rw [List.eq_nil_of_length_eq_zero z] at n
    exact absurd rfl n
  · exact z
theorem pre_len (x y : Str) : (Txt.removeprefix x y).length ≤ x.length := by
  rw [StrLaws.removeprefix_eq]
  split
  · show (List.take _ (List.drop _ x.cps.toList)).toArray.size ≤ _
    rw [List.size_toArray, List.length_take, List.length_drop, len_cps x]
    omega
  · exact Nat.le_refl _
def spDi (K : PySem.W.Frag) (C : Addr) : Sp := fun vs H Q _ => ∃ (x : Str), vs = [.str x] ∧ x.length ≤ 50000 ∧
  (∀ l ks, Vd l ks → x = discT l ks → ∀ o t H', L2.Same H H' → DiscAt C H' o (.str l) (.ref t) → Rws K H' (.ref t) ks → Q (.ref o) H') ∧ ((∀ l ks, Vd l ks → x ≠ discT l ks) → ∀ H', L2.Same H H' → Q .non H')
theorem ok_di {f : Addr} {fd : FuncData} {e : Ex} {fG fE fS : Addr} {fdG fdE fdS : FuncData} (D : Df K mg "disc_in" ["text"] sDiscIn f fd) (T : Txt K mg C e) (G : Dc P w K mg base C e fG fdG) (O : Own P w K mg base C fE fS fdE fdS) (cKsi : Ca P w K mg base 7 "keys_in" ["text"] spKsi) (cWd : Ca P w K mg base 3 "is_word" ["thing"] (spWord K)) (cRw : Ca P w K mg base 5 "are_rows" ["thing"] (spAreRows K)) : FnOk P w K mg base CX0 8 f fd ["text"] (spDi K C) := by
  refine D.fn.ok scDiscIn (fun vs H Q E h => ?_) (fun cdv A outer s H vs Q E hr h => ?_)
  · obtain ⟨x, rfl, lx, q1, q2⟩ := h
    rfl
  · obtain ⟨x, rfl, lx, q1, q2⟩ := h
    refine ⟨_, (pss_cons (ps_asg (pe_partition (pe_m1 F.slot_str_removeprefix F.type_str_removeprefix mt_removeprefix (pv 0) pe_str) pe_str) (pg_tup (by rfl) (pgs_cons (pg_name (i := 1) scDiscIn.nd rfl (.inl rfl)) (pgs_cons (pg_name (i := 2) scDiscIn.nd rfl (.inl rfl)) (pgs_cons (pg_name (i := 3) scDiscIn.nd rfl (.inl rfl)) pgs_nil)))))
      (pss_cons (ps_set (i := 4) scDiscIn.nd rfl (.inl rfl) (pe_ca cKsi hr (by decide) (by rfl) (pa_cons (pv 3) pa_nil)))
      (pss_cons (ps_if (PW.pt (pw_or (pt_not (pt_val (pe_ca cWd hr (by decide) (by rfl) (pa_cons (pv 1) pa_nil)))) (pw_or (pt_not (pt_val (pe_ca cRw hr (by decide) (by rfl) (pa_cons (pv 4) pa_nil)))) (pw_or1 (pt_cmpR op_ne (pe_callTy (cr_strO O.hs O.sf (hr.mono (by decide)) O.okS O.bdS) (by rfl) T.str (by decide +kernel) (pa_cons (pe_make G.mm G.ok (hr.mono (by decide)) (by rfl) T.mgC G.bd .nil pass0 (pa_cons (pv 1) (pa_cons (pv 4) pa_nil))) pa_nil)) (pv 0) (nomark _)))))) (pss_one (ps_ret pe_non)) pss_nil)
      (pss_one (ps_ret (pe_make G.mm G.ok (hr.mono (by decide)) (by rfl) T.mgC G.bd .nil pass0 (pa_cons (pv 1) (pa_cons (pv 4) pa_nil)))))))), ?_⟩
    have l0 := pre_len x "disc "
    obtain ⟨pl1, pl2⟩ := part_len (Txt.removeprefix x "disc ") ": "
    -- what would be found
    have yes : ∀ l ks, Vd l ks → x = discT l ks → (Txt.partition (Txt.removeprefix x "disc ") ": ").1 = l ∧ allO ((Txt.split (Txt.partition (Txt.removeprefix x "disc ") ": ").2.2 ", ").map keyP) = some ks := fun l ks v e => by
      rw [e, disc_pre, disc_part v.ll]
      dsimp only
      refine ⟨rfl, ?_⟩
      rw [kys_split v.gk v.k1, List.map_map]
      have em : ks.map (keyP ∘ kyT) = ks.map some := List.map_congr_left fun k hk => key_of (v.gk k hk)
      rw [em, allO_map]
    refine ⟨_, rfl, ⟨_, rfl⟩, x, "disc ", rfl, rfl, fitN' lx, ⟨_, rfl⟩, _, ": ", rfl, rfl, rfl, fitN' (by omega), fun p np => ?_⟩
    generalize ha : (Txt.partition (Txt.removeprefix x "disc ") ": ").1 = a at pl1 yes np ⊢
    generalize hr2 : (Txt.partition (Txt.removeprefix x "disc ") ": ").2.2 = r at pl2 yes np ⊢
    generalize (Txt.partition (Txt.removeprefix x "disc ") ": ").2.1 = b at np ⊢
    have sp := same_upd np (o := .tup [.str a, .str b, .str r])
    refine ⟨p, _, rfl, SqT.of upd_same, rfl, _, _, rfl, _, _, rfl, _, _, rfl, rfl, ?_⟩
    generalize L2.upd H p (.tup [.str a, .str b, .str r]) = H1 at sp ⊢
    refine ⟨_, rfl, r, rfl, by omega, fun hn H2 s2 => ?_, fun ks hk t xs H2 s2 et oa => ?_⟩
    · -- no keys
      have no : ∀ l ks, Vd l ks → x ≠ discT l ks := fun l ks v e => by
        have := (yes l ks v e).2
        rw [hn] at this
        cases this
      refine ⟨_, rfl, .str a, .str a, rfl, .str a, (show St (.str a) from fun y e => by cases e; omega), fun H3 s3 => ⟨_, rfl, ?_⟩⟩
      have q3 := q2 no H3 ((sp.trans s2).trans s3)
      cases c : ofT (.str a) small 1 8 with
      | false => exact iteT q3
      | true =>
        refine iteF ⟨_, rfl, .non, .none, rfl, .non, (show S3 .none from fun ds e => by cases e), fun H4 s4 => ⟨_, rfl, ?_⟩⟩
        exact iteT (q2 no H4 (((sp.trans s2).trans s3).trans s4))
    obtain ⟨gk, lk⟩ := all_good hk
    obtain ⟨sl1, _⟩ := split_len (x := r) cb_ne cb_256
    have sl2 := split_pos (x := r) cb_ne cb_256
    have dz2 : Dz K H2 (.ref t) (rwP ks) := .tup et oa.dzk
    refine ⟨_, rfl, .str a, .str a, rfl, .str a, (show St (.str a) from fun y e => by cases e; omega), fun H3 s3 => ⟨_, rfl, ?_⟩⟩
    cases c : ofT (.str a) small 1 8 with
    | false =>
      refine iteT (q2 (fun l ks v e => ?_) H3 ((sp.trans s2).trans s3))
      rw [(yes l ks v e).1, ofT_yes v.l1 v.l8 v.ll] at c
      cases c
    | true =>
      have dz3 := dz2.same s3
      refine iteF ⟨_, rfl, .ref t, rwP ks, rfl, dz3, s3_rw gk (by omega), fun H4 s4 => ⟨_, rfl, ?_⟩⟩
      have s04 := ((sp.trans s2).trans s3).trans s4
      have dz4 := dz3.same s4
      by_cases c2 : rwD (rwP ks) = true
      · rw [c2]
        obtain ⟨k1, k30⟩ := (rw_iff gk).mp c2
        obtain ⟨a1, a8, ac⟩ := ofT_iff.mp c
        have vd : Vd a ks := ⟨by omega, by omega, chk_iff.mp ac, gk, k1, k30⟩
        have made : ∀ {Hx : Hp} {o dx : Addr}, Hx o = none → Hx dx = none → L2.Same Hx (L2.upd (L2.upd Hx dx (.own o)) o (.ins C dx [])) := fun {Hx o dx} no nd b z e => by
          rw [upd_ne (ne_of_none e no), upd_ne (ne_of_none e nd)]
          exact e
        refine iteF ⟨_, rfl, _, rfl, fun o dx no nd ne => ?_⟩
        refine ⟨o, dx, .str a, .ref t, .str a, rwP ks, rfl, upd_same, .str a, fun y e => by cases e; omega, dz4.same (made no nd), s3_rw gk (by omega), c, c2, fun H5 keep al => ⟨rfl, ?_⟩⟩
        have s5 : L2.Same H4 H5 := fun b z e => keep b z (made no nd b z e) (ne_of_none e no)
        have rw5 : Rws K H5 (.ref t) ks := ⟨dz4.same s5, gk, k1, by omega⟩
        obtain ⟨dy, eo⟩ := id al
        refine ⟨o, dy, _, rfl, eo, o, a, .ref t, ks, rfl, al, by omega, rw5, fun H6 s6 => ⟨_, rfl, _, rfl, rfl, _, rfl, ?_⟩⟩
        have s46 := s5.trans s6
        by_cases ex : x = discT a ks
        · have e1 : (!decide (V.str (discT a ks) = V.str x)) = false := by rw [← ex]; simp
          rw [e1]
          have dz6 := dz4.same s46
          refine iteF ⟨_, rfl, _, rfl, fun o2 dx2 no2 nd2 ne2 => ?_⟩
          refine ⟨o2, dx2, .str a, .ref t, .str a, rwP ks, rfl, upd_same, .str a, fun y e => by cases e; omega, dz6.same (made no2 nd2), s3_rw gk (by omega), c, c2, fun H7 keep2 al2 => ⟨rfl, ?_⟩⟩
          have s7 : L2.Same H6 H7 := fun b z e => keep2 b z (made no2 nd2 b z e) (ne_of_none e no2)
          exact q1 a ks vd ex o2 t H7 ((s04.trans s46).trans s7) al2 ⟨dz6.same s7, gk, k1, by omega⟩
        · have e1 : (!decide (V.str (discT a ks) = V.str x)) = true := by rw [decide_eq_false (fun e => ex (by injection e with e; exact e.symm))]; rfl
          rw [e1]
          refine iteT (q2 (fun l ks2 v e => ?_) H6 (s04.trans s46))
          obtain ⟨g1, g2⟩ := yes l ks2 v e
          rw [hk] at g2
          cases g2
          rw [← g1] at e
          exact ex e
      · rw [Bool.eq_false_iff.mpr c2]
        refine iteT (q2 (fun l ks2 v e => ?_) H4 s04)
        obtain ⟨_, g2⟩ := yes l ks2 v e
        rw [hk] at g2
        cases g2
        exact c2 ((rw_iff gk).mpr ⟨v.k1, v.k30⟩)
end
end K66
set_option Elab.async false
set_option linter.all false
set_option maxRecDepth 100000
set_option maxHeartbeats 4000000
set_option pp.maxSteps 400
set_option pp.deepTerms false
namespace K66
open PySem PySem.Spec PyProof.Rows L2
open Xk Az Xtx
section
variable {P : Program} {w : World} {K : PySem.W.Frag} {mg : Str → Option Value} {base : Heap} {C : Addr}
def spNT (e : Ex) : Sp := fun vs H Q _ => ∃ (a : Addr) (r x : V), vs = [.ref a, r, x] ∧ H a = some (exo a e.NoText none) ∧
  ∀ p H', H p = none → p ≠ a → H' a = some (exo a e.NoText (some p)) → H' p = some (exd p [("wanted", x), ("row", r)]) → (∀ b, b ≠ a → b ≠ p → H' b = H b) → Q .non H'
def Rz (e : Ex) (H : Hp) (r x : V) (E : XK) : Prop := ∀ (p : Addr) (H' : Hp), L2.Same H H' → H' p = some (.xd [("wanted", x), ("row", r)]) → E (.ref e.NoText) (some p) H'
theorem ok_nt {f : Addr} {fd : FuncData} {e : Ex} (F : Fun K "__init__" "NoText.__init__" sNoTextInit f fd) (T : Txt K mg C e) : FnOk P w K mg base CX0 1 f fd ["self", "row", "wanted"] (spNT e) := by
  refine F.ok scNoTextInit (fun vs H Q E h => ?_) (fun cdv A outer s H vs Q E hr h => ?_)
  · obtain ⟨a, r, x, rfl, ha, q⟩ := h
    rfl
  · obtain ⟨a, r, x, rfl, ha, q⟩ := h
    refine ⟨_, (pss_cons (ps_expr (pe_binit T.bi (by rfl) T.mNotSuch (pa_cons (pv 0) (pa_cons pe_str pa_nil))))
      (pss_cons (ps_ost (pv 0) (pv 1))
      (pss_one (ps_ost (pv 0) (pv 2))))), ?_⟩
    refine ⟨_, rfl, a, e.NoText, [.str "not so written"], rfl, (by show 1 ≤ 1000; decide), T.oex, ha, ?_⟩
    refine ⟨_, rfl, _, rfl, a, e.NoText, rfl, T.oex, T.f1, .inl ⟨ha, fun p np ne => ?_⟩⟩
    have e1 : (upd (upd H p (exd p [("row", r)])) a (exo a e.NoText (some p))) p = some (exd p [("row", r)]) := by rw [upd_ne ne, upd_same]
    refine ⟨_, rfl, _, rfl, a, e.NoText, rfl, T.oex, T.f2, .inr ⟨p, _, upd_same, e1, (by show 1 ≤ 900; decide), ?_⟩⟩
    have e2 : ∀ {o : HO}, (upd (upd (upd H p (exd p [("row", r)])) a (exo a e.NoText (some p))) p o) a = some (exo a e.NoText (some p)) := fun {o} => by rw [upd_ne (Ne.symm ne), upd_same]
    refine q p _ np ne e2 upd_same fun b hb hp => ?_
    rw [upd_ne hp, upd_ne hb, upd_ne hp]
structure Nt (P : Program) (w : World) (K : PySem.W.Frag) (mg : Str → Option Value) (base : Heap) (e : Ex) (f : Addr) (fd : FuncData) : Prop where
  ok : FnOk P w K mg base CX0 1 f fd ["self", "row", "wanted"] (spNT e)
  at_ : PySem.W.findIn K (.ref e.NoText) "__init__" = some (some (.ref f))
  ty : PySem.W.typeIn K (.ref f) = some (.type "function")
  bd : Binds K fd ["self", "row", "wanted"] []
theorem raised {e : Ex} {H : Hp} {r x : V} {E : XK} (q : Rz e H r x E) : ∀ a, H a = none → spNT e [.ref a, r, x] (upd H a (exo a e.NoText none))
    (fun z H2 => z = .non ∧ ∃ (p : Addr) (fs : List (Str × V)), H2 a = some (exo a e.NoText (some p)) ∧ H2 p = some (exd p fs) ∧ H p = none ∧ E (.ref e.NoText) (some p) (upd (del H2 a) p (.xd fs))) E0 := fun a na => by
  refine ⟨a, r, x, rfl, upd_same, fun p H' np ne e1 e2 off => ⟨rfl, p, _, e1, e2, ?_, ?_⟩⟩
  · rw [upd_ne ne] at np
    exact np
  · rw [upd_ne ne] at np
    have mx : upd (del H' a) p (.xd [("wanted", x), ("row", r)]) = upd H p (.xd [("wanted", x), ("row", r)]) := by
      funext b
      by_cases hd : b = p
      · rw [hd, upd_same, upd_same]
      · rw [upd_ne hd, upd_ne hd]
        by_cases ha : b = a
        · rw [ha, del_same, na]
        · rw [del_ne ha, off b ha hd, upd_ne ha]
    rw [mx]
    exact q p _ (same_upd np) upd_same
def spSd (K : PySem.W.Frag) (C : Addr) (e : Ex) (fR : Addr) : Sp := fun vs H Q E => ∃ (x : Str), vs = [.ref fR, .str x, .str "disc", .int 0] ∧ x.length ≤ 50000 ∧
  (∀ l ks, Vd l ks → x = discT l ks → ∀ o t H', L2.Same H H' → DiscAt C H' o (.str l) (.ref t) → Rws K H' (.ref t) ks → Q (.ref o) H') ∧ ((∀ l ks, Vd l ks → x ≠ discT l ks) → Rz e H (.int 0) (.str "disc") E)
def spRd (K : PySem.W.Frag) (C : Addr) (e : Ex) : Sp := fun vs H Q E => ∃ (x : Str), vs = [.str x] ∧ x.length ≤ 50000 ∧
  (∀ l ks, Vd l ks → x = discT l ks → ∀ o t H', L2.Same H H' → DiscAt C H' o (.str l) (.ref t) → Rws K H' (.ref t) ks → Q (.ref o) H') ∧ ((∀ l ks, Vd l ks → x ≠ discT l ks) → Rz e H (.int 0) (.str "disc") E)
theorem ok_sd {f : Addr} {fd : FuncData} {e : Ex} {fN fR : Addr} {fdN : FuncData} (F : FunD K "so_written" "so_written" (defArgs sSoWritten) (defBody sSoWritten) (defScope sSoWritten) [.int 0] [] f fd) (T : Txt K mg C e) (N : Nt P w K mg base e fN fdN) (kR : PySem.W.keepIn K (.ref fR) = true) (RR : FnR P w K mg base CX0 8 fR (spDi K C)) : FnOk P w K mg base (L2.CX P w) 9 f fd ["reader", "text", "wanted", "row"] (spSd K C e fR) := by
  refine F.ok (CX := L2.CX P w) scSoWritten (fun vs H Q E h => ?_) (fun cdv A outer s H vs Q E hr h => ?_)
  · obtain ⟨x, rfl, lx, q1, q2⟩ := h
    rfl
  · obtain ⟨x, rfl, lx, q1, q2⟩ := h
    refine ⟨_, (pss_cons (ps_set (i := 4) scSoWritten.nd rfl (.inl rfl) (pe_ifExp (pt_val (pe_callB call_isi (by rfl) T.isi (by decide +kernel) (pa_cons (pv 1) (pa_cons (pe_bltn (v := .ty "str") (by rfl) T.str (by decide +kernel) rfl) pa_nil)))) (ItX.pe_callV (i := 0) RR hr kR pass0 (by rfl) (by first | exact Or.inl rfl | exact Or.inr (Or.inl rfl)) (pa_cons (pv 1) pa_nil)) pe_non))
      (pss_cons (ps_if (pt_cmpR op_isN (pv 4) pe_non (nomark _)) (pss_one (ps_raise rfl (takes_of rfl rfl rfl rfl) (pmk_oex T.oex N.at_ N.ty N.ok (hr.mono (by decide)) N.bd .nil pass0 (by rfl) T.mNoText (pa_cons (pv 3) (pa_cons (pv 2) pa_nil))))) pss_nil)
      (pss_one (ps_ret (pv 4))))), ?_⟩
    have ty : TyX K H (.str x) (.type "str") := .base (.str _)
    refine ⟨_, rfl, _, _, _, _, true, rfl, .ty _, ty, kit_ty (by decide +kernel), true, rfl, iteT ?_⟩
    refine ⟨rfl, _, rfl, x, rfl, lx, fun l ks v ex o t H1 s1 da rw1 => ?_, fun no H1 s1 => ?_⟩
    · exact ⟨_, rfl, rfl, _, rfl, iteF ⟨_, rfl, q1 l ks v ex o t H1 s1 da rw1⟩⟩
    · refine ⟨_, rfl, rfl, _, rfl, iteT ⟨_, rfl, _, rfl, (by show 2 ≤ 1000; decide), raised fun p H' s e => q2 no p H' (s1.trans s) e⟩⟩
structure Sd (P : Program) (w : World) (K : PySem.W.Frag) (mg : Str → Option Value) (base : Heap) (C : Addr) (e : Ex) (fR f : Addr) (fd : FuncData) : Prop where
  ok : FnOk P w K mg base (L2.CX P w) 9 f fd ["reader", "text", "wanted", "row"] (spSd K C e fR)
  mgf : mg "so_written" = some (.ref f)
  kp : PySem.W.keepIn K (.ref f) = true
  b1 : ∃ ds, Vals [.int 0] ds ∧ Binds K fd ["reader", "text", "wanted", "row"] ds
theorem sd_mk {e : Ex} {f fR : Addr} {fd : FuncData} (F : FunD K "so_written" "so_written" (defArgs sSoWritten) (defBody sSoWritten) (defScope sSoWritten) [.int 0] [] f fd) (mgf : mg "so_written" = some (.ref f))
    (ok : FnOk P w K mg base (L2.CX P w) 9 f fd ["reader", "text", "wanted", "row"] (spSd K C e fR)) : Sd P w K mg base C e fR f fd :=
  ⟨ok, mgf, F.kp, F.binds1 (ps := ["reader", "text", "wanted", "row"]) 3 0 (by simp) rfl fun T kV doc pm an cdv ct us its h1 h2 => by
    match us, its, h1, h2 with
    | [_, _, _], [_], _, _ => exact ⟨_, rfl, rfl⟩⟩
theorem ok_rd {f : Addr} {fd : FuncData} {e : Ex} {fR fS : Addr} {fdS : FuncData} (D : Df K mg "read_disc" ["text"] sReadDisc f fd) (T : Txt K mg C e) (S : Sd P w K mg base C e fR fS fdS) (gR : mg "disc_in" = some (.ref fR)) : FnOk P w K mg base (L2.CX P w) 10 f fd ["text"] (spRd K C e) := by
  obtain ⟨ds, rd, bd⟩ := S.b1
  refine D.fn.okX scReadDisc (fun vs H Q E h => ?_) (fun cdv A outer s H vs Q E hr h => ?_)
  · obtain ⟨x, rfl, lx, q1, q2⟩ := h
    rfl
  · obtain ⟨x, rfl, lx, q1, q2⟩ := h
    refine ⟨_, (pss_one (ps_ret (pe_call S.ok (hr.mono (by decide)) (by rfl) S.mgf S.kp bd rd (passes_call (takes_of rfl rfl rfl rfl) (fun _ _ _ _ h => h)) (pa_cons (pe_glob (v := .ref fR) (by rfl) gR rfl) (pa_cons (pv 0) (pa_cons pe_str pa_nil)))))), ?_⟩
    exact ⟨_, rfl, x, rfl, lx, q1, q2⟩
end
end K66
set_option Elab.async false
set_option linter.all false
set_option maxRecDepth 100000
set_option maxHeartbeats 4000000
set_option pp.maxSteps 400
set_option pp.deepTerms false
namespace K66
open PySem PySem.Spec PyProof.Rows L2
open Xk Az Xtx
section
variable {P : Program} {w : World} {K : PySem.W.Frag} {mg : Str → Option Value} {base : Heap} {C : Addr}
def spFgL : Sp := fun vs H Q _ => ∃ (z : Str), vs = [.str z] ∧ z.length ≤ 50000 ∧ ∀ H', L2.Same H H' → Q (.bl (!(decide (z = "")) && chk z figs)) H'
def spLk : Sp := fun vs H Q _ => ∃ (x : Str), vs = [.str x] ∧ x.length ≤ 50000 ∧ ∀ v H', L2.Same H H' → OkAt H' v (lkeyP x) → Q v H'
theorem decS (x y : Str) : decide (V.str x = V.str y) = decide (x = y) := by
  rw [decide_eq_decide]
  exact ⟨fun e => by injection e, fun e => by rw [e]⟩
theorem num_eq {z : Str} : (!(decide (z = "")) && chk z figs) = true → z.length ≤ 30 → ofT (.str z) figs 1 30 = true := fun h l => by
  rw [Bool.and_eq_true] at h
  refine ofT_iff.mpr ⟨?_, by omega, h.2⟩
  have n : z ≠ "" := fun e => by
    rw [e] at h
    have := h.1
    revert this
    decide
  have : z.cps.toList ≠ [] := fun e => n (Xtx.str_eq (by rw [e]; rfl))
  have := List.length_pos_iff.mpr this
  rw [← len_cps] at this
  omega
theorem num_ne {z : Str} : ((!(decide (z = "")) && chk z figs) = false ∨ 30 < z.length) → numP z = none := fun h => by
  unfold numP
  rw [if_neg]
  intro a
  obtain ⟨l1, l30, ck⟩ := ofT_iff.mp a
  rcases h with h | h
  · rw [ck, Bool.and_true] at h
    have n : z = "" := by
      rcases Decidable.em (z = "") with q | q
      · exact q
      · rw [decide_eq_false q] at h
        cases h
    rw [n] at l1
    revert l1
    decide
  · omega
theorem ok_lf {f : Addr} {fd : FuncData} {e : Ex} (D : Df K mg "_law_figures" ["_law_word"] sFigures f fd) (T : Txt K mg C e) : FnOk P w K mg base CX0 1 f fd ["_law_word"] spFgL := by
  refine D.fn.ok scFigures (fun vs H Q E h => ?_) (fun cdv A outer s H vs Q E hr h => ?_)
  · obtain ⟨z, rfl, lz, q⟩ := h
    rfl
  · obtain ⟨z, rfl, lz, q⟩ := h
    refine ⟨_, (pss_one (ps_ret (pe_and (pe_cmpR op_ne (pv 0) pe_str (nomark _)) (pe_one (pe_callB (cr_all (by rfl)) (by rfl) T.all (by decide +kernel) (pa_cons (pe_lc (own := [("_law_sign", 1)]) (g := gName 1) (tt := tYes) (by rfl) scFigures.nd (pi_str (pv 0)) (blkOk_by (own := [("_law_sign", 1)]) (N := ["_law_word", "_law_sign"]) (sc := defScope sFigures) (by decide +kernel)) (fun _ _ _ _ _ => pg_name (i := 1) scFigures.nd rfl (.inl rfl)) (fun _ _ _ _ _ => pts_nil) (fun _ _ _ _ _ => pe_cmpR op_in_sign (pv 1) pe_str (by rfl))) pa_nil)))))), ?_⟩
    refine ⟨_, rfl, rfl, ?_⟩
    have fit := fitN' lz
    rw [decS]
    cases c0 : decide (z = "") with
    | true =>
      have w := q H (Same.refl H)
      rw [c0] at w
      exact ⟨false, rfl, iteF w⟩
    | false =>
      refine ⟨true, rfl, iteT ⟨_, rfl, z, rfl, fun L nL => ?_⟩⟩
      have sL := same_upd nL (o := .lst [])
      refine lc_it (walk_str (z := z)) (fun i Hi => ∃ bs : List Bool, bs = ((z).cps.toList.take i).map (fun c => decide (c ∈ (figs).cps.toList)) ∧ Hi L = some (.lst (bs.map V.bl)) ∧ L2.Same H Hi) ?_ (fun _ _ _ _ => trivial) ?_ ?_
      · exact ⟨[], rfl, upd_same, sL⟩
      · rintro i v Hi Hi' _ ⟨bs, eb, eL, sm⟩ ⟨rfl, c, ec, rfl⟩
        rw [← Array.getElem?_toList] at ec
        refine ⟨rfl, ?_⟩
        unfold tYes
        refine iteT ⟨_, rfl, c, figs, rfl, rfl, ?_⟩
        have il : i < (z).cps.toList.length := (List.getElem?_eq_some_iff.mp ec).1
        refine ⟨_, eL, ?_, bs ++ [decide (c ∈ (figs).cps.toList)], ?_, ?_, fun b o e => ?_⟩
        · rw [List.length_map, eb, List.length_map, List.length_take]
          refine Nat.lt_of_le_of_lt (show min i (z).cps.toList.length ≤ 50000 from ?_) (by decide)
          rw [← len_cps]
          omega
        · rw [List.take_succ, ec, List.map_append, eb]
          rfl
        · rw [upd_same, List.map_append]
          rfl
        · rw [upd_ne (ne_of_none e nL)]
          exact sm _ _ e
      · rintro He ⟨bs, eb, eL, sm⟩
        refine ⟨L, _, rfl, SqL.of eL, ?_⟩
        rw [eb, List.take_of_length_le (by rw [Array.length_toList]; exact Nat.le_refl _), List.all_map, show ((z).cps.toList.all (id ∘ fun c => decide (c ∈ (figs).cps.toList))) = chk (z) (figs) from rfl]
        have w := q He sm
        rw [c0] at w
        exact w
theorem ok_ln {f : Addr} {fd : FuncData} {e : Ex} (D : Df K mg "_law_number" ["_law_word"] sNumber f fd) (T : Txt K mg C e) (cLf : Ca P w K mg base 1 "_law_figures" ["_law_word"] spFgL) : FnOk P w K mg base CX0 2 f fd ["_law_word"] spNum := by
  refine D.fn.ok scNumber (fun vs H Q E h => ?_) (fun cdv A outer s H vs Q E hr h => ?_)
  · obtain ⟨z, rfl, lz, q⟩ := h
    rfl
  · obtain ⟨z, rfl, lz, q⟩ := h
    refine ⟨_, (pss_cons (ps_if (PW.pt (pw_or (pt_not (pt_val (pe_ca cLf hr (by decide) (by rfl) (pa_cons (pv 0) pa_nil)))) (pw_or (pt_cmpR op_gt (pe_callB call_len_str (by rfl) T.len PySem.boot_len (pa_cons (pv 0) pa_nil)) pe_int (nomark _)) (pw_or1 (PW.pt (pw_and (pt_cmpR op_eq (pe_ix ix_str (pv 0) pe_int (fun _ _ => rfl)) pe_str (nomark _)) (pw_and1 (pt_cmpR op_ne (pv 0) pe_str (nomark _))))))))) (pss_one (ps_ret pe_non)) pss_nil)
      (pss_one (ps_ret (pe_callTy call_int_str (by rfl) T.int (by decide +kernel) (pa_cons (pv 0) pa_nil))))), ?_⟩
    have fit := fitN' lz
    refine ⟨_, rfl, z, rfl, lz, fun H1 s1 => ⟨_, rfl, ?_⟩⟩
    have qn : numP z = none → Q .non H1 := fun e => by
      have w := q H1 s1
      rw [e] at w
      exact w
    cases c : (!(decide (z = "")) && chk z figs) with
    | false => exact iteT (qn (num_ne (.inl c)))
    | true =>
      refine iteF ⟨_, rfl, z, rfl, fit, _, _, rfl, rfl, _, rfl, ?_⟩
      by_cases l30 : z.length ≤ 30
      · have e30 : decide ((z.length : Int) > 30) = false := decide_eq_false (by omega)
        rw [e30]
        have cT := num_eq c l30
        obtain ⟨l1, _, ck⟩ := ofT_iff.mp cT
        have ne : z.cps.toList ≠ [] := fun e => by rw [len_cps, e] at l1; exact absurd l1 (by decide)
        obtain ⟨c0, e0⟩ : ∃ d, z.cps.toList.head? = some d := by
          cases e : z.cps.toList.head? with
          | none => exact absurd (List.head?_eq_none_iff.mp e) ne
          | some d => exact ⟨d, rfl⟩
        have a0 : atI z.cps.toList 0 = some c0 := atI_nat (j := 0) (by rw [← List.head?_eq_getElem?]; exact e0)
        have d0 : decide (V.str ⟨#[c0]⟩ = V.str "0") = decide (c0 = 48) := by
          rw [decide_eq_decide]
          constructor
          · intro e
            injection e with e
            have := congrArg (fun s : Str => s.cps.toList) e
            rw [show ("0" : Str).cps.toList = [48] by decide +kernel] at this
            simpa using this
          · intro e
            rw [e]
            exact congrArg V.str (Xtx.str_eq (by decide +kernel))
        have yes : ¬ (z.cps.toList.head? = some 48 ∧ z ≠ "0") → PySem.intText? z = some ((NumText.digitsVal z.cps.toList : Nat) : Int) ∧ Q (.int ((NumText.digitsVal z.cps.toList : Nat) : Int)) H1 := fun h => by
          have w := q H1 s1
          unfold numP at w
          rw [if_pos cT, if_neg h] at w
          exact ⟨intText_digits ((chk_figs z).mp ck) ne (by omega), w⟩
        refine iteF ⟨_, rfl, z, 0, c0, rfl, rfl, fit, a0, rfl, _, rfl, ?_⟩
        rw [d0]
        by_cases h0 : c0 = 48
        · rw [decide_eq_true h0]
          refine iteT ⟨_, rfl, rfl, _, rfl, ?_⟩
          by_cases h1 : z = "0"
          · have e1 : (!decide (V.str z = V.str "0")) = false := by rw [h1]; rfl
            rw [e1]
            obtain ⟨g1, g2⟩ := yes fun x => x.2 h1
            exact iteF ⟨_, rfl, z, _, rfl, g1, by omega, g2⟩
          · have e1 : (!decide (V.str z = V.str "0")) = true := by rw [decide_eq_false (fun e => h1 (by injection e))]; rfl
            rw [e1]
            refine iteT (qn ?_)
            unfold numP
            rw [if_pos cT, if_pos ⟨by rw [e0, h0], h1⟩]
        · rw [decide_eq_false h0]
          obtain ⟨g1, g2⟩ := yes fun x => by
            rw [e0] at x
            exact h0 (Option.some.inj x.1)
          exact iteF ⟨_, rfl, z, _, rfl, g1, by omega, g2⟩
      · have e30 : decide ((z.length : Int) > 30) = true := decide_eq_true (by omega)
        rw [e30]
        exact iteT (qn (num_ne (.inr (by omega))))
theorem ok_lk {f : Addr} {fd : FuncData} {e : Ex} (D : Df K mg "_law_key_in" ["_law_text"] sLawKeyIn f fd) (T : Txt K mg C e) (cLn : Ca P w K mg base 2 "_law_number" ["_law_word"] spNum) : FnOk P w K mg base CX0 3 f fd ["_law_text"] spLk := by
  refine D.fn.ok scLawKeyIn (fun vs H Q E h => ?_) (fun cdv A outer s H vs Q E hr h => ?_)
  · obtain ⟨x, rfl, lx, q⟩ := h
    rfl
  · obtain ⟨x, rfl, lx, q⟩ := h
    refine ⟨_, (pss_cons (ps_set (i := 1) scLawKeyIn.nd rfl (.inl rfl) (pe_m1 F.slot_str_split F.type_str_split mt_split (pv 0) pe_str))
      (pss_cons (ps_if (PW.pt (pw_or (pt_cmpR op_ne (pe_callB call_len_seq (by rfl) T.len PySem.boot_len (pa_cons (pv 1) pa_nil)) pe_int (nomark _)) (pw_or (pt_cmpR op_isN (pe_ca cLn hr (by decide) (by rfl) (pa_cons (pe_ix ix_list (pv 1) pe_int (fun _ _ => rfl)) pa_nil)) pe_non (nomark _)) (pw_or1 (pt_not (pt_chain op_le op_le pe_int (pe_callB call_len_str (by rfl) T.len PySem.boot_len (pa_cons (pe_ix ix_list (pv 1) pe_int (fun _ _ => rfl)) pa_nil)) pe_int)))))) (pss_one (ps_ret pe_non)) pss_nil)
      (pss_cons (ps_if (pt_not (pt_val (pe_callB (cr_all (by rfl)) (by rfl) T.all (by decide +kernel) (pa_cons (pe_lc (own := [("_law_sign", 2)]) (g := gName 2) (tt := tYes) (by rfl) scLawKeyIn.nd (pi_str (pe_ix ix_list (pv 1) pe_int (fun _ _ => rfl))) (blkOk_by (own := [("_law_sign", 2)]) (N := ["_law_text", "_law_parts", "_law_sign"]) (sc := defScope sLawKeyIn) (by decide +kernel)) (fun _ _ _ _ _ => pg_name (i := 2) scLawKeyIn.nd rfl (.inl rfl)) (fun _ _ _ _ _ => pts_nil) (fun _ _ _ _ _ => pe_cmpR op_in_sign (pv 2) pe_str (by rfl))) pa_nil)))) (pss_one (ps_ret pe_non)) pss_nil)
      (pss_one (ps_ret (pe_tup (pa_cons (pe_ix ix_list (pv 1) pe_int (fun _ _ => rfl)) (pa_cons (pe_ca cLn hr (by decide) (by rfl) (pa_cons (pe_ix ix_list (pv 1) pe_int (fun _ _ => rfl)) pa_nil)) pa_nil)))))))), ?_⟩
    obtain ⟨pl1, pl2⟩ := split_len (x := x) bl_ne bl_256
    refine ⟨_, rfl, ⟨_, rfl⟩, x, " ", rfl, rfl, rfl, Nat.le_trans (show _ ≤ 60000 by omega) (by decide), fun S nS => ?_⟩
    have sS := same_upd nS (o := .lst ((Txt.split x " ").map V.str))
    have eS : (L2.upd H S (.lst ((Txt.split x " ").map V.str))) S = some (.lst ((Txt.split x " ").map V.str)) := upd_same
    generalize L2.upd H S (.lst ((Txt.split x " ").map V.str)) = H1 at sS eS ⊢
    have qn : ∀ H', lkeyP x = none → L2.Same H H' → Q .non H' := fun H' e s => q .non H' s (by rw [e]; rfl)
    unfold lkeyP at q qn
    generalize Txt.split x " " = ps at pl1 pl2 eS q qn ⊢
    refine ⟨_, rfl, S, _, rfl, .inl (SqL.of eS), rfl, _, rfl, ?_⟩
    match ps, pl1, pl2, eS, q, qn with
    | [], _, _, _, _, qn => exact ite2 (fun _ => qn _ rfl sS) (fun c => absurd rfl c)
    | [_], _, _, _, _, qn => exact ite2 (fun _ => qn _ rfl sS) (fun c => absurd rfl c)
    | _ :: _ :: _ :: t, _, _, _, _, qn =>
      refine ite2 (fun _ => qn _ rfl sS) (fun c => absurd ?_ c)
      rw [List.map_cons, List.map_cons, List.map_cons]
      simp only [List.length_cons]
      rw [decide_eq_false (by intro e; injection e with e; omega)]
      rfl
    | [a, b], _, pl2, eS, q, qn =>
      have la := pl2 a (by simp)
      have lb := pl2 b (by simp)
      refine ite2 (fun c => absurd c (by rw [decide_eq_true (show V.int ((([a, b].map V.str).length : Nat) : Int) = V.int 2 from rfl)]; decide)) (fun _ => ?_)
      refine ⟨_, rfl, S, _, 1, .str b, rfl, rfl, SqL.of eS, rfl, b, rfl, by omega, fun H2 s2 => ⟨rfl, _, rfl, ?_⟩⟩
      have s02 := sS.trans s2
      have eS2 := s2 _ _ eS
      cases hn : numP b with
      | none => exact iteT (qn _ (by dsimp only; rw [hn]) s02)
      | some n =>
        dsimp only at qn q
        rw [hn] at qn q
        dsimp only at qn q
        refine iteF ⟨_, rfl, S, _, 0, .str a, rfl, rfl, SqL.of eS2, rfl, a, rfl, fitN' (by omega), 1, _, rfl, rfl, _, rfl, ?_⟩
        cases c1 : decide ((1 : Int) ≤ (a.length : Int)) with
        | false =>
          have no : ¬ ofT (.str a) small 1 8 = true := fun h => (of_decide_eq_false c1) (ofT_iff.mp h).1
          exact iteF ⟨_, rfl, iteT (qn _ (if_neg no) s02)⟩
        | true =>
          refine iteT ⟨_, _, rfl, rfl, _, rfl, ?_⟩
          cases c2 : decide ((a.length : Int) ≤ 8) with
          | false =>
            have no : ¬ ofT (.str a) small 1 8 = true := fun h => (of_decide_eq_false c2) (ofT_iff.mp h).2.1
            exact iteT (qn _ (if_neg no) s02)
          | true =>
            refine iteF ⟨_, rfl, S, _, 0, .str a, rfl, rfl, SqL.of eS2, rfl, a, rfl, fun L nL => ?_⟩
            have sL := same_upd nL (o := .lst [])
            refine lc_it (walk_str (z := a)) (fun i Hi => ∃ bs : List Bool, bs = ((a).cps.toList.take i).map (fun c => decide (c ∈ (small).cps.toList)) ∧ Hi L = some (.lst (bs.map V.bl)) ∧ L2.Same H2 Hi) ?_ (fun _ _ _ _ => trivial) ?_ ?_
            · exact ⟨[], rfl, upd_same, sL⟩
            · rintro i v Hi Hi' _ ⟨bs, eb, eL, sm⟩ ⟨rfl, c, ec, rfl⟩
              rw [← Array.getElem?_toList] at ec
              refine ⟨rfl, ?_⟩
              unfold tYes
              refine iteT ⟨_, rfl, c, small, rfl, rfl, ?_⟩
              have il : i < (a).cps.toList.length := (List.getElem?_eq_some_iff.mp ec).1
              refine ⟨_, eL, ?_, bs ++ [decide (c ∈ (small).cps.toList)], ?_, ?_, fun b o e => ?_⟩
              · rw [List.length_map, eb, List.length_map, List.length_take]
                refine Nat.lt_of_le_of_lt (show min i (a).cps.toList.length ≤ 50000 from ?_) (by decide)
                rw [← len_cps]
                omega
              · rw [List.take_succ, ec, List.map_append, eb]
                rfl
              · rw [upd_same, List.map_append]
                rfl
              · rw [upd_ne (ne_of_none e nL)]
                exact sm _ _ e
            · rintro He ⟨bs, eb, eL, sm⟩
              refine ⟨L, _, rfl, SqL.of eL, ?_⟩
              rw [eb, List.take_of_length_le (by rw [Array.length_toList]; exact Nat.le_refl _), List.all_map, show ((a).cps.toList.all (id ∘ fun c => decide (c ∈ (small).cps.toList))) = chk (a) (small) from rfl]
              have s03 := s02.trans sm
              have eS3 := sm _ _ eS2
              refine ⟨_, rfl, ?_⟩
              cases c3 : chk a small with
              | false =>
                have no : ¬ ofT (.str a) small 1 8 = true := fun h => by rw [(ofT_iff.mp h).2.2] at c3; cases c3
                exact iteT (qn _ (if_neg no) s03)
              | true =>
                have yes : ofT (.str a) small 1 8 = true := ofT_iff.mpr ⟨of_decide_eq_true c1, of_decide_eq_true c2, c3⟩
                rw [if_pos yes] at q
                refine iteF ⟨_, rfl, S, _, 0, .str a, rfl, rfl, SqL.of eS3, rfl, _, rfl, S, _, 1, .str b, rfl, rfl, SqL.of eS3, rfl, b, rfl, by omega, fun H4 s4 => ?_⟩
                rw [hn]
                refine ⟨(by show 2 ≤ sizeLine; decide), fun t nt => q (.ref t) _ ((s03.trans s4).trans (same_upd nt)) ⟨t, rfl, upd_same⟩⟩
end
end K66
set_option Elab.async false
set_option linter.all false
set_option maxRecDepth 100000
set_option maxHeartbeats 4000000
set_option pp.maxSteps 400
set_option pp.deepTerms false
namespace K66
open PySem PySem.Spec PyProof.Rows L2
open Xk Az Xtx
section
variable {P : Program} {w : World} {K : PySem.W.Frag} {mg : Str → Option Value} {base : Heap} {C : Addr}
theorem join_cps' : ∀ ys : List Str, (Str.join "" ys).cps.toList = (ys.map fun y => y.cps.toList).flatten
  | [] => rfl
  | [x] => by simp [Str.join]
  | x :: z :: r => by
    show (x ++ "" ++ Str.join "" (z :: r)).cps.toList = _
    rw [Str.cps_append, Array.toList_append, Str.cps_append, Array.toList_append, join_cps' (z :: r)]
    have e0 : (("" : Str)).cps.toList = [] := rfl
    rw [e0, List.append_nil]
    rfl
theorem join_cps (ys : List Str) : (Txt.join "" ys).cps.toList = (ys.map fun y => y.cps.toList).flatten := by
  rw [TL.join_eq]
  exact join_cps' ys
theorem join_len (ys : List Str) : (Txt.join "" ys).length = (ys.map (·.length)).sum := by
  rw [len_cps, join_cps, List.length_flatten, List.map_map]
  congr 1
theorem ones_sum : ∀ ys : List Str, (∀ y ∈ ys, y.length = 1) → (ys.map (·.length)).sum = ys.length
  | [], _ => rfl
  | y :: r, h => by
    rw [List.map_cons, List.sum_cons, h y List.mem_cons_self, ones_sum r (fun z hz => h z (List.mem_cons_of_mem _ hz)), List.length_cons]
    omega
theorem Hand.nt {n : Int} {H : Hp} {a t : Addr} {xs : List V} (h : Hand n H a) (e : H t = some (.tup xs)) : t ≠ a := by
  obtain ⟨ys, e2⟩ := h.at_
  exact ne_of e e2 (by intro z; cases z)
theorem tp_but {h : Addr} {n : Int} {H H' : Hp} (a : Hand n H h) (s : But h H H') : ∀ b xs, H b = some (.tup xs) → H' b = some (.tup xs) := fun b xs e => s _ _ (a.nt e) e
theorem OksAt.get {H : Hp} : ∀ {vs : List V} {os : List (Option Ky)} {i : Nat} {v : V}, OksAt H vs os → vs[i]? = some v → ∃ o, os[i]? = some o ∧ OkAt H v o
  | _, _, _, _, .nil, e => by cases e
  | _, _, 0, _, .cons h _, e => by cases e; exact ⟨_, rfl, h⟩
  | _, _, i + 1, _, .cons _ r, e => OksAt.get (i := i) r e
def spKy : Sp := fun vs H Q _ => ∃ (h : Addr) (n : Int), vs = [.ref h] ∧ Hand n H h ∧ n + 100 ≤ far ∧ ∀ (t : Addr) (k : Ky) H', H' t = some (.tup [.str k.1, .int k.2]) → GoodK k → Hand (n + 20) H' h → But h H H' → Q (.ref t) H'
def spTx : Sp := fun vs H Q _ => ∃ (l : Str) (L : Addr) (xs : List V) (ks : List Ky), vs = [.str l, .ref L] ∧ H L = some (.lst xs) ∧ OksAt H xs (ks.map some) ∧ (∀ k ∈ ks, GoodK k) ∧ ks.length ≤ 31 ∧ l.length ≤ 8 ∧ ∀ H', L2.Same H H' → Q (.str (discT l ks)) H'
theorem ok_ky {f : Addr} {fd : FuncData} {e : Ex} (D : Df K mg "_law_key" ["_law_hand_here"] sKey f fd) (T : Txt K mg C e) (cT : Ca P w K mg base 1 "_law_take" ["_law_hand_here", "_law_many"] spTake) (cP : Ca P w K mg base 2 "_law_pick" ["_law_hand_here", "_law_some"] spPick) : FnOk P w K mg base CX0 3 f fd ["_law_hand_here"] spKy := by
  refine D.fn.ok scKey (fun vs H Q E h => ?_) (fun cdv A outer s H vs Q E hr h => ?_)
  · obtain ⟨h, n, rfl, hh, hn, q⟩ := h
    rfl
  · obtain ⟨h, n, rfl, hh, hn, q⟩ := h
    refine ⟨_, (pss_cons (ps_set (i := 1) scKey.nd rfl (.inl rfl) (pe_m1 F.slot_str_join F.type_str_join mt_join pe_str (pe_lc (own := [("_law_k", 2)]) (g := gName 2) (tt := tYes) (by rfl) scKey.nd (pi_range1 (by rfl) T.range (pa_cons (pe_op op_add pe_int (pe_ca cT hr (by decide) (by rfl) (pa_cons (pv 0) (pa_cons pe_int pa_nil)))) pa_nil)) (blkOk_by (own := [("_law_k", 2)]) (N := ["_law_hand_here", "_law_house", "_law_k"]) (sc := defScope sKey) (by decide +kernel)) (fun _ _ _ _ _ => pg_name (i := 2) scKey.nd rfl (.inl rfl)) (fun _ _ _ _ _ => pts_nil) (fun _ _ _ _ _ => pe_ca cP hr (by decide) (by rfl) (pa_cons (pv 0) (pa_cons pe_str pa_nil))))))
      (pss_one (ps_ret (pe_tup (pa_cons (pv 1) (pa_cons (pe_ca cP hr (by decide) (by rfl) (pa_cons (pv 0) (pa_cons (pe_lst (pa_cons pe_int (pa_cons pe_int (pa_cons pe_int (pa_cons pe_int (pa_cons (pe_ca cT hr (by decide) (by rfl) (pa_cons (pv 0) (pa_cons pe_int pa_nil))) (pa_cons (pe_op op_add (pe_op op_pow pe_int pe_int) (pe_ca cT hr (by decide) (by rfl) (pa_cons (pv 0) (pa_cons (pe_op op_pow pe_int pe_int) pa_nil)))) pa_nil))))))) pa_nil))) pa_nil)))))), ?_⟩
    have fr : n + 100 ≤ 1000000 := hn
    have lf : small.length = 26 := by decide +kernel
    have es : ("abcdefghijklmnopqrstuvwxyz" : Str) = small := rfl
    refine ⟨⟨_, rfl⟩, _, rfl, h, 8, n, rfl, by decide, by decide, hh, by show n ≤ 1000000; omega, fun d H1 d0 d1 h1 b1 => ?_⟩
    refine ⟨1, d, rfl, rfl, _, rfl, by omega, by omega, fun L nL => ?_⟩
    have Lh := h1.fresh nL
    refine lc_range (lo := 0) (fun i Hi => ∃ ys : List Str, Hi L = some (.lst (ys.map V.str)) ∧ ys.length = i ∧ (∀ y ∈ ys, ∃ c ∈ small.cps.toList, y = ⟨#[c]⟩) ∧ Hand (n + 1 + i) Hi h ∧ But h H1 Hi) ?_ ?_ ?_
    · exact ⟨[], upd_same, rfl, by simp, (h1.same (same_upd nL)).mono (by omega), Same.but (same_upd nL) h⟩
    · rintro i Hi hi ⟨ys, eL, ly, cy, hdi, bi⟩
      have hi' : i < (1 + d).toNat := hi
      refine ⟨rfl, ?_⟩
      unfold tYes
      refine iteT ?_
      refine ⟨_, rfl, h, n + 1 + i, _, rfl, hdi, by show n + 1 + (i : Int) ≤ 1000000; omega, .inr ⟨small, rfl, by rw [lf]; decide, by rw [lf]; decide, fun c H2 mc h2 b2 => ?_⟩⟩
      refine ⟨_, b2 _ _ Lh eL, ?_, ys ++ [⟨#[c]⟩], ?_, by rw [List.length_append, ly]; rfl, ?_, (h2.upd (Ne.symm Lh)).mono (by push_cast; omega), ?_⟩
      · rw [List.length_map, ly]
        exact Nat.lt_of_le_of_lt (show i ≤ 100 by omega) (by decide)
      · rw [upd_same, List.map_append]
        rfl
      · intro y hy
        rcases List.mem_append.mp hy with z | z
        · exact cy y z
        · exact ⟨c, mc, List.mem_singleton.mp z⟩
      · intro b x nb e
        rw [upd_ne (ne_of_none e nL)]
        exact b2 b x nb (bi b x nb e)
    rintro H2 ⟨ys, eL, ly, cy, h2, b2⟩
    have ly' : ys.length = (1 + d).toNat := ly
    have h2' : Hand (n + 1 + (((1 + d).toNat : Nat) : Int)) H2 h := h2
    have ones : ∀ y ∈ ys, y.length = 1 := fun y hy => by
      obtain ⟨c, _, e⟩ := cy y hy
      rw [e]
      rfl
    have sum := ones_sum ys ones
    have l0 : (("" : Str)).length = 0 := rfl
    refine ⟨"", L, ys, rfl, rfl, .inl (SqL.of eL), by rw [sum, l0]; omega, ?_⟩
    have wl : (Txt.join "" ys).length = ys.length := by rw [join_len, sum]
    have wc : ∀ c ∈ (Txt.join "" ys).cps.toList, c ∈ small.cps.toList := fun c hc => by
      rw [join_cps] at hc
      obtain ⟨y, hy, hc2⟩ := List.mem_flatten.mp hc
      obtain ⟨z, hz, rfl⟩ := List.mem_map.mp hy
      obtain ⟨c', mc, e⟩ := cy z hz
      rw [e] at hc2
      have : c = c' := by simpa using hc2
      rw [this]
      exact mc
    have b02 := b1.trans b2
    generalize Txt.join "" ys = x at wl wc ⊢
    refine ⟨_, rfl, _, rfl, _, rfl, h, 1000, n + 9, rfl, by decide, by decide, h2'.mono (by omega), by show n + 9 ≤ 1000000; omega, fun e1 H3 e10 e11 h3 b3 => ?_⟩
    refine ⟨10, 29, rfl, rfl, ⟨by decide, by decide, by decide⟩, _, rfl, 10, 29, rfl, rfl, ⟨by decide, by decide, by decide⟩, h, _, n + 9 + 1, rfl, by decide, by decide, h3, by show n + 9 + 1 ≤ 1000000; omega, fun e2 H4 e20 e21 h4 b4 => ?_⟩
    refine ⟨_, _, rfl, rfl, (by show 6 ≤ sizeLine; decide), fun l1 nl => ?_⟩
    have b04 := (b02.trans b3).trans b4
    have mk : ∀ v ∈ [V.int 0, .int 1, .int 9, .int 10, .int e1, .int (10 ^ (29 : Int).toNat + e2)], ∃ m : Int, v = .int m ∧ 0 ≤ m ∧ m < 10 ^ 30 := fun v mv => by
      have big : (10 : Int) ^ (29 : Int).toNat = 100000000000000000000000000000 := by decide
      rw [big] at e21 mv
      have big30 : (10 : Int) ^ 30 = 1000000000000000000000000000000 := by decide
      rw [big30]
      simp only [List.mem_cons, List.not_mem_nil, or_false] at mv
      rcases mv with e | e | e | e | e | e
      · exact ⟨0, e, by decide, by decide⟩
      · exact ⟨1, e, by decide, by decide⟩
      · exact ⟨9, e, by decide, by decide⟩
      · exact ⟨10, e, by decide, by decide⟩
      · exact ⟨_, e, e10, by omega⟩
      · exact ⟨_, e, by omega, by omega⟩
    have s4 := same_upd nl (o := .lst [.int 0, .int 1, .int 9, .int 10, .int e1, .int (10 ^ (29 : Int).toNat + e2)])
    refine ⟨h, n + 9 + 1 + 1, _, rfl, h4.same s4, by show n + 9 + 1 + 1 ≤ 1000000; omega, .inl ⟨l1, _, rfl, upd_same, h4.fresh nl, by simp, by show 6 < 1000; decide, fun v H5 mv h5 b5 => ?_⟩⟩
    obtain ⟨m, rfl, m0, m1⟩ := mk v mv
    refine ⟨(by show 2 ≤ sizeLine; decide), fun t nt => ?_⟩
    have st := same_upd nt (o := .tup [.str x, .int m])
    refine q t (x, m) _ upd_same ⟨by show 1 ≤ x.length; omega, by show x.length ≤ 8; omega, wc, m0, m1⟩ ((h5.same st).mono (by omega)) (((b04.trans (Same.but s4 h)).trans b5).trans (Same.but st h))
theorem ok_tx {f : Addr} {fd : FuncData} {e : Ex} (D : Df K mg "_law_text_of" ["_law_label", "_law_keys"] sTextOf f fd) (T : Txt K mg C e) : FnOk P w K mg base CX0 1 f fd ["_law_label", "_law_keys"] spTx := by
  refine D.fn.ok scTextOf (fun vs H Q E h => ?_) (fun cdv A outer s H vs Q E hr h => ?_)
  · obtain ⟨l, L, xs, ks, rfl, eL, oa, gk, k31, l8, q⟩ := h
    rfl
  · obtain ⟨l, L, xs, ks, rfl, eL, oa, gk, k31, l8, q⟩ := h
    refine ⟨_, (pss_one (ps_ret (pe_op op_add_str (pe_op op_add_str (pe_op op_add_str pe_str (pv 0)) pe_str) (pe_m1 F.slot_str_join F.type_str_join mt_join pe_str (pe_lc (own := [("_law_house", 2), ("_law_number_here", 3)]) (g := (gTup K 2 (gCons (gName 2) (gCons (gName 3) gNil)))) (tt := tYes) (by rfl) scTextOf.nd (pi_list (pv 1)) (blkOk_by (own := [("_law_house", 2), ("_law_number_here", 3)]) (N := ["_law_label", "_law_keys", "_law_house", "_law_number_here"]) (sc := defScope sTextOf) (by decide +kernel)) (fun _ _ _ _ _ => pg_tup (by rfl) (pgs_cons (pg_name (i := 2) scTextOf.nd rfl (.inl rfl)) (pgs_cons (pg_name (i := 3) scTextOf.nd rfl (.inl rfl)) pgs_nil))) (fun _ _ _ _ _ => pts_nil) (fun _ _ _ _ _ => pe_op op_add_str (pe_op op_add_str (pv 2) pe_str) (pe_callTy call_str_int (by rfl) T.str (by decide +kernel) (pa_cons (pv 3) pa_nil)))))))), ?_⟩
    have xl := oa.len
    rw [List.length_map] at xl
    have d5 : ("disc " : Str).length = 5 := by decide +kernel
    have d2 : (": " : Str).length = 2 := by decide +kernel
    refine ⟨_, rfl, _, _, rfl, rfl, fitN (by rw [d5]; omega), _, _, rfl, rfl, fitN (by rw [strLen_append, d5, d2]; omega), ⟨_, rfl⟩, _, rfl, L, rfl, ⟨_, SqL.of eL⟩, fun D nD => ?_⟩
    refine lc_list (K := K) (a := L) (xs := xs) (fun i Hi => L2.Same H Hi ∧ Hi D = some (.lst (((ks.map kyT).take i).map V.str))) ⟨same_upd nD, upd_same⟩ (fun i Hi _ z => SqL.of (z.1 _ _ eL)) ?_ ?_
    · rintro i v Hi hv ⟨sm, eD⟩
      obtain ⟨o, eo, ok⟩ := oa.get hv
      rw [List.getElem?_map] at eo
      obtain ⟨k, ek, rfl⟩ := Option.map_eq_some_iff.mp eo
      obtain ⟨tk, rfl, etk⟩ := ok
      have il := (List.getElem?_eq_some_iff.mp ek).1
      have g := gk k (List.mem_of_getElem? ek)
      have w8 := g.w8
      have ln := tx_le (i := k.2) (by have := g.n0; omega) (Int.le_of_lt g.n1)
      have l1 : (" " : Str).length = 1 := by decide +kernel
      refine ⟨tk, _, rfl, SqT.of (sm _ _ etk), rfl, _, _, rfl, _, _, rfl, rfl, rfl, ?_⟩
      unfold tYes
      refine iteT ⟨_, rfl, k.1, _, rfl, rfl, fitN (by rw [l1]; omega), _, rfl, k.2, rfl, lg (by have := g.n0; omega) (by have := g.n1; omega), _, _, rfl, rfl, fitN (by rw [strLen_append, l1]; show k.1.length + 1 + (Str.ofString (toString k.2)).length ≤ 100000; omega), _, eD, ?_, fun c o e => ?_, ?_⟩
      · rw [List.length_map, List.length_take]
        exact Nat.lt_of_le_of_lt (Nat.le_trans (Nat.min_le_left _ _) (show i ≤ 1000 by omega)) (by decide)
      · rw [upd_ne (ne_of_none e nD)]
        exact sm _ _ e
      · rw [upd_same, List.take_add_one, List.getElem?_map, ek, List.map_append]
        rfl
    rintro H4 ⟨s4, eD⟩
    have tk : (ks.map kyT).take xs.length = ks.map kyT := List.take_of_length_le (by rw [List.length_map]; omega)
    rw [tk] at eD
    have lk := kysT_len gk k31
    refine ⟨_, D, ks.map kyT, rfl, rfl, .inl (SqL.of eD), Nat.le_trans (ky_sum gk k31) (by decide), ?_⟩
    have lk2 : (Txt.join ", " (ks.map kyT)).length ≤ 2000 := lk
    exact ⟨_, _, rfl, rfl, fitN (by rw [strLen_append, strLen_append, d5, d2]; omega), q H4 s4⟩
end
end K66
set_option Elab.async false
set_option linter.all false
set_option maxRecDepth 100000
set_option maxHeartbeats 4000000
set_option pp.maxSteps 400
set_option pp.deepTerms false
namespace K66
open PySem PySem.Spec PyProof.Rows L2
open Xk Az Xtx
section
variable {P : Program} {w : World} {K : PySem.W.Frag} {mg : Str → Option Value} {base : Heap} {C : Addr}
theorem cutS_len (x : Str) (lo hi : Option Int) : (cutS x lo hi).length ≤ x.length := by
  rw [len_cps, len_cps x]
  unfold cutS
  show ((x.cps.toList.drop _).take _).length ≤ _
  rw [List.length_take, List.length_drop]
  omega
theorem at_fact {x l : Str} {ks : List Ky} (v : Vd l ks) (e : x = discT l ks) : Txt.find x ": " = ((5 + l.length : Nat) : Int) ∧ Txt.split (cutS x none (some ((5 + l.length : Nat) : Int))) " " = [("disc" : Str), l] ∧
    (Txt.split (cutS x (some (((5 + l.length : Nat) : Int) + 2)) none) ", ").map lkeyP = ks.map some := by
  rw [e]
  refine ⟨disc_find v.ll, disc_head v.ll, ?_⟩
  rw [disc_tail, kys_split v.gk v.k1, List.map_map]
  exact List.map_congr_left fun k hk => lkey_of (v.gk k hk)
theorem os_shapedL {os : List Str} : SeqAt.shaped (.list ((os.map lkeyP).map oD)) = true := os_shaped fun o ho k e => by
  obtain ⟨p, _, rfl⟩ := List.mem_map.mp ho
  exact (lkey_back e).1
def spLd (K : PySem.W.Frag) : Sp := fun vs H Q _ => ∃ (x : Str), vs = [.str x] ∧ x.length ≤ 50000 ∧
  (∀ l ks, Vd l ks → x = discT l ks → ∀ t u H', L2.Same H H' → H' t = some (.tup [.str l, .ref u]) → Rws K H' (.ref u) ks → Q (.ref t) H') ∧ ((∀ l ks, Vd l ks → x ≠ discT l ks) → ∀ H', L2.Same H H' → Q .non H')
theorem ok_ld {f : Addr} {fd : FuncData} {e : Ex} (D : Df K mg "_law_disc_in" ["_law_row"] sLawDiscIn f fd) (T : Txt K mg C e) (cLk : Ca P w K mg base 3 "_law_key_in" ["_law_text"] spLk) : FnOk P w K mg base CX0 4 f fd ["_law_row"] (spLd K) := by
  refine D.fn.ok scLawDiscIn (fun vs H Q E h => ?_) (fun cdv A outer s H vs Q E hr h => ?_)
  · obtain ⟨x, rfl, lx, q1, q2⟩ := h
    rfl
  · obtain ⟨x, rfl, lx, q1, q2⟩ := h
    refine ⟨_, (pss_cons (ps_set (i := 1) scLawDiscIn.nd rfl (.inl rfl) (pe_m1 F.slot_str_find F.type_str_find mt_find (pv 0) pe_str))
      (pss_cons (ps_par (i := 2) (j := 3) (by rfl) scLawDiscIn.nd rfl rfl (by decide) rfl rfl (pa_cons (pe_m1 F.slot_str_split F.type_str_split mt_split (pe_slice sl_str (pv 0) po_none (po_some (pe_callB (call_max2 (by rfl)) (by rfl) T.max (by decide +kernel) (pa_cons pe_int (pa_cons (pv 1) pa_nil))))) pe_str) (pa_cons (pe_lc (own := [("_law_part", 5)]) (g := gName 5) (tt := tYes) (te := tCall spLk [] E0 (tCons (tVar 5) tNil)) (by rfl) scLawDiscIn.nd (pi_list (pe_m1 F.slot_str_split F.type_str_split mt_split (pe_slice sl_str (pv 0) (po_some (pe_op op_add (pv 1) pe_int)) po_none) pe_str)) (blkOk_by (own := [("_law_part", 5)]) (N := ["_law_row", "_law_at", "_law_head", "_law_keys", "_law_good", "_law_part", "_law_sign"]) (sc := defScope sLawDiscIn) (by decide +kernel)) (fun _ _ _ _ _ => pg_name (i := 5) scLawDiscIn.nd rfl (.inl rfl)) (fun _ _ _ _ _ => pts_nil) (fun _ _ _ _ _ => pe_ca cLk hr (by decide) (by rfl) (pa_cons (pv 5) pa_nil))) pa_nil)) (by rfl))
      (pss_cons (ps_if (PW.pt (pw_or (pt_cmpR op_lt (pv 1) pe_int (nomark _)) (pw_or (pt_cmpR op_ne (pe_callB call_len_seq (by rfl) T.len PySem.boot_len (pa_cons (pv 2) pa_nil)) pe_int (nomark _)) (pw_or (pt_cmpR op_ne (pe_ix ix_list (pv 2) pe_int (fun _ _ => rfl)) pe_str (nomark _)) (pw_or (pt_not (pt_chain op_le op_le pe_int (pe_callB call_len_str (by rfl) T.len PySem.boot_len (pa_cons (pe_ix ix_list (pv 2) pe_int (fun _ _ => rfl)) pa_nil)) pe_int)) (pw_or (pt_cmpR (op_inD (r65 hr)) pe_non (pv 3) (by rfl)) (pw_or1 (pt_cmpR op_gt (pe_callB call_len_seq (by rfl) T.len PySem.boot_len (pa_cons (pv 3) pa_nil)) pe_int (nomark _))))))))) (pss_one (ps_ret pe_non)) pss_nil)
      (pss_cons (ps_set (i := 4) scLawDiscIn.nd rfl (.inl rfl) (pe_callB (cr_all (by rfl)) (by rfl) T.all (by decide +kernel) (pa_cons (pe_lc (own := [("_law_sign", 6)]) (g := gName 6) (tt := tYes) (by rfl) scLawDiscIn.nd (pi_str (pe_ix ix_list (pv 2) pe_int (fun _ _ => rfl))) (blkOk_by (own := [("_law_sign", 6)]) (N := ["_law_row", "_law_at", "_law_head", "_law_keys", "_law_good", "_law_part", "_law_sign"]) (sc := defScope sLawDiscIn) (by decide +kernel)) (fun _ _ _ _ _ => pg_name (i := 6) scLawDiscIn.nd rfl (.inl rfl)) (fun _ _ _ _ _ => pts_nil) (fun _ _ _ _ _ => pe_cmpR op_in_sign (pv 6) pe_str (by rfl))) pa_nil)))
      (pss_one (ps_ret (pe_ifExp (pt_val (pv 4)) (pe_tup (pa_cons (pe_ix ix_list (pv 2) pe_int (fun _ _ => rfl)) (pa_cons (pe_callTy call_tuple_of (by rfl) T.tuple (by decide +kernel) (pa_cons (pv 3) pa_nil)) pa_nil))) pe_non))))))), ?_⟩
    have bl1 := fun (i j : Option Int) => cutS_len x i j
    refine ⟨_, rfl, ⟨_, rfl⟩, x, ": ", rfl, rfl, ?_⟩
    have F : ∀ l ks, Vd l ks → x = discT l ks → _ := fun l ks v e => at_fact v e
    obtain ⟨M, hM, hi⟩ : ∃ M : Nat, (if Txt.find x ": " > 0 then Txt.find x ": " else 0) = (M : Int) ∧ (0 ≤ Txt.find x ": " → Txt.find x ": " = (M : Int)) := by
      split
      · exact ⟨(Txt.find x ": ").toNat, by omega, fun _ => by omega⟩
      · exact ⟨0, rfl, fun _ => by omega⟩
    have h1 := split_len (x := cutS x none (some (M : Int))) bl_ne bl_256
    have h2 := split_len (x := cutS x (some (Txt.find x ": " + 2)) none) cb_ne cb_256
    have c1 := bl1 none (some (M : Int))
    have c2 := bl1 (some (Txt.find x ": " + 2)) none
    -- what the text is, where all is well
    have back : ∀ l ks, 0 ≤ Txt.find x ": " → Txt.split (cutS x none (some (M : Int))) " " = [("disc" : Str), l] → (Txt.split (cutS x (some (Txt.find x ": " + 2)) none) ", ").map lkeyP = ks.map some → x = discT l ks := fun l ks h0 hh hk => by
      have e := hi h0
      rw [e] at hk
      refine disc_back e hh ⟨_, rfl, ?_, fun j p k hp hkk => ?_⟩
      · have := congrArg List.length hk
        rw [List.length_map, List.length_map] at this
        exact this
      · have := congrArg (fun z => z[j]?) hk
        simp only [List.getElem?_map, hp, hkk, Option.map_some] at this
        exact Option.some.inj this
    have fw : ∀ l ks, Vd l ks → x = discT l ks → 0 ≤ Txt.find x ": " ∧ Txt.split (cutS x none (some (M : Int))) " " = [("disc" : Str), l] ∧ (Txt.split (cutS x (some (Txt.find x ": " + 2)) none) ", ").map lkeyP = ks.map some := fun l ks v e => by
      obtain ⟨g1, g2, g3⟩ := F l ks v e
      have h0 : 0 ≤ Txt.find x ": " := by rw [g1]; omega
      have e2 := hi h0
      rw [e2] at g1
      refine ⟨h0, ?_, ?_⟩
      · rw [g1]; exact g2
      · rw [e2, g1]; exact g3
    clear F
    generalize hat : Txt.find x ": " = at0 at *
    refine ⟨_, rfl, _, rfl, 0, _, rfl, _, rfl, x, rfl, fitN' lx, ⟨_, rfl⟩, _, " ", rfl, rfl, rfl, ?_, fun S nS => ?_⟩
    · rw [hM]
      exact Nat.le_trans (show _ ≤ 60000 by omega) (by decide)
    rw [hM]
    have sS := same_upd nS (o := .lst ((Txt.split (cutS x none (some (M : Int))) " ").map V.str))
    have eS : (L2.upd H S (.lst ((Txt.split (cutS x none (some (M : Int))) " ").map V.str))) S = some (.lst ((Txt.split (cutS x none (some (M : Int))) " ").map V.str)) := upd_same
    generalize L2.upd H S (.lst ((Txt.split (cutS x none (some (M : Int))) " ").map V.str)) = H1 at sS eS ⊢
    generalize Txt.split (cutS x none (some (M : Int))) " " = hs at h1 back fw eS ⊢
    refine ⟨_, rfl, _, rfl, _, _, rfl, rfl, _, rfl, x, rfl, fitN' lx, ⟨_, rfl⟩, _, ", ", rfl, rfl, rfl, Nat.le_trans (show _ ≤ 60000 by omega) (by decide), fun S2 nS2 => ?_⟩
    have s2 := same_upd nS2 (o := .lst ((Txt.split (cutS x (some (at0 + 2)) none) ", ").map V.str))
    have e2 : (L2.upd H1 S2 (.lst ((Txt.split (cutS x (some (at0 + 2)) none) ", ").map V.str))) S2 = some (.lst ((Txt.split (cutS x (some (at0 + 2)) none) ", ").map V.str)) := upd_same
    generalize L2.upd H1 S2 (.lst ((Txt.split (cutS x (some (at0 + 2)) none) ", ").map V.str)) = H2 at s2 e2 ⊢
    have ps1 := split_pos (x := cutS x (some (at0 + 2)) none) cb_ne cb_256
    generalize Txt.split (cutS x (some (at0 + 2)) none) ", " = ps at h2 back fw e2 ps1 ⊢
    refine ⟨S2, rfl, ⟨_, SqL.of e2⟩, fun W nW => ?_⟩
    refine lc_list (K := K) (a := S2) (xs := ps.map V.str) (fun i Hi => L2.Same H2 Hi ∧ ∃ vs, Hi W = some (.lst vs) ∧ OksAt Hi vs ((ps.take i).map lkeyP)) ⟨same_upd nW, [], upd_same, .nil⟩ (fun i Hi _ z => SqL.of (z.1 _ _ e2)) ?_ ?_
    · rintro i v Hi hv ⟨sm, vs, eW, oa⟩
      rw [List.getElem?_map] at hv
      obtain ⟨p, ep, rfl⟩ := Option.map_eq_some_iff.mp hv
      have il := (List.getElem?_eq_some_iff.mp ep).1
      have pl := h2.2 p (List.mem_of_getElem? ep)
      refine ⟨rfl, ?_⟩
      unfold tYes
      refine iteT ⟨_, rfl, p, rfl, by omega, fun v H3 s3 ok => ?_⟩
      have eW2 := s3 _ _ eW
      have vl := oa.len
      rw [List.length_map, List.length_take] at vl
      have tp : ∀ b xs, H3 b = some (.tup xs) → (L2.upd H3 W (.lst (vs ++ [v]))) b = some (.tup xs) := fun b xs e => by
        rw [upd_ne (ne_of e eW2 (by intro z; cases z))]
        exact e
      refine ⟨vs, eW2, ?_, fun b o e => ?_, vs ++ [v], upd_same, ?_⟩
      · exact Nat.lt_of_le_of_lt (show vs.length ≤ 50001 by omega) (by decide)
      · rw [upd_ne (ne_of_none e nW)]
        exact s3 _ _ (sm _ _ e)
      · rw [List.take_add_one, ep, List.map_append]
        exact ((oa.tp fun b xs e => s3 _ _ e).tp tp).snoc (ok.tp tp)
    rintro H3 ⟨s3, vs, eW, oa⟩
    rw [List.take_of_length_le (by rw [List.length_map]; exact Nat.le_refl _)] at oa
    have s03 := (sS.trans s2).trans s3
    have eS3 := s3 _ _ (s2 _ _ eS)
    have vl := oa.len
    rw [List.length_map] at vl
    clear e2 eS nS nS2 nW s2 s3 sS
    refine ⟨_, _, rfl, ?_⟩
    -- the tests
    refine ⟨_, rfl, _, _, rfl, rfl, _, rfl, ?_⟩
    by_cases h0 : at0 < 0
    · rw [decide_eq_true h0]
      exact iteT (q2 (fun l ks v e => by have := (fw l ks v e).1; omega) H3 s03)
    rw [decide_eq_false h0]
    refine iteF ⟨_, rfl, S, _, rfl, .inl (SqL.of eS3), rfl, _, rfl, ?_⟩
    match hs, h1, back, fw, eS3 with
    | [], _, _, fw, _ => exact ite2 (fun _ => q2 (fun l ks v e => by have := (fw l ks v e).2.1; cases this) H3 s03) (fun c => absurd rfl c)
    | [_], _, _, fw, _ => exact ite2 (fun _ => q2 (fun l ks v e => by have := (fw l ks v e).2.1; cases this) H3 s03) (fun c => absurd rfl c)
    | _ :: _ :: _ :: t, _, _, fw, _ =>
      refine ite2 (fun _ => q2 (fun l ks v e => by have := (fw l ks v e).2.1; cases this) H3 s03) (fun c => absurd ?_ c)
      rw [List.map_cons, List.map_cons, List.map_cons]
      simp only [List.length_cons]
      rw [decide_eq_false (by intro e; injection e with e; omega)]
      rfl
    | [d0, l0], h1, back, fw, eS3 =>
      have ld := h1.2 d0 (by simp)
      have ll := h1.2 l0 (by simp)
      refine ite2 (fun c => absurd c (by rw [decide_eq_true (show V.int ((([d0, l0].map V.str).length : Nat) : Int) = V.int 2 from rfl)]; decide)) (fun _ => ?_)
      refine ⟨_, rfl, S, _, 0, .str d0, rfl, rfl, SqL.of eS3, rfl, rfl, _, rfl, ?_⟩
      rw [decS]
      by_cases hd0 : d0 = "disc"
      · rw [decide_eq_true hd0]
        subst hd0
        have ex : ∀ l ks, Vd l ks → x = discT l ks → l = l0 ∧ ps.map lkeyP = ks.map some := fun l ks v e => by
          obtain ⟨_, g1, g2⟩ := fw l ks v e
          injection g1 with _ g1
          injection g1 with g1 _
          exact ⟨g1.symm, g2⟩
        refine iteF ⟨_, rfl, S, _, 1, .str l0, rfl, rfl, SqL.of eS3, rfl, l0, rfl, fitN' (by omega), 1, _, rfl, rfl, _, rfl, ?_⟩
        cases c1 : decide ((1 : Int) ≤ (l0.length : Int)) with
        | false =>
          refine iteF ⟨_, rfl, iteT (q2 (fun l ks v e => ?_) H3 s03)⟩
          have g := (ex l ks v e).1
          have := v.l1
          rw [g] at this
          exact (of_decide_eq_false c1) (by omega)
        | true =>
          refine iteT ⟨_, _, rfl, rfl, _, rfl, ?_⟩
          cases c8 : decide ((l0.length : Int) ≤ 8) with
          | false =>
            refine iteT (q2 (fun l ks v e => ?_) H3 s03)
            have g := (ex l ks v e).1
            have := v.l8
            rw [g] at this
            exact (of_decide_eq_false c8) (by omega)
          | true =>
            refine iteF ⟨_, rfl, .none, _, .non, .lst (SqL.of eW) oa.dp, none_shaped, os_shapedL, ?_⟩
            rw [os_any]
            cases hk : allO (ps.map lkeyP) with
            | none =>
              rw [decide_eq_true (allO_none hk)]
              refine ⟨_, rfl, iteT (q2 (fun l ks v e => ?_) H3 s03)⟩
              have g := (ex l ks v e).2
              rw [g, allO_map] at hk
              cases hk
            | some ks =>
              rw [decide_eq_false (allO_no hk)]
              have em := allO_some hk
              have lk := congrArg List.length em
              rw [List.length_map, List.length_map] at lk
              have gk : ∀ k ∈ ks, GoodK k := fun k hkm => by
                have m : some k ∈ ps.map lkeyP := by rw [em]; exact List.mem_map_of_mem hkm
                obtain ⟨p, _, hp⟩ := List.mem_map.mp m
                exact (lkey_back hp).1
              refine ⟨_, rfl, iteF ⟨_, rfl, W, vs, rfl, .inl (SqL.of eW), _, _, rfl, rfl, _, rfl, ?_⟩⟩
              by_cases k30 : ks.length ≤ 30
              · rw [decide_eq_false (show ¬ (vs.length : Int) > 30 by omega)]
                refine iteF ⟨_, rfl, S, _, 1, .str l0, rfl, rfl, SqL.of eS3, rfl, l0, rfl, fun L nL => ?_⟩
                have sL := same_upd nL (o := .lst [])
                refine lc_it (walk_str (z := l0)) (fun i Hi => ∃ bs : List Bool, bs = ((l0).cps.toList.take i).map (fun c => decide (c ∈ (small).cps.toList)) ∧ Hi L = some (.lst (bs.map V.bl)) ∧ L2.Same H3 Hi) ?_ (fun _ _ _ _ => trivial) ?_ ?_
                · exact ⟨[], rfl, upd_same, sL⟩
                · rintro i v Hi Hi' _ ⟨bs, eb, eL, sm⟩ ⟨rfl, c, ec, rfl⟩
                  rw [← Array.getElem?_toList] at ec
                  refine ⟨rfl, ?_⟩
                  unfold tYes
                  refine iteT ⟨_, rfl, c, small, rfl, rfl, ?_⟩
                  have il : i < (l0).cps.toList.length := (List.getElem?_eq_some_iff.mp ec).1
                  refine ⟨_, eL, ?_, bs ++ [decide (c ∈ (small).cps.toList)], ?_, ?_, fun b o e => ?_⟩
                  · rw [List.length_map, eb, List.length_map, List.length_take]
                    refine Nat.lt_of_le_of_lt (show min i (l0).cps.toList.length ≤ 50000 from ?_) (by decide)
                    rw [← len_cps]
                    omega
                  · rw [List.take_succ, ec, List.map_append, eb]
                    rfl
                  · rw [upd_same, List.map_append]
                    rfl
                  · rw [upd_ne (ne_of_none e nL)]
                    exact sm _ _ e
                · rintro He ⟨bs, eb, eL, sm⟩
                  refine ⟨L, _, rfl, SqL.of eL, ?_⟩
                  rw [eb, List.take_of_length_le (by rw [Array.length_toList]; exact Nat.le_refl _), List.all_map, show ((l0).cps.toList.all (id ∘ fun c => decide (c ∈ (small).cps.toList))) = chk (l0) (small) from rfl]
                  have s04 := s03.trans sm
                  have eS4 := sm _ _ eS3
                  have eW4 := sm _ _ eW
                  cases c3 : chk l0 small with
                  | false =>
                    refine ⟨_, rfl, _, rfl, iteF (q2 (fun l ks v e => ?_) He s04)⟩
                    have g := (ex l ks v e).1
                    have := v.ll
                    rw [g] at this
                    rw [chk_iff.mpr this] at c3
                    cases c3
                  | true =>
                    have vd : Vd l0 ks := ⟨by have := of_decide_eq_true c1; omega, by have := of_decide_eq_true c8; omega, chk_iff.mp c3, gk, by omega, k30⟩
                    have exd : x = discT l0 ks := back l0 ks (by omega) rfl em
                    refine ⟨_, rfl, _, rfl, iteT ⟨_, rfl, S, _, 1, .str l0, rfl, rfl, SqL.of eS4, rfl, _, rfl, W, vs, rfl, .inl ⟨SqL.of eW4, fun u nu => ⟨(by show 2 ≤ sizeLine; decide), fun t nt => ?_⟩⟩⟩⟩
                    have su := same_upd nu (o := .tup vs)
                    have eu : (L2.upd He u (.tup vs)) u = some (.tup vs) := upd_same
                    generalize L2.upd He u (.tup vs) = H5 at su eu nt ⊢
                    have st := same_upd nt (o := .tup [.str l0, .ref u])
                    rw [em] at oa
                    have oa5 := (oa.tp fun b xs e => (sm.trans su) _ _ e).tp fun b xs e => st _ _ e
                    exact q1 l0 ks vd exd t u _ ((s04.trans su).trans st) upd_same ⟨.tup (st _ _ eu) oa5.dzk, gk, by omega, by omega⟩
              · rw [decide_eq_true (show (vs.length : Int) > 30 by omega)]
                refine iteT (q2 (fun l ks2 v e => ?_) H3 s03)
                have g := (ex l ks2 v e).2
                have l2 := congrArg List.length g
                rw [List.length_map, List.length_map] at l2
                have := v.k30
                omega
      · rw [decide_eq_false hd0]
        refine iteT (q2 (fun l ks v e => ?_) H3 s03)
        have := (fw l ks v e).2.1
        injection this with g1 _
        exact hd0 g1
end
end K66
set_option Elab.async false
set_option linter.all false
set_option maxRecDepth 100000
set_option maxHeartbeats 4000000
set_option pp.maxSteps 400
set_option pp.deepTerms false
namespace K66
open PySem PySem.Spec PyProof.Rows L2
open Xk Az Xtx
section
variable {P : Program} {w : World} {K : PySem.W.Frag} {mg : Str → Option Value} {base : Heap} {C : Addr}
/-- how long a joined row may be at most -/
def S (j : Str) (ps : List Str) : Nat := (ps.map fun p => p.length + j.length).sum
theorem S_app (j : Str) (xs ys : List Str) : S j (xs ++ ys) = S j xs + S j ys := by
  unfold S
  rw [List.map_append, List.sum_append]
theorem S_one (j x : Str) : S j [x] = x.length + j.length := by
  unfold S
  simp
theorem S_mem {j : Str} : ∀ {ps : List Str} {p : Str}, p ∈ ps → p.length + j.length ≤ S j ps
  | x :: r, p, h => by
    unfold S
    rw [List.map_cons, List.sum_cons]
    rcases List.mem_cons.mp h with z | z
    · rw [z]; omega
    · have := S_mem (j := j) z
      unfold S at this
      omega
theorem S_set {j : Str} {b : Str} : ∀ (ps : List Str) (i : Nat), S j (ps.set i b) ≤ S j ps + b.length
  | [], _ => by rw [List.set_nil]; omega
  | x :: r, 0 => by
    rw [List.set_cons_zero]
    unfold S
    simp only [List.map_cons, List.sum_cons]
    omega
  | x :: r, i + 1 => by
    rw [List.set_cons_succ]
    have := S_set (j := j) (b := b) r i
    unfold S at this ⊢
    simp only [List.map_cons, List.sum_cons]
    omega
theorem join_S (j : Str) : ∀ (ps : List Str), ps ≠ [] → (Str.join j ps).length + j.length = S j ps
  | [], h => absurd rfl h
  | [x], _ => by rw [S_one]; rfl
  | x :: y :: r, _ => by
    have ih := join_S j (y :: r) (List.cons_ne_nil _ _)
    show (x ++ j ++ Str.join j (y :: r)).length + j.length = _
    rw [strLen_append, strLen_append]
    unfold S at ih ⊢
    rw [List.map_cons, List.sum_cons, ← ih]
    omega
theorem joint_len (j : Str) (ps : List Str) : (Txt.join j ps).length ≤ S j ps := by
  rw [TL.join_eq]
  cases ps with
  | nil => exact Nat.zero_le _
  | cons x r =>
    have := join_S j (x :: r) (List.cons_ne_nil _ _)
    omega
theorem sum_S (j : Str) (ps : List Str) : (ps.map (·.length)).sum + ps.length * j.length = S j ps := by
  induction ps with
  | nil => unfold S; simp
  | cons x r ih =>
    unfold S at ih ⊢
    rw [List.map_cons, List.map_cons, List.sum_cons, List.sum_cons, ← ih, List.length_cons, Nat.add_mul]
    omega
theorem split_S {x j : Str} (hy : TL.tl j ≠ []) (hk : j.cps.all (· < 256) = true) : S j (Txt.split x j) = x.length + j.length := by
  have p := split_pos (x := x) hy hk
  have e := join_split (x := x) hy hk
  rw [TL.join_eq] at e
  rw [← join_S j (Txt.split x j) (fun z => by rw [z] at p; cases p), e]
theorem cut_strs (ps : List Str) (lo hi : Option Int) : cutV (ps.map V.str) lo hi = ((ps.drop (HT.sIx ps.length 0 lo)).take (HT.sIx ps.length ps.length hi - HT.sIx ps.length 0 lo)).map V.str := by
  unfold cutV
  rw [List.length_map, List.map_take, List.map_drop]
theorem S_take (j : Str) (ps : List Str) (k : Nat) : S j (ps.take k) + S j (ps.drop k) = S j ps := by rw [← S_app, List.take_append_drop]
theorem S_cut (j : Str) (ps : List Str) (a b : Nat) : S j ((ps.drop a).take b) ≤ S j ps := by
  have h1 := S_take j (ps.drop a) b
  have h2 := S_take j ps a
  omega
theorem cutP (j : Str) (ps : List Str) (lo hi : Option Int) : ∃ qs : List Str, cutV (ps.map V.str) lo hi = qs.map V.str ∧ S j qs ≤ S j ps ∧ qs.length ≤ ps.length :=
  ⟨_, cut_strs ps lo hi, S_cut j ps _ _, by rw [List.length_take, List.length_drop]; omega⟩
theorem ixN_k {n j : Nat} (h : j < n) : ixN n (j : Int) = some j := by
  unfold ixN
  rw [if_pos (by omega), if_pos (by omega)]
  rfl
/-- what stands between the bits -/
def Jt (j : Str) : Prop := j = " " ∨ j = " | " ∨ j = ", " ∨ j = ":" ∨ j = "\n"
theorem Jt.ne {j : Str} (h : Jt j) : TL.tl j ≠ [] := by rcases h with rfl | rfl | rfl | rfl | rfl <;> decide +kernel
theorem Jt.k {j : Str} (h : Jt j) : j.cps.all (· < 256) = true := by rcases h with rfl | rfl | rfl | rfl | rfl <;> decide +kernel
theorem Jt.l {j : Str} (h : Jt j) : j.length ≤ 3 ∧ (j.length == 0) = false := by rcases h with rfl | rfl | rfl | rfl | rfl <;> decide +kernel
def spBent : Sp := fun vs H Q _ => ∃ (h W : Addr) (n : Int) (x : Str) (ws : List Str), vs = [.ref h, .str x, .ref W] ∧ H W = some (.lst (ws.map V.str)) ∧ W ≠ h ∧ ws ≠ [] ∧ ws.length < 1000 ∧ (∀ w ∈ ws, w.length ≤ 60) ∧ x.length ≤ 10000 ∧ Hand n H h ∧ n + 20 ≤ far ∧
  ∀ (y : Str) H', y.length ≤ 3 * x.length + 200 → Hand (n + 10) H' h → But h H H' → Q (.str y) H'
theorem ok_bn {f : Addr} {fd : FuncData} {e : Ex} (D : Df K mg "_law_bent" ["_law_hand_here", "_law_text", "_law_words"] sBent f fd) (T : Txt K mg C e) (cT : Ca P w K mg base 1 "_law_take" ["_law_hand_here", "_law_many"] spTake) (cP : Ca P w K mg base 2 "_law_pick" ["_law_hand_here", "_law_some"] spPick) : FnOk P w K mg base CX0 3 f fd ["_law_hand_here", "_law_text", "_law_words"] spBent := by
  refine D.fn.ok scBent (fun vs H Q E h => ?_) (fun cdv A outer s H vs Q E hr h => ?_)
  · obtain ⟨h, W, n, x, ws, rfl, eW, Wh, wne, wl, w60, lx, hh, hn, q⟩ := h
    rfl
  · obtain ⟨h, W, n, x, ws, rfl, eW, Wh, wne, wl, w60, lx, hh, hn, q⟩ := h
    refine ⟨_, (pss_cons (ps_par (i := 3) (j := 4) (by rfl) scBent.nd rfl rfl (by decide) rfl rfl (pa_cons (pe_ca cP hr (by decide) (by rfl) (pa_cons (pv 0) (pa_cons pe_str pa_nil))) (pa_cons (pe_ca cT hr (by decide) (by rfl) (pa_cons (pv 0) (pa_cons pe_int pa_nil))) pa_nil)) (by rfl))
      (pss_cons (ps_set (i := 5) scBent.nd rfl (.inl rfl) (pe_ca cP hr (by decide) (by rfl) (pa_cons (pv 0) (pa_cons (pe_lst (pa_cons pe_str (pa_cons pe_str (pa_cons pe_str (pa_cons pe_str (pa_cons pe_str pa_nil)))))) pa_nil))))
      (pss_cons (ps_par (i := 6) (j := 7) (by rfl) scBent.nd rfl rfl (by decide) rfl rfl (pa_cons (pe_ca cT hr (by decide) (by rfl) (pa_cons (pv 0) (pa_cons (pe_op op_add (pe_callB call_len_str (by rfl) T.len PySem.boot_len (pa_cons (pv 1) pa_nil)) pe_int) pa_nil))) (pa_cons (pe_m1 F.slot_str_split F.type_str_split mt_split (pv 1) (pv 5)) pa_nil)) (by rfl))
      (pss_cons (ps_par (i := 8) (j := 9) (by rfl) scBent.nd rfl rfl (by decide) rfl rfl (pa_cons (pe_ca cT hr (by decide) (by rfl) (pa_cons (pv 0) (pa_cons (pe_callB call_len_seq (by rfl) T.len PySem.boot_len (pa_cons (pv 7) pa_nil)) pa_nil))) (pa_cons (pe_ca cT hr (by decide) (by rfl) (pa_cons (pv 0) (pa_cons (pe_callB call_len_seq (by rfl) T.len PySem.boot_len (pa_cons (pv 7) pa_nil)) pa_nil))) pa_nil)) (by rfl))
      (pss_cons (ps_if (pt_cmpR op_lt (pv 4) pe_int (nomark _)) (pss_one (ps_ret (pe_op op_add_str (pe_op op_add_str (pe_slice sl_str (pv 1) po_none (po_some (pv 6))) (pe_ix ix_list (pe_lst (pa_cons (pv 3) (pa_cons pe_str (pa_cons (pv 3) (pa_cons (pe_ca cP hr (by decide) (by rfl) (pa_cons (pv 0) (pa_cons (pv 2) pa_nil))) (pa_cons pe_str pa_nil)))))) (pv 4) (fun _ _ => rfl))) (pe_slice sl_str (pv 1) (po_some (pe_op op_add (pv 6) (pe_callTy call_int1 (by rfl) T.int (by decide +kernel) (pa_cons (pe_chain op_lt op_lt pe_int (pv 4) pe_int) pa_nil)))) po_none)))) pss_nil)
      (pss_cons (ps_if (pt_cmpR op_eq (pv 4) pe_int (nomark _)) (pss_one (ps_ret (pe_m1 F.slot_str_join F.type_str_join mt_join (pv 5) (pe_op op_cat (pe_slice sl_list (pv 7) po_none (po_some (pv 8))) (pe_slice sl_list (pv 7) (po_some (pe_op op_add (pv 8) pe_int)) po_none))))) pss_nil)
      (pss_cons (ps_if (pt_cmpR op_eq (pv 4) pe_int (nomark _)) (pss_one (ps_ret (pe_m1 F.slot_str_join F.type_str_join mt_join (pv 5) (pe_op op_cat (pe_op op_cat (pe_slice sl_list (pv 7) po_none (po_some (pv 8))) (pe_lst (pa_cons (pe_ix ix_list (pv 7) (pv 9) (fun _ _ => rfl)) pa_nil))) (pe_slice sl_list (pv 7) (po_some (pv 8)) po_none))))) pss_nil)
      (pss_cons (ps_if (pt_cmpR op_eq (pv 4) pe_int (nomark _)) (pss_one (ps_ret (pe_m1 F.slot_str_join F.type_str_join mt_join (pv 5) (pe_op op_cat (pe_op op_cat (pe_slice sl_list (pv 7) po_none (po_some (pv 8))) (pe_lst (pa_cons (pe_ca cP hr (by decide) (by rfl) (pa_cons (pv 0) (pa_cons (pv 2) pa_nil))) pa_nil))) (pe_slice sl_list (pv 7) (po_some (pe_op op_add (pv 8) pe_int)) po_none))))) pss_nil)
      (pss_cons (ps_if (pt_cmpR op_eq (pv 4) pe_int (nomark _)) (pss_one (ps_ret (pe_m1 F.slot_str_join F.type_str_join mt_join (pv 5) (pe_op op_cat (pe_op op_cat (pe_slice sl_list (pv 7) po_none (po_some (pv 8))) (pe_lst (pa_cons (pe_ca cP hr (by decide) (by rfl) (pa_cons (pv 0) (pa_cons (pv 2) pa_nil))) pa_nil))) (pe_slice sl_list (pv 7) (po_some (pv 8)) po_none))))) pss_nil)
      (pss_cons (ps_asg (pe_tup (pa_cons (pe_ix ix_list (pv 7) (pv 9) (fun _ _ => rfl)) (pa_cons (pe_ix ix_list (pv 7) (pv 8) (fun _ _ => rfl)) pa_nil))) (pg_tup (by rfl) (pgs_cons (pg_sub (pv 7) (pv 8) set_list) (pgs_cons (pg_sub (pv 7) (pv 9) set_list) pgs_nil))))
      (pss_one (ps_ret (pe_m1 F.slot_str_join F.type_str_join mt_join (pv 5) (pv 7)))))))))))))), ?_⟩
    have fr : n + 20 ≤ 1000000 := hn
    refine ⟨_, rfl, h, n, _, rfl, hh, by show n ≤ 1000000; omega, .inr ⟨_, rfl, by decide +kernel, by decide +kernel, fun c H1 mc h1 b1 => ?_⟩⟩
    refine ⟨_, rfl, h, 10, n + 1, rfl, by decide, by decide, h1, by show n + 1 ≤ 1000000; omega, fun d H2 d0 d1 h2 b2 => ⟨_, _, rfl, ?_⟩⟩
    -- joint
    refine ⟨_, rfl, (by show 5 ≤ sizeLine; decide), fun l1 n1 => ?_⟩
    have s1 := same_upd n1 (o := .lst [.str " ", .str " | ", .str ", ", .str ":", .str "\n"])
    refine ⟨h, n + 2, _, rfl, (h2.same s1).mono (by omega), by show n + 2 ≤ 1000000; omega, .inl ⟨l1, _, rfl, upd_same, h2.fresh n1, by simp, by show 5 < 1000; decide, fun v H3 mv h3 b3 => ?_⟩⟩
    obtain ⟨j, rfl, hj⟩ : ∃ j : Str, v = .str j ∧ Jt j := by
      simp only [List.mem_cons, List.not_mem_nil, or_false] at mv
      rcases mv with e | e | e | e | e
      · exact ⟨_, e, .inl rfl⟩
      · exact ⟨_, e, .inr (.inl rfl)⟩
      · exact ⟨_, e, .inr (.inr (.inl rfl))⟩
      · exact ⟨_, e, .inr (.inr (.inr (.inl rfl)))⟩
      · exact ⟨_, e, .inr (.inr (.inr (.inr rfl)))⟩
    have b03 := ((b1.trans b2).trans (Same.but s1 h)).trans b3
    clear b1 b2 b3 s1 h1 h2 mv
    obtain ⟨jl, j0⟩ := hj.l
    have lx' := lx
    have fit : x.length ≤ sizeLine := fitN' (by omega)
    have eS := split_S (x := x) hj.ne hj.k
    have sp := split_pos (x := x) hj.ne hj.k
    have sl := (split_len (x := x) hj.ne hj.k).1
    -- at, bits
    refine ⟨_, rfl, _, rfl, x, rfl, fit, _, _, rfl, rfl, h, (x.length : Int) + 1, n + 2 + 1, rfl, by omega, Int.lt_trans (show (x.length : Int) + 1 < 1000000 by omega) (by decide), h3, by show n + 2 + 1 ≤ 1000000; omega, fun k H4 k0 k1 h4 b4 => ?_⟩
    obtain ⟨kn, rfl⟩ : ∃ kn : Nat, k = (kn : Int) := ⟨k.toNat, by omega⟩
    refine ⟨_, rfl, ⟨_, rfl⟩, _, rfl, x, j, rfl, rfl, j0, Nat.le_trans (show _ ≤ 60000 by omega) (by decide), fun B nB => ⟨_, _, rfl, ?_⟩⟩
    have sB := same_upd nB (o := .lst ((Txt.split x j).map V.str))
    have eB : (L2.upd H4 B (.lst ((Txt.split x j).map V.str))) B = some (.lst ((Txt.split x j).map V.str)) := upd_same
    have Bh := h4.fresh nB
    have HB : H B = none := (b03.trans b4).free Bh nB
    have b05 := (b03.trans b4).trans (Same.but sB h)
    have h5 := h4.same sB
    generalize L2.upd H4 B (.lst ((Txt.split x j).map V.str)) = H5 at sB eB b05 h5 ⊢
    clear sB b03 b4 h4 h3
    generalize Txt.split x j = ps at eS sp sl eB ⊢
    -- spot, other
    refine ⟨_, rfl, _, rfl, B, _, rfl, .inl (SqL.of eB), h, ((ps.map V.str).length : Int), n + 4, rfl, by rw [List.length_map]; omega, by rw [List.length_map]; exact Int.lt_trans (show (ps.length : Int) < 1000000 by omega) (by decide), h5.mono (by omega), by show n + 4 ≤ 1000000; omega, fun a H6 a0 a1 h6 b6 => ?_⟩
    have eB6 := b6 _ _ Bh eB
    refine ⟨_, rfl, _, rfl, B, _, rfl, .inl (SqL.of eB6), h, ((ps.map V.str).length : Int), n + 4 + 1, rfl, by rw [List.length_map]; omega, by rw [List.length_map]; exact Int.lt_trans (show (ps.length : Int) < 1000000 by omega) (by decide), h6, by show n + 4 + 1 ≤ 1000000; omega, fun o H7 o0 o1 h7 b7 => ⟨_, _, rfl, ?_⟩⟩
    rw [List.length_map] at a1 o1
    obtain ⟨an, rfl⟩ : ∃ an : Nat, a = (an : Int) := ⟨a.toNat, by omega⟩
    obtain ⟨on, rfl⟩ : ∃ on : Nat, o = (on : Int) := ⟨o.toNat, by omega⟩
    have eB7 := b7 _ _ Bh eB6
    have b07 := (b05.trans b6).trans b7
    have eW7 := b07 _ _ Wh eW
    clear b05 b6 b7 h5 h6 eB eB6
    refine ⟨_, rfl, _, _, rfl, rfl, _, rfl, ite2 (fun e5 => ?_) (fun e5 => ?_)⟩
    · have d5 := of_decide_eq_true e5
      have cl := cutS_len x none (some (kn : Int))
      refine ⟨_, rfl, _, rfl, (kn : Int), rfl, x, rfl, fit, ?_⟩
      refine ⟨_, rfl, _, rfl, _, rfl, _, rfl, h, n + 6, _, rfl, h7.mono (by omega), by show n + 6 ≤ 1000000; omega, .inl ⟨W, _, rfl, eW7, Wh, by simpa using wne, by rw [List.length_map]; exact wl, fun v H8 mv h8 b8 => ?_⟩⟩
      obtain ⟨w1, hw1, rfl⟩ := List.mem_map.mp mv
      have lw1 := w60 w1 hw1
      refine ⟨(by show 5 ≤ sizeLine; decide), fun l2 n2 => ?_⟩
      have s2 := same_upd n2 (o := .lst [.str ⟨#[c]⟩, .str "", .str ⟨#[c]⟩, .str w1, .str "  "])
      have e2 : (L2.upd H8 l2 (.lst [.str ⟨#[c]⟩, .str "", .str ⟨#[c]⟩, .str w1, .str "  "])) l2 = some (.lst [.str ⟨#[c]⟩, .str "", .str ⟨#[c]⟩, .str w1, .str "  "]) := upd_same
      obtain ⟨w2, aw, lw2⟩ : ∃ w2 : Str, atI [V.str ⟨#[c]⟩, .str "", .str ⟨#[c]⟩, .str w1, .str "  "] d = some (.str w2) ∧ w2.length ≤ 60 := by
        have cs : d = 0 ∨ d = 1 ∨ d = 2 ∨ d = 3 ∨ d = 4 := by omega
        rcases cs with rfl | rfl | rfl | rfl | rfl
        · exact ⟨_, atI_nat (j := 0) rfl, by show 1 ≤ 60; decide⟩
        · exact ⟨_, atI_nat (j := 1) rfl, by decide⟩
        · exact ⟨_, atI_nat (j := 2) rfl, by show 1 ≤ 60; decide⟩
        · exact ⟨_, atI_nat (j := 3) rfl, lw1⟩
        · exact ⟨_, atI_nat (j := 4) rfl, by decide⟩
      have b8' := (b07.trans b8).trans (Same.but s2 h)
      refine ⟨_, rfl, l2, _, d, _, rfl, rfl, SqL.of e2, aw, _, _, rfl, rfl, fitN (by omega), ?_⟩
      refine ⟨_, rfl, _, rfl, ?_⟩
      have fin : ∀ q2 : Int, Q (.str (cutS x none (some (kn : Int)) ++ w2 ++ cutS x (some ((kn : Int) + q2)) none)) (L2.upd H8 l2 (.lst [.str ⟨#[c]⟩, .str "", .str ⟨#[c]⟩, .str w1, .str "  "])) := fun q2 => by
        have cl2 := cutS_len x (some ((kn : Int) + q2)) none
        exact q _ _ (by rw [strLen_append, strLen_append]; omega) ((h8.same s2).mono (by omega)) b8'
      have fit2 : ∀ q2 : Int, (cutS x none (some (kn : Int)) ++ w2).length + (cutS x (some ((kn : Int) + q2)) none).length ≤ sizeLine := fun q2 => by
        have cl2 := cutS_len x (some ((kn : Int) + q2)) none
        exact fitN (by rw [strLen_append]; omega)
      refine ⟨_, rfl, _, _, rfl, rfl, _, rfl, ite2 (fun _ => ?_) (fun _ => ?_)⟩
      · exact ⟨_, _, rfl, rfl, .inr ⟨_, rfl, _, _, rfl, rfl, _, rfl, x, rfl, fit, _, _, rfl, rfl, fit2 _, fin _⟩⟩
      · exact .inr ⟨_, rfl, _, _, rfl, rfl, _, rfl, x, rfl, fit, _, _, rfl, rfl, fit2 _, fin _⟩
    -- joined anew
    have S3 : S j ps ≤ x.length + 3 := by omega
    have fitS : ∀ {qs : List Str}, S j qs ≤ 3 * x.length + 200 → (qs.map (·.length)).sum + qs.length * j.length ≤ sizeLine := fun {qs} hq => by
      rw [sum_S]
      exact fitN (by omega)
    have ret : ∀ {H' : Hp} {qs : List Str}, S j qs ≤ 3 * x.length + 200 → Hand (n + 10) H' h → But h H H' → Q (.str (Txt.join j qs)) H' := fun {H' qs} hq hd bt => q _ _ (Nat.le_trans (joint_len j qs) hq) hd bt
    have h7' : Hand (n + 10) H7 h := h7.mono (by omega)
    obtain ⟨A, eA, sA, lA⟩ := cutP j ps none (some (an : Int))
    have catL : ∀ {xs ys : List V}, xs.length ≤ 20010 → ys.length ≤ 20010 → xs.length + ys.length ≤ sizeLine := fun {xs ys} a b => fitN (by omega)
    -- the part ahead
    have head : ∀ (p : Addr), H7 p = none → (L2.upd H7 p (.lst (cutV (ps.map V.str) none (some (an : Int))))) p = some (.lst (A.map V.str)) := fun p np => by rw [upd_same, eA]
    refine ⟨_, rfl, rfl, _, rfl, ite2 (fun e5 => ?_) (fun e5 => ?_)⟩
    · refine ⟨_, rfl, ⟨_, rfl⟩, _, rfl, _, rfl, (an : Int), rfl, B, _, rfl, SqL.of eB7, fun p np => ?_⟩
      have sp1 := same_upd np (o := .lst (cutV (ps.map V.str) none (some (an : Int))))
      have e1 := head p np
      generalize L2.upd H7 p (.lst (cutV (ps.map V.str) none (some (an : Int)))) = H8 at sp1 e1 ⊢
      refine ⟨_, rfl, _, rfl, _, _, rfl, rfl, _, rfl, B, _, rfl, SqL.of (sp1 _ _ eB7), fun p2 np2 => ?_⟩
      obtain ⟨Z, eZ, sZ, lZ⟩ := cutP j ps (some ((an : Int) + 1)) none
      have sp2 := same_upd np2 (o := .lst (cutV (ps.map V.str) (some ((an : Int) + 1)) none))
      have e2 : (L2.upd H8 p2 (.lst (cutV (ps.map V.str) (some ((an : Int) + 1)) none))) p2 = some (.lst (Z.map V.str)) := by rw [upd_same, eZ]
      generalize L2.upd H8 p2 (.lst (cutV (ps.map V.str) (some ((an : Int) + 1)) none)) = H9 at sp2 e2 ⊢
      refine ⟨p, p2, _, _, rfl, rfl, sp2 _ _ e1, e2, catL (by rw [List.length_map]; omega) (by rw [List.length_map]; omega), fun p3 np3 => ?_⟩
      have sp3 := same_upd np3 (o := .lst (A.map V.str ++ Z.map V.str))
      have hS : S j (A ++ Z) ≤ 3 * x.length + 200 := by rw [S_app]; omega
      have sall := (sp1.trans sp2).trans sp3
      exact ⟨j, p3, A ++ Z, rfl, rfl, .inl (SqL.of (by rw [upd_same, List.map_append])), fitS hS, ret hS (h7'.same sall) (b07.trans (Same.but sall h))⟩
    refine ⟨_, rfl, rfl, _, rfl, ite2 (fun e6 => ?_) (fun e6 => ?_)⟩
    · have eb : ps[on]? = some (ps[on]'(by omega)) := List.getElem?_eq_getElem (by omega)
      have mb := List.getElem_mem (l := ps) (n := on) (by omega)
      have lb := S_mem (j := j) mb
      generalize ps[on]'(by omega) = bt at eb mb lb
      refine ⟨_, rfl, ⟨_, rfl⟩, _, rfl, _, rfl, (an : Int), rfl, B, _, rfl, SqL.of eB7, fun p np => ?_⟩
      have sp1 := same_upd np (o := .lst (cutV (ps.map V.str) none (some (an : Int))))
      have e1 := head p np
      have ph := h7.fresh np
      generalize L2.upd H7 p (.lst (cutV (ps.map V.str) none (some (an : Int)))) = H8 at sp1 e1 ⊢
      refine ⟨_, rfl, _, rfl, B, _, (on : Int), .str bt, rfl, rfl, SqL.of (sp1 _ _ eB7), atI_nat (by rw [List.getElem?_map, eb]; rfl), (by show 1 ≤ sizeLine; decide), fun p2 np2 => ?_⟩
      have sp2 := same_upd np2 (o := .lst [.str bt])
      have f2 : (L2.upd H8 p2 (.lst [.str bt])) p2 = some (.lst [.str bt]) := upd_same
      have f1 := sp2 _ _ e1
      have fB := sp2 _ _ (sp1 _ _ eB7)
      have h9 := (h7'.same sp1).same sp2
      have b9 := (b07.trans (Same.but sp1 h)).trans (Same.but sp2 h)
      generalize L2.upd H8 p2 (.lst [.str bt]) = H9 at f1 f2 fB h9 b9 ⊢
      have hS1 : S j (A ++ [bt]) ≤ S j ps + (bt).length + 3 := by rw [S_app, S_one]; omega
      refine ⟨p, p2, _, _, rfl, rfl, f1, f2, catL (by rw [List.length_map]; omega) (by show 1 ≤ 20010; decide), fun p3 np3 => ?_⟩
      have sp3 := same_upd np3 (o := .lst (A.map V.str ++ [.str (bt)]))
      have f3 : (L2.upd H9 p3 (.lst (A.map V.str ++ [.str (bt)]))) p3 = some (.lst ((A ++ [bt]).map V.str)) := by rw [upd_same, List.map_append]; rfl
      have fB3 := sp3 _ _ fB
      have h10 := h9.same sp3
      have b10 := b9.trans (Same.but sp3 h)
      generalize L2.upd H9 p3 (.lst (A.map V.str ++ [.str (bt)])) = HA at sp3 f3 fB3 h10 b10 ⊢
      obtain ⟨Z, eZ, sZ, lZ⟩ := cutP j ps (some ((an : Int))) none
      refine ⟨_, rfl, _, rfl, (an : Int), rfl, B, _, rfl, SqL.of fB3, fun p4 np4 => ?_⟩
      have sp4 := same_upd np4 (o := .lst (cutV (ps.map V.str) (some ((an : Int))) none))
      have f4 : (L2.upd HA p4 (.lst (cutV (ps.map V.str) (some ((an : Int))) none))) p4 = some (.lst (Z.map V.str)) := by rw [upd_same, eZ]
      generalize L2.upd HA p4 (.lst (cutV (ps.map V.str) (some ((an : Int))) none)) = HB at sp4 f4 ⊢
      refine ⟨p3, p4, _, _, rfl, rfl, sp4 _ _ f3, f4, catL (by rw [List.length_map, List.length_append]; show A.length + 1 ≤ 20010; omega) (by rw [List.length_map]; omega), fun p5 np5 => ?_⟩
      have sp5 := same_upd np5 (o := .lst ((A ++ [bt]).map V.str ++ Z.map V.str))
      have hS : S j (A ++ [bt] ++ Z) ≤ 3 * x.length + 200 := by rw [S_app]; omega
      have sall := sp4.trans sp5
      exact ⟨j, p5, A ++ [bt] ++ Z, rfl, rfl, .inl (SqL.of (by rw [upd_same, ← List.map_append])), fitS hS, ret hS (h10.same sall) (b10.trans (Same.but sall h))⟩
    refine ⟨_, rfl, rfl, _, rfl, ite2 (fun e7 => ?_) (fun e7 => ?_)⟩
    · clear e5 e6
      refine ⟨_, rfl, ⟨_, rfl⟩, _, rfl, _, rfl, (an : Int), rfl, B, _, rfl, SqL.of eB7, fun p np => ?_⟩
      have sp1 := same_upd np (o := .lst (cutV (ps.map V.str) none (some (an : Int))))
      have e1 := head p np
      have ph := h7.fresh np
      generalize L2.upd H7 p (.lst (cutV (ps.map V.str) none (some (an : Int)))) = H8 at sp1 e1 ⊢
      refine ⟨_, rfl, _, rfl, h, n + 6, _, rfl, (h7.same sp1).mono (by omega), by show n + 6 ≤ 1000000; omega, .inl ⟨W, _, rfl, sp1 _ _ eW7, Wh, by simpa using wne, by rw [List.length_map]; exact wl, fun v H8' mv h8 b8 => ?_⟩⟩
      obtain ⟨bt, hw1, rfl⟩ := List.mem_map.mp mv
      have lb := w60 bt hw1
      refine ⟨(by show 1 ≤ sizeLine; decide), fun p2 np2 => ?_⟩
      have sp2 := same_upd np2 (o := .lst [.str bt])
      have f2 : (L2.upd H8' p2 (.lst [.str bt])) p2 = some (.lst [.str bt]) := upd_same
      have f1 := sp2 _ _ (b8 _ _ ph e1)
      have fB := sp2 _ _ (b8 _ _ Bh (sp1 _ _ eB7))
      have h9 : Hand (n + 10) (L2.upd H8' p2 (.lst [.str bt])) h := (h8.same sp2).mono (by omega)
      have b9 := ((b07.trans (Same.but sp1 h)).trans b8).trans (Same.but sp2 h)
      generalize L2.upd H8' p2 (.lst [.str bt]) = H9 at f1 f2 fB h9 b9 ⊢
      have hS1 : S j (A ++ [bt]) ≤ S j ps + (bt).length + 3 := by rw [S_app, S_one]; omega
      refine ⟨p, p2, _, _, rfl, rfl, f1, f2, catL (by rw [List.length_map]; omega) (by show 1 ≤ 20010; decide), fun p3 np3 => ?_⟩
      have sp3 := same_upd np3 (o := .lst (A.map V.str ++ [.str (bt)]))
      have f3 : (L2.upd H9 p3 (.lst (A.map V.str ++ [.str (bt)]))) p3 = some (.lst ((A ++ [bt]).map V.str)) := by rw [upd_same, List.map_append]; rfl
      have fB3 := sp3 _ _ fB
      have h10 := h9.same sp3
      have b10 := b9.trans (Same.but sp3 h)
      generalize L2.upd H9 p3 (.lst (A.map V.str ++ [.str (bt)])) = HA at sp3 f3 fB3 h10 b10 ⊢
      obtain ⟨Z, eZ, sZ, lZ⟩ := cutP j ps (some ((an : Int) + 1)) none
      refine ⟨_, rfl, _, rfl, _, _, rfl, rfl, _, rfl, B, _, rfl, SqL.of fB3, fun p4 np4 => ?_⟩
      have sp4 := same_upd np4 (o := .lst (cutV (ps.map V.str) (some ((an : Int) + 1)) none))
      have f4 : (L2.upd HA p4 (.lst (cutV (ps.map V.str) (some ((an : Int) + 1)) none))) p4 = some (.lst (Z.map V.str)) := by rw [upd_same, eZ]
      generalize L2.upd HA p4 (.lst (cutV (ps.map V.str) (some ((an : Int) + 1)) none)) = HB at sp4 f4 ⊢
      refine ⟨p3, p4, _, _, rfl, rfl, sp4 _ _ f3, f4, catL (by rw [List.length_map, List.length_append]; show A.length + 1 ≤ 20010; omega) (by rw [List.length_map]; omega), fun p5 np5 => ?_⟩
      have sp5 := same_upd np5 (o := .lst ((A ++ [bt]).map V.str ++ Z.map V.str))
      have hS : S j (A ++ [bt] ++ Z) ≤ 3 * x.length + 200 := by rw [S_app]; omega
      have sall := sp4.trans sp5
      exact ⟨j, p5, A ++ [bt] ++ Z, rfl, rfl, .inl (SqL.of (by rw [upd_same, ← List.map_append])), fitS hS, ret hS (h10.same sall) (b10.trans (Same.but sall h))⟩
    refine ⟨_, rfl, rfl, _, rfl, ite2 (fun e8 => ?_) (fun e8 => ?_)⟩
    · clear e5 e6 e7
      refine ⟨_, rfl, ⟨_, rfl⟩, _, rfl, _, rfl, (an : Int), rfl, B, _, rfl, SqL.of eB7, fun p np => ?_⟩
      have sp1 := same_upd np (o := .lst (cutV (ps.map V.str) none (some (an : Int))))
      have e1 := head p np
      have ph := h7.fresh np
      generalize L2.upd H7 p (.lst (cutV (ps.map V.str) none (some (an : Int)))) = H8 at sp1 e1 ⊢
      refine ⟨_, rfl, _, rfl, h, n + 6, _, rfl, (h7.same sp1).mono (by omega), by show n + 6 ≤ 1000000; omega, .inl ⟨W, _, rfl, sp1 _ _ eW7, Wh, by simpa using wne, by rw [List.length_map]; exact wl, fun v H8' mv h8 b8 => ?_⟩⟩
      obtain ⟨bt, hw1, rfl⟩ := List.mem_map.mp mv
      have lb := w60 bt hw1
      refine ⟨(by show 1 ≤ sizeLine; decide), fun p2 np2 => ?_⟩
      have sp2 := same_upd np2 (o := .lst [.str bt])
      have f2 : (L2.upd H8' p2 (.lst [.str bt])) p2 = some (.lst [.str bt]) := upd_same
      have f1 := sp2 _ _ (b8 _ _ ph e1)
      have fB := sp2 _ _ (b8 _ _ Bh (sp1 _ _ eB7))
      have h9 : Hand (n + 10) (L2.upd H8' p2 (.lst [.str bt])) h := (h8.same sp2).mono (by omega)
      have b9 := ((b07.trans (Same.but sp1 h)).trans b8).trans (Same.but sp2 h)
      generalize L2.upd H8' p2 (.lst [.str bt]) = H9 at f1 f2 fB h9 b9 ⊢
      have hS1 : S j (A ++ [bt]) ≤ S j ps + (bt).length + 3 := by rw [S_app, S_one]; omega
      refine ⟨p, p2, _, _, rfl, rfl, f1, f2, catL (by rw [List.length_map]; omega) (by show 1 ≤ 20010; decide), fun p3 np3 => ?_⟩
      have sp3 := same_upd np3 (o := .lst (A.map V.str ++ [.str (bt)]))
      have f3 : (L2.upd H9 p3 (.lst (A.map V.str ++ [.str (bt)]))) p3 = some (.lst ((A ++ [bt]).map V.str)) := by rw [upd_same, List.map_append]; rfl
      have fB3 := sp3 _ _ fB
      have h10 := h9.same sp3
      have b10 := b9.trans (Same.but sp3 h)
      generalize L2.upd H9 p3 (.lst (A.map V.str ++ [.str (bt)])) = HA at sp3 f3 fB3 h10 b10 ⊢
      obtain ⟨Z, eZ, sZ, lZ⟩ := cutP j ps (some ((an : Int))) none
      refine ⟨_, rfl, _, rfl, (an : Int), rfl, B, _, rfl, SqL.of fB3, fun p4 np4 => ?_⟩
      have sp4 := same_upd np4 (o := .lst (cutV (ps.map V.str) (some ((an : Int))) none))
      have f4 : (L2.upd HA p4 (.lst (cutV (ps.map V.str) (some ((an : Int))) none))) p4 = some (.lst (Z.map V.str)) := by rw [upd_same, eZ]
      generalize L2.upd HA p4 (.lst (cutV (ps.map V.str) (some ((an : Int))) none)) = HB at sp4 f4 ⊢
      refine ⟨p3, p4, _, _, rfl, rfl, sp4 _ _ f3, f4, catL (by rw [List.length_map, List.length_append]; show A.length + 1 ≤ 20010; omega) (by rw [List.length_map]; omega), fun p5 np5 => ?_⟩
      have sp5 := same_upd np5 (o := .lst ((A ++ [bt]).map V.str ++ Z.map V.str))
      have hS : S j (A ++ [bt] ++ Z) ≤ 3 * x.length + 200 := by rw [S_app]; omega
      have sall := sp4.trans sp5
      exact ⟨j, p5, A ++ [bt] ++ Z, rfl, rfl, .inl (SqL.of (by rw [upd_same, ← List.map_append])), fitS hS, ret hS (h10.same sall) (b10.trans (Same.but sall h))⟩
    clear e5 e6 e7 e8
    have eb : ps[on]? = some (ps[on]'(by omega)) := List.getElem?_eq_getElem (by omega)
    have lb := S_mem (j := j) (List.getElem_mem (l := ps) (n := on) (by omega))
    generalize ps[on]'(by omega) = b1 at eb lb
    have ea : ps[an]? = some (ps[an]'(by omega)) := List.getElem?_eq_getElem (by omega)
    have la := S_mem (j := j) (List.getElem_mem (l := ps) (n := an) (by omega))
    generalize ps[an]'(by omega) = b2 at ea la
    refine ⟨_, rfl, _, rfl, B, _, (on : Int), .str b1, rfl, rfl, SqL.of eB7, atI_nat (by rw [List.getElem?_map, eb]; rfl), _, rfl, _, rfl, B, _, (an : Int), .str b2, rfl, rfl, SqL.of eB7, atI_nat (by rw [List.getElem?_map, ea]; rfl), (by show 2 ≤ sizeLine; decide), fun t nt => ?_⟩
    have st := same_upd nt (o := .tup [.str b1, .str b2])
    have et : (L2.upd H7 t (.tup [.str b1, .str b2])) t = some (.tup [.str b1, .str b2]) := upd_same
    have eB8 := st _ _ eB7
    have h8 := h7'.same st
    have b8 := b07.trans (Same.but st h)
    generalize L2.upd H7 t (.tup [.str b1, .str b2]) = H8 at st et eB8 h8 b8 ⊢
    refine ⟨t, _, rfl, SqT.of et, rfl, _, _, rfl, _, rfl, _, rfl, B, _, (an : Int), an, rfl, rfl, eB8, ixN_k (by rw [List.length_map]; omega), ?_⟩
    refine ⟨_, _, rfl, _, rfl, _, rfl, B, _, (on : Int), on, rfl, rfl, upd_same, ixN_k (by rw [List.length_set, List.length_map]; omega), rfl, ?_⟩
    have hS : S j ((ps.set an b1).set on b2) ≤ 3 * x.length + 200 := by
      have g1 := S_set (j := j) (b := b2) (ps.set an b1) on
      have g2 := S_set (j := j) (b := b1) ps an
      omega
    refine ⟨_, rfl, ⟨_, rfl⟩, _, rfl, j, B, (ps.set an b1).set on b2, rfl, rfl, .inl (SqL.of (by rw [upd_same, ← List.map_set, ← List.map_set])), fitS hS, ret hS ((h8.upd (Ne.symm Bh)).upd (Ne.symm Bh)) fun c o nc e => ?_⟩
    have nB : c ≠ B := fun z => by
      rw [z, HB] at e
      cases e
    rw [upd_ne nB, upd_ne nB]
    exact b8 c o nc e
end
end K66
set_option Elab.async false
set_option linter.all false
set_option maxRecDepth 100000
set_option maxHeartbeats 4000000
set_option pp.maxSteps 400
set_option pp.deepTerms false
namespace K66
open PySem PySem.Spec PyProof.Rows L2
open Xk Az Xtx
section
variable {P : Program} {w : World} {K : PySem.W.Frag} {mg : Str → Option Value} {base : Heap} {C : Addr}
def spAlone (e : Ex) : Sp := fun vs H Q _ => ∃ (a : Addr) (fs : List (Str × V)), vs = [.ref a] ∧ Kept H a e.NoText fs ∧ ∀ H', L2.Same H H' → Q (.bl true) H'
theorem ok_alone {f : Addr} {fd : FuncData} {e : Ex} (D : Df K mg "_law_alone" ["_law_e"] sAlone f fd) (T : Txt K mg C e) : FnOk P w K mg base CX0 1 f fd ["_law_e"] (spAlone e) := by
  refine D.fn.ok scAlone (fun vs H Q E h => ?_) (fun cdv A outer s H vs Q E hr h => ?_)
  · obtain ⟨a, fs, rfl, k, q⟩ := h
    rfl
  · obtain ⟨a, fs, rfl, k, q⟩ := h
    refine ⟨_, (pss_cons (ps_if (pt_val (pe_callB (call_isKT T.xc) (by rfl) T.isi (by decide +kernel) (pa_cons (pv 0) (pa_cons (pe_tup (pa_cons (pe_glob (v := .ref e.Lost) (by rfl) T.mLost rfl) (pa_cons (pe_glob (v := .ref e.Taken) (by rfl) T.mTaken rfl) (pa_cons (pe_glob (v := .ref e.NoCustom) (by rfl) T.mNoCustom rfl) (pa_cons (pe_glob (v := .ref e.NoDay) (by rfl) T.mNoDay rfl) (pa_cons (pe_glob (v := .ref e.NoDisc) (by rfl) T.mNoDisc rfl) (pa_cons (pe_glob (v := .ref e.NoEntry) (by rfl) T.mNoEntry rfl) (pa_cons (pe_glob (v := .ref e.NoKey) (by rfl) T.mNoKey rfl) (pa_cons (pe_glob (v := .ref e.NoLength) (by rfl) T.mNoLength rfl) pa_nil))))))))) pa_nil)))) (pss_one (ps_ret pe_bl)) pss_nil)
      (pss_cons (ps_if (pt_val (pe_callB (call_isKT T.xc) (by rfl) T.isi (by decide +kernel) (pa_cons (pv 0) (pa_cons (pe_tup (pa_cons (pe_glob (v := .ref e.NoLine) (by rfl) T.mNoLine rfl) (pa_cons (pe_glob (v := .ref e.NoName) (by rfl) T.mNoName rfl) (pa_cons (pe_glob (v := .ref e.NoNumber) (by rfl) T.mNoNumber rfl) (pa_cons (pe_glob (v := .ref e.NoPath) (by rfl) T.mNoPath rfl) (pa_cons (pe_glob (v := .ref e.Same) (by rfl) T.mSame rfl) (pa_cons (pe_glob (v := .ref e.Struck) (by rfl) T.mStruck rfl) (pa_cons (pe_glob (v := .ref e.Twice) (by rfl) T.mTwice rfl) pa_nil)))))))) pa_nil)))) (pss_one (ps_ret pe_bl)) pss_nil)
      (pss_one (ps_ret (pe_and (pe_callB (call_isK T.xc) (by rfl) T.isi (by decide +kernel) (pa_cons (pv 0) (pa_cons (pe_glob (v := .ref e.NoText) (by rfl) T.mNoText rfl) pa_nil))) (pe_and (pe_callB (call_isK T.xc) (by rfl) T.isi (by decide +kernel) (pa_cons (pv 0) (pa_cons (pe_glob (v := .ref e.NotSuch) (by rfl) T.mNotSuch rfl) pa_nil))) (pe_one (pe_callB (call_isK T.xc) (by rfl) T.isi (by decide +kernel) (pa_cons (pv 0) (pa_cons (pe_bltn (v := .ty "ValueError") (by rfl) T.ValueError (by decide +kernel) rfl) pa_nil)))))))))), ?_⟩
    refine ⟨_, rfl, (by show 8 ≤ sizeLine; decide), fun t nt => ⟨a, t, fs, _, _, false, rfl, k.same (same_upd nt), upd_same, (.cons (.own _) (.cons (.own _) (.cons (.own _) (.cons (.own _) (.cons (.own _) (.cons (.own _) (.cons (.own _) (.cons (.own _) .nil)))))))), T.kit1, false, rfl, iteF ?_⟩⟩
    refine ⟨_, rfl, (by show 7 ≤ sizeLine; decide), fun u nu => ⟨a, u, fs, _, _, false, rfl, (k.same (same_upd nt)).same (same_upd nu), upd_same, (.cons (.own _) (.cons (.own _) (.cons (.own _) (.cons (.own _) (.cons (.own _) (.cons (.own _) (.cons (.own _) .nil))))))), T.kit2, false, rfl, iteF ?_⟩⟩
    have k2 := (k.same (same_upd nt (o := .tup [.ref e.Lost, .ref e.Taken, .ref e.NoCustom, .ref e.NoDay, .ref e.NoDisc, .ref e.NoEntry, .ref e.NoKey, .ref e.NoLength]))).same (same_upd nu (o := .tup [.ref e.NoLine, .ref e.NoName, .ref e.NoNumber, .ref e.NoPath, .ref e.Same, .ref e.Struck, .ref e.Twice]))
    refine ⟨_, rfl, a, fs, _, _, true, rfl, k2, .own _, T.kit3, true, rfl, iteT ?_⟩
    refine ⟨_, rfl, a, fs, _, _, true, rfl, k2, .own _, T.kit4, true, rfl, iteT ?_⟩
    exact ⟨_, rfl, a, fs, _, _, true, rfl, k2, .ty _, T.kit5, q _ ((same_upd nt).trans (same_upd nu))⟩
theorem nice_t2 {d e : PyData} {k n m : Nat} (h : Nice d k n) (h' : Nice e k m) : Nice (.tuple [d, e]) (k + 1) (n + m + 10) := by
  refine ⟨by simp [PyData.showable, PyData.showableAll, h.sh, h'.sh], ?_, ?_⟩
  · simp only [PyData.depth, PyData.depthAll]
    have := h.dp
    have := h'.dp
    omega
  · simp only [PyData.shown, PyData.shownAll]
    have z := fmt_text [d.shown, e.shown]
    simp only [piled_cons, piled_nil] at z
    have := h.sz
    have := h'.sz
    omega
theorem asc8 {x : Str} (h : letts x) : ∀ c ∈ x.cps.toList, c < 16 ^ 8 := fun c hc => Nat.lt_of_lt_of_le (asc_small c (h c hc)) (by decide)
theorem nice_ky {k : Ky} (h : GoodK k) : Nice (kyP k) 1 150 := by
  have a : Nice (.str k.1) 0 82 := nice_str (Nat.le_trans (PySem.StrLaws.reprText_len k.1 (asc8 h.ws)) (by have := h.w8; omega))
  have b : Nice (.int k.2) 0 40 := nice_int (lg (by have := h.n0; omega) (by have := h.n1; omega)) (tx_le (by have := h.n0; omega) (Int.le_of_lt h.n1))
  exact (nice_t2 a b).mono (by decide) (by decide)
theorem nice_kys : ∀ {ks : List Ky}, (∀ k ∈ ks, GoodK k) → PyData.showableAll (ks.map kyP) = true ∧ PyData.depthAll (ks.map kyP) ≤ 2 ∧ piled (PyData.shownAll (ks.map kyP)) ≤ 152 * ks.length
  | [], _ => ⟨by simp [PyData.showableAll], by simp [PyData.depthAll], by simp [PyData.shownAll, piled_nil]⟩
  | k :: ks, h => by
    obtain ⟨a, b, c⟩ := nice_kys (ks := ks) fun z hz => h z (List.mem_cons_of_mem _ hz)
    have n := nice_ky (h k List.mem_cons_self)
    refine ⟨?_, ?_, ?_⟩
    · simp [PyData.showableAll, n.sh, a]
    · simp only [List.map_cons, PyData.depthAll]
      have := n.dp
      omega
    · simp only [List.map_cons, PyData.shownAll, piled_cons, List.length_cons]
      have := n.sz
      omega
theorem nice_rw {ks : List Ky} (h : ∀ k ∈ ks, GoodK k) (l : ks.length ≤ 31) : Nice (rwP ks) 3 5000 := by
  obtain ⟨a, b, c⟩ := nice_kys h
  unfold rwP
  refine ⟨by simp [PyData.showable, a], ?_, ?_⟩
  · simp only [PyData.depth]
    omega
  · simp only [PyData.shown]
    have z := fmt_text (PyData.shownAll (ks.map kyP))
    omega
theorem disc_inj {l l2 : Str} {ks ks2 : List Ky} {x : Str} (v : Vd l ks) (v2 : Vd l2 ks2) (e : x = discT l ks) (e2 : x = discT l2 ks2) : l2 = l ∧ ks2 = ks := by
  obtain ⟨a, b, c⟩ := at_fact v e
  obtain ⟨a2, b2, c2⟩ := at_fact v2 e2
  have ll : ((5 + l.length : Nat) : Int) = ((5 + l2.length : Nat) : Int) := a.symm.trans a2
  rw [ll] at b c
  have h1 := b.symm.trans b2
  injection h1 with _ h1
  injection h1 with h1 _
  have h2 := c.symm.trans c2
  refine ⟨h1.symm, ?_⟩
  have inj : ∀ (xs ys : List Ky), xs.map some = ys.map some → ys = xs := fun xs => by
    induction xs with
    | nil => intro ys h; cases ys with
      | nil => rfl
      | cons _ _ => cases h
    | cons x r ih => intro ys h; cases ys with
      | nil => cases h
      | cons y s =>
        rw [List.map_cons, List.map_cons] at h
        injection h with h3 h4
        cases h3
        rw [ih s h4]
  exact inj ks ks2 h2
theorem nice_pair {a b : PyData} {k n p : Nat} (ha : Nice a k n) (hb : Nice b k p) : Nice (.tuple [a, b]) (k + 1) (n + p + 20) := by
  refine ⟨by simp [PyData.showable, PyData.showableAll, ha.sh, hb.sh], ?_, ?_⟩
  · simp only [PyData.depth, PyData.depthAll]
    have := ha.dp
    have := hb.dp
    omega
  · simp only [PyData.shown]
    have z := fmt_text (PyData.shownAll [a, b])
    have y : piled (PyData.shownAll [a, b]) ≤ n + p + 8 := by
      simp only [PyData.shownAll, piled_cons, piled_nil]
      have := ha.sz
      have := hb.sz
      omega
    omega
theorem eqv_kys : ∀ ks : List Ky, PyData.eqvAll (ks.map kyP) (ks.map kyP) = true
  | [] => by simp [PyData.eqvAll]
  | k :: r => by
    have := eqv_kys r
    simp [kyP, PyData.eqvAll, PyData.eqv, this]
theorem eqv_rw (ks : List Ky) : PyData.eqv (rwP ks) (rwP ks) = true := by
  unfold rwP
  simp [PyData.eqv, eqv_kys]
/-- read_disc, asked -/
structure Rd (P : Program) (w : World) (K : PySem.W.Frag) (mg : Str → Option Value) (base : Heap) (C : Addr) (e : Ex) (f : Addr) (fd : FuncData) : Prop where
  ok : FnOk P w K mg base (L2.CX P w) 10 f fd ["text"] (spRd K C e)
  mgf : mg "read_disc" = some (.ref f)
  kp : PySem.W.keepIn K (.ref f) = true
  bd : Binds K fd ["text"] []
def spRow : Sp := fun vs H Q _ => ∃ (x : Str), vs = [.str x] ∧ x.length ≤ 50000 ∧ ∀ H', L2.Same H H' → Q (.bl true) H'
theorem ok_row {f : Addr} {fd : FuncData} {e : Ex} {fG fE fS : Addr} {fdG fdE fdS : FuncData} {fT : Addr} {fdT : FuncData} (D : Df K mg "_law_right_row" ["_law_row"] sRightRow f fd) (T : Txt K mg C e) (G : Dc P w K mg base C e fG fdG) (O : Own P w K mg base C fE fS fdE fdS) (R : Rd P w K mg base C e fT fdT) (cLd : Ca P w K mg base 4 "_law_disc_in" ["_law_row"] (spLd K)) (cA : Ca P w K mg base 1 "_law_alone" ["_law_e"] (spAlone e)) : Gn P w K mg base 11 f fd ["_law_row"] spRow := by
  refine gn_body D.fn scRightRow (fun vs H Q E h => ?_) (fun cdv A outer s H vs Q E hg hr h => ?_)
  · obtain ⟨x, rfl, lx, q⟩ := h
    rfl
  · obtain ⟨x, rfl, lx, q⟩ := h
    refine ⟨_, (pss_cons (ps_par3 (i := 1) (j := 2) (l := 3) (by rfl) scRightRow.nd rfl rfl rfl (by decide) (by decide) (by decide) rfl rfl rfl (pa_cons (pe_ca cLd hr (by decide) (by rfl) (pa_cons (pv 0) pa_nil)) (pa_cons pe_non (pa_cons pe_non pa_nil))) (by rfl))
      (pss_cons (ps_try_keep (i := 4) (C1 := e.NotSuch) (C2 := e.Lost) (C3 := e.Taken) rfl rfl rfl scRightRow.nd rfl rfl ⟨by rfl, by decide, T.mNotSuch⟩ ⟨by rfl, by decide, T.mLost⟩ ⟨by rfl, by decide, T.mTaken⟩ takes0 (fun W pn xe tk _ =>
        (pss_one (ps_set (i := 3) scRightRow.nd rfl (.inl rfl) (pe_callS R.ok (hr.mono (by decide)) (by rfl) R.mgf R.kp R.bd (fun σ => passAt tk σ) (pa_cons (pv 0) pa_nil))))) (fun a pn => pss_one (ps_set (i := 2) scRightRow.nd rfl (.inl rfl) (pv 4))))
      (pss_cons (ps_if (PW.pt (pw_or (pt_cmpR op_isN (pv 1) pe_non (nomark _)) (pw_or1 (pt_cmpR op_notN (pv 2) pe_non (nomark _))))) (pss_one (ps_ret (pe_and (pe_cmpR op_isN (pv 1) pe_non (nomark _)) (pe_and (pe_ca cA hr (by decide) (by rfl) (pa_cons (pv 2) pa_nil)) (pe_one (pe_cmpR (op_eqD hr.units) (pe_tup (pa_cons (pe_kf T.xc T.f1 (pv 2)) (pa_cons (pe_kf T.xc T.f2 (pv 2)) pa_nil))) (pe_tup (pa_cons pe_int (pa_cons pe_str pa_nil))) (nomark _))))))) pss_nil)
      (pss_cons (ps_if (PW.pt (pw_or (pt_not (pt_val (pe_callB call_isi (by rfl) T.isi (by decide +kernel) (pa_cons (pv 3) (pa_cons (pe_glob (v := .ref C) (by rfl) T.mgC rfl) pa_nil))))) (pw_or (pt_cmpR (op_neL O.W (hr.mono (by decide)) O.okE O.bdE) (pv 3) (pe_make G.mm G.ok (hr.mono (by decide)) (by rfl) T.mgC G.bd .nil pass0 (pa_cons (pe_ix ix_tup (pv 1) pe_int (fun _ _ => rfl)) (pa_cons (pe_ix ix_tup (pv 1) pe_int (fun _ _ => rfl)) pa_nil))) (nomark _)) (pw_or1 (pt_cmpR op_ne (pe_callTy (cr_strO O.hs O.sf (hr.mono (by decide)) O.okS O.bdS) (by rfl) T.str (by decide +kernel) (pa_cons (pv 3) pa_nil)) (pv 0) (nomark _)))))) (pss_one (ps_ret pe_bl)) pss_nil)
      (pss_one (ps_ret (pe_cmpR op_eq (pe_callB (cr_reprZ hg hr) (by rfl) T.repr (by decide +kernel) (pa_cons (pe_tup (pa_cons (pe_fld (pv 3) rfl) (pa_cons (pe_fld (pv 3) rfl) pa_nil))) pa_nil)) (pe_callB (cr_reprZ hg hr) (by rfl) T.repr (by decide +kernel) (pa_cons (pv 1) pa_nil)) (nomark _)))))))), ?_⟩
    refine ⟨_, rfl, x, rfl, lx, fun l ks v ex t u H1 s1 et rw1 => ?_, fun no H1 s1 => ?_⟩
    · -- a disc
      refine ⟨_, _, _, rfl, ?_⟩
      have notno : ¬ ∀ l ks, Vd l ks → x ≠ discT l ks := fun h => h l ks v ex
      refine ⟨_, rfl, x, rfl, lx, fun l2 ks2 v2 ex2 o t2 H2 s2 da rw2 => ?_, fun no => absurd no notno⟩
      obtain ⟨rfl, rfl⟩ := disc_inj v v2 ex ex2
      have et2 := s2 _ _ et
      have rwu := rw1.same s2
      have s02 := s1.trans s2
      obtain ⟨dy, eo⟩ := id da
      have l8 := v.l8
      have l1 := v.l1
      have k30 := v.k30
      have k1 := v.k1
      refine ⟨_, rfl, rfl, _, rfl, iteF ⟨_, rfl, rfl, _, rfl, iteF ?_⟩⟩
      refine ⟨_, rfl, _, _, _, _, true, rfl, .own C, .base (.ins eo T.cl T.ins.ha T.ins.hn T.ins.htk T.ins.hm), O.Z.me, true, rfl, iteF ?_⟩
      have made : ∀ {Hx : Hp} {o dx : Addr}, Hx o = none → Hx dx = none → L2.Same Hx (L2.upd (L2.upd Hx dx (.own o)) o (.ins C dx [])) := fun {Hx o dx} no nd b z e => by
        rw [upd_ne (ne_of_none e no), upd_ne (ne_of_none e nd)]
        exact e
      refine ⟨_, rfl, _, rfl, t, _, 0, .str l2, rfl, rfl, SqT.of et2, rfl, _, rfl, t, _, 1, .ref u, rfl, rfl, SqT.of et2, rfl, fun o2 dx2 no nd ne => ?_⟩
      refine ⟨o2, dx2, .str l2, .ref u, .str l2, rwP ks2, rfl, upd_same, .str l2, (show St (.str l2) from fun y e => by cases e; omega), rwu.1.same (made no nd), s3_rw v.gk (by omega), ofT_yes l1 l8 v.ll, (rw_iff v.gk).mpr ⟨k1, k30⟩, fun H5 keep al => ⟨rfl, ?_⟩⟩
      have s5 : L2.Same H2 H5 := fun b z e => keep b z (made no nd b z e) (ne_of_none e no)
      obtain ⟨dz2, eo2⟩ := id al
      have da5 := da.same s5
      have rw5 := rw2.same s5
      have rwu5 := rwu.same s5
      have eo5 := s5 _ _ eo
      refine ⟨o, dy, _, o2, dz2, _, rfl, eo5, rfl, eo2, o, .ref o2, l2, .ref t2, ks2, rfl, da5, rw5, .inr ⟨o2, l2, .ref u, ks2, rfl, al, rwu5, _, rfl, _, rfl, ?_⟩⟩
      have ev : (!(decide (l2 = l2) && PyData.eqv (rwP ks2) (rwP ks2))) = false := by rw [eqv_rw, decide_eq_true rfl]; rfl
      rw [ev]
      refine iteF ⟨_, rfl, o, dy, _, rfl, eo5, o, l2, .ref t2, ks2, rfl, da5, l8, rw5, fun H6 s6 => ⟨_, rfl, _, rfl, rfl, _, rfl, ?_⟩⟩
      have e1 : (!decide (V.str (discT l2 ks2) = V.str x)) = false := by rw [← ex2]; simp
      rw [e1]
      refine iteF ?_
      have eo6 := s6 _ _ eo5
      have rw6 := rw5.same s6
      have et6 := s6 _ _ (s5 _ _ et2)
      have rwu6 := rwu5.same s6
      have nc : Nice (.tuple [.str l2, rwP ks2]) 5 10000 := (nice_pair (k := 3) (n := 200) (p := 5000) ((nice_str (n := 200) (Nat.le_trans (PySem.StrLaws.reprText_len l2 (asc8 v.ll)) (by omega))).mono (by decide) (Nat.le_refl _)) (nice_rw v.gk (by omega))).mono (by decide) (by decide)
      have dp : (PyData.tuple [.str l2, rwP ks2]).depth ≤ 60 := Nat.le_trans nc.dp (by decide)
      have fs : (PyData.tuple [.str l2, rwP ks2]).shown.length ≤ sizeLine := fitN (Nat.le_trans nc.sz (by decide))
      refine ⟨_, rfl, o, C, dy, _, _, rfl, eo6, T.cl, T.nL, f_l _ _, _, rfl, o, C, dy, _, _, rfl, eo6, T.cl, T.nR, f_r _ _, (by show 2 ≤ sizeLine; decide), fun t3 nt3 => ?_⟩
      have s7 := same_upd nt3 (o := .tup [.str l2, .ref t2])
      refine ⟨.ref t3, .tuple [.str l2, rwP ks2], rfl, .tup upd_same (.cons (.str l2) (.cons (rw6.1.same s7) .nil)), nc.sh, dp, fs, _, rfl, .ref t, .tuple [.str l2, rwP ks2], rfl, .tup (s7 _ _ et6) (.cons (.str l2) (.cons (rwu6.1.same s7) .nil)), nc.sh, dp, fs, rfl, ?_⟩
      have eq1 : decide (V.str (PyData.tuple [.str l2, rwP ks2]).shown = V.str (PyData.tuple [.str l2, rwP ks2]).shown) = true := by simp
      rw [eq1]
      exact q _ (((s02.trans s5).trans s6).trans s7)
    · -- none
      refine ⟨_, _, _, rfl, ?_⟩
      refine ⟨_, rfl, x, rfl, lx, fun l ks v ex => absurd ex (no l ks v), fun _ p H2 s2 ed => ⟨true, T.exm, fun _ y ny => ?_, fun z => nomatch z⟩⟩
      have sy := same_upd ny (o := ExK (.ref e.NoText) (some p) y)
      have kp : Kept (L2.upd H2 y (ExK (.ref e.NoText) (some p) y)) y e.NoText [("wanted", .str "disc"), ("row", .int 0)] := ⟨p, upd_same, sy _ _ ed⟩
      have s02 := (s1.trans s2).trans sy
      generalize L2.upd H2 y (ExK (.ref e.NoText) (some p) y) = H3 at kp s02 ⊢
      refine ⟨_, rfl, ?_⟩
      refine ⟨_, rfl, rfl, _, rfl, iteT ?_⟩
      refine ⟨_, rfl, rfl, ?_⟩
      have e1 : decide (V.non = V.non) = true := rfl
      rw [e1]
      refine ⟨true, rfl, iteT ⟨_, rfl, y, _, rfl, kp, fun H4 s4 => ⟨true, rfl, iteT ?_⟩⟩⟩
      have kp4 := kp.same s4
      have l1 : ([(("wanted" : Str), V.str "disc"), ("row", .int 0)] : List (Str × V)).lookup ("row" : Str) = some (.int 0) := by
        rw [List.lookup_cons, show (("row" : Str) == ("wanted" : Str)) = false by decide +kernel]
        exact List.lookup_cons_self
      have l2 : ([(("wanted" : Str), V.str "disc"), ("row", .int 0)] : List (Str × V)).lookup ("wanted" : Str) = some (.str "disc") := List.lookup_cons_self
      refine ⟨_, rfl, y, _, .int 0, rfl, kp4, l1, _, rfl, y, _, .str "disc", rfl, kp4, l2, (by show 2 ≤ sizeLine; decide), fun t nt => ⟨(by show 2 ≤ sizeLine; decide), fun t2 nt2 => ?_⟩⟩
      have st := same_upd nt (o := .tup [.int 0, .str "disc"])
      have et : (L2.upd H4 t (.tup [.int 0, .str "disc"])) t = some (.tup [.int 0, .str "disc"]) := upd_same
      generalize L2.upd H4 t (.tup [.int 0, .str "disc"]) = H5 at st et nt2 ⊢
      have st2 := same_upd nt2 (o := .tup [.int 0, .str "disc"])
      have sh : SeqAt.shaped (.tuple [.int 0, .str "disc"]) = true := by
        unfold SeqAt.shaped
        have h1 : (PyData.tuple [.int 0, .str "disc"]).canLay0 = true := by simp only [PyData.canLay0, PyData.canLayAll0]; decide +kernel
        have h2 : (PyData.tuple [.int 0, .str "disc"]).depth ≤ 64 := by simp only [PyData.depth, PyData.depthAll]; decide
        rw [h1, decide_eq_true h2]
        rfl
      refine ⟨.tuple [.int 0, .str "disc"], .tuple [.int 0, .str "disc"], .tup (SqT.of (st2 _ _ et)) (.cons (.int 0) (.cons (.str _) .nil)), .tup (SqT.of upd_same) (.cons (.int 0) (.cons (.str _) .nil)), sh, sh, ?_⟩
      have ev : PyData.eqv (.tuple [.int 0, .str "disc"]) (.tuple [.int 0, .str "disc"]) = true := by simp [PyData.eqv, PyData.eqvAll]
      rw [ev]
      exact q _ (((s02.trans s4).trans st).trans st2)
end
end K66
set_option Elab.async false
set_option linter.all false
set_option maxRecDepth 100000
set_option maxHeartbeats 4000000
set_option pp.maxSteps 400
set_option pp.deepTerms false
namespace K66
open PySem PySem.Spec PyProof.Rows L2
open Xk Az Xtx
section
variable {P : Program} {w : World} {K : PySem.W.Frag} {mg : Str → Option Value} {base : Heap} {C : Addr}
def spRight : Sp := fun vs H Q _ => ∃ h, vs = [.ref h] ∧ Hand 0 H h ∧ ∀ H', But h H H' → Q (.bl true) H'
/-- a list of keys -/
def KsL (H : Hp) (h L : Addr) (xs : List V) (ks : List Ky) : Prop := H L = some (.lst xs) ∧ L ≠ h ∧ OksAt H xs (ks.map some) ∧ ∀ k ∈ ks, GoodK k
theorem oks_mem {H : Hp} {v : V} : ∀ {xs : List V} {ks : List Ky}, OksAt H xs (ks.map some) → v ∈ xs → ∃ k ∈ ks, OkAt H v (some k)
  | _ :: _, k :: ks, .cons h r, m => by
    rcases List.mem_cons.mp m with z | z
    · rw [z]; exact ⟨k, List.mem_cons_self, h⟩
    · obtain ⟨k', a, b⟩ := oks_mem r z
      exact ⟨k', List.mem_cons_of_mem _ a, b⟩
  | [], [], .nil, m => by cases m
theorem ok_right {f : Addr} {fd : FuncData} {e : Ex} {fG fE fS : Addr} {fdG fdE fdS : FuncData} {fW : Addr} {fdW : FuncData} (D : Df K mg "_law_right" ["_law_hand_here"] sRight f fd) (T : Txt K mg C e) (G : Dc P w K mg base C e fG fdG) (O : Own P w K mg base C fE fS fdE fdS) (cT : Ca P w K mg base 1 "_law_take" ["_law_hand_here", "_law_many"] spTake) (cP : Ca P w K mg base 2 "_law_pick" ["_law_hand_here", "_law_some"] spPick) (cKy : Ca P w K mg base 3 "_law_key" ["_law_hand_here"] spKy) (cTx : Ca P w K mg base 1 "_law_text_of" ["_law_label", "_law_keys"] spTx) (cBn : Ca P w K mg base 3 "_law_bent" ["_law_hand_here", "_law_text", "_law_words"] spBent) (DW : Df K mg "_law_right_row" ["_law_row"] sRightRow fW fdW) (GW : Gn P w K mg base 11 fW fdW ["_law_row"] spRow) : Gn P w K mg base 12 f fd ["_law_hand_here"] spRight := by
  refine gn_body D.fn scRight (fun vs H Q E h => ?_) (fun cdv A outer s H vs Q E hg hr h => ?_)
  · obtain ⟨h, rfl, hh, q⟩ := h
    rfl
  · obtain ⟨h, rfl, hh, q⟩ := h
    refine ⟨_, (C8.pss_cut (ps_asg (pe_tup (pa_cons (pe_lc (own := [("_law_k", 8)]) (g := gName 8) (tt := tYes) (te := tCall spKy [] E0 (tCons (tVar 0) tNil)) (by rfl) scRight.nd (pi_range1 (by rfl) T.range (pa_cons (pe_ca cP hr (by decide) (by rfl) (pa_cons (pv 0) (pa_cons (pe_lst (pa_cons pe_int (pa_cons pe_int (pa_cons pe_int (pa_cons pe_int (pa_cons pe_int pa_nil)))))) pa_nil))) pa_nil)) (blkOk_by (own := [("_law_k", 8)]) (N := ["_law_hand_here", "_law_keys", "_law_label", "_law_row", "_law_words", "_law_turn", "_law_some", "_law_bend", "_law_k"]) (sc := defScope sRight) (by decide +kernel)) (fun _ _ _ _ _ => pg_name (i := 8) scRight.nd rfl (.inl rfl)) (fun _ _ _ _ _ => pts_nil) (fun _ _ _ _ _ => pe_ca cKy hr (by decide) (by rfl) (pa_cons (pv 0) pa_nil))) (pa_cons (pe_ix ix_tup (pe_ca cKy hr (by decide) (by rfl) (pa_cons (pv 0) pa_nil)) pe_int (fun _ _ => rfl)) pa_nil))) (pg_tup (by rfl) (pgs_cons (pg_name (i := 1) scRight.nd rfl (.inr rfl)) (pgs_cons (pg_name (i := 2) scRight.nd rfl (.inl rfl)) pgs_nil))))
      (C8.pss_cut (ps_set (i := 1) scRight.nd rfl (.inr rfl) (pe_op op_cat (pv 1) (pe_lc (own := [("_law_k", 8)]) (g := gName 8) (tt := tYes) (te := tCall spPick [] E0 (tCons (tVar 0) (tCons (tVar 1) tNil))) (by rfl) scRight.nd (pi_range1 (by rfl) T.range (pa_cons (pe_ca cT hr (by decide) (by rfl) (pa_cons (pv 0) (pa_cons (pe_op op_sub pe_int (pe_callB call_len_seq (by rfl) T.len PySem.boot_len (pa_cons (pv 1) pa_nil))) pa_nil))) pa_nil)) (blkOk_by (own := [("_law_k", 8)]) (N := ["_law_hand_here", "_law_keys", "_law_label", "_law_row", "_law_words", "_law_turn", "_law_some", "_law_bend", "_law_k"]) (sc := defScope sRight) (by decide +kernel)) (fun _ _ _ _ _ => pg_name (i := 8) scRight.nd rfl (.inl rfl)) (fun _ _ _ _ _ => pts_nil) (fun _ _ _ _ _ => pe_ca cP hr (by decide) (by rfl) (pa_cons (pv 0) (pa_cons (pv 1) pa_nil))))))
      (pss_cons (ps_set (i := 3) scRight.nd rfl (.inl rfl) (pe_ca cTx hr (by decide) (by rfl) (pa_cons (pv 2) (pa_cons (pv 1) pa_nil))))
      (pss_cons (ps_if (PW.pt (pw_or (pt_cmpR op_ne (pe_callTy (cr_strO O.hs O.sf (hr.mono (by decide)) O.okS O.bdS) (by rfl) T.str (by decide +kernel) (pa_cons (pe_make G.mm G.ok (hr.mono (by decide)) (by rfl) T.mgC G.bd .nil pass0 (pa_cons (pv 2) (pa_cons (pe_callTy call_tuple_of (by rfl) T.tuple (by decide +kernel) (pa_cons (pv 1) pa_nil)) pa_nil))) pa_nil)) (pv 3) (nomark _)) (pw_or (pt_not (pt_val (pe_gn GW hg hr (by rfl) DW.mgf DW.fn.kp DW.bd (pa_cons (pv 3) pa_nil)))) (pw_or1 (pt_not (pt_val (pe_gn GW hg hr (by rfl) DW.mgf DW.fn.kp DW.bd (pa_cons (pe_op op_add_str (pv 3) pe_str) pa_nil)))))))) (pss_one (ps_ret pe_bl)) pss_nil)
      (pss_cons (ps_set (i := 4) scRight.nd rfl (.inl rfl) (pe_lst (pa_cons pe_str (pa_cons pe_str (pa_cons pe_str (pa_cons pe_str (pa_cons pe_str (pa_cons pe_str (pa_cons pe_str (pa_cons pe_str (pa_cons pe_str (pa_cons (pe_op Xrep.op_rep pe_str pe_int) (pa_cons (pe_op Xrep.op_rep pe_str pe_int) (pa_cons pe_str pa_nil))))))))))))))
      (pss_cons (ps_for PassesOwn.never rfl (pi_range1 (by rfl) T.range (pa_cons pe_int pa_nil)) (pg_name (i := 5) scRight.nd rfl (.inl rfl)) (pss_cons (ps_set (i := 6) scRight.nd rfl (.inl rfl) (pv 3))
      (pss_cons (ps_for PassesOwn.never rfl (pi_range1 (by rfl) T.range (pa_cons (pe_op op_add pe_int (pe_ca cT hr (by decide) (by rfl) (pa_cons (pv 0) (pa_cons pe_int pa_nil)))) pa_nil)) (pg_name (i := 7) scRight.nd rfl (.inl rfl)) (pss_one (ps_set (i := 6) scRight.nd rfl (.inl rfl) (pe_ca cBn hr (by decide) (by rfl) (pa_cons (pv 0) (pa_cons (pv 6) (pa_cons (pv 4) pa_nil)))))))
      (pss_one (ps_if (pt_not (pt_val (pe_gn GW hg hr (by rfl) DW.mgf DW.fn.kp DW.bd (pa_cons (pv 6) pa_nil)))) (pss_one (ps_ret pe_bl)) pss_nil)))))
      (pss_one (ps_ret pe_bl)))))))), ?_⟩
    refine ⟨fun σ Hx => ∃ (L : Addr) (xs : List V) (ks : List Ky) (lb : Str), σ = [some (.ref h), some (.ref L), some (.str lb), none, none, none, none, none, none] ∧ KsL Hx h L xs ks ∧ 1 ≤ ks.length ∧ ks.length ≤ 30 ∧ 1 ≤ lb.length ∧ lb.length ≤ 8 ∧ letts lb ∧ Hand 2000 Hx h ∧ But h H Hx, ?_, ?_⟩
    · refine ⟨_, rfl, (by show 5 ≤ sizeLine; decide), fun l1 n1 => ?_⟩
      have s1 := same_upd n1 (o := .lst [.int 1, .int 2, .int 5, .int 29, .int 30])
      refine ⟨h, 0, _, rfl, hh.same s1, by decide, .inl ⟨l1, _, rfl, upd_same, hh.fresh n1, by simp, by show 5 < 1000; decide, fun v H1 mv h1 b1 => ?_⟩⟩
      obtain ⟨m, rfl, m1, m30⟩ : ∃ m : Int, v = .int m ∧ 1 ≤ m ∧ m ≤ 30 := by
        simp only [List.mem_cons, List.not_mem_nil, or_false] at mv
        rcases mv with e | e | e | e | e <;> exact ⟨_, e, by decide, by decide⟩
      have b01 := (Same.but s1 h).trans b1
      refine ⟨m, rfl, by omega, by omega, fun L nL => ?_⟩
      have Lh := h1.fresh nL
      have HL : H L = none := b01.free Lh nL
      refine lc_range (lo := 0) (fun i Hi => ∃ (xs : List V) (ks : List Ky), Hi L = some (.lst xs) ∧ OksAt Hi xs (ks.map some) ∧ (∀ k ∈ ks, GoodK k) ∧ ks.length = i ∧ Hand (1 + 20 * i) Hi h ∧ But h H Hi) ?_ ?_ ?_
      · exact ⟨[], [], upd_same, .nil, by simp, rfl, (h1.same (same_upd nL)).mono (by omega), b01.trans (Same.but (same_upd nL) h)⟩
      · rintro i Hi hi ⟨xs, ks, eL, oa, gk, lk, hd, bt⟩
        have hi' : i < m.toNat := hi
        refine ⟨rfl, ?_⟩
        unfold tYes
        refine iteT ⟨_, rfl, h, 1 + 20 * i, rfl, hd, by show 1 + 20 * (i : Int) + 100 ≤ 1000000; omega, fun t k H2 et g h2 b2 => ?_⟩
        have eL2 := b2 _ _ Lh eL
        have xl := oa.len
        rw [List.length_map] at xl
        have tp : ∀ b ys, H2 b = some (.tup ys) → (L2.upd H2 L (.lst (xs ++ [.ref t]))) b = some (.tup ys) := fun b ys e => by
          rw [upd_ne (ne_of e eL2 (by intro z; cases z))]
          exact e
        refine ⟨xs, eL2, Nat.lt_of_le_of_lt (show xs.length ≤ 100 by omega) (by decide), xs ++ [.ref t], ks ++ [k], upd_same, ?_, fun y hy => ?_, by rw [List.length_append, lk]; rfl, (h2.upd (Ne.symm Lh)).mono (by push_cast; omega), fun b x nb e => ?_⟩
        · rw [List.map_append]
          exact OksAt.snoc (o := some k) (v := .ref t) ⟨t, rfl, tp _ _ et⟩ ((oa.tp (tp_but hd b2)).tp tp)
        · rcases List.mem_append.mp hy with z | z
          · exact gk y z
          · rw [List.mem_singleton.mp z]; exact g
        · rw [upd_ne (ne_of_none e HL)]
          exact b2 b x nb (bt b x nb e)
      rintro H2 ⟨xs, ks, eL, oa, gk, lk, hd, bt⟩
      have lk' : ks.length = m.toNat := lk
      have hd' : Hand (1 + 20 * ((m.toNat : Nat) : Int)) H2 h := hd
      refine ⟨_, rfl, h, 700, rfl, hd'.mono (by omega), by decide, fun t k H3 et g h3 b3 => ⟨t, _, 0, .str k.1, rfl, rfl, SqT.of et, rfl, (by show 2 ≤ sizeLine; decide), fun tt ntt => ?_⟩⟩
      have st := same_upd ntt (o := .tup [.ref L, .str k.1])
      refine ⟨tt, _, rfl, SqT.of upd_same, rfl, _, _, rfl, _, _, rfl, rfl, ?_⟩
      exact ⟨L, xs, ks, k.1, rfl, ⟨st _ _ (b3 _ _ Lh eL), Lh, (oa.tp (tp_but hd b3)).tp fun b xs e => st _ _ e, gk⟩, by omega, by omega, g.w1, g.w8, g.ws, (h3.same st).mono (by decide), (bt.trans b3).trans (Same.but st h)⟩
    rintro σ Hx ⟨L, xs, ks, lb, rfl, kl, k1, k30, l1, l8, ll, hx, bt⟩
    -- more of the same keys
    refine ⟨fun σ Hy => ∃ (L : Addr) (xs : List V) (ks : List Ky), σ = [some (.ref h), some (.ref L), some (.str lb), none, none, none, none, none, none] ∧ KsL Hy h L xs ks ∧ 1 ≤ ks.length ∧ ks.length ≤ 30 ∧ Hand 3000 Hy h ∧ But h H Hy, ?_, ?_⟩
    · obtain ⟨eL, Lh, oa, gk⟩ := kl
      have xl := oa.len
      rw [List.length_map] at xl
      refine ⟨_, rfl, _, rfl, _, rfl, L, xs, rfl, .inl (SqL.of eL), 31, _, rfl, rfl, h, 31 - (xs.length : Int), 2000, rfl, by omega, Int.lt_trans (show 31 - (xs.length : Int) < 1000000 by omega) (by decide), hx, by decide, fun d H1 d0 d1 h1 b1 => ?_⟩
      refine ⟨d, rfl, by omega, by omega, fun M nM => ?_⟩
      have Mh := h1.fresh nM
      have b01 := bt.trans b1
      have HM : H M = none := b01.free Mh nM
      have LM : L ≠ M := ne_of_none (b1 _ _ Lh eL) nM
      refine lc_range (lo := 0) (fun i Hi => ∃ (ys : List V) (ls : List Ky), Hi M = some (.lst ys) ∧ OksAt Hi ys (ls.map some) ∧ (∀ k ∈ ls, GoodK k) ∧ ls.length = i ∧ Hi L = some (.lst xs) ∧ OksAt Hi xs (ks.map some) ∧ Hand (2001 + i) Hi h ∧ But h H Hi) ?_ ?_ ?_
      · exact ⟨[], [], upd_same, .nil, by simp, rfl, by rw [upd_ne LM]; exact b1 _ _ Lh eL, (oa.tp (tp_but hx b1)).tp fun b xs e => same_upd nM _ _ e, (h1.same (same_upd nM)).mono (by omega), b01.trans (Same.but (same_upd nM) h)⟩
      · rintro i Hi hi ⟨ys, ls, eM, ob, gl, ll2, eL1, oa1, hd, bt1⟩
        have hi' : i < d.toNat := hi
        refine ⟨rfl, ?_⟩
        unfold tYes
        refine iteT ⟨_, rfl, _, rfl, h, 2001 + i, _, rfl, hd, by show 2001 + (i : Int) ≤ 1000000; omega, .inl ⟨L, xs, rfl, eL1, Lh, fun z => by rw [z] at xl; simp only [List.length_nil] at xl; omega, by omega, fun v H2 mv h2 b2 => ?_⟩⟩
        obtain ⟨k, mk, ok⟩ := oks_mem oa1 mv
        have eM2 := b2 _ _ Mh eM
        have yl := ob.len
        rw [List.length_map] at yl
        have tp : ∀ b zs, H2 b = some (.tup zs) → (L2.upd H2 M (.lst (ys ++ [v]))) b = some (.tup zs) := fun b zs e => by
          rw [upd_ne (ne_of e eM2 (by intro z; cases z))]
          exact e
        have t2 := tp_but hd b2
        refine ⟨ys, eM2, Nat.lt_of_le_of_lt (show ys.length ≤ 100 by omega) (by decide), ys ++ [v], ls ++ [k], upd_same, ?_, fun y hy => ?_, by rw [List.length_append, ll2]; rfl, by rw [upd_ne LM]; exact b2 _ _ Lh eL1, (oa1.tp t2).tp tp, (h2.upd (Ne.symm Mh)).mono (by push_cast; omega), fun b x nb e => ?_⟩
        · rw [List.map_append]
          exact OksAt.snoc (o := some k) ((ok.tp t2).tp tp) ((ob.tp t2).tp tp)
        · rcases List.mem_append.mp hy with z | z
          · exact gl y z
          · rw [List.mem_singleton.mp z]; exact gk k mk
        · rw [upd_ne (ne_of_none e HM)]
          exact b2 b x nb (bt1 b x nb e)
      rintro H2 ⟨ys, ls, eM, ob, gl, ll2, eL1, oa1, hd, bt1⟩
      have ll2' : ls.length = d.toNat := ll2
      have hd' : Hand (2001 + ((d.toNat : Nat) : Int)) H2 h := hd
      have yl := ob.len
      rw [List.length_map] at yl
      refine ⟨L, M, xs, ys, rfl, rfl, eL1, eM, Nat.le_trans (show _ ≤ 200 by omega) (by decide), fun p np => ?_⟩
      have sp := same_upd np (o := .lst (xs ++ ys))
      have app : ∀ {us vs : List V} {as bs : List (Option Ky)}, OksAt (L2.upd H2 p (.lst (xs ++ ys))) us as → OksAt (L2.upd H2 p (.lst (xs ++ ys))) vs bs → OksAt (L2.upd H2 p (.lst (xs ++ ys))) (us ++ vs) (as ++ bs) := fun {us vs as bs} a b => by
        induction a with
        | nil => exact b
        | cons h _ ih => exact .cons h ih
      refine ⟨p, xs ++ ys, ks ++ ls, rfl, ⟨upd_same, hd.fresh np, ?_, fun k hk => ?_⟩, by rw [List.length_append]; omega, by rw [List.length_append]; omega, (hd'.same sp).mono (by omega), bt1.trans (Same.but sp h)⟩
      · rw [List.map_append]
        exact app (oa1.tp fun b xs e => sp _ _ e) (ob.tp fun b xs e => sp _ _ e)
      · rcases List.mem_append.mp hk with z | z
        · exact gk k z
        · exact gl k z
    rintro σ Hy ⟨L, xs, ks, rfl, kl, k1, k30, hx, bt⟩
    obtain ⟨eL, Lh, oa, gk⟩ := kl
    have xl := oa.len
    rw [List.length_map] at xl
    have lk := kysT_len gk (by omega)
    have d5 : ("disc " : Str).length = 5 := by decide +kernel
    have d2 : (": " : Str).length = 2 := by decide +kernel
    have a5 : (", a 0" : Str).length = 5 := by decide +kernel
    have lX : (discT lb ks).length ≤ 2015 := by
      unfold discT
      rw [strLen_append, strLen_append, strLen_append, d5, d2]
      omega
    refine ⟨_, rfl, _, rfl, lb, L, xs, ks, rfl, eL, oa, gk, by omega, l8, fun H1 s1 => ?_⟩
    have eL1 := s1 _ _ eL
    have oa1 := oa.tp fun b zs e => s1 _ _ e
    have made : ∀ {Hx : Hp} {o dx : Addr}, Hx o = none → Hx dx = none → L2.Same Hx (L2.upd (L2.upd Hx dx (.own o)) o (.ins C dx [])) := fun {Hx o dx} no nd b z e => by
      rw [upd_ne (ne_of_none e no), upd_ne (ne_of_none e nd)]
      exact e
    refine ⟨_, rfl, _, rfl, L, xs, rfl, .inl ⟨SqL.of eL1, fun u nu => ?_⟩⟩
    have su := same_upd nu (o := .tup xs)
    have eu : (L2.upd H1 u (.tup xs)) u = some (.tup xs) := upd_same
    generalize L2.upd H1 u (.tup xs) = H2 at su eu ⊢
    have dzu : Dz K H2 (.ref u) (rwP ks) := .tup eu (oa1.tp fun b zs e => su _ _ e).dzk
    refine fun o dx no nd ne => ⟨o, dx, .str lb, .ref u, .str lb, rwP ks, rfl, upd_same, .str lb, (show St (.str lb) from fun y e => by cases e; omega), dzu.same (made no nd), s3_rw gk (by omega), ofT_yes l1 l8 ll, (rw_iff gk).mpr ⟨k1, k30⟩, fun H3 keep al => ⟨rfl, ?_⟩⟩
    have s3 : L2.Same H2 H3 := fun b z e => keep b z (made no nd b z e) (ne_of_none e no)
    obtain ⟨dy, eo⟩ := id al
    refine ⟨o, dy, _, rfl, eo, o, lb, .ref u, ks, rfl, al, l8, ⟨dzu.same s3, gk, k1, by omega⟩, fun H4 s4 => ⟨_, rfl, _, rfl, rfl, _, rfl, ?_⟩⟩
    have e1 : (!decide (V.str (discT lb ks) = V.str (discT lb ks))) = false := by simp
    rw [e1]
    refine iteF ⟨_, rfl, _, rfl, by omega, fun H5 s5 => ⟨true, rfl, iteF ?_⟩⟩
    refine ⟨_, rfl, _, _, rfl, rfl, fitN (by rw [a5]; omega), _, rfl, by rw [strLen_append, a5]; omega, fun H6 s6 => ⟨true, rfl, iteF ?_⟩⟩
    have sall := (((((s1.trans su).trans s3).trans s4).trans s5).trans s6)
    have h6 := hx.same sall
    have b6 := bt.trans (Same.but sall h)
    clear sall s1 su s3 s4 s5 s6 hx bt eL eL1 oa oa1 eu dzu eo
    -- words
    refine ⟨"1", 31, rfl, rfl, by decide, by decide, "9", 30, rfl, rfl, by decide, by decide, (by show 12 ≤ sizeLine; decide), fun W nW => ?_⟩
    have Wh := h6.fresh nW
    have HW : H W = none := b6.free Wh nW
    have eW : (L2.upd H6 W (.lst [.str "disc", .str "a 0", .str "ab 10", .str "a 00", .str "a", .str "0", .str ":", .str "Disc", .str "abcdefghi 1", .str (Xrep.rep "1" 31), .str (Xrep.rep "9" 30), .str ""])) W = some (.lst ([("disc" : Str), "a 0", "ab 10", "a 00", "a", "0", ":", "Disc", "abcdefghi 1", Xrep.rep "1" 31, Xrep.rep "9" 30, ""].map V.str)) := upd_same
    have w60 : ∀ w ∈ [("disc" : Str), "a 0", "ab 10", "a 00", "a", "0", ":", "Disc", "abcdefghi 1", Xrep.rep "1" 31, Xrep.rep "9" 30, ""], w.length ≤ 60 := by decide +kernel
    have sW := same_upd nW (o := .lst [.str "disc", .str "a 0", .str "ab 10", .str "a 00", .str "a", .str "0", .str ":", .str "Disc", .str "abcdefghi 1", .str (Xrep.rep "1" 31), .str (Xrep.rep "9" 30), .str ""])
    generalize L2.upd H6 W (.lst [.str "disc", .str "a 0", .str "ab 10", .str "a 00", .str "a", .str "0", .str ":", .str "Disc", .str "abcdefghi 1", .str (Xrep.rep "1" 31), .str (Xrep.rep "9" 30), .str ""]) = H7 at eW sW ⊢
    have h7 := h6.same sW
    have b7 := b6.trans (Same.but sW h)
    have wne : [("disc" : Str), "a 0", "ab 10", "a 00", "a", "0", ":", "Disc", "abcdefghi 1", Xrep.rep "1" 31, Xrep.rep "9" 30, ""] ≠ [] := by simp
    have wlen : [("disc" : Str), "a 0", "ab 10", "a 00", "a", "0", ":", "Disc", "abcdefghi 1", Xrep.rep "1" 31, Xrep.rep "9" 30, ""].length < 1000 := by decide
    generalize [("disc" : Str), "a 0", "ab 10", "a 00", "a", "0", ":", "Disc", "abcdefghi 1", Xrep.rep "1" 31, Xrep.rep "9" 30, ""] = ws at eW w60 wne wlen
    refine ⟨6, rfl, by decide, by decide, for_range (lo := 0) (n := 6) (fun i σ Hi => ∃ (c5 c6 c7 c8 : Option V), σ = [some (.ref h), some (.ref L), some (.str lb), some (.str (discT lb ks)), some (.ref W), c5, c6, c7, c8] ∧ Hi W = some (.lst (ws.map V.str)) ∧ Hand (3000 + 50 * i) Hi h ∧ But h H Hi) ?_ ?_ ?_⟩
    · exact ⟨_, _, _, _, rfl, eW, h7.mono (by omega), b7⟩
    · rintro i σ Hi hi ⟨c5, c6, c7, c8, rfl, eWi, hdi, bi⟩
      have hi' : i < 6 := hi
      refine ⟨_, rfl, _, rfl, h, 2, 3000 + 50 * i, rfl, by decide, by decide, hdi, by show 3000 + 50 * (i : Int) ≤ 1000000; omega, fun d H8 d0 d1 h8 b8 => ?_⟩
      refine ⟨_, _, rfl, rfl, _, rfl, by omega, by omega, for_range (lo := 0) (n := (1 + d).toNat) (fun j σ Hj => ∃ (c5 c7 c8 : Option V) (y : Str), σ = [some (.ref h), some (.ref L), some (.str lb), some (.str (discT lb ks)), some (.ref W), c5, some (.str y), c7, c8] ∧ y.length ≤ (if j = 0 then 2015 else if j = 1 then 6245 else 18935) ∧ Hj W = some (.lst (ws.map V.str)) ∧ Hand (3000 + 50 * i + 1 + 10 * j) Hj h ∧ But h H Hj) ?_ ?_ ?_⟩
      · exact ⟨_, _, _, _, rfl, by rw [if_pos rfl]; exact lX, b8 _ _ Wh eWi, h8.mono (by omega), bi.trans b8⟩
      · rintro j σ Hj hj ⟨c5, c7, c8, y, rfl, ly, eWj, hdj, bj⟩
        have hj' : j < (1 + d).toNat := hj
        have j2 : j < 2 := by omega
        have ly2 : y.length ≤ 6245 := by split at ly <;> (try split at ly) <;> omega
        refine ⟨_, rfl, _, rfl, _, rfl, h, W, 3000 + 50 * i + 1 + 10 * j, y, ws, rfl, eWj, Wh, wne, wlen, w60, by omega, hdj, by show 3000 + 50 * (i : Int) + 1 + 10 * (j : Int) + 20 ≤ 1000000; omega, fun z H9 lz h9 b9 => ?_⟩
        refine ⟨_, _, _, z, rfl, ?_, b9 _ _ Wh eWj, h9.mono (by push_cast; omega), bj.trans b9⟩
        rw [if_neg (by omega)]
        by_cases j0 : j = 0
        · rw [if_pos (by omega)]
          rw [if_pos j0] at ly
          omega
        · rw [if_neg (by omega)]
          omega
      rintro σ Hj ⟨c5, c7, c8, y, rfl, ly, eWj, hdj, bj⟩
      have ly2 : y.length ≤ 18935 := by split at ly <;> (try split at ly) <;> omega
      refine ⟨_, rfl, y, rfl, by omega, fun H9 s9 => ⟨true, rfl, iteF ?_⟩⟩
      exact ⟨_, _, _, _, rfl, s9 _ _ eWj, (hdj.same s9).mono (by push_cast; omega), bj.trans (Same.but s9 h)⟩
    · rintro σ Hi ⟨c5, c6, c7, c8, rfl, eWi, hdi, bi⟩
      exact q _ bi
end
end K66
set_option Elab.async false
set_option linter.all false
set_option maxRecDepth 100000
set_option maxHeartbeats 4000000
set_option pp.maxSteps 400
set_option pp.deepTerms false
namespace K66
open PySem PySem.Spec PyProof.Rows L2
open Xk Az Xtx
section
variable {P : Program} {w : World} {K : PySem.W.Frag} {mg : Str → Option Value} {base : Heap} {C : Addr}
def spLaw (K : PySem.W.Frag) : Sp := fun vs H Q _ => ∃ (a : Addr) (ns : List Int), vs = [.ref a] ∧ SqL K H a (ns.map V.int) ∧ ns.length ≤ 63 ∧ ∀ H', Q (.bl true) H'
theorem ok_law {f : Addr} {fd : FuncData} {e : Ex} {fR : Addr} {fdR : FuncData} (D : Df K mg "law" ["_law_script"] sLaw f fd) (T : Txt K mg C e) (cH : Ca P w K mg base 1 "_law_hand" ["_law_script", "_law_k"] (spHand K)) (DR : Df K mg "_law_right" ["_law_hand_here"] sRight fR fdR) (GR : Gn P w K mg base 12 fR fdR ["_law_hand_here"] spRight) : Gn P w K mg base 13 f fd ["_law_script"] (spLaw K) := by
  refine gn_body D.fn scLaw (fun vs H Q E h => ?_) (fun cdv A outer s H vs Q E hg hr h => ?_)
  · obtain ⟨a, ns, rfl, hS, hlen, q⟩ := h
    rfl
  · obtain ⟨a, ns, rfl, hS, hlen, q⟩ := h
    refine ⟨_, (pss_one (ps_ret (pe_callB (cr_all (by rfl)) (by rfl) T.all (by decide +kernel) (pa_cons (pe_lc (own := [("_law_k", 1)]) (g := gName 1) (tt := tYes) (te := tCall spRight [] E0 (tCons (tCall (spHand K) [] E0 (tCons (tVar 0) (tCons (tVar 1) tNil))) tNil)) (by rfl) scLaw.nd (pi_range1 (by rfl) T.range (pa_cons (pe_op op_add pe_int (pe_callB (call_min2 (by rfl)) (by rfl) T.min (by decide +kernel) (pa_cons pe_int (pa_cons (pe_callB call_len_seq (by rfl) T.len PySem.boot_len (pa_cons (pv 0) pa_nil)) pa_nil)))) pa_nil)) (blkOk_by (own := [("_law_k", 1)]) (N := ["_law_script", "_law_k"]) (sc := defScope sLaw) (by decide +kernel)) (fun _ _ _ _ _ => pg_name (i := 1) scLaw.nd rfl (.inl rfl)) (fun _ _ _ _ _ => pts_nil) (fun _ _ _ _ _ => pe_gn GR hg hr (by rfl) DR.mgf DR.fn.kp DR.bd (pa_cons (pe_ca cH hr (by decide) (by rfl) (pa_cons (pv 0) (pa_cons (pv 1) pa_nil))) pa_nil))) pa_nil)))), ?_⟩
    refine ⟨_, rfl, a, _, rfl, .inl hS, 4, _, rfl, _, _, rfl, rfl, _, rfl, ?_, ?_, fun L nL => ?_⟩
    · show -(2 ^ 62) ≤ 2 + (if ((ns.map V.int).length : Int) < 4 then ((ns.map V.int).length : Int) else 4)
      split <;> omega
    · show 2 + (if ((ns.map V.int).length : Int) < 4 then ((ns.map V.int).length : Int) else 4) < 2 ^ 62
      split <;> omega
    refine lc_range (lo := 0) (fun i Hi => L2.Same H Hi ∧ Hi L = some (.lst ((List.replicate i true).map V.bl))) ⟨same_upd nL, upd_same⟩ ?_ ?_
    · rintro i Hi hi ⟨sm, hL⟩
      have hi' : i < 7 := by
        have : i < (2 + (if ((ns.map V.int).length : Int) < 4 then ((ns.map V.int).length : Int) else 4)).toNat := hi
        split at this <;> omega
      refine ⟨rfl, ?_⟩
      unfold tYes
      refine iteT ?_
      refine ⟨_, rfl, _, rfl, a, 0 + (i : Int), ns, rfl, by omega, sm.seq hS, fun p g m' np g0 m0' m1' => ?_⟩
      refine ⟨p, rfl, ⟨g, m', 0, upd_same, g0, m0', m1', Int.le_refl _, Int.le_refl _⟩, fun H' bt => ?_⟩
      have nLp : L ≠ p := ne_of_none hL np
      refine ⟨_, bt L _ nLp (same_upd np _ _ hL), ?_, fun b o e => ?_, ?_⟩
      · rw [List.length_map, List.length_replicate]
        exact Nat.lt_of_le_of_lt (show i ≤ 1000 by omega) (by decide)
      · rw [upd_ne (ne_of_none e nL)]
        have e2 := sm _ _ e
        exact bt _ _ (ne_of_none e2 np) (same_upd np _ _ e2)
      · rw [upd_same, List.replicate_succ', List.map_append]
        rfl
    · rintro He ⟨sm, hL⟩
      refine ⟨L, _, rfl, SqL.of hL, ?_⟩
      rw [show (List.replicate _ true).all id = true from List.all_eq_true.mpr fun b hb => (List.mem_replicate.mp hb).2]
      exact q _
end
end K66
set_option Elab.async false
set_option linter.all false
set_option maxRecDepth 100000
set_option maxHeartbeats 4000000
set_option pp.maxSteps 400
set_option pp.deepTerms false
namespace K66
open PySem PySem.Spec PyProof.Rows L2
open Xk Az Xtx
theorem kit_self {K : PySem.W.Frag} {C : Addr} : PySem.W.kitOne K (.ref C) (.ref C) = some true := by
  unfold PySem.W.kitOne
  simp
theorem kit_in {K : PySem.W.Frag} {t : Value} {c : Addr} {b : Bool} (ic : PySem.W.isClsIn K c = true) (ty : PySem.W.typeIn K (.ref c) = some (.type "type")) (sb : PySem.W.subIn K t (.ref c) = some b) : PySem.W.kitCls K t (.ref c) = some b := by
  have h : ((PySem.W.clsIn K c).isSome && PySem.W.typeIn K (.ref c) == some (.type "type")) = true := by
    rw [show (PySem.W.clsIn K c).isSome = true from ic, ty]
    rfl
  unfold PySem.W.kitCls
  simp only [h, if_true]
  exact sb
theorem kit_no {K : PySem.W.Frag} {a c : Addr} (ic : PySem.W.isClsIn K c = true) (ty : PySem.W.typeIn K (.ref c) = some (.type "type")) (sb : PySem.W.subIn K (.ref a) (.ref c) = some false) (me : PySem.W.subIn K (.ref a) (.ref a) = some true) :
    PySem.W.kitOne K (.ref a) (.ref c) = some false := by
  have ne : ((Value.ref a == Value.ref c) = true) = False := by
    refine propext ⟨fun z => ?_, False.elim⟩
    have z2 : a = c := Value.ref.inj (beq_iff_eq.mp z)
    rw [← z2, me] at sb
    cases sb
  unfold PySem.W.kitOne
  simp only [ne, if_false]
  exact kit_in ic ty sb
theorem kit_yes {K : PySem.W.Frag} {a c : Addr} (ic : PySem.W.isClsIn K c = true) (ty : PySem.W.typeIn K (.ref c) = some (.type "type")) (sb : PySem.W.subIn K (.ref a) (.ref c) = some true) : PySem.W.kitOne K (.ref a) (.ref c) = some true := by
  unfold PySem.W.kitOne
  split
  · rfl
  · exact kit_in ic ty sb
theorem kit_ve {K : PySem.W.Frag} {a : Addr} (sb : PySem.W.subIn K (.ref a) (.type "ValueError") = some true) : PySem.W.kitOne K (.ref a) (.type "ValueError") = some true := by
  have h : PySem.W.kitMeta "ValueError" = true := by decide +kernel
  unfold PySem.W.kitOne PySem.W.kitCls
  split
  · rfl
  · simp only [h, if_true]
    exact sb
theorem kit_skip {K : PySem.W.Frag} {t c : Value} {r : List Value} {b : Bool} (h : PySem.W.kitOne K t c = some false) (hr : PySem.W.kitAny K t r = some b) : PySem.W.kitAny K t (c :: r) = some b := by
  unfold PySem.W.kitAny
  rw [h]
  exact hr
theorem exm_is {K : PySem.W.Frag} {t : Value} {c : Addr} {b : Bool} (ic : PySem.W.isClsIn K c = true) (ty : PySem.W.typeIn K (.ref c) = some (.type "type")) (be : PySem.W.subIn K (.ref c) (.type "BaseException") = some true) (sb : PySem.W.subIn K t (.ref c) = some b) :
    PySem.W.exmOne K t (.ref c) = some b := by
  unfold PySem.W.exmOne
  rw [be, if_pos (by decide)]
  exact kit_in ic ty sb
theorem exm_3 {K : PySem.W.Frag} {t c1 c2 c3 : Value} {b2 b3 : Bool} (h1 : PySem.W.exmOne K t c1 = some true) (h2 : PySem.W.exmOne K t c2 = some b2) (h3 : PySem.W.exmOne K t c3 = some b3) : PySem.W.exmAny K t [c1, c2, c3] = some true := by
  unfold PySem.W.exmAny PySem.W.exmAny PySem.W.exmAny PySem.W.exmAny
  rw [h1, h2, h3]
  rfl
theorem all_mk {l : PySem.W.OpenLaw} {w : World} {K : PySem.W.Frag} {h : Heap} {mg : Str → Option Value} {fa cDisc cNotSuch cLost cTaken cNoCustom cNoDay cNoDisc cNoEntry cNoKey cNoLength cNoLine cNoName cNoNumber cNoPath cSame cStruck cTwice cNoText f0 f1 f2 f3 f4 f5 f6 f7 f8 f9 f10 f11 f12 f13 f14 f15 f16 f17 f18 t18 f19 f20 f21 f22 f23 f24 f25 f26 f27 f28 f29 f30 f31 f32 f33 : Addr}
    {od0 an0 od1 an1 od2 an2 od3 an3 od4 an4 od5 an5 od6 an6 od7 an7 od8 an8 od9 an9 od10 an10 od11 an11 od12 an12 od13 an13 od14 an14 od15 an15 od16 an16 od17 an17 od18 an18 odT18 od19 an19 od20 an20 od21 an21 od22 an22 od23 an23 od24 an24 od25 an25 od26 an26 od27 an27 od28 an28 od29 an29 od30 an30 od31 an31 od32 an32 od33 an33 : Option Addr}
    {sl0 sl1 sl2 sl3 sl4 sl5 sl6 sl7 sl8 sl9 sl10 sl11 sl12 sl13 sl14 sl15 sl16 sl17 sl18 slT18 sl19 sl20 sl21 sl22 sl23 sl24 sl25 sl26 sl27 sl28 sl29 sl30 sl31 sl32 sl33 : Array (Option Value)}
    {oc0 kV0 dc0 pm0 cd0 ct0 oc1 kV1 dc1 pm1 cd1 ct1 oc2 kV2 dc2 pm2 cd2 ct2 oc3 kV3 dc3 pm3 cd3 ct3 oc4 kV4 dc4 pm4 cd4 ct4 oc5 kV5 dc5 pm5 cd5 ct5 oc6 kV6 dc6 pm6 cd6 ct6 oc7 kV7 dc7 pm7 cd7 ct7 oc8 kV8 dc8 pm8 cd8 ct8 oc9 kV9 dc9 pm9 cd9 ct9 oc10 kV10 dc10 pm10 cd10 ct10 oc11 kV11 dc11 pm11 cd11 ct11 oc12 kV12 dc12 pm12 cd12 ct12 oc13 kV13 dc13 pm13 cd13 ct13 oc14 kV14 dc14 pm14 cd14 ct14 oc15 kV15 dc15 pm15 cd15 ct15 oc16 kV16 dc16 pm16 cd16 ct16 oc17 kV17 dc17 pm17 cd17 ct17 oc18 kV18 dc18 pm18 cd18 ct18 ocT18 oc19 kV19 dc19 pm19 cd19 ct19 oc20 kV20 dc20 pm20 cd20 ct20 oc21 kV21 dc21 pm21 cd21 ct21 oc22 kV22 dc22 pm22 cd22 ct22 oc23 kV23 dc23 pm23 cd23 ct23 oc24 kV24 dc24 pm24 cd24 ct24 oc25 kV25 dc25 pm25 cd25 ct25 oc26 kV26 dc26 pm26 cd26 ct26 oc27 kV27 dc27 pm27 cd27 ct27 oc28 kV28 dc28 pm28 cd28 ct28 oc29 kV29 dc29 pm29 cd29 ct29 oc30 kV30 dc30 pm30 cd30 ct30 oc31 kV31 dc31 pm31 cd31 ct31 oc32 kV32 dc32 pm32 cd32 ct32 oc33 kV33 dc33 pm33 cd33 ct33 : Value}
    {nT18 : Nat}
    {tD18_0 u_SMALL_LETTERS u_LONGEST_WORD u_KEY_PARTS u_MOST_ROWS u_FIGURES u_MOST_FIGURES : Tok}
    {nmX qX : Str} {NX : Addr} {bsX bmX : List Value} {snX : List Str} {subX : List Value} {abX : Bool} {colX : Option Bool} {ddX : Option Addr} {k0X k1X k2X k3X k5X : Option Value}
     (X : K.In h) (G : h.Ns mainGlobals mg) (hfa : mg "law" = some (.ref fa))
    (a_Disc : PySem.W.nsIn K mainGlobals "Disc" = some (some (.ref cDisc)))
    (a_NotSuch : PySem.W.nsIn K mainGlobals "NotSuch" = some (some (.ref cNotSuch)))
    (a_Lost : PySem.W.nsIn K mainGlobals "Lost" = some (some (.ref cLost)))
    (a_Taken : PySem.W.nsIn K mainGlobals "Taken" = some (some (.ref cTaken)))
    (a_NoCustom : PySem.W.nsIn K mainGlobals "NoCustom" = some (some (.ref cNoCustom)))
    (a_NoDay : PySem.W.nsIn K mainGlobals "NoDay" = some (some (.ref cNoDay)))
    (a_NoDisc : PySem.W.nsIn K mainGlobals "NoDisc" = some (some (.ref cNoDisc)))
    (a_NoEntry : PySem.W.nsIn K mainGlobals "NoEntry" = some (some (.ref cNoEntry)))
    (a_NoKey : PySem.W.nsIn K mainGlobals "NoKey" = some (some (.ref cNoKey)))
    (a_NoLength : PySem.W.nsIn K mainGlobals "NoLength" = some (some (.ref cNoLength)))
    (a_NoLine : PySem.W.nsIn K mainGlobals "NoLine" = some (some (.ref cNoLine)))
    (a_NoName : PySem.W.nsIn K mainGlobals "NoName" = some (some (.ref cNoName)))
    (a_NoNumber : PySem.W.nsIn K mainGlobals "NoNumber" = some (some (.ref cNoNumber)))
    (a_NoPath : PySem.W.nsIn K mainGlobals "NoPath" = some (some (.ref cNoPath)))
    (a_Same : PySem.W.nsIn K mainGlobals "Same" = some (some (.ref cSame)))
    (a_Struck : PySem.W.nsIn K mainGlobals "Struck" = some (some (.ref cStruck)))
    (a_Twice : PySem.W.nsIn K mainGlobals "Twice" = some (some (.ref cTwice)))
    (a_NoText : PySem.W.nsIn K mainGlobals "NoText" = some (some (.ref cNoText)))
    (a0 : PySem.W.findIn K (.ref cNoText) "__init__" = some (some (.ref f0)))
    (i0 : PySem.W.isFn K (.ref f0) = true)
    (l0 : K.lookup f0 = some ⟨oc0, od0, .func (PySem.W.fnOf "__init__" "NoText.__init__" (defArgs sNoTextInit) (defBody sNoTextInit) (defScope sNoTextInit) .none kV0 dc0 pm0 an0 cd0 ct0), sl0⟩)
    (c0 : PySem.W.codeIn K cd0 "NoText.__init__" = true)
    (k0 : PySem.W.keepIn K (.ref f0) = true)
    (a1 : PySem.W.nsIn K mainGlobals "is_whole" = some (some (.ref f1)))
    (l1 : K.lookup f1 = some ⟨oc1, od1, .func (PySem.W.fnOf "is_whole" "is_whole" (defArgs sIsWhole) (defBody sIsWhole) (defScope sIsWhole) .none kV1 dc1 pm1 an1 cd1 ct1), sl1⟩)
    (c1 : PySem.W.codeIn K cd1 "is_whole" = true)
    (k1 : PySem.W.keepIn K (.ref f1) = true)
    (a2 : PySem.W.nsIn K mainGlobals "is_text_of" = some (some (.ref f2)))
    (l2 : K.lookup f2 = some ⟨oc2, od2, .func (PySem.W.fnOf "is_text_of" "is_text_of" (defArgs sIsTextOf) (defBody sIsTextOf) (defScope sIsTextOf) .none kV2 dc2 pm2 an2 cd2 ct2), sl2⟩)
    (c2 : PySem.W.codeIn K cd2 "is_text_of" = true)
    (k2 : PySem.W.keepIn K (.ref f2) = true)
    (a3 : PySem.W.nsIn K mainGlobals "is_small_text" = some (some (.ref f3)))
    (l3 : K.lookup f3 = some ⟨oc3, od3, .func (PySem.W.fnOf "is_small_text" "is_small_text" (defArgs sIsSmallText) (defBody sIsSmallText) (defScope sIsSmallText) .none kV3 dc3 pm3 an3 cd3 ct3), sl3⟩)
    (c3 : PySem.W.codeIn K cd3 "is_small_text" = true)
    (k3 : PySem.W.keepIn K (.ref f3) = true)
    (a4 : PySem.W.nsIn K mainGlobals "is_word" = some (some (.ref f4)))
    (l4 : K.lookup f4 = some ⟨oc4, od4, .func (PySem.W.fnOf "is_word" "is_word" (defArgs sIsWord) (defBody sIsWord) (defScope sIsWord) .none kV4 dc4 pm4 an4 cd4 ct4), sl4⟩)
    (c4 : PySem.W.codeIn K cd4 "is_word" = true)
    (k4 : PySem.W.keepIn K (.ref f4) = true)
    (a5 : PySem.W.nsIn K mainGlobals "is_key" = some (some (.ref f5)))
    (l5 : K.lookup f5 = some ⟨oc5, od5, .func (PySem.W.fnOf "is_key" "is_key" (defArgs sIsKey) (defBody sIsKey) (defScope sIsKey) .none kV5 dc5 pm5 an5 cd5 ct5), sl5⟩)
    (c5 : PySem.W.codeIn K cd5 "is_key" = true)
    (k5 : PySem.W.keepIn K (.ref f5) = true)
    (a6 : PySem.W.nsIn K mainGlobals "show_key" = some (some (.ref f6)))
    (l6 : K.lookup f6 = some ⟨oc6, od6, .func (PySem.W.fnOf "show_key" "show_key" (defArgs sShowKey) (defBody sShowKey) (defScope sShowKey) .none kV6 dc6 pm6 an6 cd6 ct6), sl6⟩)
    (c6 : PySem.W.codeIn K cd6 "show_key" = true)
    (k6 : PySem.W.keepIn K (.ref f6) = true)
    (a7 : PySem.W.nsIn K mainGlobals "show_keys" = some (some (.ref f7)))
    (l7 : K.lookup f7 = some ⟨oc7, od7, .func (PySem.W.fnOf "show_keys" "show_keys" (defArgs sShowKeys) (defBody sShowKeys) (defScope sShowKeys) .none kV7 dc7 pm7 an7 cd7 ct7), sl7⟩)
    (c7 : PySem.W.codeIn K cd7 "show_keys" = true)
    (k7 : PySem.W.keepIn K (.ref f7) = true)
    (a8 : PySem.W.nsIn K mainGlobals "are_rows" = some (some (.ref f8)))
    (l8 : K.lookup f8 = some ⟨oc8, od8, .func (PySem.W.fnOf "are_rows" "are_rows" (defArgs sAreRows) (defBody sAreRows) (defScope sAreRows) .none kV8 dc8 pm8 an8 cd8 ct8), sl8⟩)
    (c8 : PySem.W.codeIn K cd8 "are_rows" = true)
    (k8 : PySem.W.keepIn K (.ref f8) = true)
    (a9 : PySem.W.findIn K (.ref cDisc) "__init__" = some (some (.ref f9)))
    (i9 : PySem.W.isFn K (.ref f9) = true)
    (l9 : K.lookup f9 = some ⟨oc9, od9, .func (PySem.W.fnOf "__init__" "Disc.__init__" (defArgs sDiscInit) (defBody sDiscInit) (defScope sDiscInit) .none kV9 dc9 pm9 an9 cd9 ct9), sl9⟩)
    (c9 : PySem.W.codeIn K cd9 "Disc.__init__" = true)
    (k9 : PySem.W.keepIn K (.ref f9) = true)
    (a10 : PySem.W.findIn K (.ref cDisc) "__eq__" = some (some (.ref f10)))
    (i10 : PySem.W.isFn K (.ref f10) = true)
    (l10 : K.lookup f10 = some ⟨oc10, od10, .func (PySem.W.fnOf "__eq__" "Disc.__eq__" (defArgs sDiscEq) (defBody sDiscEq) (defScope sDiscEq) .none kV10 dc10 pm10 an10 cd10 ct10), sl10⟩)
    (c10 : PySem.W.codeIn K cd10 "Disc.__eq__" = true)
    (k10 : PySem.W.keepIn K (.ref f10) = true)
    (a11 : PySem.W.findIn K (.ref cDisc) "__str__" = some (some (.ref f11)))
    (i11 : PySem.W.isFn K (.ref f11) = true)
    (l11 : K.lookup f11 = some ⟨oc11, od11, .func (PySem.W.fnOf "__str__" "Disc.__str__" (defArgs sDiscStr) (defBody sDiscStr) (defScope sDiscStr) .none kV11 dc11 pm11 an11 cd11 ct11), sl11⟩)
    (c11 : PySem.W.codeIn K cd11 "Disc.__str__" = true)
    (k11 : PySem.W.keepIn K (.ref f11) = true)
    (a12 : PySem.W.nsIn K mainGlobals "are_figures" = some (some (.ref f12)))
    (l12 : K.lookup f12 = some ⟨oc12, od12, .func (PySem.W.fnOf "are_figures" "are_figures" (defArgs sAreFigures) (defBody sAreFigures) (defScope sAreFigures) .none kV12 dc12 pm12 an12 cd12 ct12), sl12⟩)
    (c12 : PySem.W.codeIn K cd12 "are_figures" = true)
    (k12 : PySem.W.keepIn K (.ref f12) = true)
    (a13 : PySem.W.nsIn K mainGlobals "number_in" = some (some (.ref f13)))
    (l13 : K.lookup f13 = some ⟨oc13, od13, .func (PySem.W.fnOf "number_in" "number_in" (defArgs sNumberIn) (defBody sNumberIn) (defScope sNumberIn) .none kV13 dc13 pm13 an13 cd13 ct13), sl13⟩)
    (c13 : PySem.W.codeIn K cd13 "number_in" = true)
    (k13 : PySem.W.keepIn K (.ref f13) = true)
    (a14 : PySem.W.nsIn K mainGlobals "key_in" = some (some (.ref f14)))
    (l14 : K.lookup f14 = some ⟨oc14, od14, .func (PySem.W.fnOf "key_in" "key_in" (defArgs sKeyIn) (defBody sKeyIn) (defScope sKeyIn) .none kV14 dc14 pm14 an14 cd14 ct14), sl14⟩)
    (c14 : PySem.W.codeIn K cd14 "key_in" = true)
    (k14 : PySem.W.keepIn K (.ref f14) = true)
    (a15 : PySem.W.nsIn K mainGlobals "all_in" = some (some (.ref f15)))
    (l15 : K.lookup f15 = some ⟨oc15, od15, .func (PySem.W.fnOf "all_in" "all_in" (defArgs sAllIn) (defBody sAllIn) (defScope sAllIn) .none kV15 dc15 pm15 an15 cd15 ct15), sl15⟩)
    (c15 : PySem.W.codeIn K cd15 "all_in" = true)
    (k15 : PySem.W.keepIn K (.ref f15) = true)
    (a16 : PySem.W.nsIn K mainGlobals "keys_in" = some (some (.ref f16)))
    (l16 : K.lookup f16 = some ⟨oc16, od16, .func (PySem.W.fnOf "keys_in" "keys_in" (defArgs sKeysIn) (defBody sKeysIn) (defScope sKeysIn) .none kV16 dc16 pm16 an16 cd16 ct16), sl16⟩)
    (c16 : PySem.W.codeIn K cd16 "keys_in" = true)
    (k16 : PySem.W.keepIn K (.ref f16) = true)
    (a17 : PySem.W.nsIn K mainGlobals "disc_in" = some (some (.ref f17)))
    (l17 : K.lookup f17 = some ⟨oc17, od17, .func (PySem.W.fnOf "disc_in" "disc_in" (defArgs sDiscIn) (defBody sDiscIn) (defScope sDiscIn) .none kV17 dc17 pm17 an17 cd17 ct17), sl17⟩)
    (c17 : PySem.W.codeIn K cd17 "disc_in" = true)
    (k17 : PySem.W.keepIn K (.ref f17) = true)
    (a18 : PySem.W.nsIn K mainGlobals "so_written" = some (some (.ref f18)))
    (l18 : K.lookup f18 = some ⟨oc18, od18, .func (PySem.W.fnOf "so_written" "so_written" (defArgs sSoWritten) (defBody sSoWritten) (defScope sSoWritten) (.ref t18) kV18 dc18 pm18 an18 cd18 ct18), sl18⟩)
    (c18 : PySem.W.codeIn K cd18 "so_written" = true)
    (k18 : PySem.W.keepIn K (.ref f18) = true)
    (d18 : K.lookup t18 = some ⟨ocT18, odT18, .seq #[Value.int 0 tD18_0] nT18, slT18⟩)
    (a19 : PySem.W.nsIn K mainGlobals "read_disc" = some (some (.ref f19)))
    (l19 : K.lookup f19 = some ⟨oc19, od19, .func (PySem.W.fnOf "read_disc" "read_disc" (defArgs sReadDisc) (defBody sReadDisc) (defScope sReadDisc) .none kV19 dc19 pm19 an19 cd19 ct19), sl19⟩)
    (c19 : PySem.W.codeIn K cd19 "read_disc" = true)
    (k19 : PySem.W.keepIn K (.ref f19) = true)
    (a20 : PySem.W.nsIn K mainGlobals "_law_hand" = some (some (.ref f20)))
    (l20 : K.lookup f20 = some ⟨oc20, od20, .func (PySem.W.fnOf "_law_hand" "_law_hand" (defArgs sHand) (defBody sHand) (defScope sHand) .none kV20 dc20 pm20 an20 cd20 ct20), sl20⟩)
    (c20 : PySem.W.codeIn K cd20 "_law_hand" = true)
    (k20 : PySem.W.keepIn K (.ref f20) = true)
    (a21 : PySem.W.nsIn K mainGlobals "_law_take" = some (some (.ref f21)))
    (l21 : K.lookup f21 = some ⟨oc21, od21, .func (PySem.W.fnOf "_law_take" "_law_take" (defArgs sTake) (defBody sTake) (defScope sTake) .none kV21 dc21 pm21 an21 cd21 ct21), sl21⟩)
    (c21 : PySem.W.codeIn K cd21 "_law_take" = true)
    (k21 : PySem.W.keepIn K (.ref f21) = true)
    (a22 : PySem.W.nsIn K mainGlobals "_law_pick" = some (some (.ref f22)))
    (l22 : K.lookup f22 = some ⟨oc22, od22, .func (PySem.W.fnOf "_law_pick" "_law_pick" (defArgs sPick) (defBody sPick) (defScope sPick) .none kV22 dc22 pm22 an22 cd22 ct22), sl22⟩)
    (c22 : PySem.W.codeIn K cd22 "_law_pick" = true)
    (k22 : PySem.W.keepIn K (.ref f22) = true)
    (a23 : PySem.W.nsIn K mainGlobals "_law_key" = some (some (.ref f23)))
    (l23 : K.lookup f23 = some ⟨oc23, od23, .func (PySem.W.fnOf "_law_key" "_law_key" (defArgs sKey) (defBody sKey) (defScope sKey) .none kV23 dc23 pm23 an23 cd23 ct23), sl23⟩)
    (c23 : PySem.W.codeIn K cd23 "_law_key" = true)
    (k23 : PySem.W.keepIn K (.ref f23) = true)
    (a24 : PySem.W.nsIn K mainGlobals "_law_figures" = some (some (.ref f24)))
    (l24 : K.lookup f24 = some ⟨oc24, od24, .func (PySem.W.fnOf "_law_figures" "_law_figures" (defArgs sFigures) (defBody sFigures) (defScope sFigures) .none kV24 dc24 pm24 an24 cd24 ct24), sl24⟩)
    (c24 : PySem.W.codeIn K cd24 "_law_figures" = true)
    (k24 : PySem.W.keepIn K (.ref f24) = true)
    (a25 : PySem.W.nsIn K mainGlobals "_law_number" = some (some (.ref f25)))
    (l25 : K.lookup f25 = some ⟨oc25, od25, .func (PySem.W.fnOf "_law_number" "_law_number" (defArgs sNumber) (defBody sNumber) (defScope sNumber) .none kV25 dc25 pm25 an25 cd25 ct25), sl25⟩)
    (c25 : PySem.W.codeIn K cd25 "_law_number" = true)
    (k25 : PySem.W.keepIn K (.ref f25) = true)
    (a26 : PySem.W.nsIn K mainGlobals "_law_key_in" = some (some (.ref f26)))
    (l26 : K.lookup f26 = some ⟨oc26, od26, .func (PySem.W.fnOf "_law_key_in" "_law_key_in" (defArgs sLawKeyIn) (defBody sLawKeyIn) (defScope sLawKeyIn) .none kV26 dc26 pm26 an26 cd26 ct26), sl26⟩)
    (c26 : PySem.W.codeIn K cd26 "_law_key_in" = true)
    (k26 : PySem.W.keepIn K (.ref f26) = true)
    (a27 : PySem.W.nsIn K mainGlobals "_law_bent" = some (some (.ref f27)))
    (l27 : K.lookup f27 = some ⟨oc27, od27, .func (PySem.W.fnOf "_law_bent" "_law_bent" (defArgs sBent) (defBody sBent) (defScope sBent) .none kV27 dc27 pm27 an27 cd27 ct27), sl27⟩)
    (c27 : PySem.W.codeIn K cd27 "_law_bent" = true)
    (k27 : PySem.W.keepIn K (.ref f27) = true)
    (a28 : PySem.W.nsIn K mainGlobals "_law_alone" = some (some (.ref f28)))
    (l28 : K.lookup f28 = some ⟨oc28, od28, .func (PySem.W.fnOf "_law_alone" "_law_alone" (defArgs sAlone) (defBody sAlone) (defScope sAlone) .none kV28 dc28 pm28 an28 cd28 ct28), sl28⟩)
    (c28 : PySem.W.codeIn K cd28 "_law_alone" = true)
    (k28 : PySem.W.keepIn K (.ref f28) = true)
    (a29 : PySem.W.nsIn K mainGlobals "_law_text_of" = some (some (.ref f29)))
    (l29 : K.lookup f29 = some ⟨oc29, od29, .func (PySem.W.fnOf "_law_text_of" "_law_text_of" (defArgs sTextOf) (defBody sTextOf) (defScope sTextOf) .none kV29 dc29 pm29 an29 cd29 ct29), sl29⟩)
    (c29 : PySem.W.codeIn K cd29 "_law_text_of" = true)
    (k29 : PySem.W.keepIn K (.ref f29) = true)
    (a30 : PySem.W.nsIn K mainGlobals "_law_disc_in" = some (some (.ref f30)))
    (l30 : K.lookup f30 = some ⟨oc30, od30, .func (PySem.W.fnOf "_law_disc_in" "_law_disc_in" (defArgs sLawDiscIn) (defBody sLawDiscIn) (defScope sLawDiscIn) .none kV30 dc30 pm30 an30 cd30 ct30), sl30⟩)
    (c30 : PySem.W.codeIn K cd30 "_law_disc_in" = true)
    (k30 : PySem.W.keepIn K (.ref f30) = true)
    (a31 : PySem.W.nsIn K mainGlobals "_law_right_row" = some (some (.ref f31)))
    (l31 : K.lookup f31 = some ⟨oc31, od31, .func (PySem.W.fnOf "_law_right_row" "_law_right_row" (defArgs sRightRow) (defBody sRightRow) (defScope sRightRow) .none kV31 dc31 pm31 an31 cd31 ct31), sl31⟩)
    (c31 : PySem.W.codeIn K cd31 "_law_right_row" = true)
    (k31 : PySem.W.keepIn K (.ref f31) = true)
    (a32 : PySem.W.nsIn K mainGlobals "_law_right" = some (some (.ref f32)))
    (l32 : K.lookup f32 = some ⟨oc32, od32, .func (PySem.W.fnOf "_law_right" "_law_right" (defArgs sRight) (defBody sRight) (defScope sRight) .none kV32 dc32 pm32 an32 cd32 ct32), sl32⟩)
    (c32 : PySem.W.codeIn K cd32 "_law_right" = true)
    (k32 : PySem.W.keepIn K (.ref f32) = true)
    (a33 : PySem.W.nsIn K mainGlobals "law" = some (some (.ref f33)))
    (l33 : K.lookup f33 = some ⟨oc33, od33, .func (PySem.W.fnOf "law" "law" (defArgs sLaw) (defBody sLaw) (defScope sLaw) .none kV33 dc33 pm33 an33 cd33 ct33), sl33⟩)
    (c33 : PySem.W.codeIn K cd33 "law" = true)
    (k33 : PySem.W.keepIn K (.ref f33) = true)
    (g_SMALL_LETTERS : PySem.W.nsIn K mainGlobals "SMALL_LETTERS" = some (some (.str "abcdefghijklmnopqrstuvwxyz" u_SMALL_LETTERS)))
    (g_LONGEST_WORD : PySem.W.nsIn K mainGlobals "LONGEST_WORD" = some (some (.int 8 u_LONGEST_WORD)))
    (g_KEY_PARTS : PySem.W.nsIn K mainGlobals "KEY_PARTS" = some (some (.int 2 u_KEY_PARTS)))
    (g_MOST_ROWS : PySem.W.nsIn K mainGlobals "MOST_ROWS" = some (some (.int 30 u_MOST_ROWS)))
    (g_FIGURES : PySem.W.nsIn K mainGlobals "FIGURES" = some (some (.str "0123456789" u_FIGURES)))
    (g_MOST_FIGURES : PySem.W.nsIn K mainGlobals "MOST_FIGURES" = some (some (.int 30 u_MOST_FIGURES)))
    (ic_NotSuch : PySem.W.isClsIn K cNotSuch = true)
    (ty_NotSuch : PySem.W.typeIn K (.ref cNotSuch) = some (.type "type"))
    (sb_NotSuch : PySem.W.subIn K (.ref cNoText) (.ref cNotSuch) = some true)
    (ic_Lost : PySem.W.isClsIn K cLost = true)
    (ty_Lost : PySem.W.typeIn K (.ref cLost) = some (.type "type"))
    (sb_Lost : PySem.W.subIn K (.ref cNoText) (.ref cLost) = some false)
    (ic_Taken : PySem.W.isClsIn K cTaken = true)
    (ty_Taken : PySem.W.typeIn K (.ref cTaken) = some (.type "type"))
    (sb_Taken : PySem.W.subIn K (.ref cNoText) (.ref cTaken) = some false)
    (ic_NoCustom : PySem.W.isClsIn K cNoCustom = true)
    (ty_NoCustom : PySem.W.typeIn K (.ref cNoCustom) = some (.type "type"))
    (sb_NoCustom : PySem.W.subIn K (.ref cNoText) (.ref cNoCustom) = some false)
    (ic_NoDay : PySem.W.isClsIn K cNoDay = true)
    (ty_NoDay : PySem.W.typeIn K (.ref cNoDay) = some (.type "type"))
    (sb_NoDay : PySem.W.subIn K (.ref cNoText) (.ref cNoDay) = some false)
    (ic_NoDisc : PySem.W.isClsIn K cNoDisc = true)
    (ty_NoDisc : PySem.W.typeIn K (.ref cNoDisc) = some (.type "type"))
    (sb_NoDisc : PySem.W.subIn K (.ref cNoText) (.ref cNoDisc) = some false)
    (ic_NoEntry : PySem.W.isClsIn K cNoEntry = true)
    (ty_NoEntry : PySem.W.typeIn K (.ref cNoEntry) = some (.type "type"))
    (sb_NoEntry : PySem.W.subIn K (.ref cNoText) (.ref cNoEntry) = some false)
    (ic_NoKey : PySem.W.isClsIn K cNoKey = true)
    (ty_NoKey : PySem.W.typeIn K (.ref cNoKey) = some (.type "type"))
    (sb_NoKey : PySem.W.subIn K (.ref cNoText) (.ref cNoKey) = some false)
    (ic_NoLength : PySem.W.isClsIn K cNoLength = true)
    (ty_NoLength : PySem.W.typeIn K (.ref cNoLength) = some (.type "type"))
    (sb_NoLength : PySem.W.subIn K (.ref cNoText) (.ref cNoLength) = some false)
    (ic_NoLine : PySem.W.isClsIn K cNoLine = true)
    (ty_NoLine : PySem.W.typeIn K (.ref cNoLine) = some (.type "type"))
    (sb_NoLine : PySem.W.subIn K (.ref cNoText) (.ref cNoLine) = some false)
    (ic_NoName : PySem.W.isClsIn K cNoName = true)
    (ty_NoName : PySem.W.typeIn K (.ref cNoName) = some (.type "type"))
    (sb_NoName : PySem.W.subIn K (.ref cNoText) (.ref cNoName) = some false)
    (ic_NoNumber : PySem.W.isClsIn K cNoNumber = true)
    (ty_NoNumber : PySem.W.typeIn K (.ref cNoNumber) = some (.type "type"))
    (sb_NoNumber : PySem.W.subIn K (.ref cNoText) (.ref cNoNumber) = some false)
    (ic_NoPath : PySem.W.isClsIn K cNoPath = true)
    (ty_NoPath : PySem.W.typeIn K (.ref cNoPath) = some (.type "type"))
    (sb_NoPath : PySem.W.subIn K (.ref cNoText) (.ref cNoPath) = some false)
    (ic_Same : PySem.W.isClsIn K cSame = true)
    (ty_Same : PySem.W.typeIn K (.ref cSame) = some (.type "type"))
    (sb_Same : PySem.W.subIn K (.ref cNoText) (.ref cSame) = some false)
    (ic_Struck : PySem.W.isClsIn K cStruck = true)
    (ty_Struck : PySem.W.typeIn K (.ref cStruck) = some (.type "type"))
    (sb_Struck : PySem.W.subIn K (.ref cNoText) (.ref cStruck) = some false)
    (ic_Twice : PySem.W.isClsIn K cTwice = true)
    (ty_Twice : PySem.W.typeIn K (.ref cTwice) = some (.type "type"))
    (sb_Twice : PySem.W.subIn K (.ref cNoText) (.ref cTwice) = some false)
    (ic_NoText : PySem.W.isClsIn K cNoText = true)
    (ty_NoText : PySem.W.typeIn K (.ref cNoText) = some (.type "type"))
    (sb_NoText : PySem.W.subIn K (.ref cNoText) (.ref cNoText) = some true)
    (be_NotSuch : PySem.W.subIn K (.ref cNotSuch) (.type "BaseException") = some true)
    (be_Lost : PySem.W.subIn K (.ref cLost) (.type "BaseException") = some true)
    (be_Taken : PySem.W.subIn K (.ref cTaken) (.type "BaseException") = some true)
    (sVE : PySem.W.subIn K (.ref cNoText) (.type "ValueError") = some true)
    (oX : K.lookup cNoText = some (excClassObj nmX qX cNoText NX bsX bmX true snX subX abX colX ddX k0X k1X k2X k3X k5X "ValueError.__new__"))
    (hbX : PySem.HandSPX.refsVE bmX = true)
    (saX : PySem.W.findIn K (.ref cNoText) "__setattr__" = some (some (.builtin "object.__setattr__")))
    (exX : PySem.W.subIn K (.ref cNoText) (.type "BaseException") = some true)
    (kX : PySem.W.keepIn K (.ref cNoText) = true)
    (gaX : PySem.W.findIn K (.ref cNoText) "__getattribute__" = some (some (.builtin "BaseException.__getattribute__")))
    (ggX : PySem.W.findIn K (.ref cNoText) "__getattr__" = some none)
    (hdX : PySem.W.hasDictIn K cNoText = true)
    (haX : PySem.W.findIn K (.ref cNoText) "__class__" = some (some (.builtin "object.__class__")))
    (hmX : PySem.W.mroIn K cNoText (.type "object") = some true)
    (fl1 : PySem.W.findIn K (.ref cNoText) "row" = some none)
    (fl2 : PySem.W.findIn K (.ref cNoText) "wanted" = some none)
    (tyF : PySem.W.typeIn K (.ref f0) = some (.type "function"))
    (rdN : PySem.W.readsIn K cNotSuch (.type "type") = true)
    (spN : PySem.W.specialIn K (.ref cNotSuch) "__getattribute__" = some (some (.builtin "type.__getattribute__")))
    (fiN : PySem.W.findCls K (.ref cNotSuch) (.type "type") "__init__" = some (.val (.builtin "ValueError.__init__")))
    (pg : PySem.W.plainGet K cDisc Str.empty = true)
    (hd : PySem.W.hasDictIn K cDisc = true)
    (po : PySem.W.plainOver K cDisc = true)
    (sa : PySem.W.findIn K (.ref cDisc) "__setattr__" = some (some (.builtin "object.__setattr__")))
    (mk : PySem.W.makesIn K cDisc = true)
    (kc : PySem.W.keepIn K (.ref cDisc) = true)
    (nL : PySem.W.findIn K (.ref cDisc) "label" = some none)
    (nR : PySem.W.findIn K (.ref cDisc) "rows" = some none)
    (ha : PySem.W.findIn K (.ref cDisc) "__class__" = some (some (.builtin "object.__class__")))
    (hn : PySem.W.specialIn K (.builtin "object.__class__") "__get__" = some (some (.builtin "getset_descriptor.__get__")))
    (ht : PySem.W.takesIn K (.builtin "object.__class__") = some true)
    (hm : PySem.W.mroIn K cDisc (.type "object") = some true)
    (sint : PySem.W.subIn K (.type "int") (.ref cDisc) = some false)
    (sstr : PySem.W.subIn K (.type "str") (.ref cDisc) = some false)
    (sNoneType : PySem.W.subIn K (.type "NoneType") (.ref cDisc) = some false)
    (stuple : PySem.W.subIn K (.type "tuple") (.ref cDisc) = some false)
    (slist : PySem.W.subIn K (.type "list") (.ref cDisc) = some false)
    (rint : PySem.W.subIn K (.ref cDisc) (.type "int") = some false)
    (rstr : PySem.W.subIn K (.ref cDisc) (.type "str") = some false)
    (rNoneType : PySem.W.subIn K (.ref cDisc) (.type "NoneType") = some false)
    (rtuple : PySem.W.subIn K (.ref cDisc) (.type "tuple") = some false)
    (rlist : PySem.W.subIn K (.ref cDisc) (.type "list") = some false)
    (tyC : PySem.W.typeIn K (.ref cDisc) = some (.type "type"))
    (nE : PySem.W.findIn K (.ref cDisc) "__ne__" = some (some (.builtin "object.__ne__")))
    (z_isinstance : PySem.W.nsIn K mainGlobals "isinstance" = some none)
    (z_int : PySem.W.nsIn K mainGlobals "int" = some none)
    (z_bool : PySem.W.nsIn K mainGlobals "bool" = some none)
    (z_str : PySem.W.nsIn K mainGlobals "str" = some none)
    (z_tuple : PySem.W.nsIn K mainGlobals "tuple" = some none)
    (z_list : PySem.W.nsIn K mainGlobals "list" = some none)
    (z_len : PySem.W.nsIn K mainGlobals "len" = some none)
    (z_all : PySem.W.nsIn K mainGlobals "all" = some none)
    (z_abs : PySem.W.nsIn K mainGlobals "abs" = some none)
    (z_range : PySem.W.nsIn K mainGlobals "range" = some none)
    (z_repr : PySem.W.nsIn K mainGlobals "repr" = some none)
    (z_max : PySem.W.nsIn K mainGlobals "max" = some none)
    (z_min : PySem.W.nsIn K mainGlobals "min" = some none)
    (z_enumerate : PySem.W.nsIn K mainGlobals "enumerate" = some none)
    (z_ValueError : PySem.W.nsIn K mainGlobals "ValueError" = some none)
    : ∃ fd : FuncData, (∀ (s : Shared) (v : Value), BindsTo s fd ⟨[v], []⟩ [("_law_script", v)]) ∧
      ∀ base : Heap, K.In base → base.Ns mainGlobals mg → base.NoDigits → Gn l.prog w K mg base 13 fa fd ["_law_script"] (spLaw K) := by
  have e := hfa.symm.trans (PySem.W.mg_of X G a33)
  cases e
  have F0 := fun_mk (st := sNoTextInit) l0 c0 k0
  have B0 := F0.binds (ps := ["self", "row", "wanted"]) fun _ _ _ _ _ _ us hl => match us, hl with | [_, _, _], _ => rfl
  have F1 := fun_mk (st := sIsWhole) l1 c1 k1
  have D1 : Df K mg "is_whole" ["thing"] sIsWhole f1 _ := ⟨F1, PySem.W.mg_of X G a1, F1.binds (ps := ["thing"]) fun _ _ _ _ _ _ us hl => match us, hl with | [_], _ => rfl⟩
  have F2 := fun_mk (st := sIsTextOf) l2 c2 k2
  have D2 : Df K mg "is_text_of" ["thing", "signs", "least", "most"] sIsTextOf f2 _ := ⟨F2, PySem.W.mg_of X G a2, F2.binds (ps := ["thing", "signs", "least", "most"]) fun _ _ _ _ _ _ us hl => match us, hl with | [_, _, _, _], _ => rfl⟩
  have F3 := fun_mk (st := sIsSmallText) l3 c3 k3
  have D3 : Df K mg "is_small_text" ["thing", "least", "most"] sIsSmallText f3 _ := ⟨F3, PySem.W.mg_of X G a3, F3.binds (ps := ["thing", "least", "most"]) fun _ _ _ _ _ _ us hl => match us, hl with | [_, _, _], _ => rfl⟩
  have F4 := fun_mk (st := sIsWord) l4 c4 k4
  have D4 : Df K mg "is_word" ["thing"] sIsWord f4 _ := ⟨F4, PySem.W.mg_of X G a4, F4.binds (ps := ["thing"]) fun _ _ _ _ _ _ us hl => match us, hl with | [_], _ => rfl⟩
  have F5 := fun_mk (st := sIsKey) l5 c5 k5
  have D5 : Df K mg "is_key" ["thing"] sIsKey f5 _ := ⟨F5, PySem.W.mg_of X G a5, F5.binds (ps := ["thing"]) fun _ _ _ _ _ _ us hl => match us, hl with | [_], _ => rfl⟩
  have F6 := fun_mk (st := sShowKey) l6 c6 k6
  have D6 : Df K mg "show_key" ["key"] sShowKey f6 _ := ⟨F6, PySem.W.mg_of X G a6, F6.binds (ps := ["key"]) fun _ _ _ _ _ _ us hl => match us, hl with | [_], _ => rfl⟩
  have F7 := fun_mk (st := sShowKeys) l7 c7 k7
  have D7 : Df K mg "show_keys" ["keys"] sShowKeys f7 _ := ⟨F7, PySem.W.mg_of X G a7, F7.binds (ps := ["keys"]) fun _ _ _ _ _ _ us hl => match us, hl with | [_], _ => rfl⟩
  have F8 := fun_mk (st := sAreRows) l8 c8 k8
  have D8 : Df K mg "are_rows" ["thing"] sAreRows f8 _ := ⟨F8, PySem.W.mg_of X G a8, F8.binds (ps := ["thing"]) fun _ _ _ _ _ _ us hl => match us, hl with | [_], _ => rfl⟩
  have F9 := fun_mk (st := sDiscInit) l9 c9 k9
  have B9 := F9.binds (ps := ["self", "label", "rows"]) fun _ _ _ _ _ _ us hl => match us, hl with | [_, _, _], _ => rfl
  have F10 := fun_mk (st := sDiscEq) l10 c10 k10
  have B10 := F10.binds (ps := ["self", "other"]) fun _ _ _ _ _ _ us hl => match us, hl with | [_, _], _ => rfl
  have F11 := fun_mk (st := sDiscStr) l11 c11 k11
  have B11 := F11.binds (ps := ["self"]) fun _ _ _ _ _ _ us hl => match us, hl with | [_], _ => rfl
  have F12 := fun_mk (st := sAreFigures) l12 c12 k12
  have D12 : Df K mg "are_figures" ["text", "least", "most"] sAreFigures f12 _ := ⟨F12, PySem.W.mg_of X G a12, F12.binds (ps := ["text", "least", "most"]) fun _ _ _ _ _ _ us hl => match us, hl with | [_, _, _], _ => rfl⟩
  have F13 := fun_mk (st := sNumberIn) l13 c13 k13
  have D13 : Df K mg "number_in" ["text"] sNumberIn f13 _ := ⟨F13, PySem.W.mg_of X G a13, F13.binds (ps := ["text"]) fun _ _ _ _ _ _ us hl => match us, hl with | [_], _ => rfl⟩
  have F14 := fun_mk (st := sKeyIn) l14 c14 k14
  have D14 : Df K mg "key_in" ["text"] sKeyIn f14 _ := ⟨F14, PySem.W.mg_of X G a14, F14.binds (ps := ["text"]) fun _ _ _ _ _ _ us hl => match us, hl with | [_], _ => rfl⟩
  have F15 := fun_mk (st := sAllIn) l15 c15 k15
  have D15 : Df K mg "all_in" ["reader", "text"] sAllIn f15 _ := ⟨F15, PySem.W.mg_of X G a15, F15.binds (ps := ["reader", "text"]) fun _ _ _ _ _ _ us hl => match us, hl with | [_, _], _ => rfl⟩
  have F16 := fun_mk (st := sKeysIn) l16 c16 k16
  have D16 : Df K mg "keys_in" ["text"] sKeysIn f16 _ := ⟨F16, PySem.W.mg_of X G a16, F16.binds (ps := ["text"]) fun _ _ _ _ _ _ us hl => match us, hl with | [_], _ => rfl⟩
  have F17 := fun_mk (st := sDiscIn) l17 c17 k17
  have D17 : Df K mg "disc_in" ["text"] sDiscIn f17 _ := ⟨F17, PySem.W.mg_of X G a17, F17.binds (ps := ["text"]) fun _ _ _ _ _ _ us hl => match us, hl with | [_], _ => rfl⟩
  have F18 : FunD K "so_written" "so_written" (defArgs sSoWritten) (defBody sSoWritten) (defScope sSoWritten) [.int 0] [] f18 _ :=
    ⟨⟨_, _, _, _, _, _, _, _, _, _, rfl, l18, c18, .inr ⟨by simp, t18, _, [Value.int 0 tD18_0], _, rfl, d18, rfl, .cons ⟨_, rfl⟩ .nil⟩, .inl rfl⟩, k18⟩
  have F19 := fun_mk (st := sReadDisc) l19 c19 k19
  have D19 : Df K mg "read_disc" ["text"] sReadDisc f19 _ := ⟨F19, PySem.W.mg_of X G a19, F19.binds (ps := ["text"]) fun _ _ _ _ _ _ us hl => match us, hl with | [_], _ => rfl⟩
  have F20 := fun_mk (st := sHand) l20 c20 k20
  have D20 : Df K mg "_law_hand" ["_law_script", "_law_k"] sHand f20 _ := ⟨F20, PySem.W.mg_of X G a20, F20.binds (ps := ["_law_script", "_law_k"]) fun _ _ _ _ _ _ us hl => match us, hl with | [_, _], _ => rfl⟩
  have F21 := fun_mk (st := sTake) l21 c21 k21
  have D21 : Df K mg "_law_take" ["_law_hand_here", "_law_many"] sTake f21 _ := ⟨F21, PySem.W.mg_of X G a21, F21.binds (ps := ["_law_hand_here", "_law_many"]) fun _ _ _ _ _ _ us hl => match us, hl with | [_, _], _ => rfl⟩
  have F22 := fun_mk (st := sPick) l22 c22 k22
  have D22 : Df K mg "_law_pick" ["_law_hand_here", "_law_some"] sPick f22 _ := ⟨F22, PySem.W.mg_of X G a22, F22.binds (ps := ["_law_hand_here", "_law_some"]) fun _ _ _ _ _ _ us hl => match us, hl with | [_, _], _ => rfl⟩
  have F23 := fun_mk (st := sKey) l23 c23 k23
  have D23 : Df K mg "_law_key" ["_law_hand_here"] sKey f23 _ := ⟨F23, PySem.W.mg_of X G a23, F23.binds (ps := ["_law_hand_here"]) fun _ _ _ _ _ _ us hl => match us, hl with | [_], _ => rfl⟩
  have F24 := fun_mk (st := sFigures) l24 c24 k24
  have D24 : Df K mg "_law_figures" ["_law_word"] sFigures f24 _ := ⟨F24, PySem.W.mg_of X G a24, F24.binds (ps := ["_law_word"]) fun _ _ _ _ _ _ us hl => match us, hl with | [_], _ => rfl⟩
  have F25 := fun_mk (st := sNumber) l25 c25 k25
  have D25 : Df K mg "_law_number" ["_law_word"] sNumber f25 _ := ⟨F25, PySem.W.mg_of X G a25, F25.binds (ps := ["_law_word"]) fun _ _ _ _ _ _ us hl => match us, hl with | [_], _ => rfl⟩
  have F26 := fun_mk (st := sLawKeyIn) l26 c26 k26
  have D26 : Df K mg "_law_key_in" ["_law_text"] sLawKeyIn f26 _ := ⟨F26, PySem.W.mg_of X G a26, F26.binds (ps := ["_law_text"]) fun _ _ _ _ _ _ us hl => match us, hl with | [_], _ => rfl⟩
  have F27 := fun_mk (st := sBent) l27 c27 k27
  have D27 : Df K mg "_law_bent" ["_law_hand_here", "_law_text", "_law_words"] sBent f27 _ := ⟨F27, PySem.W.mg_of X G a27, F27.binds (ps := ["_law_hand_here", "_law_text", "_law_words"]) fun _ _ _ _ _ _ us hl => match us, hl with | [_, _, _], _ => rfl⟩
  have F28 := fun_mk (st := sAlone) l28 c28 k28
  have D28 : Df K mg "_law_alone" ["_law_e"] sAlone f28 _ := ⟨F28, PySem.W.mg_of X G a28, F28.binds (ps := ["_law_e"]) fun _ _ _ _ _ _ us hl => match us, hl with | [_], _ => rfl⟩
  have F29 := fun_mk (st := sTextOf) l29 c29 k29
  have D29 : Df K mg "_law_text_of" ["_law_label", "_law_keys"] sTextOf f29 _ := ⟨F29, PySem.W.mg_of X G a29, F29.binds (ps := ["_law_label", "_law_keys"]) fun _ _ _ _ _ _ us hl => match us, hl with | [_, _], _ => rfl⟩
  have F30 := fun_mk (st := sLawDiscIn) l30 c30 k30
  have D30 : Df K mg "_law_disc_in" ["_law_row"] sLawDiscIn f30 _ := ⟨F30, PySem.W.mg_of X G a30, F30.binds (ps := ["_law_row"]) fun _ _ _ _ _ _ us hl => match us, hl with | [_], _ => rfl⟩
  have F31 := fun_mk (st := sRightRow) l31 c31 k31
  have D31 : Df K mg "_law_right_row" ["_law_row"] sRightRow f31 _ := ⟨F31, PySem.W.mg_of X G a31, F31.binds (ps := ["_law_row"]) fun _ _ _ _ _ _ us hl => match us, hl with | [_], _ => rfl⟩
  have F32 := fun_mk (st := sRight) l32 c32 k32
  have D32 : Df K mg "_law_right" ["_law_hand_here"] sRight f32 _ := ⟨F32, PySem.W.mg_of X G a32, F32.binds (ps := ["_law_hand_here"]) fun _ _ _ _ _ _ us hl => match us, hl with | [_], _ => rfl⟩
  have F33 := fun_mk (st := sLaw) l33 c33 k33
  have D33 : Df K mg "law" ["_law_script"] sLaw fa _ := ⟨F33, PySem.W.mg_of X G a33, F33.binds (ps := ["_law_script"]) fun _ _ _ _ _ _ us hl => match us, hl with | [_], _ => rfl⟩
  let e : Ex := ⟨cNotSuch, cLost, cTaken, cNoCustom, cNoDay, cNoDisc, cNoEntry, cNoKey, cNoLength, cNoLine, cNoName, cNoNumber, cNoPath, cSame, cStruck, cTwice, cNoText⟩
  have no : ∀ {c : Addr}, PySem.W.isClsIn K c = true → PySem.W.typeIn K (.ref c) = some (.type "type") → PySem.W.subIn K (.ref cNoText) (.ref c) = some false → PySem.W.kitOne K (.ref cNoText) (.ref c) = some false := fun a b d => kit_no a b d sb_NoText
  have exs : ∀ {c : Addr} {b : Bool}, PySem.W.isClsIn K c = true → PySem.W.typeIn K (.ref c) = some (.type "type") → PySem.W.subIn K (.ref c) (.type "BaseException") = some true → PySem.W.subIn K (.ref cNoText) (.ref c) = some b → PySem.W.exmOne K (.ref cNoText) (.ref c) = some b := fun a b d g => exm_is a b d g
  have T : Txt K mg cDisc e := ⟨⟨pg, hd, po, sa⟩,
    nL,
    nR,
    PySem.W.mg_of X G a_Disc,
    ⟨⟨pg, hd, po, sa⟩, ha, hn, ht, hm, kit_self⟩,
    ⟨_, PySem.W.mg_of X G g_SMALL_LETTERS⟩,
    ⟨_, PySem.W.mg_of X G g_LONGEST_WORD⟩,
    ⟨_, PySem.W.mg_of X G g_KEY_PARTS⟩,
    ⟨_, PySem.W.mg_of X G g_MOST_ROWS⟩,
    ⟨_, PySem.W.mg_of X G g_FIGURES⟩,
    ⟨_, PySem.W.mg_of X G g_MOST_FIGURES⟩,
    PySem.W.mg_of X G a_NotSuch,
    PySem.W.mg_of X G a_Lost,
    PySem.W.mg_of X G a_Taken,
    PySem.W.mg_of X G a_NoCustom,
    PySem.W.mg_of X G a_NoDay,
    PySem.W.mg_of X G a_NoDisc,
    PySem.W.mg_of X G a_NoEntry,
    PySem.W.mg_of X G a_NoKey,
    PySem.W.mg_of X G a_NoLength,
    PySem.W.mg_of X G a_NoLine,
    PySem.W.mg_of X G a_NoName,
    PySem.W.mg_of X G a_NoNumber,
    PySem.W.mg_of X G a_NoPath,
    PySem.W.mg_of X G a_Same,
    PySem.W.mg_of X G a_Struck,
    PySem.W.mg_of X G a_Twice,
    PySem.W.mg_of X G a_NoText,
    PySem.W.mg_none_of X G z_isinstance,
    PySem.W.mg_none_of X G z_int,
    PySem.W.mg_none_of X G z_bool,
    PySem.W.mg_none_of X G z_str,
    PySem.W.mg_none_of X G z_tuple,
    PySem.W.mg_none_of X G z_list,
    PySem.W.mg_none_of X G z_len,
    PySem.W.mg_none_of X G z_all,
    PySem.W.mg_none_of X G z_abs,
    PySem.W.mg_none_of X G z_range,
    PySem.W.mg_none_of X G z_repr,
    PySem.W.mg_none_of X G z_max,
    PySem.W.mg_none_of X G z_min,
    PySem.W.mg_none_of X G z_enumerate,
    PySem.W.mg_none_of X G z_ValueError,
    ⟨⟨nmX, qX, NX, bsX, bmX, snX, subX, abX, colX, ddX, k0X, k1X, k2X, k3X, k5X, oX, hbX⟩, saX, exX, ty_NoText, kX⟩,
    ⟨ic_NoText, gaX, ggX, exX, hdX, haX, hn, ht, hmX⟩,
    ⟨rdN, spN, fiN⟩,
    fl1,
    fl2,
    exm_3 (exs ic_NotSuch ty_NotSuch be_NotSuch sb_NotSuch) (exs ic_Lost ty_Lost be_Lost sb_Lost) (exs ic_Taken ty_Taken be_Taken sb_Taken),
    kit_skip (no ic_Lost ty_Lost sb_Lost) (kit_skip (no ic_Taken ty_Taken sb_Taken) (kit_skip (no ic_NoCustom ty_NoCustom sb_NoCustom) (kit_skip (no ic_NoDay ty_NoDay sb_NoDay) (kit_skip (no ic_NoDisc ty_NoDisc sb_NoDisc) (kit_skip (no ic_NoEntry ty_NoEntry sb_NoEntry) (kit_skip (no ic_NoKey ty_NoKey sb_NoKey) (kit_skip (no ic_NoLength ty_NoLength sb_NoLength) (rfl)))))))),
    kit_skip (no ic_NoLine ty_NoLine sb_NoLine) (kit_skip (no ic_NoName ty_NoName sb_NoName) (kit_skip (no ic_NoNumber ty_NoNumber sb_NoNumber) (kit_skip (no ic_NoPath ty_NoPath sb_NoPath) (kit_skip (no ic_Same ty_Same sb_Same) (kit_skip (no ic_Struck ty_Struck sb_Struck) (kit_skip (no ic_Twice ty_Twice sb_Twice) (rfl))))))),
    kit_self,
    kit_yes ic_NotSuch ty_NotSuch sb_NotSuch,
    kit_ve sVE⟩
  have Wc : OwnC K cDisc f10 := ⟨a10, i10, nE, hm, rint, rstr, rNoneType, rtuple, rlist⟩
  have Z : KitC K cDisc := kitC_mk tyC hm sint sstr sNoneType stuple slist
  refine ⟨PySem.W.fnOf "law" "law" (defArgs sLaw) (defBody sLaw) (defScope sLaw) .none kV33 dc33 pm33 an33 cd33 ct33, fun s v => .of_eq rfl, fun base kb gb nd => ?g⟩
  case g =>
    have N : Nt l.prog w K mg base e f0 _ := ⟨ok_nt (P := l.prog) (w := w) (base := base) F0 T, a0, tyF, B0⟩
    have cWh := D1.ca (ok_whole (P := l.prog) (w := w) (base := base) D1 T)
    have cO := D2.ca (ok_of (P := l.prog) (w := w) (base := base) D2 T)
    have cS := D3.ca (ok_small D3 T cO)
    have cWd := D4.ca (ok_word8 D4 T cS)
    have cK := D5.ca (ok_key D5 T cWd cWh)
    have cRw := D8.ca (ok_rows D8 T cK)
    have cSk := D6.ca (ok_sk (P := l.prog) (w := w) (base := base) D6 T)
    have cSks := D7.ca (ok_sks D7 T cSk)
    have G2 : Dc l.prog w K mg base cDisc e f9 _ := ⟨⟨mk, a9, i9, kc⟩, ok_init F9 T cWd cRw, B9⟩
    have O : Own l.prog w K mg base cDisc f10 f11 _ _ := ⟨Wc, Z, ok_eq F10 T Z, B10, a11, i11, ok_str F11 T cSks, B11⟩
    have cFg := D12.ca (ok_fig D12 T cO)
    have cNu := D13.ca (ok_num D13 T cFg)
    have oKi := ok_ki D14 T cNu cK
    have RK : FnR l.prog w K mg base CX0 5 f14 spKi := (oKi.raw D14.bd .nil).imp fun vs H Q E h => by rw [List.append_nil]; exact h
    have cAi := D15.ca (ok_ai D15 T D14.fn.kp RK)
    have cKsi := D16.ca (ok_ksi D16 T cAi D14.mgf)
    have oDi := ok_di D17 T G2 O cKsi cWd cRw
    have RD : FnR l.prog w K mg base CX0 8 f17 (spDi K cDisc) := (oDi.raw D17.bd .nil).imp fun vs H Q E h => by rw [List.append_nil]; exact h
    have S : Sd l.prog w K mg base cDisc e f17 f18 _ := sd_mk F18 (PySem.W.mg_of X G a18) (ok_sd F18 T N D17.fn.kp RD)
    have R : Rd l.prog w K mg base cDisc e f19 _ := ⟨ok_rd D19 T S D17.mgf, D19.mgf, D19.fn.kp, D19.bd⟩
    have cH := D20.ca (ok_hand (P := l.prog) (w := w) (base := base) D20 T)
    have cT := D21.ca (ok_take (P := l.prog) (w := w) (base := base) D21)
    have cP := D22.ca (ok_pick D22 T cT)
    have cKy := D23.ca (ok_ky D23 T cT cP)
    have cLf := D24.ca (ok_lf (P := l.prog) (w := w) (base := base) D24 T)
    have cLn := D25.ca (ok_ln D25 T cLf)
    have cLk := D26.ca (ok_lk D26 T cLn)
    have cLd := D30.ca (ok_ld D30 T cLk)
    have cTx := D29.ca (ok_tx (P := l.prog) (w := w) (base := base) D29 T)
    have cBn := D27.ca (ok_bn D27 T cT cP)
    have cA := D28.ca (ok_alone (P := l.prog) (w := w) (base := base) D28 T)
    exact ok_law D33 T cH D32 (ok_right D32 T G2 O cT cP cKy cTx cBn D31 (ok_row D31 T G2 O R cLd cA))
end K66
open PySem PySem.W PyProof.Rows
set_option maxRecDepth 100000 in
set_option maxHeartbeats 0 in
theorem PySem.Challenge.cw_takesworks_k66_discs_read_holds : PySem.Challenge.rw_takesworks_k66_discs_read.Holds := by
  w_on; o_law; k_head; (case hw => w_witness2)
  k_fill
  refine K66.walk_go (l := PySem.Challenge.rw_takesworks_k66_discs_read) (n := 63) (k := 13) (x := "_law_script") (sp := K66.spLaw) rfl (by decide) rfl ⟨rfl, by decide, by decide⟩ (fun w h Y => PySem.W.kIn_of Y) ?F
    (fun _ _ a ns hl hS => ⟨a, ns, rfl, hS, hl, fun _ => rfl⟩)
  case F =>
    intro w mg fa h KX G hmg
    refine' K66.all_mk KX G hmg ?a_Disc ?a_NotSuch ?a_Lost ?a_Taken ?a_NoCustom ?a_NoDay ?a_NoDisc ?a_NoEntry ?a_NoKey ?a_NoLength ?a_NoLine ?a_NoName ?a_NoNumber ?a_NoPath ?a_Same ?a_Struck ?a_Twice ?a_NoText ?a0 ?i0 ?l0 ?c0 ?k0 ?a1 ?l1 ?c1 ?k1 ?a2 ?l2 ?c2 ?k2 ?a3 ?l3 ?c3 ?k3 ?a4 ?l4 ?c4 ?k4 ?a5 ?l5 ?c5 ?k5 ?a6 ?l6 ?c6 ?k6 ?a7 ?l7 ?c7 ?k7 ?a8 ?l8 ?c8 ?k8 ?a9 ?i9 ?l9 ?c9 ?k9 ?a10 ?i10 ?l10 ?c10 ?k10 ?a11 ?i11 ?l11 ?c11 ?k11 ?a12 ?l12 ?c12 ?k12 ?a13 ?l13 ?c13 ?k13 ?a14 ?l14 ?c14 ?k14 ?a15 ?l15 ?c15 ?k15 ?a16 ?l16 ?c16 ?k16 ?a17 ?l17 ?c17 ?k17 ?a18 ?l18 ?c18 ?k18 ?d18 ?a19 ?l19 ?c19 ?k19 ?a20 ?l20 ?c20 ?k20 ?a21 ?l21 ?c21 ?k21 ?a22 ?l22 ?c22 ?k22 ?a23 ?l23 ?c23 ?k23 ?a24 ?l24 ?c24 ?k24 ?a25 ?l25 ?c25 ?k25 ?a26 ?l26 ?c26 ?k26 ?a27 ?l27 ?c27 ?k27 ?a28 ?l28 ?c28 ?k28 ?a29 ?l29 ?c29 ?k29 ?a30 ?l30 ?c30 ?k30 ?a31 ?l31 ?c31 ?k31 ?a32 ?l32 ?c32 ?k32 ?a33 ?l33 ?c33 ?k33 ?g_SMALL_LETTERS ?g_LONGEST_WORD ?g_KEY_PARTS ?g_MOST_ROWS ?g_FIGURES ?g_MOST_FIGURES ?ic_NotSuch ?ty_NotSuch ?sb_NotSuch ?ic_Lost ?ty_Lost ?sb_Lost ?ic_Taken ?ty_Taken ?sb_Taken ?ic_NoCustom ?ty_NoCustom ?sb_NoCustom ?ic_NoDay ?ty_NoDay ?sb_NoDay ?ic_NoDisc ?ty_NoDisc ?sb_NoDisc ?ic_NoEntry ?ty_NoEntry ?sb_NoEntry ?ic_NoKey ?ty_NoKey ?sb_NoKey ?ic_NoLength ?ty_NoLength ?sb_NoLength ?ic_NoLine ?ty_NoLine ?sb_NoLine ?ic_NoName ?ty_NoName ?sb_NoName ?ic_NoNumber ?ty_NoNumber ?sb_NoNumber ?ic_NoPath ?ty_NoPath ?sb_NoPath ?ic_Same ?ty_Same ?sb_Same ?ic_Struck ?ty_Struck ?sb_Struck ?ic_Twice ?ty_Twice ?sb_Twice ?ic_NoText ?ty_NoText ?sb_NoText ?be_NotSuch ?be_Lost ?be_Taken ?sVE ?oX ?hbX ?saX ?exX ?kX ?gaX ?ggX ?hdX ?haX ?hmX ?fl1 ?fl2 ?tyF ?rdN ?spN ?fiN ?pg ?hd ?po ?sa ?mk ?kc ?nL ?nR ?ha ?hn ?ht ?hm ?sint ?sstr ?sNoneType ?stuple ?slist ?rint ?rstr ?rNoneType ?rtuple ?rlist ?tyC ?nE ?z_isinstance ?z_int ?z_bool ?z_str ?z_tuple ?z_list ?z_len ?z_all ?z_abs ?z_range ?z_repr ?z_max ?z_min ?z_enumerate ?z_ValueError
    (case a_Disc => k_is)
    (case a_NotSuch => k_is)
    (case a_Lost => k_is)
    (case a_Taken => k_is)
    (case a_NoCustom => k_is)
    (case a_NoDay => k_is)
    (case a_NoDisc => k_is)
    (case a_NoEntry => k_is)
    (case a_NoKey => k_is)
    (case a_NoLength => k_is)
    (case a_NoLine => k_is)
    (case a_NoName => k_is)
    (case a_NoNumber => k_is)
    (case a_NoPath => k_is)
    (case a_Same => k_is)
    (case a_Struck => k_is)
    (case a_Twice => k_is)
    (case a_NoText => k_is)
    (case a0 => k_is)
    (case i0 => k_is)
    (case l0 => k_is)
    (case c0 => k_is)
    (case k0 => k_is)
    (case a1 => k_is)
    (case l1 => k_is)
    (case c1 => k_is)
    (case k1 => k_is)
    (case a2 => k_is)
    (case l2 => k_is)
    (case c2 => k_is)
    (case k2 => k_is)
    (case a3 => k_is)
    (case l3 => k_is)
    (case c3 => k_is)
    (case k3 => k_is)
    (case a4 => k_is)
    (case l4 => k_is)
    (case c4 => k_is)
    (case k4 => k_is)
    (case a5 => k_is)
    (case l5 => k_is)
    (case c5 => k_is)
    (case k5 => k_is)
    (case a6 => k_is)
    (case l6 => k_is)
    (case c6 => k_is)
    (case k6 => k_is)
    (case a7 => k_is)
    (case l7 => k_is)
    (case c7 => k_is)
    (case k7 => k_is)
    (case a8 => k_is)
    (case l8 => k_is)
    (case c8 => k_is)
    (case k8 => k_is)
    (case a9 => k_is)
    (case i9 => k_is)
    (case l9 => k_is)
    (case c9 => k_is)
    (case k9 => k_is)
    (case a10 => k_is)
    (case i10 => k_is)
    (case l10 => k_is)
    (case c10 => k_is)
    (case k10 => k_is)
    (case a11 => k_is)
    (case i11 => k_is)
    (case l11 => k_is)
    (case c11 => k_is)
    (case k11 => k_is)
    (case a12 => k_is)
    (case l12 => k_is)
    (case c12 => k_is)
    (case k12 => k_is)
    (case a13 => k_is)
    (case l13 => k_is)
    (case c13 => k_is)
    (case k13 => k_is)
    (case a14 => k_is)
    (case l14 => k_is)
    (case c14 => k_is)
    (case k14 => k_is)
    (case a15 => k_is)
    (case l15 => k_is)
    (case c15 => k_is)
    (case k15 => k_is)
    (case a16 => k_is)
    (case l16 => k_is)
    (case c16 => k_is)
    (case k16 => k_is)
    (case a17 => k_is)
    (case l17 => k_is)
    (case c17 => k_is)
    (case k17 => k_is)
    (case a18 => k_is)
    (case l18 => k_is)
    (case c18 => k_is)
    (case k18 => k_is)
    (case d18 => k_is)
    (case a19 => k_is)
    (case l19 => k_is)
    (case c19 => k_is)
    (case k19 => k_is)
    (case a20 => k_is)
    (case l20 => k_is)
    (case c20 => k_is)
    (case k20 => k_is)
    (case a21 => k_is)
    (case l21 => k_is)
    (case c21 => k_is)
    (case k21 => k_is)
    (case a22 => k_is)
    (case l22 => k_is)
    (case c22 => k_is)
    (case k22 => k_is)
    (case a23 => k_is)
    (case l23 => k_is)
    (case c23 => k_is)
    (case k23 => k_is)
    (case a24 => k_is)
    (case l24 => k_is)
    (case c24 => k_is)
    (case k24 => k_is)
    (case a25 => k_is)
    (case l25 => k_is)
    (case c25 => k_is)
    (case k25 => k_is)
    (case a26 => k_is)
    (case l26 => k_is)
    (case c26 => k_is)
    (case k26 => k_is)
    (case a27 => k_is)
    (case l27 => k_is)
    (case c27 => k_is)
    (case k27 => k_is)
    (case a28 => k_is)
    (case l28 => k_is)
    (case c28 => k_is)
    (case k28 => k_is)
    (case a29 => k_is)
    (case l29 => k_is)
    (case c29 => k_is)
    (case k29 => k_is)
    (case a30 => k_is)
    (case l30 => k_is)
    (case c30 => k_is)
    (case k30 => k_is)
    (case a31 => k_is)
    (case l31 => k_is)
    (case c31 => k_is)
    (case k31 => k_is)
    (case a32 => k_is)
    (case l32 => k_is)
    (case c32 => k_is)
    (case k32 => k_is)
    (case a33 => k_is)
    (case l33 => k_is)
    (case c33 => k_is)
    (case k33 => k_is)
    (case g_SMALL_LETTERS => k_is)
    (case g_LONGEST_WORD => k_is)
    (case g_KEY_PARTS => k_is)
    (case g_MOST_ROWS => k_is)
    (case g_FIGURES => k_is)
    (case g_MOST_FIGURES => k_is)
    (case ic_NotSuch => k_is)
    (case ty_NotSuch => k_is)
    (case sb_NotSuch => k_is)
    (case ic_Lost => k_is)
    (case ty_Lost => k_is)
    (case sb_Lost => k_is)
    (case ic_Taken => k_is)
    (case ty_Taken => k_is)
    (case sb_Taken => k_is)
    (case ic_NoCustom => k_is)
    (case ty_NoCustom => k_is)
    (case sb_NoCustom => k_is)
    (case ic_NoDay => k_is)
    (case ty_NoDay => k_is)
    (case sb_NoDay => k_is)
    (case ic_NoDisc => k_is)
    (case ty_NoDisc => k_is)
    (case sb_NoDisc => k_is)
    (case ic_NoEntry => k_is)
    (case ty_NoEntry => k_is)
    (case sb_NoEntry => k_is)
    (case ic_NoKey => k_is)
    (case ty_NoKey => k_is)
    (case sb_NoKey => k_is)
    (case ic_NoLength => k_is)
    (case ty_NoLength => k_is)
    (case sb_NoLength => k_is)
    (case ic_NoLine => k_is)
    (case ty_NoLine => k_is)
    (case sb_NoLine => k_is)
    (case ic_NoName => k_is)
    (case ty_NoName => k_is)
    (case sb_NoName => k_is)
    (case ic_NoNumber => k_is)
    (case ty_NoNumber => k_is)
    (case sb_NoNumber => k_is)
    (case ic_NoPath => k_is)
    (case ty_NoPath => k_is)
    (case sb_NoPath => k_is)
    (case ic_Same => k_is)
    (case ty_Same => k_is)
    (case sb_Same => k_is)
    (case ic_Struck => k_is)
    (case ty_Struck => k_is)
    (case sb_Struck => k_is)
    (case ic_Twice => k_is)
    (case ty_Twice => k_is)
    (case sb_Twice => k_is)
    (case ic_NoText => k_is)
    (case ty_NoText => k_is)
    (case sb_NoText => k_is)
    (case be_NotSuch => k_is)
    (case be_Lost => k_is)
    (case be_Taken => k_is)
    (case sVE => k_is)
    (case oX => k_is)
    (case hbX => decide +kernel)
    (case saX => k_is)
    (case exX => k_is)
    (case kX => k_is)
    (case gaX => k_is)
    (case ggX => k_is)
    (case hdX => k_is)
    (case haX => k_is)
    (case hmX => k_is)
    (case fl1 => k_is)
    (case fl2 => k_is)
    (case tyF => k_is)
    (case rdN => k_is)
    (case spN => k_is)
    (case fiN => k_is)
    (case pg => k_is)
    (case hd => k_is)
    (case po => k_is)
    (case sa => k_is)
    (case mk => k_is)
    (case kc => k_is)
    (case nL => k_is)
    (case nR => k_is)
    (case ha => k_is)
    (case hn => k_is)
    (case ht => k_is)
    (case hm => k_is)
    (case sint => k_is)
    (case sstr => k_is)
    (case sNoneType => k_is)
    (case stuple => k_is)
    (case slist => k_is)
    (case rint => k_is)
    (case rstr => k_is)
    (case rNoneType => k_is)
    (case rtuple => k_is)
    (case rlist => k_is)
    (case tyC => k_is)
    (case nE => k_is)
    (case z_isinstance => k_is)
    (case z_int => k_is)
    (case z_bool => k_is)
    (case z_str => k_is)
    (case z_tuple => k_is)
    (case z_list => k_is)
    (case z_len => k_is)
    (case z_all => k_is)
    (case z_abs => k_is)
    (case z_range => k_is)
    (case z_repr => k_is)
    (case z_max => k_is)
    (case z_min => k_is)
    (case z_enumerate => k_is)
    (case z_ValueError => k_is)
