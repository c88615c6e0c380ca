import PyProof.Rows.All
import Wide.All
import OpenK.AllK
import Wide.FinOn
import HandS.ForMost
import HandS.ForExc
import HandS.Wide
import HandS.Flow
import HandS.IsInst
import HandS.Codes
import HandS.ExcInit
import HandS.ExcField
import HandS.ExcIs
import HandS.CallSlots
import HandS.Defaults
import HandS.MakeKw
import HandS.MakeKwOnly
import KE.KExcIs
import KE.KTryMore
import HandS.RaiseMore
import HandS.FStrTup
import PyProof.ReprRoads
import PyProof.StrLawsRepr
import KE.GoesMore
import HandS.Iter
import HandS.Walk
import HandS.More
import KE.GoesZip
import KE.GoesEnum
import PyProof.NeKinds
import HandS.TupAny
import HandS.Style
import HandS.TupLe
import PyProof.StrOps2
import HandS.Strs
import HandS.Zip
import HandS.DictComp
import PyProof.AutoSeq1
import HandS.Text
import PyProof.Rows.StrLast
import KE.KxText
import KE.DataCmp
import KE.SortKeyHeap
import HandS.SortKw
import HandS.OwnEq
import HandS.FStr
import KE.KCallOwn
import HandS.TupMul
import HandS.ExcOwn
import HandS.StrMore
import PyProof.Rows.StrPartPair
import KE.SortLaws
import KE.OsSortAny
import PySem.Challenge.RW_takesworks_k79_whole_sorted_and_shown
set_option Elab.async false
set_option linter.all false
set_option maxRecDepth 100000
set_option maxHeartbeats 4000000
set_option pp.maxSteps 400
set_option pp.deepTerms false
/-! A caught exception that is kept: tracked as an object of its own, with its class and its dict. -/
namespace Xk
open PySem PySem.Spec PyProof.Rows L2
/-- at a: an exception of the class cls, its dict at d (if it has one) -/
def ExK (cls : Value) (d : Option Addr) (a : Addr) : HO := .ext fun h => ∃ oe : Obj, h.get? a = some oe ∧ Zc cls d oe ∧ ∃ vs, oe.data = .fields vs
theorem exK_ok {P : Program} {w : World} {H : Hp} {h : Heap} {a : Addr} {cls : Value} {d : Option Addr} {oe : Obj} {vs : Array Value}
    (e : h.get? a = some oe) (z : Zc cls d oe) (hd : oe.data = .fields vs) : ObjOk P w H h a (ExK cls d a) :=
  ⟨⟨oe, e, z, vs, hd⟩, ⟨oe, e⟩, fun _ _ y k => by
    obtain ⟨o, q, r⟩ := y
    exact ⟨o, k o q, r⟩⟩
theorem exK_at {P : Program} {w : World} {H : Hp} {h : Heap} {a : Addr} {cls : Value} {d : Option Addr} (hok : HOk P w H h) (e : H a = some (ExK cls d a)) :
    ∃ oe : Obj, h.get? a = some oe ∧ Zc cls d oe ∧ ∃ vs, oe.data = .fields vs := by
  have z : ObjOk P w H h a (.ext fun h => ∃ oe : Obj, h.get? a = some oe ∧ Zc cls d oe ∧ ∃ vs, oe.data = .fields vs) := hok a _ e
  exact z.1
section
variable {X : Cx} {pins : List (Addr × Obj)} {σ : L2.St} {H : Hp} {s : Shared}
/-- an object that came during the call, untracked as yet, is tracked from here on -/
theorem track {a : Addr} {o : HO} (I : Inv X pins σ H s) (h0 : X.s_0.heap.get? a = none) (na : H a = none) (nL : a ≠ X.env.locals)
    (nC : ∀ x c, X.env.cells.lookup x = some c → c ≠ a) (nP : ∀ p ∈ X.pn ++ pins, p.1 ≠ a) (new : ObjOk X.prog X.w (upd H a o) s.heap a o) : Inv X pins σ (upd H a o) s := by
  have n0 : ∀ {b : Addr} {u : Obj}, X.s_0.heap.get? b = some u → b ≠ a := fun {b u} e z => by
    rw [z, h0] at e
    cases e
  refine ⟨I.ok, I.os, I.bare, ⟨I.base.keep, I.base.slot, fun b u e n hx => ?_, I.base.there, fun b xs e => ?_, fun b u v e => ?_, fun b ps e => ?_⟩, I.loc, I.cell, ?_, fun x c e => ?_, fun p hp => ?_, fun b u e => ?_, I.len⟩
  · rw [upd_ne (n0 e)]
    exact I.base.free b u e n hx
  · have q := I.base.tups b xs e
    rw [upd_ne (ne_of_none q na)]
    exact q
  · have q := I.base.frzs b u v e
    rw [upd_ne (ne_of_none q na)]
    exact q
  · obtain ⟨m, q⟩ := I.base.tbls b ps e
    exact ⟨m, by rw [upd_ne (ne_of_none q na)]; exact q⟩
  · rw [upd_ne (Ne.symm nL)]
    exact I.free
  · rw [upd_ne (nC x c e)]
    exact I.freeC x c e
  · obtain ⟨e1, e2, e3⟩ := I.pin p hp
    exact ⟨e1, by rw [upd_ne (nP p hp)]; exact e2, e3⟩
  · by_cases hb : b = a
    · subst hb
      rw [upd_same] at e
      cases e
      exact new
    · rw [upd_ne hb] at e
      refine (I.hok b u e).stay (fun _ _ _ q => q) (fun c q => ?_) fun c xs q => ?_
      · rw [upd_ne (ne_of_none q na)]
        exact q
      · rw [upd_ne (ne_of_none q na)]
        exact q
end
theorem flying_kept {B h h' : Heap} {l : List Env} {a : Addr} {Z : Obj → Prop} (f : HandSPX.FlyingZ B l a Z h) (k : ∀ b o, h.get? b = some o → h'.get? b = some o) : HandSPX.FlyingZ B l a Z h' := by
  obtain ⟨f1, f2, f3, oe, vs, T, oT, ts, t1, t2, t3, t4, t5, t6, t7, t8, t9⟩ := f
  exact ⟨fun b o e => k b o (f1 b o e), f2, f3.of_keeps fun b o e _ => ⟨o, k b o e, rfl⟩, oe, vs, T, oT, ts, k _ _ t1, t2, t3, t4, t5, t6, k _ _ t7, t8, t9⟩
/-- what the clause 'except (A, B, C) as n' wishes of an exception of the body: slot i is n's; the exception is tracked -/
def wKeep (K : PySem.W.Frag) (cs : List Value) (i : Nat) (ts : Addr → TS) (Wout : WX) (D : Ends) : WX := fun cls d σ H =>
  ∃ b, PySem.W.exmAny K cls cs = some b ∧
    (b = true → ∀ a, H a = none → ts a { nx := fun σ' H' => D.nx (σ'.set i none) H', rt := D.rt, bk := fun σ' H' => D.bk (σ'.set i none) H', ct := fun σ' H' => D.ct (σ'.set i none) H' } (σ.set i (some (.ref a))) (upd H a (ExK cls d a))) ∧
    (b = false → Wout cls d σ H)
/-- a module's own class by its name -/
structure Nm (X : Cx) (x : Str) (C : Addr) : Prop where
  gl : Gl X x
  db : (x == ("__debug__" : Str)) = false
  mg : X.mg x = some (.ref C)
section
variable {X : Cx} {x1 x2 x3 n : Str} {C1 C2 C3 : Addr} {i : Nat} {body suite : List Stmt} {b₀ : Stmt} {p1 p2 p3 tp pos pos' : Pos} {tb : WX → TS} {ts : Addr → TS} {Wout : WX} {cx}
theorem ps_try_keep (hs : X.stack = X.env :: X.outer) (hf : X.env.frame = some X.env.locals) (hex : X.ex = []) (hN : X.N.Nodup) (hi : X.N[i]? = some n) (hln : X.env.kindOf n = some .local)
    (n1 : Nm X x1 C1) (n2 : Nm X x2 C2) (n3 : Nm X x3 C3) (tk : Takes X Wout)
    (hb : ∀ (W : WX) (pn : List (Addr × Obj)) (xe : Value → Shared → Prop), Takes (X.tr pn xe) W → PassesOwn (model X.prog X.w) X.A X.env xe → PSs (X.tr pn xe) body (tb W))
    (hsu : ∀ (a : Addr) (pn : List (Addr × Obj)), PSs (X.suite a pn) (b₀ :: suite) (ts a)) :
    PS X (.Try body [.ExceptHandler (some (.Tuple [.Name x1 p1, .Name x2 p2, .Name x3 p3] cx tp)) (some n) (b₀ :: suite) pos'] [] [] pos) (fun D σ H => tb (wKeep X.K [.ref C1, .ref C2, .ref C3] i ts Wout D) D σ H) := by
  refine ⟨fun pins s σ H D I h => ?_⟩
  have ok := I.ok
  have frs2 : X.A.frames = some (X.env :: X.outer) := by rw [ok.frames, hs]
  refine wpAny_Try_except ?_
  refine wpAny_mono ((hb (wKeep X.K [.ref C1, .ref C2, .ref C3] i ts Wout D) (X.pn ++ pins)
    (fun e s₁ => wpAny (model X.prog X.w) X.A (noteFrame e X.env) (fun _ s₂ => wpAny (model X.prog X.w) X.A (setFlight e none) (fun _ s₃ => wpAny (model X.prog X.w) X.A
      (handleBy e X.env [.ExceptHandler (some (.Tuple [.Name x1 p1, .Name x2 p2, .Name x3 p3] cx tp)) (some n) (b₀ :: suite) pos']) (SP X pins D) X.xe s₃) X.xe s₂) X.xe s₁)
    (fun u s' air => ?_) PassesOwn.looking).run [] s σ H D (I.toTry _) h) (fun f s1 hsp => ?_) (fun e s1 he => he)
  · obtain ⟨a, B, sI, pins', σ', H', cls, d, rfl, J', nb, up, sky, na, os, ag, b, hb1, hyes, hno⟩ := air
    have J : Inv X pins σ' H' sI := J'.ofTry ok
    have sky2 : Sky B (X.env :: X.outer) a (Zc cls d) X.env.locals s'.heap := by
      rw [← hs]
      exact sky
    refine Sky.land Zc.steady frs2 hf sky2 fun h3 fl3 up3 => ?_
    obtain ⟨oe3, vs3, he3, hz3, hd3⟩ := fl3.there
    have nfr : a ∉ frs (X.env :: X.outer) := fun hm => by
      obtain ⟨_, o', e', hnf⟩ := fl3.2.2.1.mem hm
      rw [he3] at e'
      cases e'
      exact hnf _ hd3
    have nL : a ≠ X.env.locals := fun z => nfr (List.mem_filterMap.mpr ⟨X.env, List.mem_cons_self, by rw [hf, z]⟩)
    have nF : a ∉ X.fs := fun hm => by
      obtain ⟨e, he, q⟩ := List.mem_filterMap.mp hm
      exact nfr (List.mem_filterMap.mpr ⟨e, List.mem_cons_of_mem _ he, q⟩)
    -- it was not there when the call began
    have aI : sI.heap.get? a = none := by
      cases e : sI.heap.get? a with
      | none => rfl
      | some o =>
        have z := nb a o e (by rw [hs]; exact nfr)
        rw [fl3.2.1] at z
        cases z
    have a0 : X.s_0.heap.get? a = none := by
      cases e : X.s_0.heap.get? a with
      | none => rfl
      | some o =>
        obtain ⟨o', z⟩ := J.base.there a o e (by rw [hex]; exact fun z => nomatch z)
        rw [aI] at z
        cases z
    have nP : ∀ p ∈ X.pn ++ pins, p.1 ≠ a := fun p hp z => by
      have q := (J.pin p hp).1
      rw [z, aI] at q
      cases q
    have trk : ∀ {h4 : Heap} {s4 : Shared}, s4.heap = h4 → HandSPX.FlyingZ B (X.env :: X.outer) a (Zc cls d) h4 → Inv X pins σ' H' s4 → Inv X pins σ' (upd H' a (ExK cls d a)) s4 := fun {h4 s4} e4 fl4 J4 => by
      subst e4
      obtain ⟨oe4, vs4, he4, hz4, hd4⟩ := fl4.there
      refine track J4 a0 na nL (fun x c e z => ?_) nP (exK_ok he4 hz4 hd4)
      obtain ⟨v, o, eo, ed⟩ := J4.cell x c e
      rw [z, he4] at eo
      cases eo
      rw [hd4] at ed
      cases ed
    have J3 : Inv X pins σ' H' { s' with heap := h3 } := J.landed nb fl3.1 (up.trans up3) os ag
    have S3 : Inv (X.suite a (X.pn ++ pins)) [] σ' H' { s' with heap := h3 } :=
      ⟨J3.ok.suite _ _, J3.os, J3.bare, J3.base, J3.loc, J3.cell, J3.free, J3.freeC, fun p hp => J3.pin p (by rw [List.append_nil] at hp; exact hp), J3.hok, J3.len⟩
    refine wpAny_handleBy_cons (codeAny_handlers_test ?_) (by intro q; cases q)
    have own : ∀ {x : Str} {C : Addr} {p : Pos} {Q : Value → Shared → Prop} {E : Value → Shared → Prop}, Nm X x C → Q (.ref C) { s' with heap := h3 } →
        wpAny (model X.prog X.w) (X.A.mark (some (.ref a))) (eval (.Name x p) X.env) Q E { s' with heap := h3 } := fun {x C p Q E} z q => ld_glob (X := X.suite a (X.pn ++ pins)) S3 z.gl z.mg q z.db
    have tup : ∀ {Q : Value → Shared → Prop} {E : Value → Shared → Prop}, Q (.ref h3.objs.size) { s' with heap := h3.push { cls := .type "tuple", data := .seq [Value.ref C1, .ref C2, .ref C3].toArray } } →
        wpAny (model X.prog X.w) (X.A.mark (some (.ref a))) (eval (.Tuple [.Name x1 p1, .Name x2 p2, .Name x3 p3] cx tp) X.env) Q E { s' with heap := h3 } := fun {Q E} q => by
      refine wpAny_Tuple_spliced ?_
      show wpAny _ _ (spliced ((false, eval (.Name x1 p1) X.env) :: (false, eval (.Name x2 p2) X.env) :: (false, eval (.Name x3 p3) X.env) :: [])) _ _ _
      exact Calls.spliced_cons (own n1 (Calls.spliced_cons (own n2 (Calls.spliced_cons (own n3 (Calls.spliced_nil ⟨by show 3 ≤ sizeLine; decide, q⟩))))))
    refine tup ?_
    have k4 : ∀ b o, h3.get? b = some o → (h3.push { cls := .type "tuple", data := .seq [Value.ref C1, .ref C2, .ref C3].toArray }).get? b = some o := fun b o e => Heap.get?_push_of_some _ e
    have t4 := Heap.get?_push_size h3 (o := { cls := .type "tuple", data := .seq [Value.ref C1, .ref C2, .ref C3].toArray }) rfl
    generalize h3.push { cls := .type "tuple", data := .seq [Value.ref C1, .ref C2, .ref C3].toArray } = h4 at k4 t4 ⊢
    have fl4 := flying_kept fl3 k4
    have J4 : Inv X pins σ' H' { s' with heap := h4 } := J3.kept k4
    have LT : PySem.W.Looks (model X.prog X.w) h4 (typeOf (.ref a)) cls := fun A Q E s k q => wpAny_typeOf_ref (k _ _ (k4 _ _ he3)) (by rw [hz3.1]; exact q)
    refine (PySem.W.exm_tup3 (M := model X.prog X.w) J4.kIn LT t4 hb1).here ?_
    cases b with
    | true =>
      refine codeAny_handlers_suite_as ?_
      refine HandSPX.lands_againZ fl4 fun h5 fl5 up5 => ?_
      have J5 : Inv X pins σ' H' { s' with heap := h5 } := J.landed nb fl5.1 ((up.trans up3).trans ((Heap.UpToSlots.of_keeps k4).trans up5)) os ag
      have T5 := trk rfl fl5 J5
      have S5 : Inv (X.suite a (X.pn ++ pins)) [] σ' (upd H' a (ExK cls d a)) { s' with heap := h5 } :=
        ⟨T5.ok.suite _ _, T5.os, T5.bare, T5.base, T5.loc, T5.cell, T5.free, T5.freeC, fun p hp => T5.pin p (by rw [List.append_nil] at hp; exact hp), T5.hok, T5.len⟩
      refine store_ok (X := X.suite a (X.pn ++ pins)) (v := .ref a) S5 hN hi (.inl hln) rfl (fun s6 S6 => ?_) (.inr hln)
      refine wpAny_mono ((hsu a (X.pn ++ pins)).run [] s6 _ _ _ S6 (hyes rfl a na)) (fun f s7 hsp => ?_) (fun _ _ z => False.elim z)
      have back : ∀ {σ7 : L2.St} {H7 : Hp}, Inv (X.suite a (X.pn ++ pins)) [] σ7 H7 s7 → Inv X pins σ7 H7 s7 := fun {σ7 H7} S7 =>
        ⟨ok, S7.os, S7.bare, S7.base, S7.loc, S7.cell, S7.free, S7.freeC, fun p hp => S7.pin p (by rw [List.append_nil]; exact hp), S7.hok, S7.len⟩
      cases f with
      | next =>
        obtain ⟨σ7, H7, S7, q7⟩ := hsp
        exact gone_ok (back S7) hN hi hln fun s8 J8 => ⟨_, _, J8, q7⟩
      | brk =>
        obtain ⟨σ7, H7, S7, q7⟩ := hsp
        exact gone_ok (back S7) hN hi hln fun s8 J8 => ⟨_, _, J8, q7⟩
      | cont =>
        obtain ⟨σ7, H7, S7, q7⟩ := hsp
        exact gone_ok (back S7) hN hi hln fun s8 J8 => ⟨_, _, J8, q7⟩
      | ret u =>
        obtain ⟨v7, σ7, H7, S7, r7, q7⟩ := hsp
        exact gone_ok (back S7) hN hi hln fun s8 J8 => ⟨_, _, _, J8, r7, q7⟩
    | false =>
      refine wpAny_handleBy_nil ?_
      obtain ⟨k1, k2, k3, oe, vs, T, oT, ts', he, hz, hd, h1, hr⟩ := id fl4
      unfold PySem.passOn
      refine wpAny_bind (wpAny_field he hd h1 ?_)
      rw [if_neg (by simp : ¬ ((Value.ref T == Value.none) = true))]
      have fin : wpAny (model X.prog X.w) X.A (setFlight (.ref a) X.env.frame) (fun _ s5 => wpAny (model X.prog X.w) X.A (throw (.ref a) : Sem Flow) (SP X pins D) X.xe s5) X.xe { s' with heap := h4 } := by
        rw [hf]
        refine HandSPX.setFlight_upZ fl4 fun h5 hh5 up5 => wpAny_throw (tk _ _ ?_)
        exact ⟨a, B, sI, pins, σ', H', cls, d, rfl, J, nb, (up.trans up3).trans ((Heap.UpToSlots.of_keeps k4).trans up5), .inr (.inr (by rw [hs]; exact hh5)), na, os, ag, hno rfl⟩
      first
        | exact wpAny_bind (wpAny_pure (wpAny_bind fin))
        | exact wpAny_bind fin
  · cases f with
    | next =>
      obtain ⟨σ', H', J', q⟩ := hsp
      exact wpAny_execs_nil ⟨σ', H', J'.ofTry ok, q⟩
    | brk =>
      obtain ⟨σ', H', J', q⟩ := hsp
      exact ⟨σ', H', J'.ofTry ok, q⟩
    | cont =>
      obtain ⟨σ', H', J', q⟩ := hsp
      exact ⟨σ', H', J'.ofTry ok, q⟩
    | ret u =>
      obtain ⟨v, σ', H', J', r, q⟩ := hsp
      exact ⟨v, σ', H', J'.ofTry ok, r, q⟩
end
end Xk
set_option Elab.async false
set_option linter.all false
set_option maxRecDepth 100000
set_option maxHeartbeats 4000000
set_option pp.maxSteps 400
set_option pp.deepTerms false
namespace Xk
open PySem PySem.Spec PyProof.Rows L2
/-- what an own exception class says, so that its kept instances are read and asked -/
structure XcC (K : PySem.W.Frag) (C : Addr) : Prop where
  cl : (PySem.W.clsIn K C).isSome = true
  ga : PySem.W.findIn K (.ref C) "__getattribute__" = some (some (.builtin "BaseException.__getattribute__"))
  gg : PySem.W.findIn K (.ref C) "__getattr__" = some none
  sb : PySem.W.subIn K (.ref C) (.type "BaseException") = some true
  hd : PySem.W.hasDictIn K C = true
  ha : PySem.W.findIn K (.ref C) "__class__" = some (some (.builtin "object.__class__"))
  hn : PySem.W.specialIn K (.builtin "object.__class__") "__get__" = some (some (.builtin "getset_descriptor.__get__"))
  ht : PySem.W.takesIn K (.builtin "object.__class__") = some true
  hm : PySem.W.mroIn K C (.type "object") = some true
/-- a kept exception of the class at C with the fields fs -/
def Kept (H : Hp) (a C : Addr) (fs : List (Str × V)) : Prop := ∃ d, H a = some (ExK (.ref C) (some d) a) ∧ H d = some (.xd fs)
theorem Kept.same {H H' : Hp} {a C : Addr} {fs : List (Str × V)} (k : Kept H a C fs) (s : L2.Same H H') : Kept H' a C fs := by
  obtain ⟨d, e1, e2⟩ := k
  exact ⟨d, s _ _ e1, s _ _ e2⟩
section
variable {X : Cx} {pins : List (Addr × Obj)} {σ : L2.St} {H : Hp} {s : Shared}
theorem Kept.inst {a C : Addr} {fs : List (Str × V)} (I : Inv X pins σ H s) (k : Kept H a C fs) :
    ∃ (oe od : Obj) (mA : Str → Option Value), PySem.W.InstAt s.heap a oe C (some od) ∧ (∀ n, PySem.W.lookIn n od = some (mA n)) ∧ ∀ f, RelO (fs.lookup f) (mA f) := by
  obtain ⟨d, e1, e2⟩ := k
  obtain ⟨oe, he, hz, vs, hv⟩ := exK_at I.hok e1
  have hx : ObjOk X.prog X.w H s.heap d (.xd fs) := I.hok d _ e2
  obtain ⟨mA, hns, hr⟩ := hx
  obtain ⟨od, ho, hl⟩ := lookIn_ns hns
  refine ⟨oe, od, mA, ⟨he, hz.1, by unfold PySem.W.notCls; rw [hv] <;> rfl, by rw [hz.2]; exact ho⟩, hl, hr⟩
end
/-- e.f of a kept exception -/
def tKf (C : Addr) (f : Str) (te : TE) : TE := fun σ H Q => te σ H fun x H1 => ∃ (a : Addr) (fs : List (Str × V)) (v : V), x = .ref a ∧ Kept H1 a C fs ∧ fs.lookup f = some v ∧ Q v H1
theorem pe_kf {X : Cx} {C : Addr} {e : Expr} {te : TE} {pos : Pos} {n : Str} (T : XcC X.K C) (hno : PySem.W.findIn X.K (.ref C) n = some none) (he : PE X e te)
    (hb : attributeBase e n X.env (eval e X.env) = eval e X.env := by rfl) : PE X (.Attribute e n pos) (tKf C n te) := by
  refine ⟨fun pins s σ H Q I h => attr_of hb (thn (he.run pins s σ H _ I h) fun u s1 z => ?_)⟩
  obtain ⟨x, H1, I1, rx, a, fs, v, ex, k, l, q⟩ := z
  subst ex
  obtain rfl : u = Value.ref a := rx
  obtain ⟨oe, od, mA, J, hl, hr⟩ := k.inst I1
  obtain ⟨y, hy, ry⟩ := RelO.some_of (v := v) (o := mA n) (by rw [← l]; exact hr n)
  exact HandSPX.exc_get I1.kIn J T.ga T.gg T.sb (PySem.W.findObj_own T.hd hno rfl (by rw [hl, hy])) (handed_of ry) ⟨v, H1, I1.tok _, ry, q⟩
/-- isinstance(e, c), isinstance(e, (c1, ..)) of a kept exception -/
def rIsK (K : PySem.W.Frag) (C : Addr) : List V → Hp → VK → Prop := fun xs H Q => ∃ (a : Addr) (fs : List (Str × V)) (c : V) (u : Value) (b : Bool), xs = [.ref a, c] ∧ Kept H a C fs ∧ ClsV c u ∧ PySem.W.kitOne K (.ref C) u = some b ∧ Q (.bl b) H
def rIsKT (K : PySem.W.Frag) (C : Addr) : List V → Hp → VK → Prop := fun xs H Q => ∃ (a tp : Addr) (fs : List (Str × V)) (cs : List V) (us : List Value) (b : Bool), xs = [.ref a, .ref tp] ∧ Kept H a C fs ∧
  H tp = some (.tup cs) ∧ Paired ClsV cs us ∧ PySem.W.kitAny K (.ref C) us = some b ∧ Q (.bl b) H
theorem call_isK {X : Cx} {C : Addr} (T : XcC X.K C) : CallR X (.builtin "isinstance") (rIsK X.K C) := by
  intro pins s σ H xs us Q I r h
  obtain ⟨a, fs, c, u, b, rfl, k, hc, e, q⟩ := h
  obtain ⟨u1, u2, rfl, r1, r2⟩ := vals2 r
  have e2 := hc.eq r2
  subst e2
  cases (show u1 = Value.ref a from r1)
  obtain ⟨oe, od, mA, J, _, _⟩ := k.inst I
  exact PySem.W.kia_one (PySem.W.kitx_exc (ox := oe) (od := some od) T.cl T.ga T.gg T.sb T.ha T.hn T.ht T.hm) I.kIn J e (fun z => nomatch z) fun tk => ⟨.bl b, H, I.tok tk, rfl, q⟩
theorem call_isKT {X : Cx} {C : Addr} (T : XcC X.K C) : CallR X (.builtin "isinstance") (rIsKT X.K C) := by
  intro pins s σ H xs us Q I r h
  obtain ⟨a, tp, fs, cs, ws, b, rfl, k, hT, hc, e, q⟩ := h
  obtain ⟨u1, u2, rfl, r1, r2⟩ := vals2 r
  cases (show u1 = Value.ref a from r1)
  cases (show u2 = Value.ref tp from r2)
  obtain ⟨oe, od, mA, J, _, _⟩ := k.inst I
  have ht : ObjOk X.prog X.w H s.heap tp (.tup cs) := I.hok tp _ hT
  obtain ⟨_, its, rv, o, h1, h2, n, h3⟩ := ht
  have e3 := ClsV.all hc rv
  subst e3
  obtain ⟨oc, od2, dt, sl⟩ := o
  simp only at h2 h3
  subst h2 h3
  exact PySem.W.kia_tup (PySem.W.kitx_exc (ox := oe) (od := some od) T.cl T.ga T.gg T.sb T.ha T.hn T.ht T.hm) I.kIn J h1 e (fun z => nomatch z) fun tk => ⟨.bl b, H, I.tok tk, rfl, q⟩
/-! ### B.__init__(self, ..), B an own class over ValueError without own __init__ -/
structure BiC (K : PySem.W.Frag) (B : Addr) : Prop where
  rd : PySem.W.readsIn K B (.type "type") = true
  sp : PySem.W.specialIn K (.ref B) "__getattribute__" = some (some (.builtin "type.__getattribute__"))
  fi : PySem.W.findCls K (.ref B) (.type "type") "__init__" = some (.val (.builtin "ValueError.__init__"))
theorem pe_binit {X : Cx} {B : Addr} {x : Str} {e : Expr} {es : List Expr} {ta : TA} {p1 p2 pos : Pos} {pl : Sem Bool} (T : BiC X.K B) (gl : Gl X x) (mg : X.mg x = some (.ref B)) (ha : PA X (e :: es) ta) (hdb : (x == ("__debug__" : Str)) = false := by decide)
    (hc : eval (.Call (.Attribute (.Name x p1) "__init__" p2) (e :: es) [] pos) X.env = (do
      let ov ← eval (.Name x p1) X.env
      standAt p2.atName
      let (f, first) ← holding [ov] (getMethod ov "__init__" pl)
      callWith pos f first (backTo pos (starEach (e :: es) X.env)) (backToKw pos (keywordEach [] X.env))) := by rfl)
    (he : starEach (e :: es) X.env = (false, eval e X.env) :: starEach es X.env := by rfl) (hpl : (backTo pos (starEach es X.env)).any (·.1) = false := by rfl) :
    PE X (.Call (.Attribute (.Name x p1) "__init__" p2) (e :: es) [] pos) (tVeI X.K ta) := by
  refine ⟨fun pins s σ H Q I h => PySem.W.methodCall_KW (ld_glob I gl mg ?_ hdb) hc⟩
  refine PySem.W.method_cls I.kIn T.sp (PySem.W.cls_value I.kIn T.rd T.fi (by decide +kernel) ?_)
  show wpAny _ _ (callWith pos (Value.builtin "ValueError.__init__") [] (backTo pos (starEach (e :: es) X.env)) []) _ _ _
  refine PyProof.Rows.callWith_method1 (thn (ha.run pos pins _ σ H _ (I.tok _) h) fun us s1 z => ?_) he hpl
  obtain ⟨vs, H1, I1, r1, a, C, ws, ev, hl, Tx, ea, q⟩ := z
  subst ev
  cases r1 with
  | @cons _ u0 _ ur ra rw' =>
    obtain rfl : u0 = Value.ref a := ra
    refine oinit_ok Tx I1 ea ?_ fun s' J => ⟨.non, H1, J, rfl, q⟩
    rw [← Paired.length rw', sizeLine_eq]
    omega
/-! ### calls in a try's body: what is raised is wished for at the slots -/
section
variable {X : Cx} {CX : CXT} {k n : Nat} {f C : Addr} {fd : FuncData} {ps ks : List Str} {sp : Sp} {dvs : List V} {ds : List Value} {E : L2.St → XK} {x : Str} {p pos : Pos} {e : Expr} {es : List Expr} {kws : List Keyword} {t tk : TA}
  {g : List Value → List Value → List Value} {gV : List V → List V → List V}
def tMakeS (C : Addr) (sp : Sp) (dvs : List V) (E : L2.St → XK) (t : TA) : TE := fun σ H Q => t σ H fun vs H1 => ∀ x dx, H1 x = none → H1 dx = none → dx ≠ x →
  sp (.ref x :: (vs ++ dvs)) (upd (upd H1 dx (.own x)) x (.ins C dx [])) (fun v H2 => v = .non ∧ Q (.ref x) H2) (E σ)
theorem pe_makeS (M : Mk X.K C f) (F : FnOk X.prog X.w X.K X.mg X.base CX k f fd ps sp) (room : Room (k + 1) X.A) (gl : Gl X x) (mg : X.mg x = some (.ref C)) (bd : Binds X.K fd ps ds) (rd : Vals dvs ds) (px : ∀ σ, PassesAt CX X σ (E σ))
    (ha : PA X (e :: es) t) (hdb : (x == ("__debug__" : Str)) = false := by decide) (he : starEach (e :: es) X.env = (false, eval e X.env) :: starEach es X.env := by rfl) (hpl : (backTo pos (starEach es X.env)).any (·.1) = false := by rfl) :
    PE X (.Call (.Name x p) (e :: es) [] pos) (tMakeS C sp dvs E t) := by
  refine ⟨fun pins s σ H Q I h => wpAny_Call_Name_kw (ld_glob I gl mg ?_ hdb)⟩
  refine PySem.W.callWith_K (h₀ := X.base) I.ok.mod.kin M.kp (thn (ha.run pos pins s σ H _ I h) fun us s1 z => ?_) he hpl
  obtain ⟨vs, H1, I1, r, q⟩ := z
  refine ⟨I1.kIn, ?_⟩
  have q1 := q (s1.heap.objs.size + 1) s1.heap.objs.size (I1.hok.fresh (Nat.le_succ _)) (I1.hok.fresh (Nat.le_refl _)) (Nat.ne_of_lt (Nat.lt_succ_self _))
  have I2 := Inv.made (C := C) I1
  have r2 : Vals (V.ref (s1.heap.objs.size + 1) :: (vs ++ dvs)) (Value.ref (s1.heap.objs.size + 1) :: (us ++ ds)) := .cons rfl (r.append rd)
  have many : (Value.ref (s1.heap.objs.size + 1) :: us ++ ds).length = ps.length := (r2.length.symm.trans (F.len _ _ _ _ q1))
  refine wpAny_call (make_map (f := f) I1.kIn M.makes M.init (beq_iff_eq.mp M.fn) (codeAny_mono (F.run _ X.stack _ _ ⟨Value.ref (s1.heap.objs.size + 1) :: us, []⟩ (Value.ref (s1.heap.objs.size + 1) :: (us ++ ds)) _ _ (E σ)
    (room.make C us []) (I2.env0.make C us []) (bd _ (Value.ref (s1.heap.objs.size + 1) :: us) I2.kIn many) r2 q1) fun r s' z => ?_))
  cases r with
  | error e => exact px σ pins _ _ e s' I2 z
  | ok fl =>
    cases fl with
    | ret u =>
      obtain ⟨v, H', I3, rv, ev, q3⟩ := I2.after z
      subst ev
      exact ⟨rv, ⟨V.ref (s1.heap.objs.size + 1), H', I3, rfl, q3⟩⟩
    | next => exact False.elim z
    | brk => exact False.elim z
    | cont => exact False.elim z
def tMakeKS (C : Addr) (m : Nat) (sp : Sp) (gV : List V → List V → List V) (E : L2.St → XK) (tk : TA) : TE := fun σ H Q => tk σ H fun zs H2 => zs.length = m ∧
  ∀ x dx, H2 x = none → H2 dx = none → dx ≠ x → sp (gV [.ref x] zs) (upd (upd H2 dx (.own x)) x (.ins C dx [])) (fun v H3 => v = .non ∧ Q (.ref x) H3) (E σ)
theorem pe_makeKS (M : Mk X.K C f) (F : FnOk X.prog X.w X.K X.mg X.base CX k f fd ps sp) (room : Room (k + 1) X.A) (gl : Gl X x) (mg : X.mg x = some (.ref C)) (kb : KBn X.K fd ps 1 ks g gV) (px : ∀ σ, PassesAt CX X σ (E σ)) (pk : PK X kws tk)
    (hall : (backToKw pos (keywordEach kws X.env)).all (·.1.isSome) = true := by rfl) (hks : (backToKw pos (keywordEach kws X.env)).filterMap (·.1) = ks := by rfl) (hdb : (x == ("__debug__" : Str)) = false := by decide)
    (hpl : ((backTo pos (starEach [] X.env)).any (·.1) || (backToKw pos (keywordEach kws X.env)).any (·.1.isNone)) = false := by rfl) :
    PE X (.Call (.Name x p) [] kws pos) (tMakeKS C ks.length sp gV E tk) := by
  refine ⟨fun pins s σ H Q I h => wpAny_Call_Name_kw (ld_glob I gl mg ?_ hdb)⟩
  refine PySem.W.callWith_KW0 (h₀ := X.base) I.ok.mod.kin M.kp hall (thn (pk.run pos pins s σ H _ I h) fun ws s1 z => ?_) hpl
  obtain ⟨zs, H1, I1, rz, l2, q⟩ := z
  refine ⟨I1.kIn, ?_⟩
  rw [hks]
  have q1 := q (s1.heap.objs.size + 1) s1.heap.objs.size (I1.hok.fresh (Nat.le_succ _)) (I1.hok.fresh (Nat.le_refl _)) (Nat.ne_of_lt (Nat.lt_succ_self _))
  have I2 := Inv.made (C := C) I1
  have r1 : Vals [V.ref (s1.heap.objs.size + 1)] [Value.ref (s1.heap.objs.size + 1)] := .cons rfl .nil
  have r2 := kb.rel r1 rz
  refine wpAny_call (make_map (f := f) I1.kIn M.makes M.init (beq_iff_eq.mp M.fn) (codeAny_mono (F.run _ X.stack _ _ ⟨[Value.ref (s1.heap.objs.size + 1)], ks.zip ws⟩ (g [Value.ref (s1.heap.objs.size + 1)] ws) _ _ (E σ)
    (room.make C [] (ks.zip ws)) (I2.env0.make C [] (ks.zip ws)) (kb.to _ [Value.ref (s1.heap.objs.size + 1)] ws I2.kIn rfl (rz.length.symm.trans l2)) r2 q1) fun r s' z => ?_))
  cases r with
  | error e => exact px σ pins _ _ e s' I2 z
  | ok fl =>
    cases fl with
    | ret u =>
      obtain ⟨v, H', I3, rv, ev, q3⟩ := I2.after z
      subst ev
      exact ⟨rv, ⟨V.ref (s1.heap.objs.size + 1), H', I3, rfl, q3⟩⟩
    | next => exact False.elim z
    | brk => exact False.elim z
    | cont => exact False.elim z
def tCallKS (m : Nat) (sp : Sp) (gV : List V → List V → List V) (E : L2.St → XK) (tk : TA) : TE := fun σ H Q => tk σ H fun zs H2 => zs.length = m ∧ sp (gV [] zs) H2 Q (E σ)
theorem pe_callKS (F : FnOk X.prog X.w X.K X.mg X.base CX k f fd ps sp) (room : Room k X.A) (gl : Gl X x) (mg : X.mg x = some (.ref f)) (kp : PySem.W.keepIn X.K (.ref f) = true) (kb : KBn X.K fd ps 0 ks g gV) (px : ∀ σ, PassesAt CX X σ (E σ)) (pk : PK X kws tk)
    (hall : (backToKw pos (keywordEach kws X.env)).all (·.1.isSome) = true := by rfl) (hks : (backToKw pos (keywordEach kws X.env)).filterMap (·.1) = ks := by rfl) (hdb : (x == ("__debug__" : Str)) = false := by decide)
    (hpl : ((backTo pos (starEach [] X.env)).any (·.1) || (backToKw pos (keywordEach kws X.env)).any (·.1.isNone)) = false := by rfl) :
    PE X (.Call (.Name x p) [] kws pos) (tCallKS ks.length sp gV E tk) := by
  refine ⟨fun pins s σ H Q I h => wpAny_Call_Name_kw (ld_glob I gl mg ?_ hdb)⟩
  refine PySem.W.callWith_KW0 (h₀ := X.base) I.ok.mod.kin kp hall (thn (pk.run pos pins s σ H _ I h) fun ws s1 z => ?_) hpl
  obtain ⟨zs, H1, I1, rz, l2, q⟩ := z
  refine ⟨I1.kIn, ?_⟩
  rw [hks]
  have rn : Vals [] [] := .nil
  have r2 := kb.rel rn rz
  refine wpAny_call (codeAny_mono (F.run X.A X.stack s1 H1 ⟨[], ks.zip ws⟩ (g [] ws) (gV [] zs) Q (E σ) room I1.env0 (kb.to s1 [] ws I1.kIn rfl (rz.length.symm.trans l2)) r2 q) fun r s' z => ?_)
  cases r with
  | error e => exact px σ pins _ _ e s' I1 z
  | ok fl =>
    cases fl with
    | ret u => exact I1.after z
    | next => exact False.elim z
    | brk => exact False.elim z
    | cont => exact False.elim z
end
end Xk
set_option Elab.async false
set_option linter.all false
set_option maxRecDepth 100000
set_option maxHeartbeats 4000000
set_option pp.maxSteps 400
set_option pp.deepTerms false
/-! Things of any kind: texts, numbers, truths, None, and lists, tuples, dicts of these, at any depth. -/
namespace Az
open PySem PySem.Spec PyProof.Rows L2
def keyD : Key → PyData
  | .inl i => .int i
  | .inr x => .str x
mutual
inductive Dz (K : PySem.W.Frag) (H : Hp) : V → PyData → Prop
  | non : Dz K H .non .none
  | bl (b : Bool) : Dz K H (.bl b) (.bool b)
  | int (i : Int) : Dz K H (.int i) (.int i)
  | str (x : Str) : Dz K H (.str x) (.str x)
  | lst {a : Addr} {xs : List V} {ds : List PyData} : H a = some (.lst xs) → a ≠ sysModules → DzAll K H xs ds → Dz K H (.ref a) (.list ds)
  | tup {a : Addr} {xs : List V} {ds : List PyData} : H a = some (.tup xs) → DzAll K H xs ds → Dz K H (.ref a) (.tuple ds)
  | dct {a : Addr} {kvs : List (Key × V)} {ds : List (PyData × PyData)} : H a = some (.dK kvs) → DzKv K H kvs ds → Dz K H (.ref a) (.dict ds)
inductive DzAll (K : PySem.W.Frag) (H : Hp) : List V → List PyData → Prop
  | nil : DzAll K H [] []
  | cons {v : V} {vs : List V} {d : PyData} {ds : List PyData} : Dz K H v d → DzAll K H vs ds → DzAll K H (v :: vs) (d :: ds)
inductive DzKv (K : PySem.W.Frag) (H : Hp) : List (Key × V) → List (PyData × PyData) → Prop
  | nil : DzKv K H [] []
  | cons {k : Key} {v : V} {kvs : List (Key × V)} {d : PyData} {ds : List (PyData × PyData)} : Dz K H v d → DzKv K H kvs ds → DzKv K H ((k, v) :: kvs) ((keyD k, d) :: ds)
end
section
variable {K : PySem.W.Frag} {H H' : Hp}
mutual
/-- what is read of a thing stays while its objects do -/
theorem Dz.keep (s : ∀ b o, H b = some o → (∀ x, o ≠ .own x) → H' b = some o) : ∀ {v : V} {d : PyData}, Dz K H v d → Dz K H' v d
  | _, _, .non => .non
  | _, _, .bl b => .bl b
  | _, _, .int i => .int i
  | _, _, .str x => .str x
  | _, _, .lst e n r => .lst (s _ _ e (fun _ z => by cases z)) n (DzAll.keep s r)
  | _, _, .tup e r => .tup (s _ _ e (fun _ z => by cases z)) (DzAll.keep s r)
  | _, _, .dct e r => .dct (s _ _ e (fun _ z => by cases z)) (DzKv.keep s r)
theorem DzAll.keep (s : ∀ b o, H b = some o → (∀ x, o ≠ .own x) → H' b = some o) : ∀ {v : List V} {d : List PyData}, DzAll K H v d → DzAll K H' v d
  | _, _, .nil => .nil
  | _, _, .cons h r => .cons (Dz.keep s h) (DzAll.keep s r)
theorem DzKv.keep (s : ∀ b o, H b = some o → (∀ x, o ≠ .own x) → H' b = some o) : ∀ {v : List (Key × V)} {d : List (PyData × PyData)}, DzKv K H v d → DzKv K H' v d
  | _, _, .nil => .nil
  | _, _, .cons h r => .cons (Dz.keep s h) (DzKv.keep s r)
end
theorem Dz.same {v : V} {d : PyData} (h : Dz K H v d) (s : L2.Same H H') : Dz K H' v d := h.keep fun b o e _ => s b o e
theorem DzAll.same {v : List V} {d : List PyData} (h : DzAll K H v d) (s : L2.Same H H') : DzAll K H' v d := h.keep fun b o e _ => s b o e
/-- the kind of a thing -/
def kindD : PyData → String
  | .none => "NoneType"
  | .bool _ => "bool"
  | .int _ => "int"
  | .str _ => "str"
  | .list _ => "list"
  | .tuple _ => "tuple"
  | .dict _ => "dict"
theorem Dz.ty {v : V} {d : PyData} (h : Dz K H v d) : TyX K H v (.type (kindD d)) := by
  cases h with
  | non => exact .base .non
  | bl b => exact .base (.bl b)
  | int i => exact .base (.int i)
  | str x => exact .base (.str x)
  | lst e _ _ => exact .base (.lst e)
  | tup e _ => exact .base (.tup e)
  | dct e _ => exact .base (.dK e)
end
section
variable {X : Cx} {pins : List (Addr × Obj)} {σ : L2.St} {H : Hp} {s : Shared}
theorem pairs_keys {P : Program} {w : World} : ∀ {es : List DictEntry} {vs : List (Key × Value)}, PySem.Pairs (mixKind P w) es vs → ∃ as, ReadsAll s.heap (es.map (·.key)) (vs.map fun p => keyD p.1) as ∧ as = []
  | _, _, .nil => ⟨[], .nil, rfl⟩
  | e :: es, (k, u) :: vs, .cons h1 h2 r => by
    obtain ⟨as, q, rfl⟩ := pairs_keys r
    rcases keyIs_shape (show keyIs k e.key = true from h1) with ⟨i, t, rfl, ek⟩ | ⟨x, t, rfl, ek⟩
    · refine ⟨[] ++ [], .cons ?_ q, rfl⟩
      show Reads s.heap e.key (.int i) []
      rw [ek]
      exact .int i t
    · refine ⟨[] ++ [], .cons ?_ q, rfl⟩
      show Reads s.heap e.key (.str x) []
      rw [ek]
      exact .str x t
theorem pairs_vals {P : Program} {w : World} : ∀ {es : List DictEntry} {vs : List (Key × Value)}, PySem.Pairs (mixKind P w) es vs → es.map (·.val) = vs.map (·.2)
  | _, _, .nil => rfl
  | e :: es, (k, u) :: vs, .cons h1 h2 r => by
    rw [List.map_cons, List.map_cons, pairs_vals r, h2]
mutual
theorem Dz.reads (I : Inv X pins σ H s) : ∀ (d : PyData) (v : V) (u : Value), Dz X.K H v d → RelV v u → ∃ as, Reads s.heap u d as ∧ sysModules ∉ as
  | .none, _, _, h, r => by
    cases h
    cases r
    exact ⟨[], .none, by simp⟩
  | .bool b, _, _, h, r => by
    cases h
    cases r
    exact ⟨[], .bool b, by simp⟩
  | .int i, _, _, h, r => by
    cases h
    obtain ⟨t, rfl⟩ := r
    exact ⟨[], .int i t, by simp⟩
  | .str x, _, _, h, r => by
    cases h
    obtain ⟨t, rfl⟩ := r
    exact ⟨[], .str x t, by simp⟩
  | .list ds, _, _, h, r => by
    cases h with
    | @lst a xs _ e ne ha =>
      cases r
      have ok : ObjOk X.prog X.w H s.heap a (.lst xs) := I.hok a _ e
      obtain ⟨_, its, n, rv, eh⟩ := ok
      obtain ⟨as, q, na⟩ := DzAll.reads I ds xs its ha rv
      refine ⟨a :: as, .list eh rfl rfl (by simpa using q), fun m => ?_⟩
      rcases List.mem_cons.mp m with z | z
      · exact ne z.symm
      · exact na z
  | .tuple ds, _, _, h, r => by
    cases h with
    | @tup a xs _ e ha =>
      cases r
      have ok : ObjOk X.prog X.w H s.heap a (.tup xs) := I.hok a _ e
      obtain ⟨_, its, rv, o, eh, ec, n, ed⟩ := ok
      obtain ⟨as, q, na⟩ := DzAll.reads I ds xs its ha rv
      exact ⟨as, .tuple eh ec ed (by simpa using q), na⟩
  | .dict ds, _, _, h, r => by
    cases h with
    | @dct a kvs _ e ha =>
      cases r
      obtain ⟨_, ne, vs, rel, o, es, ep, eh, ex, ed, _, pr, _⟩ := dk_of I.hok e
      obtain ⟨as, q1, rfl⟩ := pairs_keys (s := s) pr
      obtain ⟨bs, q2, nb⟩ := DzKv.reads I ds kvs vs ha rel
      have hk : (vs.map fun p => keyD p.1) = ds.map (·.1) := DzKv.keys ha rel
      rw [hk] at q1
      refine ⟨a :: [] ++ bs, .dict eh ex.1 ed q1 (by rw [pairs_vals pr]; exact q2), fun m => ?_⟩
      rcases List.mem_cons.mp m with z | z
      · rw [← z] at ne
        simp at ne
      · exact nb z
theorem DzAll.reads (I : Inv X pins σ H s) : ∀ (ds : List PyData) (vs : List V) (us : List Value), DzAll X.K H vs ds → Vals vs us → ∃ as, ReadsAll s.heap us ds as ∧ sysModules ∉ as
  | [], _, _, h, r => by
    cases h
    cases r
    exact ⟨[], .nil, by simp⟩
  | d :: ds, _, _, h, r => by
    cases h with
    | cons h1 h2 =>
      cases r with
      | cons r1 r2 =>
        obtain ⟨as, q1, n1⟩ := Dz.reads I d _ _ h1 r1
        obtain ⟨bs, q2, n2⟩ := DzAll.reads I ds _ _ h2 r2
        exact ⟨as ++ bs, .cons q1 q2, fun m => (List.mem_append.mp m).elim n1 n2⟩
theorem DzKv.reads (I : Inv X pins σ H s) : ∀ (ds : List (PyData × PyData)) (kvs : List (Key × V)) (vs : List (Key × Value)), DzKv X.K H kvs ds → KV kvs vs → ∃ as, ReadsAll s.heap (vs.map (·.2)) (ds.map (·.2)) as ∧ sysModules ∉ as
  | [], _, _, h, r => by
    cases h
    cases r
    exact ⟨[], .nil, by simp⟩
  | (_, d) :: ds, _, _, h, r => by
    cases h with
    | cons h1 h2 =>
      cases r with
      | cons r1 r2 =>
        obtain ⟨as, q1, n1⟩ := Dz.reads I d _ _ h1 r1.2
        obtain ⟨bs, q2, n2⟩ := DzKv.reads I ds _ _ h2 r2
        exact ⟨as ++ bs, .cons q1 q2, fun m => (List.mem_append.mp m).elim n1 n2⟩
theorem DzKv.keys {K : PySem.W.Frag} : ∀ {ds : List (PyData × PyData)} {kvs : List (Key × V)} {vs : List (Key × Value)}, DzKv K H kvs ds → KV kvs vs → (vs.map fun p => keyD p.1) = ds.map (·.1)
  | [], _, _, h, r => by
    cases h
    cases r
    rfl
  | (_, d) :: ds, _, _, h, r => by
    cases h with
    | cons h1 h2 =>
      cases r with
      | cons r1 r2 =>
        rw [List.map_cons, List.map_cons, DzKv.keys h2 r2, ← r1.1]
end
/-- repr of a thing -/
def rReprZ (K : PySem.W.Frag) : List V → Hp → VK → Prop := fun xs H Q => ∃ (v : V) (d : PyData), xs = [v] ∧ Dz K H v d ∧ d.showable = true ∧ d.depth ≤ 60 ∧ d.shown.length ≤ sizeLine ∧ Q (.str d.shown) H
theorem cr_reprZ {k : Nat} (quiet : X.A.guards = some []) (room : Room k X.A) : CallR X (.builtin "repr") (rReprZ X.K) := by
  intro pins s σ H xs us Q I r h
  obtain ⟨v, d, rfl, hd, hs, hp, hz, q⟩ := h
  obtain ⟨u, rfl, rx⟩ := vals1 r
  have hu := room.units
  cases hd with
  | non =>
    cases rx
    exact PySem.P.repr_of_none ⟨.str _, H, I.tok _, ⟨_, rfl⟩, q⟩
  | bl b =>
    cases rx
    exact PySem.P.repr_of_bool ⟨.str _, H, I.tok _, ⟨_, rfl⟩, q⟩
  | int i =>
    obtain ⟨t, rfl⟩ := rx
    exact PySem.P.repr_of_int (by simpa [PyData.showable] using hs) ⟨.str _, H, I.tok _, ⟨_, rfl⟩, q⟩
  | str x =>
    obtain ⟨t, rfl⟩ := rx
    exact PySem.P.repr_of_str ⟨.str _, H, I.tok _, ⟨_, rfl⟩, q⟩ hz
  | lst e n ha =>
    obtain ⟨as, rd, na⟩ := Dz.reads I _ _ u (.lst e n ha) rx
    cases rx
    exact repr_of_reads' rd hs (fun _ => na) quiet (by omega) (fun _ _ z => z) (fun h' u tk kept => ⟨.str _, H, I.kept kept, ⟨u, rfl⟩, q⟩) hz
  | tup e ha =>
    obtain ⟨as, rd, na⟩ := Dz.reads I _ _ u (.tup e ha) rx
    cases rx
    exact repr_of_reads' rd hs (fun _ => na) quiet (by omega) (fun _ _ z => z) (fun h' u tk kept => ⟨.str _, H, I.kept kept, ⟨u, rfl⟩, q⟩) hz
  | dct e ha =>
    obtain ⟨as, rd, na⟩ := Dz.reads I _ _ u (.dct e ha) rx
    cases rx
    exact repr_of_reads' rd hs (fun _ => na) quiet (by omega) (fun _ _ z => z) (fun h' u tk kept => ⟨.str _, H, I.kept kept, ⟨u, rfl⟩, q⟩) hz
/-- a list of written items: new, and no table of modules -/
def tLstZ (t : TA) : TE := fun σ H Q => t σ H fun xs H1 => xs.length ≤ sizeLine ∧ ∀ p, H1 p = none → p ≠ sysModules → Q (.ref p) (upd H1 p (.lst xs))
theorem pe_lstZ {es : List Expr} {t : TA} {pos : Pos} (h : PA X es t) : PE X (.List es pos) (tLstZ t) := by
  refine ⟨fun pins s σ H Q I hq => wpAny_List_spliced (thn (h.run pos pins s σ H _ I hq) fun us s1 z => ?_)⟩
  obtain ⟨xs, H1, I1, r, z, q⟩ := z
  refine ⟨by rw [← r.length]; exact z, ?_⟩
  have new : H1 s1.heap.objs.size = none := I1.hok.fresh (Nat.le_refl _)
  refine ⟨.ref s1.heap.objs.size, upd H1 s1.heap.objs.size (.lst xs), I1.laid (t' := s1.toks) (fun b u e => Heap.get?_push_of_some _ e) (Nat.le_refl _) ?_, rfl, q _ new (Nat.ne_of_gt I1.big)⟩
  exact ⟨z, us, 0, r, Heap.get?_push_size _ rfl⟩
end
end Az
namespace Az
open PySem PySem.Spec PyProof.Rows L2
/-- a thing that is shown in n signs at most, at most k deep -/
structure Nice (d : PyData) (k n : Nat) : Prop where
  sh : d.showable = true
  dp : d.depth ≤ k
  sz : d.shown.length ≤ n
theorem Nice.mono {d : PyData} {k k' n n' : Nat} (h : Nice d k n) (hk : k ≤ k') (hn : n ≤ n') : Nice d k' n' := ⟨h.sh, Nat.le_trans h.dp hk, Nat.le_trans h.sz hn⟩
theorem nice_int {i : Int} {n : Nat} (h : i.natAbs.log2 < 1920) (hn : (Str.ofString (toString i)).length ≤ n) : Nice (.int i) 0 n :=
  ⟨by simpa [PyData.showable] using h, by simp [PyData.depth], by simpa [PyData.shown] using hn⟩
theorem nice_none : Nice .none 0 4 := ⟨by simp [PyData.showable], by simp [PyData.depth], by simp only [PyData.shown]; decide +kernel⟩
theorem nice_bool (b : Bool) : Nice (.bool b) 0 5 := ⟨by simp [PyData.showable], by simp [PyData.depth], by simp only [PyData.shown]; cases b <;> decide +kernel⟩
theorem nice_str {x : Str} {n : Nat} (h : (reprText x).length ≤ n) : Nice (.str x) 0 n := ⟨by simp [PyData.showable], by simp [PyData.depth], by simpa [PyData.shown] using h⟩
theorem list_le : ∀ ts : List Str, (listText ts).length ≤ piled ts + 2
  | [] => by decide +kernel
  | t :: ts => by
    have e : (textFrom 0 "[" (t :: ts)).length = 1 + t.length + piled ts := by
      show (textFrom 1 (("[" : Str) ++ ((if 0 > 0 then ", " else "" : String) : Str) ++ t) ts).length = _
      rw [textFrom_length_pos ts 1 _ (by decide), strLen_append, strLen_append]
      rfl
    unfold listText
    rw [strLen_append, e, piled_cons]
    show 1 + t.length + piled ts + 1 ≤ _
    omega
theorem dict_le (ps : List Str) : (dictText ps).length ≤ piled ps + 2 := by
  unfold dictText
  rw [strLen_append, strLen_append]
  show 1 + (Str.join ", " ps).length + 1 ≤ _
  cases ps with
  | nil => decide
  | cons p r =>
    have := join_length_add (p :: r) (by simp)
    omega
theorem nice_tup1 {d : PyData} {k n : Nat} (h : Nice d k n) : Nice (.tuple [d]) (k + 1) (n + 4) := by
  refine ⟨by simp [PyData.showable, PyData.showableAll, h.sh], ?_, ?_⟩
  · simp only [PyData.depth, PyData.depthAll]
    have := h.dp
    omega
  · simp only [PyData.shown, PyData.shownAll]
    have a := fmt_text [d.shown]
    simp only [piled_cons, piled_nil] at a
    have := h.sz
    omega
theorem nice_lst1 {d : PyData} {k n : Nat} (h : Nice d k n) : Nice (.list [d]) (k + 1) (n + 4) := by
  refine ⟨by simp [PyData.showable, PyData.showableAll, h.sh], ?_, ?_⟩
  · simp only [PyData.depth, PyData.depthAll]
    have := h.dp
    omega
  · simp only [PyData.shown, PyData.shownAll]
    have a := list_le [d.shown]
    simp only [piled_cons, piled_nil] at a
    have := h.sz
    omega
theorem nice_dct1 {d : PyData} {k n m : Nat} {x : Str} (hx : (reprText x).length ≤ m) (h : Nice d k n) : Nice (.dict [(.str x, d)]) (k + 1) (n + m + 6) := by
  refine ⟨by simp [PyData.showable, PyData.showableKv, h.sh], ?_, ?_⟩
  · simp only [PyData.depth, PyData.depthKv]
    have := h.dp
    omega
  · simp only [PyData.shown, PyData.shownKv]
    have a := dict_le [reprText x ++ ": " ++ d.shown]
    simp only [piled_cons, piled_nil, strLen_append] at a
    have c : ((": " : Str)).length = 2 := by decide +kernel
    have := h.sz
    omega
theorem nice_tup0 : Nice (.tuple []) 1 2 := ⟨by simp [PyData.showable, PyData.showableAll], by simp [PyData.depth, PyData.depthAll], by simp only [PyData.shown, PyData.shownAll]; decide +kernel⟩
theorem nice_lst0 : Nice (.list []) 1 2 := ⟨by simp [PyData.showable, PyData.showableAll], by simp [PyData.depth, PyData.depthAll], by simp only [PyData.shown, PyData.shownAll]; decide +kernel⟩
theorem nice_dct0 : Nice (.dict []) 1 2 := ⟨by simp [PyData.showable, PyData.showableKv], by simp [PyData.depth, PyData.depthKv], by simp only [PyData.shown, PyData.shownKv]; decide +kernel⟩
end Az
set_option Elab.async false
set_option linter.all false
set_option maxRecDepth 100000
set_option maxHeartbeats 4000000
set_option pp.maxSteps 400
set_option pp.deepTerms false
namespace Az
open PySem PySem.Spec PyProof.Rows L2
/-! ### texts of signs that have a number of eight places -/
def Asc (x : Str) : Prop := ∀ c ∈ x.cps.toList, c < 16 ^ 8
theorem asc_str (s : String) : Asc (Str.ofString s) := fun c hc => by
  rw [Str.ofString_eq_toList] at hc
  simp only [List.mem_map] at hc
  obtain ⟨k, _, rfl⟩ := hc
  exact Nat.lt_of_lt_of_le (UInt32.toNat_lt k.val) (by decide)
theorem Asc.app {x y : Str} (h1 : Asc x) (h2 : Asc y) : Asc (x ++ y) := fun c hc => by
  rw [Str.cps_append, Array.toList_append, List.mem_append] at hc
  exact hc.elim (h1 c) (h2 c)
theorem asc_hex (l : List Char) (n : Nat) : ∀ c ∈ List.replicate n 48 ++ l.map Char.toNat, c < 16 ^ 8 := fun c hc => by
  rcases List.mem_append.mp hc with h | h
  · rw [(List.mem_replicate.mp h).2]
    decide
  · obtain ⟨k, _, rfl⟩ := List.mem_map.mp h
    exact Nat.lt_of_lt_of_le (UInt32.toNat_lt k.val) (by decide)
theorem asc_char {q c : Nat} (hc : c < 16 ^ 8) : ∀ d ∈ Builtin.Str.reprChar q c, d < 16 ^ 8 := fun d hd => by
  unfold Builtin.Str.reprChar at hd
  dsimp only at hd
  have two : ∀ a : Nat, a < 16 ^ 8 → d ∈ [92, a] → d < 16 ^ 8 := fun a ha h => by
    simp only [List.mem_cons, List.not_mem_nil, or_false] at h
    rcases h with h | h
    · rw [h]; decide
    · rw [h]; exact ha
  have app : ∀ (a : Nat) (l : List Nat), a < 16 ^ 8 → (∀ c ∈ l, c < 16 ^ 8) → d ∈ [92, a] ++ l → d < 16 ^ 8 := fun a l ha hl h => (List.mem_append.mp h).elim (two a ha) (hl d)
  split at hd
  · exact two c hc hd
  · split at hd
    · exact two 110 (by decide) hd
    · split at hd
      · exact two 114 (by decide) hd
      · split at hd
        · exact two 116 (by decide) hd
        · split at hd
          · simp only [List.mem_cons, List.not_mem_nil, or_false] at hd
            rw [hd]
            exact hc
          · split at hd
            · exact app 120 _ (by decide) (asc_hex _ _) hd
            · split at hd
              · exact app 117 _ (by decide) (asc_hex _ _) hd
              · exact app 85 _ (by decide) (asc_hex _ _) hd
theorem asc_fold {q : Nat} : ∀ (l : List Nat) (acc : Array Nat), (∀ c ∈ l, c < 16 ^ 8) → (∀ c ∈ acc.toList, c < 16 ^ 8) → ∀ c ∈ (l.foldl (fun out c => out ++ (Builtin.Str.reprChar q c).toArray) acc).toList, c < 16 ^ 8
  | [], acc, _, h => h
  | k :: r, acc, hl, ha => by
    rw [List.foldl_cons]
    refine asc_fold r _ (fun c hc => hl c (List.mem_cons_of_mem _ hc)) fun c hc => ?_
    rw [Array.toList_append, List.mem_append] at hc
    exact hc.elim (ha c) fun h => asc_char (hl k List.mem_cons_self) c (by simpa using h)
theorem asc_quote (x : Str) : reprQuote x < 16 ^ 8 := by
  unfold reprQuote
  split <;> decide
theorem asc_repr {x : Str} (h : Asc x) : Asc (reprText x) := fun c hc => by
  unfold reprText at hc
  rw [Array.toList_push, List.mem_append, ← Array.foldl_toList] at hc
  rcases hc with hc | hc
  · refine asc_fold x.cps.toList #[reprQuote x] h (fun d hd => ?_) c hc
    have z : d = reprQuote x := by simpa using hd
    rw [z]
    exact asc_quote x
  · have z : c = reprQuote x := by simpa using hc
    rw [z]
    exact asc_quote x
theorem asc_join : ∀ ts : List Str, (∀ t ∈ ts, Asc t) → Asc (Str.join ", " ts)
  | [], _ => fun c hc => by
    have z : c ∈ (Str.empty).cps.toList := hc
    simp [Str.empty] at z
  | [x], h => h x List.mem_cons_self
  | x :: y :: r, h => ((h x List.mem_cons_self).app (asc_str ", ")).app (asc_join (y :: r) fun t ht => h t (List.mem_cons_of_mem _ ht))
theorem asc_from : ∀ (ts : List Str) (k : Nat) (acc : Str), Asc acc → (∀ t ∈ ts, Asc t) → Asc (textFrom k acc ts)
  | [], _, _, h, _ => h
  | t :: ts, k, acc, h, ht => by
    unfold textFrom
    exact asc_from ts (k + 1) _ ((h.app (asc_str _)).app (ht t List.mem_cons_self)) fun u hu => ht u (List.mem_cons_of_mem _ hu)
mutual
/-- all texts within a thing -/
def ascD : PyData → Prop
  | .none | .bool _ | .int _ => True
  | .str x => Asc x
  | .list xs | .tuple xs => ascAll xs
  | .dict kvs => ascKv kvs
def ascAll : List PyData → Prop
  | [] => True
  | x :: xs => ascD x ∧ ascAll xs
def ascKv : List (PyData × PyData) → Prop
  | [] => True
  | (k, v) :: r => ascD k ∧ ascD v ∧ ascKv r
end
mutual
theorem asc_shown : ∀ d : PyData, ascD d → Asc d.shown
  | .none, _ => asc_str "None"
  | .bool b, _ => by
    simp only [PyData.shown]
    cases b
    · exact asc_str "False"
    · exact asc_str "True"
  | .int i, _ => asc_str (toString i)
  | .str x, h => asc_repr (by simpa [ascD] using h)
  | .list xs, h => by
    simp only [PyData.shown]
    exact (asc_from _ _ _ (asc_str "[") (asc_shownAll xs (by simpa [ascD] using h))).app (asc_str "]")
  | .tuple xs, h => by
    simp only [PyData.shown]
    exact ((asc_str "(").app (asc_join _ (asc_shownAll xs (by simpa [ascD] using h)))).app (asc_str _)
  | .dict kvs, h => by
    simp only [PyData.shown]
    exact ((asc_str "{").app (asc_join _ (asc_shownKv kvs (by simpa [ascD] using h)))).app (asc_str "}")
theorem asc_shownAll : ∀ xs : List PyData, ascAll xs → ∀ t ∈ PyData.shownAll xs, Asc t
  | [], _, t, ht => by
    simp [PyData.shownAll] at ht
  | x :: xs, h, t, ht => by
    have h' : ascD x ∧ ascAll xs := by simpa [ascAll] using h
    simp only [PyData.shownAll, List.mem_cons] at ht
    rcases ht with e | e
    · rw [e]
      exact asc_shown x h'.1
    · exact asc_shownAll xs h'.2 t e
theorem asc_shownKv : ∀ xs : List (PyData × PyData), ascKv xs → ∀ t ∈ PyData.shownKv xs, Asc t
  | [], _, t, ht => by
    simp [PyData.shownKv] at ht
  | (k, v) :: xs, h, t, ht => by
    have h' : ascD k ∧ ascD v ∧ ascKv xs := by simpa [ascKv] using h
    simp only [PyData.shownKv, List.mem_cons] at ht
    rcases ht with e | e
    · rw [e]
      exact ((asc_shown k h'.1).app (asc_str ": ")).app (asc_shown v h'.2.1)
    · exact asc_shownKv xs h'.2.2 t e
end
/-- str of a thing -/
def strD : PyData → Str
  | .str x => x
  | d => d.shown
theorem strD_asc {d : PyData} (h : ascD d) : Asc (strD d) := by
  cases d with
  | str x => simpa [strD, ascD] using h
  | _ => exact asc_shown _ h
theorem len_repr (x : Str) : x.length ≤ (reprText x).length := by
  have grow : ∀ (q : Nat) (l : List Nat) (acc : Array Nat), acc.size + l.length ≤ (l.foldl (fun out c => out ++ (Builtin.Str.reprChar q c).toArray) acc).size := fun q l => by
    induction l with
    | nil => intro acc; simp
    | cons k r ih =>
      intro acc
      have h := ih (acc ++ (Builtin.Str.reprChar q k).toArray)
      have one : 1 ≤ (Builtin.Str.reprChar q k).length := by
        unfold Builtin.Str.reprChar
        dsimp only
        repeat' split
        all_goals simp
        all_goals omega
      rw [List.foldl_cons]
      simp only [Array.size_append, List.size_toArray] at h
      simp only [List.length_cons]
      omega
  have h := grow (reprQuote x) x.cps.toList #[reprQuote x]
  unfold reprText
  show x.length ≤ ((x.cps.foldl (fun out c => out ++ (Builtin.Str.reprChar (reprQuote x) c).toArray) #[reprQuote x]).push (reprQuote x)).size
  rw [Array.size_push, ← Array.foldl_toList]
  have e : x.cps.toList.length = x.length := by simp [Str.length]
  omega
theorem strD_len {d : PyData} : (strD d).length ≤ d.shown.length := by
  cases d with
  | str x =>
    simp only [strD, PyData.shown]
    exact len_repr x
  | _ => exact Nat.le_refl _
section
variable {X : Cx}
def rStrZ (K : PySem.W.Frag) : List V → Hp → VK → Prop := fun xs H Q => ∃ (v : V) (d : PyData), xs = [v] ∧ Dz K H v d ∧ d.showable = true ∧ d.depth ≤ 60 ∧ d.shown.length ≤ sizeLine ∧ Q (.str (strD d)) H
theorem cr_strZ {k : Nat} (quiet : X.A.guards = some []) (room : Room k X.A) : CallR X (.type "str") (rStrZ X.K) := by
  intro pins s σ H xs us Q I r h
  obtain ⟨v, d, rfl, hd, hs, hp, hz, q⟩ := h
  obtain ⟨u, rfl, rx⟩ := vals1 r
  have hu := room.un
  cases hd with
  | non =>
    cases rx
    exact PySem.P.str_of_none ⟨.str _, H, I.tok _, ⟨_, rfl⟩, q⟩
  | bl b =>
    cases rx
    exact PySem.P.str_of_bool ⟨.str _, H, I.tok _, ⟨_, rfl⟩, q⟩
  | int i =>
    obtain ⟨t, rfl⟩ := rx
    exact PySem.P.str_of_int (by simpa [PyData.showable] using hs) ⟨.str _, H, I.tok _, ⟨_, rfl⟩, q⟩
  | str x =>
    obtain ⟨t, rfl⟩ := rx
    exact PySem.P.str_of_str ⟨.str _, H, I, ⟨_, rfl⟩, q⟩
  | lst e n ha =>
    obtain ⟨as, rd, na⟩ := Dz.reads I _ _ u (.lst e n ha) rx
    cases rx
    exact str_of_reads rd hs (fun _ => na) quiet (by omega) (fun _ _ z => z) (fun h' u tk kept => ⟨.str _, H, I.kept kept, ⟨u, rfl⟩, q⟩) hz
  | tup e ha =>
    obtain ⟨as, rd, na⟩ := Dz.reads I _ _ u (.tup e ha) rx
    cases rx
    exact str_of_reads rd hs (fun _ => na) quiet (by omega) (fun _ _ z => z) (fun h' u tk kept => ⟨.str _, H, I.kept kept, ⟨u, rfl⟩, q⟩) hz
  | dct e ha =>
    obtain ⟨as, rd, na⟩ := Dz.reads I _ _ u (.dct e ha) rx
    cases rx
    exact str_of_reads rd hs (fun _ => na) quiet (by omega) (fun _ _ z => z) (fun h' u tk kept => ⟨.str _, H, I.kept kept, ⟨u, rfl⟩, q⟩) hz
end
end Az
set_option Elab.async false
set_option linter.all false
set_option maxRecDepth 100000
set_option maxHeartbeats 4000000
set_option pp.maxSteps 400
set_option pp.deepTerms false
/-! Things of texts, numbers, truths, tuples, lists and dicts: a weight that bounds how long they are shown, how deep and how many they are. -/
namespace W08
open PySem PySem.Spec PyProof.Rows L2 Az
mutual
def sw : PyData → Nat
  | .none => 4
  | .bool _ => 5
  | .int _ => 6
  | .str x => 10 * x.length + 2
  | .tuple ds => sws ds + 4
  | .list ds => sws ds + 4
  | .dict kvs => swk kvs + 4
def sws : List PyData → Nat
  | [] => 0
  | d :: r => sw d + 2 + sws r
def swk : List (PyData × PyData) → Nat
  | [] => 0
  | (k, v) :: r => sw k + sw v + 4 + swk r
end
mutual
def dw : PyData → Nat
  | .tuple ds => dws ds + 1
  | .list ds => dws ds + 1
  | .dict kvs => dwk kvs + 1
  | _ => 0
def dws : List PyData → Nat
  | [] => 0
  | d :: r => max (dw d) (dws r)
def dwk : List (PyData × PyData) → Nat
  | [] => 0
  | (k, v) :: r => max (max (dw k) (dw v)) (dwk r)
end
mutual
/-- small numbers, texts of few signs -/
def ok : PyData → Prop
  | .int i => i = 0 ∨ i = 1
  | .str x => ∀ c ∈ x.cps.toList, c < 128
  | .tuple ds => oks ds
  | .list ds => oks ds
  | .dict kvs => okk kvs
  | _ => True
def oks : List PyData → Prop
  | [] => True
  | d :: r => ok d ∧ oks r
def okk : List (PyData × PyData) → Prop
  | [] => True
  | (k, v) :: r => ok k ∧ ok v ∧ okk r
end
mutual
/-- how many things there are in all -/
def nc : PyData → Nat
  | .tuple ds => ncs ds + 1
  | .list ds => ncs ds + 1
  | .dict kvs => nck kvs + 1
  | _ => 1
def ncs : List PyData → Nat
  | [] => 0
  | d :: r => nc d + ncs r
def nck : List (PyData × PyData) → Nat
  | [] => 0
  | (k, v) :: r => nc k + nc v + nck r
end
theorem nc_pos : ∀ d : PyData, 1 ≤ nc d
  | .none | .bool _ | .int _ | .str _ => Nat.le_refl _
  | .tuple _ | .list _ | .dict _ => by rw [nc]; omega
theorem ncs_app : ∀ xs ys : List PyData, ncs (xs ++ ys) = ncs xs + ncs ys
  | [], ys => by simp [ncs]
  | x :: xs, ys => by
    rw [List.cons_append, ncs, ncs, ncs_app xs ys]
    omega
theorem len_ncs : ∀ ds : List PyData, ds.length ≤ ncs ds
  | [] => by simp [ncs]
  | d :: r => by
    have := len_ncs r
    have := nc_pos d
    rw [List.length_cons, ncs]
    omega
theorem ncs_mem : ∀ {ds : List PyData} {d : PyData}, d ∈ ds → nc d ≤ ncs ds
  | e :: r, d, h => by
    rw [ncs]
    rcases List.mem_cons.mp h with z | z
    · rw [z]; omega
    · have := ncs_mem z
      omega
theorem oks_iff : ∀ {ds : List PyData}, oks ds ↔ ∀ d ∈ ds, ok d
  | [] => by simp [oks]
  | d :: r => by simp [oks, oks_iff (ds := r)]
theorem sws_app : ∀ xs ys : List PyData, sws (xs ++ ys) = sws xs + sws ys
  | [], ys => by simp [sws]
  | x :: xs, ys => by
    rw [List.cons_append, sws, sws, sws_app xs ys]
    omega
theorem dws_app : ∀ xs ys : List PyData, dws (xs ++ ys) = max (dws xs) (dws ys)
  | [], ys => by simp [dws]
  | x :: xs, ys => by
    rw [List.cons_append, dws, dws, dws_app xs ys]
    omega
theorem len_sws : ∀ ds : List PyData, 2 * ds.length ≤ sws ds
  | [] => by simp [sws]
  | d :: r => by
    have := len_sws r
    rw [List.length_cons, sws]
    omega
theorem sws_mem : ∀ {ds : List PyData} {d : PyData}, d ∈ ds → sw d + 2 ≤ sws ds
  | e :: r, d, h => by
    rw [sws]
    rcases List.mem_cons.mp h with z | z
    · rw [z]; omega
    · have := sws_mem z
      omega
theorem dws_mem : ∀ {ds : List PyData} {d : PyData}, d ∈ ds → dw d ≤ dws ds
  | e :: r, d, h => by
    rw [dws]
    rcases List.mem_cons.mp h with z | z
    · rw [z]; omega
    · have := dws_mem z
      omega
theorem repr_le' {x : Str} (h : ∀ c ∈ x.cps.toList, c < 128) : (reprText x).length ≤ 10 * x.length + 2 :=
  PySem.StrLaws.reprText_len x fun c hc => Nat.lt_of_lt_of_le (h c hc) (by decide)
mutual
theorem shown_le : ∀ (d : PyData), ok d → d.showable = true ∧ d.shown.length ≤ sw d ∧ d.depth ≤ dw d
  | .none, _ => ⟨nice_none.sh, nice_none.sz, nice_none.dp⟩
  | .bool b, _ => ⟨(nice_bool b).sh, (nice_bool b).sz, (nice_bool b).dp⟩
  | .int i, h => by
    have n : Nice (.int i) 0 6 := by
      rcases h with h | h
      · subst h; exact nice_int (by decide) (by decide +kernel)
      · subst h; exact nice_int (by decide) (by decide +kernel)
    exact ⟨n.sh, n.sz, n.dp⟩
  | .str x, h => ⟨(nice_str (Nat.le_refl _)).sh, (nice_str (n := 10 * x.length + 2) (repr_le' h)).sz, by simp [PyData.depth]⟩
  | .tuple ds, h => by
    obtain ⟨a, b, c⟩ := shown_les ds h
    refine ⟨by simp [PyData.showable, a], ?_, ?_⟩
    · simp only [PyData.shown, sw]
      have := fmt_text (PyData.shownAll ds)
      omega
    · simp only [PyData.depth, dw]
      omega
  | .list ds, h => by
    obtain ⟨a, b, c⟩ := shown_les ds h
    refine ⟨by simp [PyData.showable, a], ?_, ?_⟩
    · simp only [PyData.shown, sw]
      have := list_le (PyData.shownAll ds)
      omega
    · simp only [PyData.depth, dw]
      omega
  | .dict kvs, h => by
    obtain ⟨a, b, c⟩ := shown_lek kvs h
    refine ⟨by simp [PyData.showable, a], ?_, ?_⟩
    · simp only [PyData.shown, sw]
      have := dict_le (PyData.shownKv kvs)
      omega
    · simp only [PyData.depth, dw]
      omega
theorem shown_les : ∀ (ds : List PyData), oks ds → PyData.showableAll ds = true ∧ piled (PyData.shownAll ds) ≤ sws ds ∧ PyData.depthAll ds ≤ dws ds
  | [], _ => by simp [PyData.showableAll, PyData.shownAll, PyData.depthAll, piled]
  | d :: r, h => by
    obtain ⟨a, b, c⟩ := shown_le d h.1
    obtain ⟨a2, b2, c2⟩ := shown_les r h.2
    refine ⟨by simp [PyData.showableAll, a, a2], ?_, ?_⟩
    · simp only [PyData.shownAll, piled_cons, sws]
      omega
    · simp only [PyData.depthAll, dws]
      omega
theorem shown_lek : ∀ (ds : List (PyData × PyData)), okk ds → PyData.showableKv ds = true ∧ piled (PyData.shownKv ds) ≤ swk ds ∧ PyData.depthKv ds ≤ dwk ds
  | [], _ => by simp [PyData.showableKv, PyData.shownKv, PyData.depthKv, piled]
  | (k, v) :: r, h => by
    obtain ⟨a, b, c⟩ := shown_le k h.1
    obtain ⟨a2, b2, c2⟩ := shown_le v h.2.1
    obtain ⟨a3, b3, c3⟩ := shown_lek r h.2.2
    refine ⟨by simp [PyData.showableKv, a, a2, a3], ?_, ?_⟩
    · have e : ((": " : Str)).length = 2 := by decide +kernel
      simp only [PyData.shownKv, piled_cons, swk, strLen_append]
      omega
    · simp only [PyData.depthKv, dwk]
      omega
end
/-- a thing within bounds -/
structure Bd (d : PyData) (n m k : Nat) : Prop where
  o : ok d
  n : nc d ≤ n
  s : sw d ≤ m
  d : dw d ≤ k
theorem Bd.mono {d : PyData} {n m k n' m' k' : Nat} (h : Bd d n m k) (a : n ≤ n') (b : m ≤ m') (c : k ≤ k') : Bd d n' m' k' := ⟨h.o, Nat.le_trans h.n a, Nat.le_trans h.s b, Nat.le_trans h.d c⟩
theorem Bd.nice {d : PyData} {n m k : Nat} (h : Bd d n m k) : Nice d k m := let ⟨a, b, c⟩ := shown_le d h.o; ⟨a, Nat.le_trans c h.d, Nat.le_trans b h.s⟩
theorem bd_none : Bd .none 1 4 0 := ⟨trivial, Nat.le_refl _, Nat.le_refl _, Nat.le_refl _⟩
theorem bd_bool (b : Bool) : Bd (.bool b) 1 5 0 := ⟨trivial, Nat.le_refl _, Nat.le_refl _, Nat.le_refl _⟩
theorem bd_str {x : Str} (h : ∀ c ∈ x.cps.toList, c < 128) : Bd (.str x) 1 (10 * x.length + 2) 0 := ⟨h, Nat.le_refl _, Nat.le_refl _, Nat.le_refl _⟩
theorem bd_tup {ds : List PyData} {n m k : Nat} (h : oks ds) (a : ncs ds ≤ n) (b : sws ds ≤ m) (c : dws ds ≤ k) : Bd (.tuple ds) (n + 1) (m + 4) (k + 1) := ⟨h, Nat.succ_le_succ a, Nat.add_le_add_right b 4, Nat.succ_le_succ c⟩
theorem bd_lst {ds : List PyData} {n m k : Nat} (h : oks ds) (a : ncs ds ≤ n) (b : sws ds ≤ m) (c : dws ds ≤ k) : Bd (.list ds) (n + 1) (m + 4) (k + 1) := ⟨h, Nat.succ_le_succ a, Nat.add_le_add_right b 4, Nat.succ_le_succ c⟩
theorem bd_tup1 {d : PyData} {n m k : Nat} (h : Bd d n m k) : Bd (.tuple [d]) (n + 1) (m + 6) (k + 1) :=
  ⟨⟨h.o, trivial⟩, by have := h.n; simp only [nc, ncs]; omega, by have := h.s; simp only [sw, sws]; omega, by have := h.d; simp only [dw, dws]; omega⟩
theorem bd_lst1 {d : PyData} {n m k : Nat} (h : Bd d n m k) : Bd (.list [d]) (n + 1) (m + 6) (k + 1) :=
  ⟨⟨h.o, trivial⟩, by have := h.n; simp only [nc, ncs]; omega, by have := h.s; simp only [sw, sws]; omega, by have := h.d; simp only [dw, dws]; omega⟩
theorem bd_dct1 {d : PyData} {n m k : Nat} (h : Bd d n m k) : Bd (.dict [(.str "a", d)]) (n + 2) (m + 20) (k + 1) := by
  have e : ((("a" : Str)).length) = 1 := by decide +kernel
  have o : ok (.str "a") := fun c hc => by
    have : ("a" : Str).cps.toList = [97] := by decide +kernel
    rw [this] at hc
    rw [List.mem_singleton.mp hc]; decide
  exact ⟨⟨o, h.o, trivial⟩, by have := h.n; simp only [nc, nck]; omega, by have := h.s; simp only [sw, swk, e]; omega, by have := h.d; simp only [dw, dwk]; omega⟩
theorem oks_sub {xs ys : List PyData} (h : oks ys) (s : ∀ d ∈ xs, d ∈ ys) : oks xs := oks_iff.mpr fun d hd => oks_iff.mp h d (s d hd)
theorem ncs_take (k : Nat) (ds : List PyData) : ncs (ds.take k) + ncs (ds.drop k) = ncs ds := by rw [← ncs_app, List.take_append_drop]
theorem sws_take (k : Nat) (ds : List PyData) : sws (ds.take k) + sws (ds.drop k) = sws ds := by rw [← sws_app, List.take_append_drop]
theorem dws_take (k : Nat) (ds : List PyData) : max (dws (ds.take k)) (dws (ds.drop k)) = dws ds := by rw [← dws_app, List.take_append_drop]
end W08
set_option Elab.async false
set_option linter.all false
set_option maxRecDepth 100000
set_option maxHeartbeats 4000000
set_option pp.maxSteps 400
set_option pp.deepTerms false
namespace Xt
open PySem PySem.Spec PyProof.Rows L2
open AutoSeq1 (wpAny_loadPart')
theorem meets_enumerate_newT (l : Addr) (items : Array Value) (n : Nat) (dct : Option Addr) (sl : Array (Option Value)) :
    Meets (Builtin.«enumerate.__new__» ⟨[.type "enumerate", .ref l], []⟩) (fun _ R s => s.heap.get? l = some { cls := .type "tuple", dict := dct, data := .seq items n, slots := sl } ∧
      R (.ok (.ret (.ref (s.heap.push { cls := .type "tuple_iterator", data := .fields #[.ref l, .int 0 0] }).objs.size)))
        { s with heap := (s.heap.push { cls := .type "tuple_iterator", data := .fields #[.ref l, .int 0 0] }).push { cls := .type "enumerate", data := .fields #[.none, .bool false, .ref s.heap.objs.size, rawInt 0, .none, .none] } }) :=
  .of_wp fun prog w A R s h => by
    obtain ⟨hp, g, d, tk, os⟩ := s; obtain ⟨hl, h⟩ := h
    have hsub := sub_enumerate
    have hL : Heap.IsTuple (Shared.heap ⟨hp, g, d, tk, os⟩) l items := ⟨_, hl, rfl, n, rfl⟩
    wp_walk using wpAny_loadPart' hl
    refine wpAny_stack_any fun st => wpAny_pure ?_
    split
    · rename_i c _ _ _ _ _
      cases (c == Value.type "enumerate")
      · wp_walk using wpAny_loadPart' hl, wpAny_pyIter_tuple hL
        exact ⟨_, rfl, h⟩
      · wp_walk using wpAny_loadPart' hl, wpAny_pyIter_tuple hL
        exact ⟨_, rfl, h⟩
    · wp_walk using wpAny_loadPart' hl, wpAny_pyIter_tuple hL
      exact ⟨_, rfl, h⟩
section
variable {prog : Program} {w : World} {A : Around} {E : Value → Shared → Prop} {s : Shared}
theorem call_enumerate_tuple {l : Addr} {items : Array Value} {Q : Value → Shared → Prop} (hL : s.heap.IsTuple l items)
    (h : ∀ h', IsEnum h' (s.heap.objs.size + 1) s.heap.objs.size 0 .none → h'.IsTupleIter s.heap.objs.size l 0 → h'.objs.size = s.heap.objs.size + 2 →
      (∀ b o, s.heap.get? b = some o → h'.get? b = some o) → Q (.ref (s.heap.objs.size + 1)) { s with heap := h' }) :
    wpAny (model prog w) A (call (.type "enumerate") [.ref l]) Q E s := by
  obtain ⟨⟨c, dct, dt, sl⟩, hl, hc, n, hd⟩ := hL
  replace hc : c = .type "tuple" := hc
  replace hd : dt = .seq items n := hd
  subst hc hd
  refine callType_new F.called_enumerate (by decide) (F.typeCall_enumerate_1 _) (F.newCall_enumerate_1 _) (fun obj => F.args_object_init_2 obj _) F.entry_enumerate_new
    (meets_enumerate_newT l items n dct sl) ⟨hl, ?_⟩
  have hz : (s.heap.push { cls := .type "tuple_iterator", data := .fields #[.ref l, .int 0 0] }).objs.size = s.heap.objs.size + 1 := Heap.size_push ..
  show _ ∧ _
  rw [hz]
  have he : IsEnum ((s.heap.push { cls := .type "tuple_iterator", data := .fields #[.ref l, .int 0 0] }).push
      { cls := .type "enumerate", data := .fields #[.none, .bool false, .ref s.heap.objs.size, rawInt 0, .none, .none] }) (s.heap.objs.size + 1) s.heap.objs.size 0 .none := by
    have := Heap.get?_push_size (s.heap.push { cls := .type "tuple_iterator", data := .fields #[.ref l, .int 0 0] })
      (o := { cls := .type "enumerate", data := .fields #[.none, .bool false, .ref s.heap.objs.size, rawInt 0, .none, .none] }) rfl
    rw [hz] at this; exact this
  refine ⟨⟨_, he, rfl⟩, h _ he ⟨_, Heap.get?_push_of_some _ (Heap.get?_push_size _ rfl), rfl, rfl⟩ (by rw [Heap.size_push, hz]) fun b o x => Heap.get?_push_of_some _ (Heap.get?_push_of_some _ x)⟩
end
/-- the tuple at a, each item in a new pair with its number -/
def IteT (K : PySem.W.Frag) (a : Addr) : It :=
  ⟨fun i H => ∃ (xs : List V) (x : V), SqT K H a xs ∧ xs[i]? = some x, fun i H v H' => ∃ T x, v = .ref T ∧ H T = none ∧ H' = upd H T (.tup [.int (i : Nat), x]) ∧ ∀ xs, SqT K H a xs → xs[i]? = some x, fun i H => ∃ xs : List V, SqT K H a xs ∧ xs.length = i⟩
theorem turn_enumT {P : Program} {w : World} {K : PySem.W.Frag} {elts : List Expr} {kk : Nat} {tpos : Pos} (a e it : Addr) (hae : a ≠ e) (hai : a ≠ it) :
    Turn P w K (.Tuple elts kk tpos) (IteT K a) [e, it] e (fun i h => (∃ old, IsEnum h e it ((i : Nat) : Int) old) ∧ h.IsTupleIter it a i ∧ e ≠ it) where
  mem := by simp
  obj := fun i h st b hb => by
    obtain ⟨⟨old, he⟩, ⟨o, ho, hc, hd⟩, _⟩ := st
    have e' : b = e ∨ b = it := by simpa using hb
    rcases e' with z | z
    · rw [z]; exact ⟨_, he, fun v q => nomatch q⟩
    · rw [z]; exact ⟨o, ho, fun v q => by rw [hd] at q; cases q⟩
  keep := fun i h h' st k => let ⟨⟨old, he⟩, hi, hne⟩ := st; ⟨⟨old, k e (by simp) _ he⟩, hi.at fun o q => k it (by simp) o q, hne⟩
  item := by
    intro X hP hw hK hc i pins s σ H E I hf st hg
    subst hP hw hK
    obtain ⟨⟨old, he⟩, hit, hne⟩ := st
    obtain ⟨xs, x, hq, hx⟩ := hg
    obtain ⟨its, rv, p, hz⟩ := I.tuple hq
    obtain ⟨u, hu, ru⟩ := rv.get hx
    have hel : e < s.heap.objs.size := Heap.lt_size he
    have hil : it < s.heap.objs.size := by obtain ⟨_, q, _⟩ := hit; exact Heap.lt_size q
    have hu' : its.toArray[i]? = some u := by simpa using hu
    have hi : i < its.toArray.size := by
      rcases Nat.lt_or_ge i its.toArray.size with h | h
      · exact h
      · rw [Array.getElem?_eq_none h] at hu'; cases hu'
    refine wpAny_pyNext_enum_itemD (Draws.tuple (A := X.A.in1) (I.ok.hd hc) it a hai its.toArray) he ⟨hit, p⟩ hi hne (by simp [Ne.symm hne]; exact ⟨hne, Ne.symm hae⟩) fun y h' tk hy ho hst' hT hsz hk => ?_
    obtain rfl : u = y := by rw [hu'] at hy; cases hy; rfl
    refine ⟨_, rfl, wpAny_letOwnedTupleGo_enum (s := { s with heap := h', toks := tk + 1 }) ho fun h'' he' sb => ?_⟩
    have hT2 : h''.get? s.heap.objs.size = some { cls := .type "tuple", data := .seq #[.int i tk, u] } := (sb.2 _ (Nat.ne_of_gt hel)).trans hT
    have new : ObjOk X.prog X.w (upd H s.heap.objs.size (.tup [.int (i : Nat), x])) h'' s.heap.objs.size (.tup [.int (i : Nat), x]) :=
      ⟨by show 2 ≤ sizeLine; decide, [.int i tk, u], .cons ⟨_, rfl⟩ (.cons ru .nil), ⟨_, hT2, rfl, _, rfl⟩⟩
    have I1 : Inv X pins σ (upd H s.heap.objs.size (.tup [.int (i : Nat), x])) { s with heap := h'', toks := tk + 1 } :=
      I.turnedNew (ch := [e, it]) (fun b ob hb q => (sb.2 b (fun z => hb (by simp [z]))).trans (hk b ob (fun z => hb (by simp [z])) (fun z => hb (by simp [z])) q)) hf (Nat.le_refl _) new
    refine ⟨.ref s.heap.objs.size, _, I1, rfl, ⟨_, x, rfl, I.hok.fresh (Nat.le_refl _), rfl, fun ys hy => by rw [I.tuple_inj hy hq]; exact hx⟩, ⟨⟨u, ?_⟩, hst'.1.at fun o q => (sb.2 it (Ne.symm hne)).trans q, hne⟩, fun b hb => ?_⟩
    · have e1 : ((i + 1 : Nat) : Int) = (i : Int) + 1 := by omega
      rw [e1]; exact he'
    · have hb' : b < s.heap.objs.size := by
        have e' : b = e ∨ b = it := by simpa using hb
        rcases e' with z | z
        · rw [z]; exact hel
        · rw [z]; exact hil
      rw [upd_ne (Nat.ne_of_lt hb')]
      exact (hf b hb).1
  done := by
    intro X hP hw hK hc i pins s σ H E I hf st hg
    subst hP hw hK
    obtain ⟨⟨old, he⟩, hit, hne⟩ := st
    obtain ⟨xs, hq, hx⟩ := hg
    obtain ⟨its, rv, p, hz⟩ := I.tuple hq
    obtain ⟨f0, f1, f2, f3, f4, f5⟩ := hf it (by simp)
    have hl := rv.length
    have en : its.toArray.size = i := by simp; omega
    exact wpAny_pyNext_enum_endD (Draws.tuple (A := X.A.in1) (I.ok.hd hc) it a hai its.toArray) he (by rw [en]; exact ⟨hit, p⟩) fun h' eb => ⟨rfl, I.turned (t' := s.toks) (fun b o hb q => eb b o hb q) f0 f1 f3 f4 f5⟩
  self := fun A i s Q E st h => let ⟨⟨_, he⟩, _⟩ := st; wpAny_pyIter_enum he h
def iEnumT (K : PySem.W.Frag) (ta : TA) : TI := fun σ H R => ta σ H fun vs H1 => ∃ a xs, vs = [.ref a] ∧ SqT K H1 a xs ∧ R (IteT K a) H1
theorem pi_enumT {X : Cx} {e : Expr} {ta : TA} {p pos tpos : Pos} {elts : List Expr} {kk : Nat} (hg : Gl X "enumerate") (hm : X.mg "enumerate" = none) (ha : PA X [e] ta) (hs : starEach [e] X.env = [(false, eval e X.env)] := by rfl) :
    PI X (.Tuple elts kk tpos) (.Call (.Name "enumerate" p) [e] [] pos) (iEnumT X.K ta) := by
  refine ⟨fun pins s σ H R I h => ?_⟩
  refine Call_ (ld_blt I hg hm boot_enumerate (PyProof.Rows.callWith_type1 (thn (ha.run pos pins s σ H _ I h) fun us s1 ⟨vs, H1, I1, r1, q1⟩ => ?_) hs rfl))
  obtain ⟨a, xs, ex, hq, q⟩ := q1
  subst ex
  cases r1 with
  | cons r rr =>
    cases rr
    cases r
    obtain ⟨its, rv, p', hz⟩ := I1.tuple hq
    have hal : a < s1.heap.objs.size := by obtain ⟨_, z, _⟩ := p'; exact Heap.lt_size z
    refine call_enumerate_tuple p' fun h' he hit hsz hk => wpAny_pyIter_enum he ?_
    have I2 : Inv X pins σ H1 { s1 with heap := h' } := I1.kept (t' := s1.toks) hk
    refine ⟨s1.heap.objs.size + 1, [s1.heap.objs.size + 1, s1.heap.objs.size], _, _, H1, rfl, I2, turn_enumT a (s1.heap.objs.size + 1) s1.heap.objs.size (Nat.ne_of_lt (Nat.lt_succ_of_lt hal)) (Nat.ne_of_lt hal), ⟨⟨.none, he⟩, hit, Nat.succ_ne_self _⟩, fun b hb => ?_, q⟩
    have e' : b = s1.heap.objs.size + 1 ∨ b = s1.heap.objs.size := by simpa using hb
    have hle : s1.heap.objs.size ≤ b := by
      rcases e' with z | z
      · rw [z]; exact Nat.le_add_right _ _
      · rw [z]; exact Nat.le_refl _
    exact I1.fpOk hle (I1.hok.fresh hle)
theorem walk_enumT {K : PySem.W.Frag} {a : Addr} {xs : List V} : Walk (IteT K a) xs.length (fun H => SqT K H a xs) (YPair (fun i => some (.int (i : Nat))) (fun i => xs[i]?)) := by
  refine ⟨fun i _ hi q => ⟨xs, xs[i], q, by simp [hi]⟩, fun _ q => ⟨xs, q, rfl⟩, fun i H v H' _ q y => ?_⟩
  obtain ⟨T, x, h1, h2, h3, h4⟩ := y
  exact ⟨T, .int (i : Nat), x, h1, h2, h3, rfl, h4 xs q⟩
end Xt
set_option Elab.async false
set_option linter.all false
set_option maxRecDepth 100000
set_option maxHeartbeats 4000000
set_option pp.maxSteps 400
set_option pp.deepTerms false
/-! zip(a list, a tuple) of one length; a list != [] -/
namespace Xt
open PySem PySem.Spec PyProof.Rows L2
def ItzLT (K : PySem.W.Frag) (a b : Addr) : It :=
  ⟨fun i H => ∃ (xs ys : List V) (x y : V), SqL K H a xs ∧ SqT K H b ys ∧ xs[i]? = some x ∧ ys[i]? = some y,
    fun i H v H' => ∃ T x y, v = .ref T ∧ H T = none ∧ H' = upd H T (.tup [x, y]) ∧ (∀ xs, SqL K H a xs → xs[i]? = some x) ∧ ∀ ys, SqT K H b ys → ys[i]? = some y,
    fun i H => ∃ xs ys : List V, SqL K H a xs ∧ SqT K H b ys ∧ xs.length = i ∧ ys.length = i⟩
theorem turn_zipLT {P : Program} {w : World} {K : PySem.W.Frag} {elts : List Expr} {kk : Nat} {tpos : Pos} {a b z TI TO i1 i2 : Addr} (D : ZipSep2 z TI TO i1 i2 [i1, a] [i2, b]) (n1 : a ≠ i1) (n2 : b ≠ i2) :
    Turn P w K (.Tuple elts kk tpos) (ItzLT K a b) [z, TI, TO, i1, i2] z (fun i h => IsZip h z TI TO .none ∧ IsTupOf2 h TI (.ref i1) (.ref i2) ∧ (∃ x y, IsTupOf2 h TO x y) ∧ h.IsListIter i1 a i ∧ h.IsTupleIter i2 b i) where
  mem := by simp
  obj := fun i h ⟨h1, h2, ⟨x, y, h3⟩, ⟨o1, e1, _, d1⟩, ⟨o2, e2, _, d2⟩⟩ c hc => by
    simp only [List.mem_cons, List.not_mem_nil, or_false] at hc
    rcases hc with rfl | rfl | rfl | rfl | rfl
    · exact ⟨_, h1, fun _ q => nomatch q⟩
    · exact ⟨_, h2, fun _ q => nomatch q⟩
    · exact ⟨_, h3, fun _ q => nomatch q⟩
    · exact ⟨o1, e1, fun _ q => by rw [d1] at q; cases q⟩
    · exact ⟨o2, e2, fun _ q => by rw [d2] at q; cases q⟩
  keep := fun i h h' ⟨h1, h2, ⟨x, y, h3⟩, h4, h5⟩ k => ⟨k z (by simp) _ h1, k TI (by simp) _ h2, ⟨x, y, k TO (by simp) _ h3⟩, h4.at fun o q => k i1 (by simp) o q, h5.at fun o q => k i2 (by simp) o q⟩
  item := by
    intro X hP hw hK hc i pins s σ H E I hf st hg
    subst hP hw hK
    obtain ⟨hz, hTI, ⟨x0, y0, hTO⟩, t1, t2⟩ := st
    obtain ⟨xs, ys, x, y, hqx, hqy, hx, hy⟩ := hg
    obtain ⟨us, r1, p1, _⟩ := I.list hqx
    obtain ⟨ws, r2, p2, _⟩ := I.tuple hqy
    obtain ⟨u, hu, ru⟩ := r1.get hx
    obtain ⟨v, hv, rv⟩ := r2.get hy
    have l1 : i < us.toArray.size := by simpa using (List.getElem?_eq_some_iff.mp hu).1
    have l2 : i < ws.toArray.size := by simpa using (List.getElem?_eq_some_iff.mp hv).1
    have nh := I.ok.hd hc
    have zl : z < s.heap.objs.size := Heap.lt_size hz
    refine wpAny_pyNext_zipD2_item D (Draws.list (A := X.A.in1) nh i1 a n1 us.toArray) (Draws.tuple (A := X.A.in1) nh i2 b n2 ws.toArray) hz hTI hTO ⟨t1, p1.isList⟩ ⟨t2, p2⟩ l1 l2 fun u' v' h' tk eu ev z' TO' s1 s2 hT hsz hk => ?_
    obtain rfl : u = u' := by
      have : us.toArray[i]? = some u := by simpa using hu
      rw [this] at eu; cases eu; rfl
    obtain rfl : v = v' := by
      have : ws.toArray[i]? = some v := by simpa using hv
      rw [this] at ev; cases ev; rfl
    refine ⟨_, rfl, wpAny_letOwnedTupleGo_zip (s := { s with heap := h', toks := tk }) z' fun h'' z'' sb => ?_⟩
    have hT2 : h''.get? s.heap.objs.size = some { cls := .type "tuple", data := .seq #[u, v] } := (sb.2 _ (Nat.ne_of_gt zl)).trans hT
    have I1 : Inv X pins σ (upd H s.heap.objs.size (.tup [x, y])) { s with heap := h'', toks := tk } :=
      I.turnedNew (ch := [z, TI, TO, i1, i2]) (fun c o hb q => (sb.2 c (fun e => hb (by simp [e]))).trans (hk c o (fun e => hb (by simp [e])) (fun e => hb (by simp [e])) (fun e => hb (by simp [e])) (fun e => hb (by simp [e])) q)) hf (Nat.le_refl _)
        ⟨by show 2 ≤ sizeLine; decide, [u, v], .cons ru (.cons rv .nil), ⟨_, hT2, rfl, _, rfl⟩⟩
    refine ⟨.ref s.heap.objs.size, _, I1, rfl, ⟨_, x, y, rfl, I.hok.fresh (Nat.le_refl _), rfl, fun l hl => by rw [I.list_inj hl hqx]; exact hx, fun l hl => by rw [I.tuple_inj hl hqy]; exact hy⟩,
      ⟨z'', (sb.2 _ D.TIz).trans (hk _ _ D.TIz D.TITO D.TIi1 D.TIi2 hTI), ⟨u, v, (sb.2 _ D.TOz).trans TO'⟩, s1.1.at fun o q => (sb.2 _ (Ne.symm D.zi1)).trans q, s2.1.at fun o q => (sb.2 _ (Ne.symm D.zi2)).trans q⟩, fun c hcm => ?_⟩
    have lt : c < s.heap.objs.size := by
      have hcm' := hcm
      simp only [List.mem_cons, List.not_mem_nil, or_false] at hcm'
      rcases hcm' with rfl | rfl | rfl | rfl | rfl
      · exact zl
      · exact Heap.lt_size hTI
      · exact Heap.lt_size hTO
      · exact Heap.lt_size t1.choose_spec.1
      · exact Heap.lt_size t2.choose_spec.1
    rw [upd_ne (Nat.ne_of_lt lt)]
    exact (hf c hcm).1
  done := by
    intro X hP hw hK hc i pins s σ H E I hf st hg
    subst hP hw hK
    obtain ⟨hz, hTI, ⟨x0, y0, hTO⟩, t1, t2⟩ := st
    obtain ⟨xs, ys, hqx, hqy, lx, ly⟩ := hg
    obtain ⟨us, r1, p1, _⟩ := I.list hqx
    obtain ⟨ws, r2, p2, _⟩ := I.tuple hqy
    have e1 : us.toArray.size = i := by rw [List.size_toArray, ← r1.length]; exact lx
    have e2 : ws.toArray.size = i := by rw [List.size_toArray, ← r2.length]; exact ly
    have nh := I.ok.hd hc
    exact wpAny_pyNext_zipD2_end D (Draws.list (A := X.A.in1) nh i1 a n1 us.toArray) (Draws.tuple (A := X.A.in1) nh i2 b n2 ws.toArray) hz hTI hTO ⟨t1, p1.isList⟩ ⟨t2, p2⟩ (by omega) (by omega) (.inl e1.symm) fun h' tk hk =>
      ⟨rfl, I.turnedL (t' := tk) (ch := [z, TI, TO, i1, i2]) (fun c o hb q => hk c o (fun e => hb (by simp [e])) (fun e => hb (by simp [e])) (fun e => hb (by simp [e])) (fun e => hb (by simp [e])) q) hf⟩
  self := fun A i s Q E st h => wpAny_pyIter_zip st.1 h
def iZipLT (K : PySem.W.Frag) (ta : TA) : TI := fun σ H R => ta σ H fun vs H1 => ∃ a b xs ys, vs = [.ref a, .ref b] ∧ SqL K H1 a xs ∧ SqT K H1 b ys ∧ R (ItzLT K a b) H1
theorem pi_zipLT {X : Cx} {e e2 : Expr} {ta : TA} {p pos tpos : Pos} {elts : List Expr} {kk : Nat} (hg : Gl X "zip") (hm : X.mg "zip" = none) (ha : PA X [e, e2] ta)
    (hs : starEach [e, e2] X.env = (false, eval e X.env) :: starEach [e2] X.env := by rfl) (hpl : (backTo pos (starEach [e2] X.env)).any (·.1) = false := by rfl) :
    PI X (.Tuple elts kk tpos) (.Call (.Name "zip" p) [e, e2] [] pos) (iZipLT X.K ta) := by
  refine ⟨fun pins s σ H R I h => ?_⟩
  refine Call_ (ld_blt I hg hm PyProof.Rows.boot_zip (PyProof.Rows.callWith_type1 (thn (ha.run pos pins s σ H _ I h) fun us s1 ⟨vs, H1, I1, r1, q1⟩ => ?go) hs hpl))
  case go =>
    obtain ⟨a, b, xs, ys, rfl, hqx, hqy, q⟩ := q1
    cases r1 with
    | cons r rr =>
      cases rr with
      | cons r' rr =>
        cases rr; cases r; cases r'
        obtain ⟨us, v1, p1, _⟩ := I1.list hqx
        obtain ⟨ws, v2, p2, _⟩ := I1.tuple hqy
        have la : a < s1.heap.objs.size := p1.lt
        have lb : b < s1.heap.objs.size := by obtain ⟨o, ho, _⟩ := id p2; exact Heap.lt_size ho
        refine zip_begins2 (begins_list a us.toArray) (begins_tuple b ws.toArray) p1.isList p2 fun h' hz hTI hTO h1 h2 _ hk => wpAny_pyIter_zip hz ?_
        have I2 : Inv X pins σ H1 { s1 with heap := h' } := I1.kept (t' := s1.toks) hk
        refine ⟨s1.heap.objs.size + 4, [s1.heap.objs.size + 4, s1.heap.objs.size + 2, s1.heap.objs.size + 3, s1.heap.objs.size, s1.heap.objs.size + 1], _, _, H1, rfl, I2,
          turn_zipLT (zip_sep2 (N := s1.heap.objs.size) (fp1 := [a]) (fp2 := [b]) (fun c hc => by rw [List.mem_singleton.mp hc]; exact la) (fun c hc => by rw [List.mem_singleton.mp hc]; exact lb)) (Nat.ne_of_lt la) (Nat.ne_of_lt (Nat.lt_succ_of_lt lb)),
          ⟨hz, hTI, ⟨_, _, hTO⟩, ⟨_, h1, rfl, rfl⟩, ⟨_, h2, rfl, rfl⟩⟩, fun c hc => ?_, q⟩
        have le : s1.heap.objs.size ≤ c := by
          simp only [List.mem_cons, List.not_mem_nil, or_false] at hc
          rcases hc with rfl | rfl | rfl | rfl | rfl
          · exact Nat.le_add_right _ _
          · exact Nat.le_add_right _ _
          · exact Nat.le_add_right _ _
          · exact Nat.le_refl _
          · exact Nat.le_add_right _ _
        exact I1.fpOk le (I1.hok.fresh le)
theorem walk_zipLT {K : PySem.W.Frag} {a b : Addr} {xs ys : List V} (e : xs.length = ys.length) : Walk (ItzLT K a b) xs.length (fun H => SqL K H a xs ∧ SqT K H b ys) (YPair (fun i => xs[i]?) (fun i => ys[i]?)) := by
  refine ⟨fun i H hi q => ⟨xs, ys, xs[i], ys[i]'(by omega), q.1, q.2, List.getElem?_eq_getElem hi, List.getElem?_eq_getElem (by omega)⟩, fun H q => ⟨xs, ys, q.1, q.2, rfl, e.symm⟩, fun i H v H' hi q y => ?_⟩
  obtain ⟨T, x, z, h1, h2, h3, h4, h5⟩ := y
  exact ⟨T, x, z, h1, h2, h3, h4 xs q.1, h5 ys q.2⟩
/-- a list of any things != [] -/
theorem op_neL0 {X : Cx} (hu : X.A.units + 64 < cLine) : OpR X (compareOp .NotEq) (fun x y H Q => ∃ a b xs, x = .ref a ∧ y = .ref b ∧ H a = some (.lst xs) ∧ H b = some (.lst []) ∧ Q (.bl (!xs.isEmpty)) H) := by
  intro pins s σ H x y v u Q I rx ry h
  obtain ⟨a, b, xs, rfl, rfl, ea, eb, q⟩ := h
  cases rx; cases ry
  obtain ⟨its, r1, p1, _⟩ := I.list (SqL.of ea)
  obtain ⟨its2, r2, p2, _⟩ := I.list (SqL.of eb)
  cases r2
  have l := r1.length
  cases xs with
  | nil =>
    cases r1
    exact (PySem.SeqAt.RcNeAt.lists (e := fun _ => true) p1.isList p2.isList rfl (by omega) (fun j h1 _ => absurd h1 (by simp))) _ _ _ _ ⟨.bl false, H, I, rfl, q⟩
  | cons x r =>
    refine (PySem.SeqAt.RcNeAt.lists_lengths p1.isList p2.isList ?_ (by omega)) _ _ _ _ ⟨.bl true, H, I, rfl, q⟩
    rw [List.size_toArray, ← l]
    simp
end Xt
set_option Elab.async false
set_option linter.all false
set_option maxRecDepth 100000
set_option maxHeartbeats 4000000
set_option pp.maxSteps 400
set_option pp.deepTerms false
/-! Tuples cut, put together, turned about, as lists, whatever the cases; a sign many times. -/
namespace Xtu
open PySem PySem.Spec PyProof.Rows L2
theorem same_upd {H : Hp} {p : Addr} {o : HO} (h : H p = none) : Same H (upd H p o) := fun b x e => by
  rw [upd_ne (ne_of_none e h)]
  exact e
section
variable {X : Cx}
def rSlU : V → Option Int → Option Int → Hp → VK → Prop := fun x lo hi H Q => ∃ a xs, x = .ref a ∧ H a = some (.tup xs) ∧ ∀ p H', L2.Same H H' → H' p = some (.tup (cutV xs lo hi)) → Q (.ref p) H'
theorem sl_tupU : SlR X rSlU := by
  intro pins s σ H x v vl vu lo hi sl Q I rx hs pl pu h
  obtain ⟨a, xs, rfl, e, q⟩ := h
  refine sl_tupA pins s σ H _ v vl vu lo hi sl Q I rx hs pl pu ⟨a, xs, rfl, SqT.of e, fun w => q a H (Same.refl H) ?_, fun _ p np => q p _ (same_upd np) upd_same⟩
  rw [e]
  unfold cutV
  rw [w.1, w.2, List.drop_zero, Nat.sub_zero, List.take_length]
def rCatU : R2 := fun x y H Q => ∃ a b xs ys, x = .ref a ∧ y = .ref b ∧ H a = some (.tup xs) ∧ H b = some (.tup ys) ∧ xs.length + ys.length ≤ sizeLine ∧ ∀ p H', L2.Same H H' → H' p = some (.tup (xs ++ ys)) → Q (.ref p) H'
theorem op_catU : OpR X (binaryOp .Add) rCatU := by
  intro pins s σ H x y v u Q I rx ry h
  obtain ⟨a, b, xs, ys, rfl, rfl, ea, eb, hz, q⟩ := h
  refine op_catA pins s σ H _ _ v u Q I rx ry ⟨a, b, xs, ys, rfl, rfl, SqT.of ea, SqT.of eb, hz, fun z => q b H (Same.refl H) ?_, fun _ z => q a H (Same.refl H) ?_, fun _ _ p np => q p _ (same_upd np) upd_same⟩
  · rw [z]; exact eb
  · rw [z, List.append_nil]; exact ea
end
section
variable {prog : Program} {w : World} {A : Around} {E : Value → Shared → Prop} {s : Shared}
theorem turnN {sl : Addr} {u : Tok} {n : Nat} {Q : Int × Int × Nat → Shared → Prop} (hs : s.heap.IsSliceOf sl .none .none (.int (-1) u)) (h : Q ((n : Int) - 1, -1, n) s) : wpAny (model prog w) A (Builtin.Slice.sliceApplied (.ref sl) (pure (n : Int))) Q E s := by
  obtain ⟨os, a1, a2, a3⟩ := id hs
  unfold Builtin.Slice.sliceApplied Builtin.Slice.sliceFields
  refine wpAny_bind (wpAny_bind (wpAny_field a1 a3 (x := .none) rfl (wpAny_bind (wpAny_field a1 a3 (x := .none) rfl (wpAny_bind (wpAny_field a1 a3 (x := .int (-1) u) rfl (wpAny_pure ?_)))))))
  refine wpAny_bind (slicePart_int ?_)
  show wpAny _ _ (if ((-1 : Int) == 0) = true then _ else _) _ _ s
  rw [if_neg (by decide)]
  have pl : Builtin.Slice.slicePlaces ((n : Int) - 1) (-1) (-1) = n := by
    unfold Builtin.Slice.slicePlaces
    have h1 : ¬ ((-1 : Int) > 0) := by decide
    simp only [h1, if_false, show (- -1 : Int) = 1 by decide, Int.ediv_one]
    split <;> omega
  refine wpAny_bind (slicePart_none (wpAny_bind (slicePart_none (wpAny_bind (wpAny_pure ?_)))))
  show wpAny _ _ (pure ((n : Int) - 1, (-1 : Int), Builtin.Slice.slicePlaces ((n : Int) - 1) (-1) (-1))) _ _ s
  rw [pl]
  exact wpAny_pure h
theorem fm_congr {α β : Type} {f g : α → Option β} : ∀ l : List α, (∀ m ∈ l, f m = g m) → l.filterMap f = l.filterMap g
  | [], _ => rfl
  | a :: r, h => by
    rw [List.filterMap_cons, List.filterMap_cons, h a List.mem_cons_self, fm_congr r fun m hm => h m (List.mem_cons_of_mem _ hm)]
theorem turn_all (xs : Array Value) : ((List.range xs.size).filterMap fun (m : Nat) => xs[((xs.size : Int) - 1 + (m : Int) * -1).toNat]?).toArray = xs.toList.reverse.toArray := by
  have e : ((List.range xs.size).filterMap fun (m : Nat) => xs[((xs.size : Int) - 1 + (m : Int) * -1).toNat]?) = ((List.range xs.size).map fun k => xs.size - 1 - k).filterMap (xs[·]?) := by
    rw [List.filterMap_map]
    refine fm_congr _ fun m hm => ?_
    have := List.mem_range.mp hm
    show xs[((xs.size : Int) - 1 + (m : Int) * -1).toNat]? = xs[xs.size - 1 - m]?
    congr 1
    omega
  rw [e, PySem.W.krv_range, List.filterMap_reverse, PySem.W.krv_all]
theorem itemN {t sl : Addr} {items : Array Value} {u : Tok} {Q : Value → Shared → Prop} (ht : IsTup s.heap t items) (hs : s.heap.IsSliceOf sl .none .none (.int (-1) u)) (hz : items.size ≤ sizeLine)
    (h : Q (.ref s.heap.objs.size) { s with heap := s.heap.push { cls := .type "tuple", data := .seq items.toList.reverse.toArray } }) : wpAny (model prog w) A (getItem (.ref t) (.ref sl)) Q E s := by
  have fits : sizeOk (.seq items.toList.reverse.toArray) := by
    show items.toList.reverse.toArray.size ≤ sizeLine
    rw [List.size_toArray, List.length_reverse, Array.length_toList]
    exact hz
  obtain ⟨os, a1, a2, a3⟩ := id hs
  have ty : s.TypeIs (.ref sl) "slice" := ⟨os, a1, a2⟩
  unfold getItem; try with_reducible refine wpAny_holding ?_
  (first | refine wpAny_bind (wpAny_pure ?_) | skip); refine wpAny_bind (wpAny_sequenceKey ht.typeIs (by decide) ?_)
  refine wpAny_bind (wpAny_callSpecial?_slot (name := Str.ofString "__getitem__") ht.typeIs PyProof.Rows.slot_tuple_getitem (wpAny_call_entry PyProof.Rows.slot_tuple_getitem ht.typeIs entry_tuple_getitem ?_ (args_tuple_getitem _ _)))
  show wpAny _ _ (Builtin.Tuple.tupleItemsOf (.ref t) >>= _) _ _ s; refine wpAny_bind (tupleItemsOf_ ht ?_)
  refine wpAny_bind (wpAny_typeOf ty ?_); rw [if_pos (by decide)]
  refine wpAny_bind (turnN hs ?_)
  show wpAny _ _ (if (((items.size : Int) - 1) == 0 && (-1 : Int) == 1 && (items.size == items.size)) = true then _ else _) _ _ s
  rw [if_neg (by simp), turn_all]
  (first
    | exact wpAny_bind (m := Builtin.Tuple.tupleExact _) (wpAny_newObj_type (wpAny_pure ⟨_, rfl, wpAny_pure h⟩) fits)
    | exact wpAny_bind (m := Builtin.Tuple.tupleExact _) (wpAny_newObj_type (wpAny_bind (wpAny_pure (wpAny_pure ⟨_, rfl, wpAny_pure h⟩))) fits)
    | exact wpAny_bind (wpAny_bind (m := Builtin.Tuple.tupleExact _) (wpAny_newObj_type (wpAny_pure (wpAny_pure ⟨_, rfl, wpAny_pure h⟩)) fits)))
end
section
variable {X : Cx}
def tRevN (K : PySem.W.Frag) (te : TE) : TE := fun σ H Q => te σ H fun x H1 => ∃ (a : Addr) (xs : List V), x = .ref a ∧ H1 a = some (.tup xs) ∧ ∀ p H', L2.Same H1 H' → H' p = some (.tup xs.reverse) → Q (.ref p) H'
theorem pe_revN {e : Expr} {te : TE} {k : Nat} {p1 p2 p3 pos : Pos} (he : PE X e te) : PE X (.Subscript e (.Slice none none (some (.UnaryOp .USub (.Constant (.int 1) k p1) p2)) p3) pos) (tRevN X.K te) := by
  refine ⟨fun pins s σ H Q I h => Subscript_ (thn (he.run pins s σ H _ I h) fun v s1 ⟨x, H1, I1, r1, a, xs, ex, hx, q⟩ => ?_)⟩
  subst ex; cases r1
  have hst : PO X (some (.UnaryOp .USub (.Constant (.int 1) k p1) p2)) (tPart (tUn (rU fun i => .int (-i)) (tC (.int 1)))) := po_some (pe_un un_neg pe_int)
  refine wpAny_Slice (thn (po_none.run pins s1 σ H1 (fun o G => o = none ∧ G = H1) I1 ⟨rfl, rfl⟩) fun vl s2 ⟨l, G, I2, pl, el, e2⟩ => ?_)
  subst el e2
  refine thn (po_none.run pins s2 σ G (fun o G2 => o = none ∧ G2 = G) I2 ⟨rfl, rfl⟩) fun vu s3 ⟨u, G2, I3, pu, eu, e3⟩ => ?_
  subst eu e3
  refine thn (hst.run pins s3 σ G2 (fun o G3 => o = some (-1) ∧ G3 = G2) I3 ⟨1, rfl, -1, rfl, rfl, rfl⟩) fun vs s4 ⟨o, G3, I4, ps, eo, e4⟩ => ?_
  subst eo e4
  cases pl; cases pu
  cases ps with
  | int _ tk =>
  have I5 : Inv X pins σ G3 { s4 with heap := s4.heap.push { cls := .type "slice", data := .fields #[.none, .none, .int (-1) tk] } } := I4.kept (t' := s4.toks) fun b ob q => Heap.get?_push_of_some _ q
  obtain ⟨its, r, ht, hz⟩ := I5.tuple (SqT.of hx)
  have hlen := r.length
  show wpAny (model X.prog X.w) X.A (subscriptTail e (.Slice none none (some (.UnaryOp .USub (.Constant (.int 1) k p1) p2)) p3) (.ref a) (.ref s4.heap.objs.size)) (EP X pins σ Q) X.xe { s4 with heap := s4.heap.push { cls := .type "slice", data := .fields #[.none, .none, .int (-1) tk] } }
  refine tail_any (ops := [.ref a, .ref s4.heap.objs.size]) ht.typeIs PyProof.Rows.slot_tuple_getitem.lookup ?_ (by with_unfolding_all rfl)
  refine itemN ht (Heap.IsSliceOf.new _ _ _ _) (by rw [List.size_toArray]; omega) ?_
  have nw := I5.hok.fresh (Nat.le_refl _)
  refine ⟨.ref _, _, I5.laid (t' := s4.toks) (o := .tup xs.reverse) (fun b ob q => Heap.get?_push_of_some _ q) (Nat.le_refl _) ?_, rfl, q _ _ (same_upd nw) upd_same⟩
  exact ⟨by rw [List.length_reverse]; exact hz, _, r.reverse, IsTup.new _ _⟩
/-- a list of a tuple's things, new -/
theorem cr_listT : CallR X (.type "list") (fun xs H Q => ∃ p ys, xs = [.ref p] ∧ SqT X.K H p ys ∧ ∀ l, H l = none → l ≠ sysModules → Q (.ref l) (upd H l (.lst ys))) := by
  intro pins s σ H xs us Q I r h
  obtain ⟨p, ys, rfl, hq, q⟩ := h
  obtain ⟨u, rfl, rx⟩ := vals1 r; cases rx
  obtain ⟨its, r', ⟨o, ho, hc, n, hd⟩, hz⟩ := I.tuple hq
  have hlen := r'.length
  exact call_list_seq p (.inr rfl) ho hc hd (fun h' c' kp e => ⟨.ref s.heap.objs.size, _, I.laid (t' := s.toks) kp (Nat.le_refl _) (show ObjOk X.prog X.w _ h' _ (.lst ys) from ⟨hz, its, c', r', e⟩), rfl, q _ (I.hok.fresh (Nat.le_refl _)) (Nat.ne_of_gt I.big)⟩) (by simp only [List.size_toArray]; omega)
end
section
variable {X : Cx}
/-- "x" * 41 -/
theorem op_x41 : OpR X (binaryOp .Mult) (fun x y H Q => x = .str "x" ∧ y = .int 41 ∧ ∀ z : Str, z.length = 41 → (∀ c ∈ z.cps.toList, c = 120) → Q (.str z) H) := by
  intro pins s σ H x y v u Q I rx ry h
  obtain ⟨rfl, rfl, q⟩ := h
  obtain ⟨t, rfl⟩ := rx
  obtain ⟨t2, rfl⟩ := ry
  refine PySem.P.mul_str (by decide) (fun _ _ => by decide +kernel) (fun _ _ => by decide +kernel) ⟨by decide +kernel, .str ⟨(List.replicate 41 ("x" : Str).cps).foldl (· ++ ·) #[]⟩, H, I.tok _, ⟨_, rfl⟩, q _ (by decide +kernel) (by decide +kernel)⟩
end
end Xtu
set_option Elab.async false
set_option linter.all false
set_option maxRecDepth 100000
set_option maxHeartbeats 8000000
set_option pp.maxSteps 400
set_option pp.deepTerms false
/-! set(a list or a tuple of keys), of any number below the scan's bound; how many unlike ones there are. -/
namespace Xset
open PySem PySem.Spec PyProof.Rows
/-- how many unlike things -/
def cn {κ : Type} [DecidableEq κ] : List κ → Nat
  | [] => 0
  | x :: r => if x ∈ r then cn r else cn r + 1
theorem cn_le {κ : Type} [DecidableEq κ] : ∀ l : List κ, cn l ≤ l.length
  | [] => Nat.le_refl _
  | x :: r => by
    have := cn_le r
    unfold cn
    rw [List.length_cons]
    split <;> omega
theorem cn_nodup {κ : Type} [DecidableEq κ] : ∀ l : List κ, cn l = l.length ↔ l.Nodup
  | [] => by simp [cn]
  | x :: r => by
    have h := cn_le r
    unfold cn
    rw [List.length_cons, List.nodup_cons, ← cn_nodup r]
    by_cases m : x ∈ r
    · rw [if_pos m]
      exact ⟨fun z => by omega, fun z => absurd m z.1⟩
    · rw [if_neg m]
      exact ⟨fun z => ⟨m, by omega⟩, fun z => by omega⟩
section
variable {prog : Program} {w : World} {κ : Type} [DecidableEq κ] [BEq κ] [LawfulBEq κ] (knd : KeyKind prog w κ)
def SetL (h : Heap) (S : Addr) (ks : List κ) (i : Nat) : Prop := h.SetOf knd S (fun k => decide (k ∈ ks.take i)) (cn (ks.take i).reverse)
theorem SetL.at_ {h h' : Heap} {S : Addr} {ks : List κ} {i : Nat} (x : SetL knd h S ks i) (k : ∀ o, h.get? S = some o → h'.get? S = some o) : SetL knd h' S ks i := by
  obtain ⟨o, es, ep, t, ho, r⟩ := x
  exact ⟨o, es, ep, t, k o ho, r⟩
variable {A : Around} {R : Result → Shared → Prop} {it : Addr} {fp wr : List Addr} {G : Array GenState → Array GenState → Prop} {n : Nat} {P : Nat → Value → Prop} {St : Nat → Shared → Prop}
theorem run_all (W : WalksS prog w A.in1 it fp wr G n P St) {S : Addr} (nS : S ∉ fp) {ks : List κ} (lk : ks.length = n) (room : n + 1 < scanBound) (val : ∀ i v, P i v → ∃ k, ks[i]? = some k ∧ knd.is k v = true ∧ v.scannable = true) :
    ∀ (left i : Nat) (s : Shared), n - i = left → i ≤ n → St i s → SetL knd s.heap S ks i → (∀ s', Moved (S :: wr) G s s' → SetL knd s'.heap S ks n → R (.ok (.ret .none)) s') →
      codeAny (model prog w) A (.builtin "set.update.loop" ⟨[.ref S, .ref it], []⟩) R s := by
  have nw : S ∉ wr := fun z => nS (W.sub _ z)
  have up : ∀ b ∈ wr, b ∈ S :: wr := fun b m => List.mem_cons_of_mem _ m
  intro left
  induction left with
  | zero =>
    intro i s e le st hs q
    obtain rfl : i = n := by omega
    refine codeAny_builtin PyProof.Rows.F.entry_set_update_loop (by
      rw [Around.under_plainId PyProof.Rows.F.plain_set_update_loop _]
      show wpAny _ A.in1 (pyNext (.ref it) >>= _) _ _ s
      exact wpAny_bind (W.done s _ _ st fun s' mv => by
        show wpAny _ A.in1 (ret Value.none) _ _ s'
        exact wpAny_pure (q s' (mv.mono up) (hs.at_ knd fun o e => mv.heap S _ nw e))))
  | succ left ih =>
    intro i s e le st hs q
    have lt : i < n := by omega
    refine codeAny_builtin PyProof.Rows.F.entry_set_update_loop ?_
    rw [Around.under_plainId PyProof.Rows.F.plain_set_update_loop _]
    show wpAny _ A.in1 (pyNext (.ref it) >>= _) _ _ s
    refine wpAny_bind (W.item i s _ _ lt st fun v s' pv st' mv => ?_)
    obtain ⟨k, ek, kv, sc⟩ := val i v pv
    have hs' := hs.at_ (h' := s'.heap) knd fun o e => mv.heap S _ nw e
    show wpAny _ A.in1 (holding [v] (setAdd S v) >>= _) _ _ s'
    refine wpAny_bind (wpAny_holding (by
      unfold setAdd
      refine wpAny_holding (wpAny_bind (knd.pyHash kv ?_))
      have few : cn (ks.take i).reverse + 1 < scanBound := by
        have := cn_le (ks.take i).reverse
        rw [List.length_reverse, List.length_take] at this
        omega
      refine wpAny_setAddHashed_of (knd := knd) (s := { s' with toks := s'.toks + 1 }) kv sc hs' few fun h' sb new => ?_
      have tk : ks.take (i + 1) = ks.take i ++ [k] := by rw [List.take_succ, ek]; rfl
      have new' : SetL knd h' S ks (i + 1) := by
        refine SetOf_congr new (fun j => ?_) ?_
        · rw [tk, Bool.eq_iff_iff]
          simp
        · rw [tk, List.reverse_append]
          show _ = cn (k :: (ks.take i).reverse)
          simp only [cn, List.mem_reverse, decide_eq_true_eq]
      refine wpAny_pure ⟨plainId_quiet PyProof.Rows.F.plain_set_update_loop _, ih (i + 1) _ (by omega) lt (W.frame _ s' _ _ st' (Nat.le_add_right _ _) fun b m o z => ?_) new' fun s2 mv2 z2 => ?_⟩
      · exact (sb.2 b (fun c => nS (by rw [← c]; exact m))).trans z
      · exact q s2 (Moved.trans W.gtrans ((mv.mono up).then_heap (Nat.le_add_right _ _) fun b o m z => (sb.2 b (fun c => m (by rw [c]; exact List.mem_cons_self))).trans z) mv2) z2))
end
/-- what set(x) comes to, x a list or a tuple that holds keys -/
theorem set_made {prog : Program} {w : World} {κ : Type} [DecidableEq κ] [BEq κ] [LawfulBEq κ] (knd : KeyKind prog w κ) {A : Around} {E : Value → Shared → Prop} {s : Shared} {l : Addr} {xs : Array Value} {ks : List κ} {Q : Value → Shared → Prop}
    (quiet : A.handled = none) (src : s.heap.IsList l xs ∨ s.heap.IsTuple l xs) (lk : ks.length = xs.size) (room : xs.size + 1 < scanBound) (val : ∀ (i : Nat) (v : Value), xs[i]? = some v → ∃ k, ks[i]? = some k ∧ knd.is k v = true ∧ v.scannable = true)
    (q : ∀ (h' : Heap) (tk : Nat), SetL knd h' s.heap.objs.size ks xs.size → (∀ b o, b < s.heap.objs.size → s.heap.get? b = some o → h'.get? b = some o) → Q (.ref s.heap.objs.size) { s with heap := h', toks := tk }) :
    wpAny (model prog w) A (call (.type "set") [.ref l]) Q E s := by
  obtain ⟨cc, tl, mro⟩ := PySem.F.called_set.mro; have g1 := PySem.F.called_set.made; have g2 := PySem.F.called_set.sub
  refine wpAny_call (codeAny_of_tree ?_); show wpAny _ _ (callAny (.type "set") _) _ _ _
  refine wpAny_pure ⟨Code.quiet_builtin _ (by decide +kernel), codeAny_builtin PySem.F.entry_type_call ?_⟩; rw [Around.under_plain (weight_type_call_type "set" [.ref l] []) rfl]
  have g3 := PySem.F.called_set.notType; have g4 := PySem.F.called_set.canCreate; have g5 := PySem.F.typeCall_set_1 (.ref l)
  repeat (any_goals (first | assumption | wp_step))
  generalize hp : s.heap.objs.size = S at q ⊢
  refine codeAny_mono (code_set_new_1 (.ref l) (E := E) (Q₁ := fun ob s1 => ∃ led : Bool, ob = .ref S ∧ s1 = { s with heap := s.heap.push { cls := .type "set", dict := none, data := .set #[] 0 (.fresh 0 0 led) } }) fun led => ⟨led, by rw [hp], rfl⟩) fun r s1 hr => ?_
  match r, hr with
  | .error e, hr => exact hr
  | .ok .next, hr | .ok .brk, hr | .ok .cont, hr => exact hr.elim
  | .ok (.ret ob), ⟨led, e1, e2⟩ =>
  subst e1 e2
  generalize hob : ({ cls := .type "set", dict := none, data := .set #[] 0 (.fresh 0 0 led) } : Obj) = newS
  have atS : (s.heap.push newS).get? S = some newS := by rw [← hp]; exact Heap.get?_push_size _ (by rw [← hob]; rfl)
  have ty : Shared.TypeIs { s with heap := s.heap.push newS } (.ref S) "set" := ⟨_, atS, by rw [← hob]⟩
  have szS : (s.heap.push newS).objs.size = S + 1 := by rw [Heap.size_push, hp]
  have g6 := PySem.F.called_set.init.lookup; have g7 := PySem.F.called_set.init.bind (.ref S)
  repeat (any_goals (first | assumption | wp_step))
  -- what __init__ leaves
  refine codeAny_mono (codeAny_call_builtin (R := wants (fun r s2 => r = .none ∧ ∃ h' tk, s2 = { s with heap := h', toks := tk } ∧ SetL knd h' S ks xs.size ∧ ∀ b o, b < S → s.heap.get? b = some o → h'.get? b = some o) E) PySem.F.called_set.init.plain PySem.F.entry_set_init (check_set_init_1 ty ?_)) fun r2 s2 hr2 => ?_
  · rcases src with hl | hl
    · obtain ⟨⟨a1, a2, a3, a4⟩, ho, e1, n1, e2⟩ := hl
      simp only at e1 e2; subst e1 e2
      have lS : @LT.lt Nat _ l S := by rw [← hp]; exact Heap.lt_size ho
      have hl1 : (s.heap.push newS).IsList l xs := ⟨_, Heap.get?_push_of_some _ ho, rfl, n1, rfl⟩
      have f1 := PySem.F.sub_list_set; have f2 := PySem.F.sub_list_frozenset
      have f3 : (Value.type "list" == Value.type "dict") = false := by decide
      have ho1 := Heap.get?_push_of_some newS ho
      unfold Builtin.«set.__init__» noKeywords Builtin.Frozenset.updateFrom
      generalize hPI : pyIter = PI
      wp_walk
      rw [show newS.data = .set #[] 0 (.fresh 0 0 led) from by rw [← hob]]
      wp_walk
      subst hPI
      refine wpAny_pyIter_list hl1 ?_; refine wpAny_bind (wpAny_runValue ?_)
      have nI : l ≠ (s.heap.push newS).objs.size := by rw [szS]; exact Nat.ne_of_lt (Nat.lt_succ_of_lt lS)
      refine run_all (knd := knd) (ks := ks) ((Walks.list (show A.in1.in1.in1.handled = none by simp [quiet]) _ l nI xs).toS) (S := S) (by rw [szS]; simp only [List.mem_cons, List.not_mem_nil, or_false, not_or]; exact ⟨Nat.ne_of_lt (Nat.lt_succ_self _), Nat.ne_of_gt lS⟩) lk room val (xs.size - 0) 0 _ (by omega) (Nat.zero_le _) ⟨⟨_, Heap.get?_push_size _ rfl, rfl, rfl⟩, hl1.push _⟩ ?_ fun s' mv z => ?_
      · have at2 : ((s.heap.push newS).push { cls := .type "list_iterator", data := .fields #[.ref l, .int 0 0] }).get? S = some newS := Heap.get?_push_of_some _ atS
        have so : newS.SetObjOf knd (fun _ => false) 0 := by rw [← hob]; exact PyProof.Rows.setObjOf_fresh (knd := knd) led
        exact SetOf_congr (so.setOf at2 (by unfold scanBound; omega)) (fun _ => by simp) rfl
      · obtain ⟨h', g', d', tk', os'⟩ := s'
        obtain ⟨m1, m2, m3, m4, _⟩ := mv
        simp only at m1 m2 m3 m4 z
        subst m2 m3 m4
        show wpAny _ _ _ _ _ _
        refine wpAny_pure (show wpAny _ _ (ret Value.none) _ _ _ from wpAny_pure ⟨rfl, h', tk', rfl, z, fun b o lt e => m1 b o ?_ (Heap.get?_push_of_some _ (Heap.get?_push_of_some _ e))⟩)
        rw [szS]
        simp only [List.mem_cons, List.not_mem_nil, or_false, not_or]
        exact ⟨Nat.ne_of_lt lt, Nat.ne_of_lt (Nat.lt_succ_of_lt lt)⟩
    · obtain ⟨⟨a1, a2, a3, a4⟩, ho, e1, n1, e2⟩ := hl
      simp only at e1 e2; subst e1 e2
      have lS : @LT.lt Nat _ l S := by rw [← hp]; exact Heap.lt_size ho
      have hl1 : (s.heap.push newS).IsTuple l xs := ⟨_, Heap.get?_push_of_some _ ho, rfl, n1, rfl⟩
      have f1 := PySem.F.sub_tuple_set; have f2 := PySem.F.sub_tuple_frozenset
      have f3 : (Value.type "tuple" == Value.type "dict") = false := by decide
      have ho1 := Heap.get?_push_of_some newS ho
      unfold Builtin.«set.__init__» noKeywords Builtin.Frozenset.updateFrom
      generalize hPI : pyIter = PI
      wp_walk
      rw [show newS.data = .set #[] 0 (.fresh 0 0 led) from by rw [← hob]]
      wp_walk
      subst hPI
      refine wpAny_pyIter_tuple hl1 ?_; refine wpAny_bind (wpAny_runValue ?_)
      have nI : l ≠ (s.heap.push newS).objs.size := by rw [szS]; exact Nat.ne_of_lt (Nat.lt_succ_of_lt lS)
      refine run_all (knd := knd) (ks := ks) ((Walks.tuple (show A.in1.in1.in1.handled = none by simp [quiet]) _ l nI xs).toS) (S := S) (by rw [szS]; simp only [List.mem_cons, List.not_mem_nil, or_false, not_or]; exact ⟨Nat.ne_of_lt (Nat.lt_succ_self _), Nat.ne_of_gt lS⟩) lk room val (xs.size - 0) 0 _ (by omega) (Nat.zero_le _) ⟨⟨_, Heap.get?_push_size _ rfl, rfl, rfl⟩, hl1.push _⟩ ?_ fun s' mv z => ?_
      · have at2 : ((s.heap.push newS).push { cls := .type "tuple_iterator", data := .fields #[.ref l, .int 0 0] }).get? S = some newS := Heap.get?_push_of_some _ atS
        have so : newS.SetObjOf knd (fun _ => false) 0 := by rw [← hob]; exact PyProof.Rows.setObjOf_fresh (knd := knd) led
        exact SetOf_congr (so.setOf at2 (by unfold scanBound; omega)) (fun _ => by simp) rfl
      · obtain ⟨h', g', d', tk', os'⟩ := s'
        obtain ⟨m1, m2, m3, m4, _⟩ := mv
        simp only at m1 m2 m3 m4 z
        subst m2 m3 m4
        show wpAny _ _ _ _ _ _
        refine wpAny_pure (show wpAny _ _ (ret Value.none) _ _ _ from wpAny_pure ⟨rfl, h', tk', rfl, z, fun b o lt e => m1 b o ?_ (Heap.get?_push_of_some _ (Heap.get?_push_of_some _ e))⟩)
        rw [szS]
        simp only [List.mem_cons, List.not_mem_nil, or_false, not_or]
        exact ⟨Nat.ne_of_lt lt, Nat.ne_of_lt (Nat.lt_succ_of_lt lt)⟩
  · match r2, hr2 with
    | .error e, hr2 => exact hr2
    | .ok .next, hr2 | .ok .brk, hr2 | .ok .cont, hr2 => exact hr2.elim
    | .ok (.ret _), ⟨e1, h', tk, e2, e3, e4⟩ =>
      subst e1 e2
      repeat (any_goals (first | assumption | wp_step))
      exact q h' tk e3 e4
end Xset
set_option Elab.async false
set_option linter.all false
set_option maxRecDepth 100000
set_option maxHeartbeats 4000000
set_option pp.maxSteps 400
set_option pp.deepTerms false
/-! len(set(x)), x a list or tuple of any number of texts. -/
namespace Xsl
open PySem PySem.Spec PyProof.Rows L2
section
variable {X : Cx}
theorem is_str_of {prog : Program} {w : World} (k : Str) (t : Tok) : (PySem.strKind prog w).is k (Value.str k t) = true := by
  unfold PySem.strKind Value.isStrOf
  simp
/-- how many unlike texts there are -/
def unlike (xs : List Str) : Nat := Xset.cn xs.reverse
theorem unlike_nodup (xs : List Str) : unlike xs = xs.length ↔ xs.Nodup := by
  unfold unlike
  rw [← List.length_reverse (as := xs), Xset.cn_nodup]
  exact (List.reverse_perm xs).nodup_iff
def tLenSetN (K : PySem.W.Frag) (ta : TE) : TE := fun σ H Q => ta σ H fun x H1 => ∃ l, ∃ xs : List Str, x = .ref l ∧ (SqL K H1 l (xs.map V.str) ∨ SqT K H1 l (xs.map V.str)) ∧ xs.length + 1 < scanBound ∧ Q (.int (unlike xs)) H1
theorem pe_lenSetN {a : Expr} {ta : TE} {p p2 q pos : Pos} (hc : X.calm = true) (hg : Gl X "len") (hm : X.mg "len" = none) (hg2 : Gl X "set") (hm2 : X.mg "set" = none) (ha : PE X a ta)
    (na : starEach [a] X.env = (false, eval a X.env) :: starEach [] X.env := by rfl) : PE X (.Call (.Name "len" p) [.Call (.Name "set" p2) [a] [] q] [] pos) (tLenSetN X.K ta) := by
  refine ⟨fun pins s σ H Q I h => ?_⟩
  refine Call_ (ld_blt I hg hm boot_len ?_); refine PyProof.Rows.callWith_builtin1 (PyProof.Rows.args_cons ?_ rfl) rfl rfl
  refine Call_ (ld_blt I hg2 hm2 boot_set ?_); refine PyProof.Rows.callWith_type1 (PyProof.Rows.args_cons (thn (ha.run pins s σ H _ I h) fun v s1 ⟨x, H1, I1, r1, q1⟩ => PyProof.Rows.args_nil ?_) na) na rfl
  obtain ⟨l, xs, rfl, hq, h1, q1⟩ := q1
  cases r1
  have val : ∀ (its : List Value), Vals (xs.map V.str) its → ∀ (i : Nat) (v : Value), its.toArray[i]? = some v → ∃ k, xs[i]? = some k ∧ (PySem.strKind X.prog X.w).is k v = true ∧ v.scannable = true := fun its r i v e => by
    rw [List.getElem?_toArray] at e
    have hl : its.length = xs.length := by rw [← r.length, List.length_map]
    have lt : i < xs.length := by rw [← hl]; exact (List.getElem?_eq_some_iff.mp e).1
    obtain ⟨w, hw, t, hw'⟩ := r.get (i := i) (x := .str xs[i]) (by simp [lt])
    rw [hw] at e
    cases e
    subst hw'
    exact ⟨xs[i], List.getElem?_eq_getElem lt, is_str_of _ _, rfl⟩
  have fin : ∀ (its : List Value), Vals (xs.map V.str) its → (s1.heap.IsList l its.toArray ∨ s1.heap.IsTuple l its.toArray) →
      wpAny (model X.prog X.w) X.A (call (.type "set") [.ref l]) (fun v s₂ => wpAny (model X.prog X.w) X.A (spliced (backTo pos (starEach [] X.env))) (fun vs s₂ => wpAny (model X.prog X.w) X.A (call (.builtin "len") (v :: vs)) (EP X pins σ Q) X.xe s₂) X.xe s₂) X.xe s1 := fun its r pl => by
    have hl : its.toArray.size = xs.length := by rw [List.size_toArray, ← r.length, List.length_map]
    refine Xset.set_made (PySem.strKind X.prog X.w) (I1.ok.hd hc) pl (ks := xs) hl.symm (by rw [hl]; exact h1) (val its r) fun h' tk hS hk => ?_
    refine PyProof.Rows.args_nil ?_
    rw [hl] at hS
    unfold Xset.SetL at hS
    rw [List.take_length] at hS
    obtain ⟨o, es, ep, t, ho, hex, hd, _, _, _, hf, hn⟩ := hS
    have I2 : Inv X pins σ H1 { s1 with heap := h', toks := tk } := I1.kept fun b o e => hk b o (Heap.lt_size e) e
    refine call_len_set ho hex hd hf (by rw [hn]; have := Xset.cn_le xs.reverse; rw [List.length_reverse] at this; unfold scanBound at h1; omega) ⟨.int (unlike xs), H1, I2.tok _, ⟨_, by rw [hn]; rfl⟩, q1⟩
  rcases hq with hq | hq
  · obtain ⟨its, r, pl, hz⟩ := I1.list hq
    exact fin its r (.inl pl.isList)
  · obtain ⟨its, r, pl, hz⟩ := I1.tuple hq
    obtain ⟨o, a1, a2, a3, a4⟩ := pl
    exact fin its r (.inr ⟨o, a1, a2, a3, a4⟩)
end
end Xsl
set_option Elab.async false
set_option linter.all false
set_option maxRecDepth 100000
set_option maxHeartbeats 8000000
set_option pp.maxSteps 400
set_option pp.deepTerms false
/-! A dict made of two sources, its keys numbers, texts or tuples of them. -/
namespace Xdc
open PySem PySem.Spec PyProof.Rows L2
/-- nothing goes wrong -/
abbrev no : Value → Shared → Prop := fun _ _ => False
/-- the two sources -/
abbrev two (t0 i0 t1 i1 : Expr) (c0 c1 : List Expr) : List Comprehension := [⟨t0, i0, c0, 0⟩, ⟨t1, i1, c1, 0⟩]
/-- the tests of one source -/
abbrev tst (cs : List Expr) (env : Env) : Sem Bool := forIn cs true fun c r => if r = true then do let z ← isTrue c env (eval c env); pure (ForInStep.yield z) else pure (ForInStep.yield r)
section
variable {kx vx t0 i0 t1 i1 : Expr} {c0 c1 : List Expr} {scope : Scope} {pos : Pos} {it : Value} {D : Addr} {env : Env}
theorem turn0 : compTurn (.DictComp kx vx (two t0 i0 t1 i1 c0 c1) scope pos) 0 it (.ref D) env = (do
      standAt i0.pos
      match ← pyNext it with
      | none => pure (.done .next)
      | some v => letOwnedTupleGo t0 it v; assign t0 env v; let mut z := true
                  for c in c0 do if z then z ← isTrue c env (eval c env)
                  if z then
                    let x ← eval i1 env
                    standAt i1.pos; let x ← foldedSetIterable i1 env x
                    let _ ← runOwn (.compStart (.DictComp kx vx (two t0 i0 t1 i1 c0 c1) scope pos) 1 (← holding [x] (pyIter x)) (.ref D) env) env
                  again (.compLoop (.DictComp kx vx (two t0 i0 t1 i1 c0 c1) scope pos) 0 it (.ref D) env)) := by rfl
theorem turn1 : compTurn (.DictComp kx vx (two t0 i0 t1 i1 c0 c1) scope pos) 1 it (.ref D) env = (do
      standAt i1.pos
      match ← pyNext it with
      | none => pure (.done .next)
      | some v => letOwnedTupleGo t1 it v; assign t1 env v; let mut z := true
                  for c in c1 do if z then z ← isTrue c env (eval c env)
                  if z then
                    (do let k ← eval kx env
                        let y ← holding [k] (eval vx env)
                        standAt { kx.pos with endLine := vx.pos.endLine, endCol := vx.pos.endCol }; holding [k, y] (dictSet D k y))
                  again (.compLoop (.DictComp kx vx (two t0 i0 t1 i1 c0 c1) scope pos) 1 it (.ref D) env)) := by rfl
variable {prog : Program} {w : World} {A : Around} {R : Result → Shared → Prop} {s : Shared}
/-- over the first source -/
theorem loop0 (hs : ∀ x, foldedSetIterable i1 env x = pure x) (G : Nat → Shared → Prop)
    (turn : ∀ n s, G n s → wpAny (model prog w) A (pyNext it) (fun r s1 => match r with
      | none => R (.ok .next) s1
      | some v => wpAny (model prog w) A (letOwnedTupleGo t0 it v) (fun _ s2 => wpAny (model prog w) A (assign t0 env v) (fun _ s3 => wpAny (model prog w) A (tst c0 env) (fun z s4 =>
          if z = true then wpAny (model prog w) A (eval i1 env) (fun x s5 => wpAny (model prog w) A (pyIter x) (fun j s6 =>
            codeAny (model prog w) A (.compStart (.DictComp kx vx (two t0 i0 t1 i1 c0 c1) scope pos) 1 j (.ref D) env) (fun r s7 => match r with
              | .ok _ => ∃ m, m < n ∧ G m s7
              | .error _ => False) s6) no s5) no s4 else ∃ m, m < n ∧ G m s4) no s3) no s2) no s1) no s)
    (n : Nat) (h : G n s) : codeAny (model prog w) A (.compLoop (.DictComp kx vx (two t0 i0 t1 i1 c0 c1) scope pos) 0 it (.ref D) env) R s := by
  refine codeAny_loop rfl G (fun n s hI => ?_) n h
  show wpAny _ A ((compTurn (.DictComp kx vx (two t0 i0 t1 i1 c0 c1) scope pos) 0 it (.ref D) env).onRaise (fun x => do noteFrame x env; theTreesLotGoes x)) _ _ s
  refine wpAny_noted ?_; rw [turn0]
  refine wpAny_bind (wpAny_standAt (wpAny_bind (thnF (turn n s hI) fun r s1 h1 => ?_)))
  cases r with
  | none => exact wpAny_pure h1
  | some v =>
    refine wpAny_bind (thnF h1 fun _ s2 h2 => ?_)
    refine wpAny_bind (thnF h2 fun _ s3 h3 => wpAny_bind (thnF h3 fun z s4 h4 => ?_))
    cases z with
    | false => exact wpAny_pure ⟨rfl, h4⟩
    | true =>
      refine wpAny_bind (thnF h4 fun x s5 h5 => wpAny_bind (wpAny_standAt (wpAny_bind (wpAny_of_eq (hs x) (wpAny_bind (wpAny_holding (thnF h5 fun j s6 h6 => ?_)))))))
      refine wpAny_bind (wpAny_runOwn ?_); rw [Around.mark_none]
      refine codeAny_mono h6 fun r s7 hr => ?_
      cases r with
      | error e => exact hr.elim
      | ok f => first | exact wpAny_pure ⟨rfl, hr⟩ | exact wpAny_bind (wpAny_pure (wpAny_pure ⟨rfl, hr⟩))
/-- over the second -/
theorem loop1 (G : Nat → Shared → Prop)
    (turn : ∀ n s, G n s → wpAny (model prog w) A (pyNext it) (fun r s1 => match r with
      | none => R (.ok .next) s1
      | some v => wpAny (model prog w) A (letOwnedTupleGo t1 it v) (fun _ s2 => wpAny (model prog w) A (assign t1 env v) (fun _ s3 => wpAny (model prog w) A (tst c1 env) (fun z s4 =>
          if z = true then wpAny (model prog w) A (eval kx env) (fun k s5 => wpAny (model prog w) A (eval vx env) (fun y s6 => wpAny (model prog w) A (dictSet D k y) (fun _ s7 => ∃ m, m < n ∧ G m s7) no s6) no s5) no s4
          else ∃ m, m < n ∧ G m s4) no s3) no s2) no s1) no s)
    (n : Nat) (h : G n s) : codeAny (model prog w) A (.compLoop (.DictComp kx vx (two t0 i0 t1 i1 c0 c1) scope pos) 1 it (.ref D) env) R s := by
  refine codeAny_loop rfl G (fun n s hI => ?_) n h
  show wpAny _ A ((compTurn (.DictComp kx vx (two t0 i0 t1 i1 c0 c1) scope pos) 1 it (.ref D) env).onRaise (fun x => do noteFrame x env; theTreesLotGoes x)) _ _ s
  refine wpAny_noted ?_; rw [turn1]
  refine wpAny_bind (wpAny_standAt (wpAny_bind (thnF (turn n s hI) fun r s1 h1 => ?_)))
  cases r with
  | none => exact wpAny_pure h1
  | some v =>
    refine wpAny_bind (thnF h1 fun _ s2 h2 => ?_)
    refine wpAny_bind (thnF h2 fun _ s3 h3 => wpAny_bind (thnF h3 fun z s4 h4 => ?_))
    cases z with
    | false => exact wpAny_pure ⟨rfl, h4⟩
    | true =>
      exact wpAny_bind (wpAny_bind (thnF h4 fun k s5 h5 => wpAny_bind (wpAny_holding (thnF h5 fun y s6 h6 => wpAny_bind (wpAny_standAt (wpAny_holding (thnF h6 fun _ s7 h7 => wpAny_pure ⟨rfl, h7⟩)))))))
/-- the second source's start -/
theorem start1 (h0 : codeAny (model prog w) A (.compLoop (.DictComp kx vx (two t0 i0 t1 i1 c0 c1) scope pos) 1 it (.ref D) env) R s)
    (h : wpAny (model prog w) A (pyIter it) (fun j s1 => codeAny (model prog w) A (.compLoop (.DictComp kx vx (two t0 i0 t1 i1 c0 c1) scope pos) 1 j (.ref D) env) R s1) (notedBy (model prog w) A env fun x s1 => R (.error x) s1) s) :
    codeAny (model prog w) A (.compStart (.DictComp kx vx (two t0 i0 t1 i1 c0 c1) scope pos) 1 it (.ref D) env) R s := by
  refine codeAny_of_tree ?_
  show wpAny _ _ ((compStart (.DictComp kx vx (two t0 i0 t1 i1 c0 c1) scope pos) 1 it (.ref D) env).onRaise (fun x => do noteFrame x env; standAt theWindowsPlace)) _ _ s
  refine wpAny_notedAt ?_; unfold compStart; show wpAny _ _ (ask >>= _) _ _ s
  refine wpAny_bind (wpAny_askSetting (wpAny_ite ?_))
  split
  · first | exact wpAny_bind (wpAny_pure (wpAny_pure (And.intro rfl h0))) | exact wpAny_pure (And.intro rfl h0)
  · first | exact wpAny_bind (wpAny_rule (wpAny_bind (wpAny_standAt (wpAny_bind (thn h fun j s1 z => wpAny_pure (And.intro rfl z))))))
          | (refine wpAny_bind (wpAny_rule ?_); show wpAny _ _ (standAt i1.pos >>= _) _ _ s; exact wpAny_bind (wpAny_standAt (wpAny_bind (thn h fun j s1 z => wpAny_pure (And.intro rfl z)))))
end
/-- d[k] = v as a comprehension does it -/
theorem d_put {X : Cx} {pins : List (Addr × Obj)} {σ : L2.St} {H H' : Hp} {s : Shared} {E : Value → Shared → Prop} {D : Addr} {y z : V} {u r : Value} {Q : Unit → Shared → Prop} (hu : X.A.units < cLine) (I : Inv X pins σ H s) (g : DPut H D y z H') (ry : RelV y u) (rz : RelV z r)
    (h : ∀ s', Inv X pins σ H' s' → Q () s') : wpAny (model X.prog X.w) X.A (dictSet D u r) Q E s := by
  rcases g with ⟨kvs, k, e, ey, l, eH⟩ | ⟨kvs, k, b, e, ey, eb, l, eH⟩
  · subst ey eH
    exact d_dictSet I e l ry rz h
  · subst ey eH
    cases (show u = Value.ref b from ry)
    obtain ⟨z1, hd, xs, rel, dd⟩ := dt_of I.hok e
    have pl := length_putK kvs k z
    refine wpAny_dictSet_heap (hsz := by rw [← Paired.length rel]; exact z1) hu (key_of I.hok eb) dd fun h' dd' hs => h _ ?_
    obtain ⟨q, es, ep, hq, h2, h3, h4, _, h5⟩ := dd'
    refine d_write I (by rw [e]; exact True.intro) hs ⟨q, hq⟩ ⟨by omega, hd, _, (rel.put k eb rz).keeps fun c ys ec => ?_, q, es, ep, hq, h2, h3, h4, h5⟩
    rw [upd_ne (ne_of ec e (fun z => nomatch z))]; exact ec
/-- a source's turns, whatever is done with each thing -/
theorem goes {J : It} {n : Nat} {G : Hp → Prop} {Y : Nat → Hp → V → Hp → Prop} (w : Walk J n G Y) {g : TG} {tt : TT} {B : (Hp → Prop) → L2.St → Hp → Prop} {vs : List Nat} {σ : L2.St} {H0 : Hp} {R : Hp → Prop} (Pv : Nat → Hp → Prop) (h0 : Pv 0 H0) (hG : ∀ i H, i ≤ n → Pv i H → G H)
    (hs : ∀ i x H H', i < n → Pv i H → Y i H x H' → g x (wipe σ vs) H' fun σ2 H2 => wipe σ2 vs = wipe σ vs ∧ tt σ2 H2 fun b H3 => if b = true then B (Pv (i + 1)) σ2 H3 else Pv (i + 1) H3) (hd : ∀ H, Pv n H → R H) :
    ∃ W : Nat → Nat → Hp → Prop, (∃ m, W 0 m H0) ∧ ∀ i m H, W i m H → (J.stop i H ∧ R H) ∨ (J.go i H ∧ ∃ N : Hp → Prop, (∀ H', N H' → ∃ m', m' < m ∧ W (i + 1) m' H') ∧
      ∀ x H', J.yld i H x H' → g x (wipe σ vs) H' fun σ2 H2 => wipe σ2 vs = wipe σ vs ∧ tt σ2 H2 fun b H3 => if b = true then B N σ2 H3 else N H3) := by
  refine ⟨fun i m H => m = n - i ∧ i ≤ n ∧ Pv i H, ⟨n, by simp, Nat.zero_le _, h0⟩, fun i m H ⟨e, hi, p⟩ => ?_⟩
  subst e
  by_cases lt : i < n
  · exact .inr ⟨w.goes i H lt (hG i H hi p), Pv (i + 1), fun H' p' => ⟨n - (i + 1), by omega, rfl, lt, p'⟩, fun x H' y => hs i x H H' lt p (w.yields i H x H' lt (hG i H hi p) y)⟩
  · obtain rfl : i = n := by omega
    exact .inl ⟨w.stops H (hG i H hi p), hd H p⟩
section
variable {X : Cx}
/-- {k: y for t0 in i0 if .. for t1 in i1 if ..}; o: the new dict, of no keys yet; vs the block's names, us those of the second target -/
def tDc2 (o : HO) (wi : TI) (g : TG) (tt : TT) (wj : TI) (gj : TG) (tj : TT) (tk ty : TE) (vs us : List Nat) : TE := fun σ H Q => wi σ H fun J H1 => ∀ D, H1 D = none → ∃ W : Nat → Nat → Hp → Prop, (∃ m, W 0 m (upd H1 D o)) ∧ ∀ i m H, W i m H →
  (J.stop i H ∧ Q (.ref D) H) ∨ (J.go i H ∧ ∃ N : Hp → Prop, (∀ H', N H' → ∃ m', m' < m ∧ W (i + 1) m' H') ∧ ∀ x H', J.yld i H x H' → g x (wipe σ vs) H' fun σ2 H2 => wipe σ2 vs = wipe σ vs ∧ tt σ2 H2 fun b H3 =>
    if b = true then wj σ2 H3 fun L H4 => ∃ V : Nat → Nat → Hp → Prop, (∃ m, V 0 m H4) ∧ ∀ j k H, V j k H →
      (L.stop j H ∧ N H) ∨ (L.go j H ∧ ∃ M : Hp → Prop, (∀ H', M H' → ∃ k', k' < k ∧ V (j + 1) k' H') ∧ ∀ x H', L.yld j H x H' → gj x (wipe σ2 us) H' fun σ3 H5 => wipe σ3 us = wipe σ2 us ∧ tj σ3 H5 fun b H6 =>
        if b = true then tk σ3 H6 fun y H7 => ty σ3 H7 fun z H8 => ∃ H9, DPut H8 D y z H9 ∧ M H9 else M H6)
    else N H3)
variable {kx vx t0 i0 t1 i1 : Expr} {c0 c1 : List Expr} {scope : Scope} {own : List (Str × Nat)} {us : List Nat} {pos pos' : Pos} {wi wj : TI} {g gj : TG} {tt tj : TT} {tk ty : TE} {o : HO}
/-- the context of the block -/
abbrev Bk (X : Cx) (scope : Scope) (s : Shared) (H : Hp) (C : Addr) (cl : List (Str × Addr)) (fp : List Addr) : Cx := X.blk s H scope (compEnvC scope cl C X.env) fp
theorem dc2_core {pins : List (Addr × Obj)} {s : Shared} {σ : L2.St} {H : Hp} {Q : VK} {use : Option (Value → Sem Unit)} {Qf : Value → Shared → Prop} (ho : o = .dK [] ∨ o = .dT []) (hu : X.A.units < cLine)
    (hc : X.calm = true) (hN : X.N.Nodup) (I : Inv X pins σ H s) (hi : PI X t0 i0 wi) (ok : BlkOk X.N X.env.scope scope own) (hv : ∀ i ∈ us, i ∈ own.map (·.2))
    (hg : ∀ s H C cl fp, PG (Bk X scope s H C cl fp) t0 g) (ht : ∀ s H C cl fp, PTs (Bk X scope s H C cl fp) c0 tt)
    (hj : ∀ s H C cl fp, PI (Bk X scope s H C cl fp) t1 i1 wj) (hgj : ∀ s H C cl fp, PG (Bk X scope s H C cl fp) t1 gj) (htj : ∀ s H C cl fp, PTs (Bk X scope s H C cl fp) c1 tj)
    (hk : ∀ s H C cl fp, PE (Bk X scope s H C cl fp) kx tk) (hy : ∀ s H C cl fp, PE (Bk X scope s H C cl fp) vx ty)
    (hs : ∀ x, foldedSetIterable i0 X.env x = pure x) (hs1 : ∀ env x, foldedSetIterable i1 env x = pure x)
    (h : tDc2 o wi g tt wj gj tj tk ty (own.map (·.2)) us σ H Q)
    (fine : ∀ D C s' m H', Inv X pins σ H' s' → Q (.ref D) H' → s'.heap.Ns C m → FpOk X pins H' C → compPost (model X.prog X.w) X.A X.xe use Qf (.ref D) C (.ok .next) s') :
    wpAny (model X.prog X.w) X.A (comprehension (.DictComp kx vx (two t0 i0 t1 i1 c0 c1) scope pos) scope X.env pos' newDict false (eval i0 X.env) use) Qf X.xe s := by
  have free : ∀ y ∈ scope.names, y.2 = .free → ∃ c, X.env.cells.lookup y.1 = some c := fun y hy e => (ok.free y hy e).elim (fun k => I.ok.has _ (.inl k)) fun k => I.ok.has _ (.inr k)
  refine wpAny_comprehension_free (use := use) rfl hs (closure_ok free) ok.kind (fun y hy e => by rw [ok.uniq y hy, e]) (thn (hi.run pins s σ H _ I h) fun xv s1 hx => thn hx fun itv s2 h2 => ?_)
  obtain ⟨it, fp, tn, J, H2, e, I2, T, st2, f2, q⟩ := h2; subst e
  refine wpAny_newObj_type (newEnv_comp ?_)
  generalize hD : s2.heap.objs.size = D
  obtain ⟨W, ⟨m0, w0⟩, turn⟩ := q D (I2.hok.fresh (Nat.le_of_eq hD))
  -- the new dict
  generalize hs3 : ({ s2 with heap := s2.heap.push { cls := .type "dict", data := .dict #[] } } : Shared) = s3
  have I3 : Inv X pins σ (upd H2 D o) s3 := by
    rw [← hs3]
    refine I2.laid (t' := s2.toks) (fun b z e => Heap.get?_push_of_some _ e) (Nat.le_of_eq hD) ?_
    rw [← hD]
    rcases ho with rfl | rfl
    · exact dk_empty s2.heap I2.big
    · exact dt_empty s2.heap I2.big
  have h3 : s3.heap = s2.heap.push { cls := .type "dict", data := .dict #[] } := by rw [← hs3]
  have small : ∀ b ∈ fp, b < s2.heap.objs.size := fun b hb => let ⟨z, e, _⟩ := T.obj _ _ st2 b hb; Heap.lt_size e
  have f3 : ∀ b ∈ fp, FpOk X pins (upd H2 D o) b ∧ b < s3.heap.objs.size := fun b hb =>
    ⟨⟨by rw [upd_ne (by rw [← hD]; exact Nat.ne_of_lt (small b hb))]; exact (f2 b hb).1, (f2 b hb).2⟩, by rw [h3, Heap.size_push]; exact Nat.lt_succ_of_lt (small b hb)⟩
  have st3 : tn 0 s3.heap := T.keep _ _ _ st2 fun b _ z e => by rw [h3]; exact Heap.get?_push_of_some _ e
  have I4 := block_start I3 ok hN f3
  generalize hcl : cellsFrom (s3.heap.objs.size + 1) scope.names (cloFrom X.env.cells scope.names []) = cl at I4 ⊢
  have pg := hg s3 (upd H2 D o) s3.heap.objs.size cl fp; have pt := ht s3 (upd H2 D o) s3.heap.objs.size cl fp; have pk := hk s3 (upd H2 D o) s3.heap.objs.size cl fp; have py := hy s3 (upd H2 D o) s3.heap.objs.size cl fp
  have pj := hj s3 (upd H2 D o) s3.heap.objs.size cl fp; have pgj := hgj s3 (upd H2 D o) s3.heap.objs.size cl fp; have ptj := htj s3 (upd H2 D o) s3.heap.objs.size cl fp
  show codeAny _ _ (.compStart (.DictComp kx vx (two t0 i0 t1 i1 c0 c1) scope pos) 0 (.ref it) (.ref D) (compEnvC scope cl s3.heap.objs.size X.env)) (compPost (model X.prog X.w) X.A X.xe use Qf (.ref D) s3.heap.objs.size) { s3 with heap := pushCells (s3.heap.push { cls := .type "dict", data := .dict #[] }) scope.names }
  have nfp : ∀ b ∈ fp, (upd H2 D o) b = none := fun b hb => (f3 b hb).1.1
  generalize hce : compEnvC scope cl s3.heap.objs.size X.env = ce at I4 ⊢
  have cL : ce.locals = s3.heap.objs.size := by subst hce; rfl
  unfold Bk at pg pt pk py pj pgj ptj
  rw [hce] at pg pt pk py pj pgj ptj
  generalize hH3 : upd H2 D o = H3 at I3 I4 pg pt pk py pj pgj ptj w0 nfp f3
  generalize hs4 : ({ s3 with heap := pushCells (s3.heap.push { cls := .type "dict", data := .dict #[] }) scope.names } : Shared) = s4 at I4 ⊢
  have st4 : tn 0 s4.heap := T.keep _ _ _ st3 fun b _ z e => by rw [← hs4]; exact pushCells_keeps _ _ _ _ (Heap.get?_push_of_some _ e)
  generalize hY : X.blk s3 H3 scope ce fp = Y at I4 pg pt pk py pj pgj ptj
  have yc : Y.calm = true := by subst hY; exact hc
  have stat : ∀ {σ' : L2.St} {H' : Hp} {s' : Shared}, Inv Y [] σ' H' s' → (∀ b ∈ fp, H' b = none) → ∀ b ∈ fp, FpOk Y [] H' b := by
    subst hY
    exact fun {σ' H' s'} I' hn b hb => ⟨hn b hb, (I'.ok.exf b hb).1, I'.ok.exfs b hb, .inl hb, fun x c e => (I'.ok.exf b hb).2 x c e, fun p hp => absurd (show p ∈ ([] : List (Addr × Obj)) ++ [] from hp) (by simp)⟩
  -- a turn's ends, of whichever source
  have same : ∀ {P : List (Addr × Obj)} {ch : List Addr} {hp : Heap} {σ' : L2.St} {H' : Hp} {s' : Shared}, Inv Y (P ++ pinsAt ch hp) σ' H' s' → ∀ b ∈ ch, ∀ z, hp.get? b = some z → s'.heap.get? b = some z ∧ H' b = none := by
    subst hY
    exact fun {P ch hp σ' H' s'} I' b hb z e => let q := I'.pin (b, z) (List.mem_append_right _ (List.mem_append_right _ (mem_pinsAt hb e))); ⟨q.1, q.2.1⟩
  have loop : codeAny (model X.prog X.w) X.A (.compLoop (.DictComp kx vx (two t0 i0 t1 i1 c0 c1) scope pos) 0 (.ref it) (.ref D) ce) (compPost (model X.prog X.w) X.A X.xe use Qf (.ref D) s3.heap.objs.size) s4 := by
    refine loop0 (hs1 ce) (fun n s' => ∃ i H', Inv Y [] (wipe σ (own.map (·.2))) H' s' ∧ tn i s'.heap ∧ (∀ b ∈ fp, H' b = none) ∧ W i n H') ?_ m0 ⟨0, H3, I4, st4, nfp, w0⟩
    rintro n s5 ⟨i, H5, I5, st5, n5, w5⟩
    rcases turn i n H5 w5 with ⟨stop, qq⟩ | ⟨go, N, hNx, step⟩
    · have td := T.done Y (by subst hY; rfl) (by subst hY; rfl) (by subst hY; rfl) yc i [] s5 _ H5 no I5 (stat I5 n5) st5 stop
      subst hY
      refine thnF td fun r s6 ⟨hr, I6⟩ => ?_
      subst hr
      have nC : H5 s3.heap.objs.size = none := by have z : H5 ce.locals = none := I6.free; rwa [cL] at z
      obtain ⟨m, hn, _⟩ := I6.loc
      have hn : s6.heap.Ns ce.locals m := hn
      rw [cL] at hn
      exact fine D s3.heap.objs.size s6 m H5 (I3.call' (ch := fp) I6.os I6.base I6.hok I6.bare fun b hb => ⟨(f3 b hb).1.2.2.2.1, (f3 b hb).1.2.1, (f3 b hb).1.2.2.2.2.1, (f3 b hb).1.2.2.2.2.2⟩) qq hn (I3.fpOk (Nat.le_refl _) nC)
    · have ti := T.item Y (by subst hY; rfl) (by subst hY; rfl) (by subst hY; rfl) yc i [] s5 _ H5 no I5 (stat I5 n5) st5 go
      subst hY
      refine thnF ti fun r s6 ⟨u, hr, h6⟩ => ?_
      subst hr
      refine thnF h6 fun _ s7 ⟨x, H7, I7, r7, y7, st7, n7⟩ => thnF (pg.run _ s7 _ H7 x u _ (I7.pinned (stat I7 n7) (T.obj _ _ st7)) r7 (step x H7 y7)) fun _ s8 ⟨σ8, H8, I8, hw8, q8⟩ => thnF (pt.run _ s8 σ8 H8 _ I8 q8) fun b s9 ⟨H9, I9, q9⟩ => ?_
      -- this turn's end
      have fin : ∀ {σ' : L2.St} {s' : Shared} {H' : Hp}, Inv (X.blk s3 H3 scope ce fp) ([] ++ pinsAt fp s7.heap) σ' H' s' → (wipe σ (own.map (·.2))).length = σ'.length → (∀ (j : Nat) v, (wipe σ (own.map (·.2)))[j]? = some (some v) → σ'[j]? = some (some v)) → N H' →
          ∃ m, m < n ∧ ∃ i H', Inv (X.blk s3 H3 scope ce fp) [] (wipe σ (own.map (·.2))) H' s' ∧ tn i s'.heap ∧ (∀ b ∈ fp, H' b = none) ∧ W i m H' := fun {σ' s' H'} I' hl hk nx => by
        obtain ⟨m', hm, w'⟩ := hNx H' nx
        exact ⟨m', hm, i + 1, H', (I'.unpinned (pins := [])).weak hl hk, T.keep _ _ _ st7 fun b hb z e => (same I' b hb z e).1, fun b hb => let ⟨z, e, _⟩ := T.obj _ _ st7 b hb; (same I' b hb z e).2, w'⟩
      have hl8 : (wipe σ (own.map (·.2))).length = σ8.length := by rw [← hw8, wipe_length]
      have hk8 : ∀ (j : Nat) v, (wipe σ (own.map (·.2)))[j]? = some (some v) → σ8[j]? = some (some v) := fun j v e => by rw [← hw8] at e; exact (wipe_some e).1
      have hk9 : ∀ (j : Nat) v, (wipe σ (own.map (·.2)))[j]? = some (some v) → (wipe σ8 us)[j]? = some (some v) := fun j v e => by
        rw [← hw8] at e
        rw [wipe_out fun z => (wipe_some e).2 (hv j z)]; exact (wipe_some e).1
      cases b with
      | false =>
        simp only [Bool.false_eq_true, if_false] at q9 ⊢; exact fin I9 hl8 hk8 q9
      | true =>
        simp only [if_true] at q9 ⊢
        refine thnF (pj.run _ s9 σ8 H9 _ I9 q9) fun xv s10 hx => thnF hx fun itv s11 h11 => ?_
        obtain ⟨jt, gp, tm, L, H11, e1, I11, T1, st11, f11, V, ⟨m1, w1⟩, turn1⟩ := h11; subst e1
        -- the inner loop
        have stat1 : ∀ {H' : Hp}, (∀ b ∈ gp, H' b = none) → ∀ b ∈ gp, FpOk (X.blk s3 H3 scope ce fp) ([] ++ pinsAt fp s7.heap) H' b := fun hn b hb => ⟨hn b hb, (f11 b hb).2⟩
        have inner : codeAny (model X.prog X.w) X.A (.compLoop (.DictComp kx vx (two t0 i0 t1 i1 c0 c1) scope pos) 1 (.ref jt) (.ref D) ce) (fun r s' => match r with
              | .ok _ => ∃ m, m < n ∧ ∃ i H', Inv (X.blk s3 H3 scope ce fp) [] (wipe σ (own.map (·.2))) H' s' ∧ tn i s'.heap ∧ (∀ b ∈ fp, H' b = none) ∧ W i m H'
              | .error _ => False) s11 := by
          refine loop1 (fun k s' => ∃ j H', Inv (X.blk s3 H3 scope ce fp) ([] ++ pinsAt fp s7.heap) (wipe σ8 us) H' s' ∧ tm j s'.heap ∧ (∀ b ∈ gp, H' b = none) ∧ V j k H') ?_ m1 ⟨0, H11, I11.weak (wipe_length _ _) (fun j v e => (wipe_some e).1), st11, fun b hb => (f11 b hb).1, w1⟩
          rintro k s12 ⟨j, H12, I12, st12, n12, w12⟩
          rcases turn1 j k H12 w12 with ⟨stop1, nx1⟩ | ⟨go1, M, hM, step1⟩
          · refine thnF (T1.done (X.blk s3 H3 scope ce fp) rfl rfl rfl hc j _ s12 (wipe σ8 us) H12 no I12 (stat1 n12) st12 stop1) fun r s13 ⟨hr, I13⟩ => ?_
            subst hr; exact fin I13 (hl8.trans (wipe_length σ8 us).symm) hk9 nx1
          · refine thnF (T1.item (X.blk s3 H3 scope ce fp) rfl rfl rfl hc j _ s12 (wipe σ8 us) H12 no I12 (stat1 n12) st12 go1) fun r s13 ⟨u1, hr, h13⟩ => ?_
            subst hr
            refine thnF h13 fun _ s14 ⟨x1, H14, I14, r14, y14, st14, n14⟩ => thnF (pgj.run _ s14 (wipe σ8 us) H14 x1 u1 _ (I14.pinned (stat1 n14) (T1.obj _ _ st14)) r14 (step1 x1 H14 y14)) fun _ s15 ⟨σ15, H15, I15, hw15, q15⟩ => thnF (ptj.run _ s15 σ15 H15 _ I15 q15) fun b1 s16 ⟨H16, I16, q16⟩ => ?_
            have fin1 : ∀ {s' : Shared} {H' : Hp}, Inv (X.blk s3 H3 scope ce fp) (([] ++ pinsAt fp s7.heap) ++ pinsAt gp s14.heap) σ15 H' s' → M H' → ∃ m, m < k ∧ ∃ j H', Inv (X.blk s3 H3 scope ce fp) ([] ++ pinsAt fp s7.heap) (wipe σ8 us) H' s' ∧ tm j s'.heap ∧ (∀ b ∈ gp, H' b = none) ∧ V j m H' := fun {s' H'} I' nx => by
              obtain ⟨m', hm, w'⟩ := hM H' nx
              exact ⟨m', hm, j + 1, H', I'.unpinned.weak (by rw [← hw15, wipe_length]) (fun j v e => by rw [← hw15] at e; exact (wipe_some e).1), T1.keep _ _ _ st14 fun b hb z e => (same I' b hb z e).1, fun b hb => let ⟨z, e, _⟩ := T1.obj _ _ st14 b hb; (same I' b hb z e).2, w'⟩
            cases b1 with
            | false =>
              simp only [Bool.false_eq_true, if_false] at q16 ⊢; exact fin1 I16 q16
            | true =>
              simp only [if_true] at q16 ⊢
              refine thnF (pk.run _ s16 σ15 H16 _ I16 q16) fun z s17 ⟨yv, H17, I17, r17, q17⟩ => thnF (py.run _ s17 σ15 H17 _ I17 q17) fun z2 s18 ⟨yv2, H18, I18, r18, H19, put, nx⟩ => ?_
              exact d_put (X := X.blk s3 H3 scope ce fp) hu I18 put r17 r18 fun s19 I19 => fin1 I19 nx
        exact start1 inner (T1.self X.A 0 _ _ _ st11 inner)
  exact codeAny_compStart_dict loop (T.self X.A 0 _ _ _ st4 loop)
/-- as a value -/
theorem pe_dc2 (o : HO) (ho : o = .dK [] ∨ o = .dT []) (hu : X.A.units < cLine) (hc : X.calm = true) (hN : X.N.Nodup) (hi : PI X t0 i0 wi) (ok : BlkOk X.N X.env.scope scope own) (hv : ∀ i ∈ us, i ∈ own.map (·.2))
    (hg : ∀ s H C cl fp, PG (Bk X scope s H C cl fp) t0 g) (ht : ∀ s H C cl fp, PTs (Bk X scope s H C cl fp) c0 tt)
    (hj : ∀ s H C cl fp, PI (Bk X scope s H C cl fp) t1 i1 wj) (hgj : ∀ s H C cl fp, PG (Bk X scope s H C cl fp) t1 gj) (htj : ∀ s H C cl fp, PTs (Bk X scope s H C cl fp) c1 tj)
    (hk : ∀ s H C cl fp, PE (Bk X scope s H C cl fp) kx tk) (hy : ∀ s H C cl fp, PE (Bk X scope s H C cl fp) vx ty)
    (hs : ∀ x, foldedSetIterable i0 X.env x = pure x := by intro _; rfl) (hs1 : ∀ env x, foldedSetIterable i1 env x = pure x := by intro _ _; rfl) :
    PE X (.DictComp kx vx [⟨t0, i0, c0, 0⟩, ⟨t1, i1, c1, 0⟩] scope pos) (tDc2 o wi g tt wj gj tj tk ty (own.map (·.2)) us) := by
  refine ⟨fun pins s σ H Q I h => ?_⟩; rw [arm_eval_DictComp]
  refine dc2_core ho hu hc hN I hi ok hv hg ht hj hgj htj hk hy hs hs1 h fun D C s' m H' I' q hn f => ⟨m, hn, fun h'' sb => ?_⟩
  obtain ⟨f0, f1, f2, f3, f4, f5⟩ := f
  exact ⟨.ref D, H', I'.turned (t' := s'.toks) (fun b z hb e => (sb.2 b hb).trans e) f0 f1 f3 f4 f5, rfl, q⟩
end
end Xdc
set_option Elab.async false
set_option linter.all false
set_option maxRecDepth 100000
set_option maxHeartbeats 4000000
set_option pp.maxSteps 400
set_option pp.deepTerms false
/-! list.extend(tuple); o.m(a=e) by keywords alone -/
namespace Xex
open PySem PySem.Spec PyProof.Rows L2
theorem ext_tup (p : Addr) (us : Array Value) (k : Nat) (r : Addr) (ws : Array Value) (j : Nat) (di : Option Addr) (so : Array (Option Value)) (e0 : ¬(!us.isEmpty && Builtin.List.listTooLong (us.size + ws.size)) = true) (e1 : us.size ≤ sizeLine) (e2 : us.size + ws.size ≤ sizeLine + 1) :
    Meets (Builtin.«list.extend» ⟨[Value.ref p, Value.ref r], []⟩) (fun _ R z => z.heap.get? p = some { cls := .type "list", dict := none, data := .seq us k, slots := #[] } ∧ z.heap.get? r = some { cls := .type "tuple", dict := di, data := .seq ws j, slots := so } ∧ R (.ok (.ret Value.none)) { z with heap := z.heap.update p (Obj.mapSeq fun y => y ++ ws), toks := z.toks }) :=
  .of_wp fun prog w A R z h => by
    obtain ⟨hp, g, d, tk, os⟩ := z
    obtain ⟨h1, h2, h⟩ := h
    have fa := AutoSeq1.idx_int
    have fb := AutoSeq1.sub_tuple_tuple
    have fc := AutoSeq1.sub_list_list
    have fd := AutoSeq1.sub_tuple_list
    have fe := AutoSeq1.sub_list_tuple
    have big : (us ++ ws).size ≤ sizeLine + 1 := by
      rw [Array.size_append]
      exact e2
    wp_walk using (wpAny_updateSeq h1 rfl (hz := e1) (_hz' := big)), wpAny_loadPart' h1, wpAny_loadPart' h2
    exact ⟨_, rfl, h⟩
section
variable {X : Cx}
def rExtT : V → List V → Hp → VK → Prop := fun x ys H Q => ∃ p r as bs, x = .ref p ∧ ys = [.ref r] ∧ H p = some (.lst as) ∧ H r = some (.tup bs) ∧ as.length + bs.length ≤ sizeLine ∧ Q .non (upd H p (.lst (as ++ bs)))
theorem mt_extT : MtM X "list.extend" rExtT := by
  intro pins s σ H x ys v us Q I rx rv h
  obtain ⟨p, r, as, bs, rfl, rfl, eP, eR, hz, q⟩ := h
  cases rx
  obtain ⟨u, rfl, ru⟩ := rv.one
  cases ru
  obtain ⟨z, its, n, ra, hl, e⟩ := I.lstM eP
  have okR : ObjOk X.prog X.w H s.heap r (.tup bs) := I.hok r _ eR
  obtain ⟨_, jts, rb, ⟨oc, od, oda, osl⟩, eh, ec, m, ed⟩ := okR
  dsimp only at ec ed
  subst ec ed
  have lb := rb.length
  have fits : its.toArray.size + jts.toArray.size ≤ sizeLine := by
    rw [List.size_toArray, List.size_toArray]
    omega
  have few : ¬ (!its.toArray.isEmpty && Builtin.List.listTooLong (its.toArray.size + jts.toArray.size)) = true := by
    rw [notLongL fits, Bool.and_false]
    exact Bool.false_ne_true
  refine call_meets F.slot_list_extend ⟨_, e, rfl⟩ F.entry_list_extend (F.args_list_extend_2 _ _) (ext_tup p its.toArray n r jts.toArray m od osl few (by rw [List.size_toArray]; omega) (by omega)) ⟨e, eh, ?_⟩
  refine ⟨.non, _, I.lset (its' := its ++ jts) eP e (by simp) (ra.append rb) ?_, rfl, q⟩
  rw [List.length_append]
  omega
end
section
variable {X : Cx} {CX : CXT} {k : Nat} {f C : Addr} {fd : FuncData} {ps ks : List Str} {sp : Sp} {E : XK} {m : Str} {o : Expr} {apos pos : Pos} {kws : List Keyword} {ta : TE} {tk : TA} {g : List Value → List Value → List Value} {gV : List V → List V → List V}
def tMethK (C : Addr) (m : Str) (n : Nat) (sp : Sp) (gV : List V → List V → List V) (E : XK) (ta : TE) (tk : TA) : TE := fun σ H Q => ta σ H fun x H1 => ∃ a dx fs, x = .ref a ∧ H1 a = some (.ins C dx fs) ∧ fs.lookup m = none ∧ tk σ H1 fun zs H2 => zs.length = n ∧ sp (gV [x] zs) H2 Q E
theorem pe_methK {pl : Sem Bool} (he : PE X o ta) (c : Cls X.K C) (hm : Meth X.K C m f) (F : FnOk X.prog X.w X.K X.mg X.base CX k f fd ps sp) (room : Room k X.A) (kb : KBn X.K fd ps 1 ks g gV) (px : Passes CX X E) (pk : PK X kws tk)
    (hall : (backToKw pos (keywordEach kws X.env)).all (·.1.isSome) = true := by rfl) (hks : (backToKw pos (keywordEach kws X.env)).filterMap (·.1) = ks := by rfl)
    (hpl : ((backTo pos (starEach [] X.env)).any (·.1) || (backToKw pos (keywordEach kws X.env)).any (·.1.isNone)) = false := by rfl)
    (ht : eval (.Call (.Attribute o m apos) [] kws pos) X.env = (do
      let ov ← eval o X.env
      standAt apos.atName
      let (fn, fst) ← holding [ov] (getMethod ov m pl)
      callWith pos fn fst (backTo pos (starEach [] X.env)) (backToKw pos (keywordEach kws X.env))) := by rfl) :
    PE X (.Call (.Attribute o m apos) [] kws pos) (tMethK C m ks.length sp gV E ta tk) := by
  refine ⟨fun pins s σ H Q I h => ?_⟩
  refine PySem.W.methodCall_KW (pl := pl) (thn (he.run pins s σ H _ I h) fun u s1 ⟨x, H1, I1, rx, a, dx, fs, ex, ea, l, q⟩ => ?_) ht
  subst ex
  obtain rfl : u = Value.ref a := rx
  refine getmeth_ok I1 ea c hm l ?_
  refine PySem.W.callWith_KW0 (first := [.ref a]) (h₀ := X.base) I.ok.mod.kin hm.kp hall (thn (pk.run pos pins s1 σ H1 _ I1 q) fun ws s2 z => ?_) hpl
  obtain ⟨zs, H2, I2, rz, l2, q2⟩ := z
  refine ⟨I2.kIn, ?_⟩
  rw [hks]
  exact run_fnN (us := [.ref a]) (vs := [.ref a]) F room kb px I2 (.cons rfl .nil) rz rfl l2 q2
end
end Xex
set_option Elab.async false
set_option linter.all false
set_option maxRecDepth 100000
set_option maxHeartbeats 4000000
set_option pp.maxSteps 400
set_option pp.deepTerms false
/-! text.rpartition(text), and what it tells of a comma and a blank -/
namespace Xrp2
open PySem PySem.Spec PyProof.Rows L2
section
variable {X : Cx}
abbrev rRpt : V → List V → Hp → VK → Prop := fun x ys H Q => ∃ a b, x = .str a ∧ ys = [.str b] ∧ (b.length == 0) = false ∧ a.length ≤ sizeLine ∧
  ∀ p, H p = none → Q (.ref p) (upd H p (.tup [.str (Txt.rpartition a b).1, .str (Txt.rpartition a b).2.1, .str (Txt.rpartition a b).2.2]))
theorem mt_rpt : MtR X "str.rpartition" rRpt := by
  intro pins s σ H x ys v us Q I rx rs h
  obtain ⟨a, b, rfl, rfl, hb, hz, h⟩ := h
  obtain ⟨t, rfl⟩ := rx
  cases rs with
  | cons r1 rs =>
    cases rs
    obtain ⟨u, rfl⟩ := r1
    refine call_meets F.slot_str_rpartition (typeIs_str _ _ _) F.entry_str_rpartition (F.args_str_rpartition_2 _ _) (meets_str_rpartition a b t u hb hz) ?_
    unfold Txt.rpartition at h
    revert h
    cases Builtin.Str.lastOccurrence a b 0 a.length with
    | none => intro h; exact laid_parts I h
    | some i => intro h; exact laid_parts I h
end
theorem len_l (x : Str) : x.length = x.cps.toList.length := by
  rw [Array.length_toList]
  rfl
theorem sub_l (x : Str) (i j : Nat) : (Builtin.Str.strSub x i j).cps.toList = (x.cps.toList.drop i).take (j - i) := by
  unfold Builtin.Str.strSub
  rw [Array.toList_extract]
theorem eq_l {x y : Str} (h : x.cps.toList = y.cps.toList) : x = y := by
  cases x; cases y
  exact congrArg Str.mk (Array.toList_inj.mp h)
abbrev cb : Str := ", "
theorem cb_l : cb.cps.toList = [44, 32] := by decide +kernel
theorem cb_n : cb.length = 2 := by decide +kernel
theorem at_44 {x : Str} {i : Nat} (h : StrLaws.At x cb x.length i) : x.cps.toList[i]? = some 44 := by
  have h2 := h.2
  rw [StrLaws.subAt_eq, cb_l, cb_n] at h2
  have e : (x.cps.toList.drop i).take 2 = [44, 32] := by simpa using h2
  have e2 := congrArg (fun l : List Nat => l[0]?) e
  simp only [List.getElem?_take, List.getElem?_drop] at e2
  simpa using e2
theorem rpt_no {x : Str} (h : ∀ c ∈ x.cps.toList, c ≠ 44) : Txt.rpartition x cb = (Str.empty, Str.empty, x) := by
  unfold Txt.rpartition
  rcases StrLaws.last_spec x cb with ⟨h0, hn⟩ | ⟨i, h0, hi, hn⟩
  · rw [h0]
  · exact absurd rfl (h _ (List.mem_of_getElem? (at_44 hi)))
theorem rpt_one {r w : Str} (hr : ∀ c ∈ r.cps.toList, c ≠ 44) (hw : ∀ c ∈ w.cps.toList, c ≠ 44) : Txt.rpartition (r ++ cb ++ w) cb = (r, cb, w) := by
  have el : (r ++ cb ++ w).cps.toList = r.cps.toList ++ ([44, 32] ++ w.cps.toList) := by
    rw [Str.cps_append, Str.cps_append, Array.toList_append, Array.toList_append, cb_l, List.append_assoc]
  have ll : (r ++ cb ++ w).length = r.length + 2 + w.length := by rw [strLen_append, strLen_append, cb_n]
  have lr := len_l r
  have lw := len_l w
  have at_r : StrLaws.At (r ++ cb ++ w) cb (r ++ cb ++ w).length r.length := by
    refine ⟨by rw [ll, cb_n]; omega, ?_⟩
    rw [StrLaws.subAt_eq, cb_l, cb_n, el, lr, List.drop_left]
    rfl
  have only : ∀ i, StrLaws.At (r ++ cb ++ w) cb (r ++ cb ++ w).length i → i = r.length := fun i hi => by
    have h := at_44 hi
    rw [el] at h
    rcases Nat.lt_trichotomy i r.length with c | c | c
    · rw [List.getElem?_append_left (by omega)] at h
      exact absurd rfl (hr _ (List.mem_of_getElem? h))
    · exact c
    · rw [List.getElem?_append_right (by omega)] at h
      obtain ⟨k, ek⟩ : ∃ k, i - r.cps.toList.length = k + 1 := ⟨i - r.cps.toList.length - 1, by omega⟩
      rw [ek] at h
      cases k with
      | zero => simp at h
      | succ k =>
        have h' : w.cps.toList[k]? = some 44 := by simpa using h
        exact absurd rfl (hw _ (List.mem_of_getElem? h'))
  unfold Txt.rpartition
  rcases StrLaws.last_spec (r ++ cb ++ w) cb with ⟨h0, hn⟩ | ⟨i, h0, hi, hn⟩
  · exact absurd at_r (hn _)
  · rw [h0, only i hi]
    refine congr (congrArg Prod.mk (eq_l ?_)) (congrArg (Prod.mk cb) (eq_l ?_))
    · rw [sub_l, el, List.drop_zero, Nat.sub_zero, lr, List.take_left]
    · rw [sub_l, el, ll, cb_n, List.drop_append, List.drop_eq_nil_of_le (by omega), List.nil_append, show r.length + 2 - r.cps.toList.length = 2 by omega]
      exact List.take_of_length_le (by show w.cps.toList.length ≤ _; omega)
end Xrp2
set_option Elab.async false
set_option linter.all false
set_option maxRecDepth 100000
set_option maxHeartbeats 4000000
set_option pp.maxSteps 400
set_option pp.deepTerms false
/-! o.m(e, .., k=v, ..): a method by places and names; a <= b of data -/
namespace Xmk
open PySem PySem.Spec PyProof.Rows L2
section
variable {X : Cx} {CX : CXT} {k n : Nat} {f C : Addr} {fd : FuncData} {ps ks : List Str} {sp : Sp} {E : XK} {m : Str} {o e : Expr} {es : List Expr} {apos pos : Pos} {kws : List Keyword} {ta : TE} {t tk : TA} {g : List Value → List Value → List Value} {gV : List V → List V → List V}
def tMethN (C : Addr) (m : Str) (n nk : Nat) (sp : Sp) (gV : List V → List V → List V) (E : XK) (ta : TE) (t tk : TA) : TE := fun σ H Q => ta σ H fun x H1 => ∃ a dx fs, x = .ref a ∧ H1 a = some (.ins C dx fs) ∧ fs.lookup m = none ∧ t σ H1 fun vs H2 => tk σ H2 fun zs H3 => vs.length = n ∧ zs.length = nk ∧ sp (gV (x :: vs) zs) H3 Q E
theorem pe_methN {pl : Sem Bool} (he : PE X o ta) (c : Cls X.K C) (hm : Meth X.K C m f) (F : FnOk X.prog X.w X.K X.mg X.base CX k f fd ps sp) (room : Room k X.A) (kb : KBn X.K fd ps (n + 1) ks g gV) (px : Passes CX X E) (pa : PA X (e :: es) t) (pk : PK X kws tk)
    (hall : (backToKw pos (keywordEach kws X.env)).all (·.1.isSome) = true := by rfl) (hks : (backToKw pos (keywordEach kws X.env)).filterMap (·.1) = ks := by rfl)
    (hst : starEach (e :: es) X.env = (false, eval e X.env) :: starEach es X.env := by rfl)
    (hpl : ((backTo pos (starEach (e :: es) X.env)).any (·.1) || (backToKw pos (keywordEach kws X.env)).any (·.1.isNone)) = false := by rfl)
    (ht : eval (.Call (.Attribute o m apos) (e :: es) kws pos) X.env = (do
      let ov ← eval o X.env
      standAt apos.atName
      let (fn, fst) ← holding [ov] (getMethod ov m pl)
      callWith pos fn fst (backTo pos (starEach (e :: es) X.env)) (backToKw pos (keywordEach kws X.env))) := by rfl) :
    PE X (.Call (.Attribute o m apos) (e :: es) kws pos) (tMethN C m n ks.length sp gV E ta t tk) := by
  refine ⟨fun pins s σ H Q I h => ?_⟩
  refine PySem.W.methodCall_KW (pl := pl) (thn (he.run pins s σ H _ I h) fun u s1 ⟨x, H1, I1, rx, a, dx, fs, ex, ea, l, q⟩ => ?_) ht
  subst ex
  obtain rfl : u = Value.ref a := rx
  refine getmeth_ok I1 ea c hm l ?_
  refine PySem.W.callWith_KW (first := [.ref a]) (h₀ := X.base) I.ok.mod.kin hm.kp hall (thn (pa.run pos pins s1 σ H1 _ I1 q) fun us s2 z1 => ?_) hpl hst
  obtain ⟨vs, H2, I2, rv, q1⟩ := z1
  refine thn (pk.run pos pins s2 σ H2 _ I2 q1) fun ws s3 z => ?_
  obtain ⟨zs, H3, I3, rz, l1, l2, q2⟩ := z
  refine ⟨I3.kIn, ?_⟩
  rw [hks]
  exact run_fnN (us := .ref a :: us) (vs := .ref a :: vs) F room kb px I3 (.cons rfl rv) rz (by rw [List.length_cons, l1]) l2 q2
end
section
variable {X : Cx}
/-- a <= b, of data that are alike -/
def rLeD (K : PySem.W.Frag) : R2 := fun x y H Q => ∃ d e, Dp K H x d ∧ Dp K H y e ∧ PySem.W.alike d e = true ∧ d ≠ .none ∧ d.depth ≤ 50 ∧ Q (.bl (!PySem.W.dataLt e d)) H
theorem op_leD (hu : X.A.units + 64 < cLine) : OpR X (compareOp .LtE) (rLeD X.K) := by
  intro pins s σ H x y v u Q I rx ry h
  obtain ⟨d, e, hd, he, al, nn, dp, q⟩ := h
  obtain ⟨as, rd⟩ := Dp.reads I d x v hd rx
  obtain ⟨bs, re⟩ := Dp.reads I e y u he ry
  exact PySem.W.le_data rd re al nn (by have := Nat.min_le_left d.depth e.depth; omega) ⟨.bl _, H, I, rfl, q⟩
end
end Xmk
set_option Elab.async false
set_option linter.all false
set_option maxRecDepth 100000
set_option maxHeartbeats 4000000
set_option pp.maxSteps 400
set_option pp.deepTerms false
/-! sorted(xs, key=o.m): the key a bound method; o.m as a value -/
namespace Xsm
open PySem PySem.Spec PyProof.Rows L2
/-! ## sorted(xs, key=f), f a def of the text, xs a list or a tuple -/
/-- the items that list() would give: of a list, of a tuple -/
theorem collect_seq {prog : Program} {w : World} {A : Around} {E : Value → Shared → Prop} {s : Shared} {l : Addr} {o : Obj} {vs : List Value} {n : Nat} {T : String} {Q : List Value → Shared → Prop}
    (ho : s.heap.get? l = some o) (hT : T = "list" ∨ T = "tuple") (hc : o.cls = .type T) (hd : o.data = .seq vs.toArray n) (hz : vs.length ≤ sizeLine)
    (h : Q vs { s with heap := (s.heap.push (seqObj "list" #[] 0)).update s.heap.objs.size (Obj.mapSeq (· ++ vs.toArray)) }) : wpAny (model prog w) A (collect (.ref l)) Q E s := by
  unfold collect
  refine wpAny_bind (wpAny_runValue (codeAny_builtin entry_proto_collect' ?_))
  show wpAny _ _ (do again (.builtin "list.__iadd__" ⟨[← newList [], .ref l], []⟩)) _ _ s
  refine wpAny_bind (wpAny_newList (wpAny_pure ⟨Code.quiet_builtin _ (by decide +kernel), codeAny_builtin entry_list_iadd' ?_⟩))
  show wpAny _ _ (Builtin.List.listExtendWith (.ref s.heap.objs.size) (.ref l) (.ref s.heap.objs.size)) _ _ { s with heap := s.heap.push (seqObj "list" #[] 0) }
  unfold Builtin.List.listExtendWith
  have at_l : (s.heap.push (seqObj "list" #[] 0)).get? l = some o := Heap.get?_push_of_some _ ho
  have at_n : (s.heap.push (seqObj "list" #[] 0)).get? s.heap.objs.size = some (seqObj "list" #[] 0) := Heap.get?_push_size _ rfl
  refine wpAny_bind (wpAny_typeOf (T := T) ⟨o, at_l, hc⟩ ?_)
  have yes : (Builtin.List.listSameRef (.ref s.heap.objs.size) (.ref l) || Value.type T == Value.type "list" || Value.type T == Value.type "tuple") = true := by
    rcases hT with rfl | rfl
    · rw [show (Value.type "list" == Value.type "list") = true from rfl]
      simp
    · rw [show (Value.type "tuple" == Value.type "tuple") = true from rfl]
      simp
  rw [if_pos yes]
  refine wpAny_bind (listItems_at at_l hd ?_)
  refine wpAny_bind (listItems_at (xs := #[]) (n := 0) at_n rfl ?_)
  rw [if_neg (by simp)]
  refine wpAny_bind (listUpdate_at (xs := #[]) (n := 0) at_n rfl ?_ (Nat.zero_le _) ?_)
  · refine wpAny_pure ?_
    show wpAny (model prog w) A (do
        let ob ← load s.heap.objs.size
        match ob.data with
        | .seq xs _ => pure xs.toList
        | _ => unsupported "internal:collect") Q E { s with heap := (s.heap.push (seqObj "list" #[] 0)).update s.heap.objs.size (Obj.mapSeq (· ++ vs.toArray)) }
    refine wpAny_bind (wpAny_load (get?_update_seq at_n _) ?_)
    have e : ((#[] : Array Value) ++ vs.toArray).toList = vs := by simp
    show wpAny _ _ (pure ((#[] : Array Value) ++ vs.toArray).toList) Q E _
    rw [e]
    exact wpAny_pure h
  · show (#[] ++ vs.toArray).size ≤ sizeLine + 1
    simp only [Array.size_append, List.size_toArray, List.length_nil]
    omega
/-- sorted(xs, ..) is the sort of a new list -/
theorem sorted_seq {prog : Program} {w : World} {A : Around} {E : Value → Shared → Prop} {s : Shared} {l : Addr} {o : Obj} {vs : List Value} {n : Nat} {T : String} {kw : List (Str × Value)} {Q : Value → Shared → Prop}
    (ho : s.heap.get? l = some o) (hT : T = "list" ∨ T = "tuple") (hc : o.cls = .type T) (hd : o.data = .seq vs.toArray n) (hz : vs.length ≤ sizeLine)
    (ha1 : argsOk "sorted" ⟨[.ref l], kw⟩) (ha2 : ∀ x, argsOk "list.sort" ⟨[.ref x], kw⟩)
    (body : ∀ E' : Value → Shared → Prop, wpAny (model prog w) A.in1.in1 (Builtin.«list.sort» ⟨[.ref (s.heap.objs.size + 1)], kw⟩)
      (fun f s' => f = .done (.ret .none) ∧ Q (.ref (s.heap.objs.size + 1)) s') E' { s with heap := PySem.W.copyHeap s.heap vs }) :
    wpAny (model prog w) A (call (.builtin "sorted") [.ref l] kw) Q E s := by
  refine PyProof.Rows.call_function_entry_kw kind_sorted plain_sorted entry_sorted ha1 ?_
  unfold Builtin.«sorted»
  refine wpAny_bind (m := checkCount "sorted" 1 1 _) (wpAny_pure ?_)
  refine wpAny_bind (collect_seq ho hT hc hd hz (wpAny_bind (wpAny_newList ?_ hz)))
  have sz : ((s.heap.push (seqObj "list" #[] 0)).update s.heap.objs.size (Obj.mapSeq (· ++ vs.toArray))).objs.size = s.heap.objs.size + 1 := by
    rw [Heap.size_update, size_push']
  show wpAny _ _ _ _ _ { s with heap := PySem.W.copyHeap s.heap vs }
  rw [sz]
  refine wpAny_bind (wpAny_holding (wpAny_call_entry_kw slot_list_sort ⟨_, PySem.W.copyHeap_at s.heap vs, rfl⟩ entry_list_sort ?body (ha2 _)))
  case body =>
    refine wpAny_mono (body _) (fun f s' hf => ?_) fun _ _ e => e
    obtain ⟨rfl, hq⟩ := hf
    exact ⟨_, rfl, wpAny_pure ⟨_, rfl, hq⟩⟩
theorem sqT_same {K : PySem.W.Frag} {H H' : Hp} (s : Same H H') {t : Addr} {xs : List V} (q : SqT K H t xs) : SqT K H' t xs := by
  rcases q with (q | ⟨o, q⟩) | q
  · exact .inl (.inl (s _ _ q))
  · exact .inl (.inr ⟨o, s _ _ q⟩)
  · exact .inr q
section
variable {K : PySem.W.Frag} {H H' : Hp}
mutual
theorem dp_same (s : Same H H') : ∀ (d : PyData) (v : V), Dp K H v d → Dp K H' v d
  | .none, _, h => by
    cases h
    exact .non
  | .bool b, _, h => by
    cases h
    exact .bl b
  | .int i, _, h => by
    cases h
    exact .int i
  | .str x, _, h => by
    cases h
    exact .str x
  | .list ds, _, h => by
    cases h with
    | lst q r => exact .lst (s.seq q) (dpAll_same s ds _ r)
  | .tuple ds, _, h => by
    cases h with
    | tup q r => exact .tup (sqT_same s q) (dpAll_same s ds _ r)
  | .dict _, _, h => by cases h
theorem dpAll_same (s : Same H H') : ∀ (ds : List PyData) (vs : List V), DpAll K H vs ds → DpAll K H' vs ds
  | [], _, h => by
    cases h
    exact .nil
  | d :: ds, _, h => by
    cases h with
    | cons q r => exact .cons (dp_same s d _ q) (dpAll_same s ds _ r)
end
end
section
variable {X : Cx} {pins : List (Addr × Obj)} {σ : L2.St} {H : Hp}
/-- what stands beside the heap's own things, behind a call -/
theorem fp_on {H' : Hp} {b : Addr} (f : FpOk X pins H b) (n : H' b = none) : FpOk X pins H' b := ⟨n, f.2⟩
theorem fp_stack {s : Shared} {b : Addr} (I : Inv X pins σ H s) (f : FpOk X pins H b) : b ∉ frs X.stack := fun z => by
  rcases List.mem_cons.mp (I.stkSub b z) with e | e
  · exact f.2.1 e
  · exact f.2.2.1 e
/-- an object of nobody's becomes a list of ours, another is let go -/
theorem Inv.take {s : Shared} {h' : Heap} {a kS : Addr} {ys : List V} {out : List Value} {c t' : Nat} (I : Inv X pins σ H s) (fa : FpOk X pins H a) (fk : FpOk X pins H kS) (keep : ∀ b o, b ≠ a → b ≠ kS → s.heap.get? b = some o → h'.get? b = some o)
    (hz : ys.length ≤ sizeLine) (rv : Vals ys out) (na : h'.get? a = some (seqObj "list" out.toArray c)) : Inv X pins σ (upd H a (.lst ys)) { s with heap := h', toks := t' } := by
  have ne : ∀ b o, H b = some o → b ≠ a ∧ b ≠ kS := fun b o e => ⟨ne_of_none e fa.1, ne_of_none e fk.1⟩
  have off : ∀ {b : Addr}, b ∉ [a, kS] → b ≠ a ∧ b ≠ kS := fun {b} z => ⟨fun q => z (by simp [q]), fun q => z (by simp [q])⟩
  have u : Un (frs X.stack) [a, kS] H (upd H a (.lst ys)) s.heap h' := by
    refine ⟨fun b o e n _ hx => keep b o (off hx).1 (off hx).2 e, fun b o e n _ hx => ⟨o.slots, keep b o (off hx).1 (off hx).2 e⟩, fun b o e n hx => ?_, fun b o e hx => ⟨o, keep b o (off hx).1 (off hx).2 e⟩, fun b zs e => ?_, fun b o z e => ?_, fun b ps e => ⟨#[], ?_⟩⟩
    · rw [upd_ne (off hx).1]
      exact n
    · rw [upd_ne (ne _ _ e).1]
      exact e
    · rw [upd_ne (ne _ _ e).1]
      exact e
    · rw [upd_ne (ne _ _ e).1, e]
      simp
  have ok : HOk X.prog X.w (upd H a (.lst ys)) h' := fun b o e => by
    by_cases hb : b = a
    · subst hb
      rw [upd_same] at e
      cases e
      exact ⟨hz, out, c, rv, na⟩
    · rw [upd_ne hb] at e
      refine (I.hok b o e).stay (fun z v hz' q => ?_) (fun z q => ?_) fun z zs q => ?_
      · have nz : z ≠ a ∧ z ≠ kS := by
          rcases hz' with e1 | e1
          · rw [e1]
            exact ne _ _ e
          · exact ne _ _ e1
        exact keep z v nz.1 nz.2 q
      · rw [upd_ne (ne _ _ q).1]
        exact q
      · rw [upd_ne (ne _ _ q).1]
        exact q
  refine I.call (g' := s.gens) (d' := s.drawn) (t' := t') (ch := [a, kS]) u ok I.bare fun b hb => ?_
  rcases List.mem_cons.mp hb with e | e
  · rw [e]
    exact ⟨fa.2.2.2.1, fa.2.1, fa.2.2.2.2.1, fa.2.2.2.2.2⟩
  · rw [List.mem_singleton.mp e]
    exact ⟨fk.2.2.2.1, fk.2.1, fk.2.2.2.2.1, fk.2.2.2.2.2⟩
theorem vals_each : ∀ {xs : List V} {vs : List Value}, Vals xs vs → PySem.W.EachIs (fun v x => RelV x v) vs xs
  | _, _, .nil => .nil
  | _, _, .cons r t => .cons r (vals_each t)
theorem each_vals : ∀ {xs : List V} {vs : List Value}, PySem.W.EachIs (fun v x => RelV x v) vs xs → Vals xs vs
  | _, _, .nil => .nil
  | _, _, .cons r t => .cons r (each_vals t)
end
section
variable {X : Cx} {f g sf : Addr} {pins : List (Addr × Obj)} {σ : L2.St} {H : Hp} {k : Nat} {fd : FuncData} {ps : List Str} {sp : Sp} {kd : V → PyData} {xs : List V}
/-- what the key's def promises of the items -/
def KeyOk (X : Cx) (sf : Addr) (sp : Sp) (H : Hp) (xs : List V) (kd : V → PyData) : Prop :=
  ∀ (H' : Hp) (Q : VK), Same H H' → ∀ x ∈ xs, (∀ v H2, Same H' H2 → Dp X.K H2 v (kd x) → Q v H2) → sp [.ref sf, x] H' Q E0
theorem each_get {α β : Type} {R : α → β → Prop} : ∀ {as : List α} {bs : List β} {i : Nat} {a : α}, PySem.W.EachIs R as bs → as[i]? = some a → ∃ b, bs[i]? = some b ∧ R a b
  | _, _, _, _, .nil, e => by simp at e
  | _, _, 0, _, .cons r _, e => by
    simp at e
    subst e
    exact ⟨_, rfl, r⟩
  | _, _, i + 1, a, .cons _ t, e => by
    obtain ⟨b, h1, h2⟩ := each_get (i := i) (a := a) t (by simpa using e)
    exact ⟨b, by simpa using h1, h2⟩
theorem each_more {α β : Type} {R : α → β → Prop} : ∀ {as : List α} {bs : List β} {a : α} {b : β}, PySem.W.EachIs R as bs → R a b → PySem.W.EachIs R (as ++ [a]) (bs ++ [b])
  | _, _, _, _, .nil, r => .cons r .nil
  | _, _, _, _, .cons q t, r => .cons q (each_more t r)
theorem each_mono {α β : Type} {R S : α → β → Prop} (h : ∀ a b, R a b → S a b) : ∀ {as : List α} {bs : List β}, PySem.W.EachIs R as bs → PySem.W.EachIs S as bs
  | _, _, .nil => .nil
  | _, _, .cons r t => .cons (h _ _ r) (each_mono h t)
theorem each_len {α β : Type} {R : α → β → Prop} : ∀ {as : List α} {bs : List β}, PySem.W.EachIs R as bs → as.length = bs.length
  | _, _, .nil => rfl
  | _, _, .cons _ t => congrArg Nat.succ (each_len t)
theorem keyI_rest {A : Around} {E : Value → Shared → Prop} {s : Shared} {a kS : Addr} {e1 : Nat} {vs : List Value} {P : PySem.Fin → Shared → Prop} (fr : A.frames = some X.stack) (room : Room k A)
    (F : FnOk X.prog X.w X.K X.mg X.base CX0 k g fd ps sp) (eq_ : H f = some (.met g sf)) (bd : Binds X.K fd ps []) (ok : KeyOk X sf sp H xs kd) (I : Inv X pins σ H s) (fa : FpOk X pins H a) (fk : FpOk X pins H kS) (hka : kS ≠ a) (rv : Vals xs vs)
    (nk : s.heap.get? kS = some (seqObj "list" #[] 0)) (na : s.heap.get? a = some (seqObj "list" #[] e1)) (hz : vs.length ≤ sizeLine)
    (hal : PySem.W.AllAlike (xs.map kd)) (hsk : PySem.W.Sortable (xs.map kd)) (hu : ∀ d, d ∈ xs.map kd → A.units + d.depth < cLine)
    (h : ∀ s' H', Inv X pins σ (upd H' a (.lst (xs.mergeSort (PySem.W.dataLe false kd)))) s' → Same H H' → H' a = none → P (.done (.ret .none)) s') :
    wpAny (model X.prog X.w) A (ksk_rest a (.ref f) false vs.toArray e1 (.ref kS)) P E s := by
  have hlen : xs.length = vs.length := rv.length
  unfold ksk_rest
  refine wpAny_bind (wpAny_rule ?_)
  rw [List.forIn_toArray]
  refine wpAny_bind (ksk_fold (fun i s' => ∃ (H' : Hp) (kA : Array Value) (e : Nat), Inv X pins σ H' s' ∧ Same H H' ∧ H' kS = none ∧ H' a = none ∧ s'.heap.get? kS = some (seqObj "list" kA e) ∧ s'.heap.get? a = some (seqObj "list" #[] e1) ∧
    PySem.W.EachIs (fun v d => ∃ y, RelV y v ∧ Dp X.K H' y d) kA.toList ((xs.map kd).take i)) vs 0 s ⟨H, #[], 0, I, Same.refl H, fk.1, fa.1, nk, na, by rw [List.take_zero]; exact .nil⟩ ?step ?done)
  case step =>
    rintro j u s1 hx ⟨H1, kA, e, I1, sm, hk0, ha0, nk1, na1, hks⟩
    simp only [Nat.zero_add] at hks ⊢
    obtain ⟨x, hxj, rx⟩ := each_get (vals_each rv) hx
    have hxm : x ∈ xs := List.mem_of_getElem? hxj
    have fk1 := fp_on fk hk0
    have fa1 := fp_on fa ha0
    have hsp := ok H1 (fun v H2 => Same H1 H2 ∧ Dp X.K H2 v (kd x)) sm x hxm fun v H2 s2 d2 => ⟨s2, d2⟩
    have en : Env0 X.prog X.w X.K X.mg X.base A X.stack s1 H1 := by
      have z := I1.env0
      exact ⟨fr, z.mod, z.bs, z.bsz, z.funs, z.frf, z.hok, z.bare⟩
    have hl1 : [V.ref sf, x].length = ps.length := F.len _ _ _ _ hsp
    have b1 := bd s1 [.ref sf, u] I1.kIn (by simpa using hl1)
    rw [List.append_nil] at b1
    have hkz : kA.size ≤ vs.length := by
      have z := each_len hks
      rw [Array.length_toList, List.length_take, List.length_map] at z
      omega
    refine wpAny_bind (wpAny_attempt (wpAny_call (codeAny_mono (call_met I1 (sm _ _ eq_) (F.run A X.stack s1 H1 ⟨[.ref sf, u], []⟩ [.ref sf, u] [.ref sf, x] _ E0 room en b1 (.cons rfl (.cons rx .nil)) hsp)) fun r s2 hr => ?_)))
    match r, hr with
    | .error z, hr => exact False.elim hr
    | .ok .next, hr => exact False.elim hr
    | .ok .brk, hr => exact False.elim hr
    | .ok .cont, hr => exact False.elim hr
    | .ok (.ret v), hr =>
      obtain ⟨y, H2, os, bare, un, hok, ry, sm2, dp2⟩ := hr
      obtain ⟨h2, g2, d2, t2, os2⟩ := s2
      obtain rfl : os2 = s1.os := os
      have I2 : Inv X pins σ H2 _ := I1.call (h' := h2) (g' := g2) (d' := d2) (t' := t2) (ch := []) un hok bare fun b z => absurd z List.not_mem_nil
      have nk2 : h2.get? kS = some (seqObj "list" kA e) := un.keep _ _ nk1 hk0 (fp_stack I1 fk1) List.not_mem_nil
      have na2 : h2.get? a = some (seqObj "list" #[] e1) := un.keep _ _ na1 ha0 (fp_stack I1 fa1) List.not_mem_nil
      have hk2 : H2 kS = none := un.free _ _ nk1 hk0 List.not_mem_nil
      have ha2 : H2 a = none := un.free _ _ na1 ha0 List.not_mem_nil
      have sb := Heap.SameBut.update h2 kS (Obj.mapSeq (·.push v))
      obtain ⟨c2, hc2⟩ : ∃ c2, (h2.update kS (Obj.mapSeq (·.push v))).get? kS = some (seqObj "list" (kA.push v) c2) := ⟨_, get?_update_seq nk2 (·.push v)⟩
      refine wpAny_bind (listUpdate_at (s := ⟨h2, g2, d2, t2, s1.os⟩) nk2 rfl ?_ (Nat.le_trans hkz hz) (by rw [Array.size_push]; omega))
      refine wpAny_pure ⟨rfl, H2, kA.push v, c2, ?_, sm.trans sm2, hk2, ha2, hc2, (sb.2 a hka.symm).trans na2, ?_⟩
      · refine Inv.turnedL (ch := [kS]) (t' := t2) I2 (fun b o hb q => (sb.2 b fun z => hb (by simp [z])).trans q) fun b hb => ?_
        rw [List.mem_singleton.mp hb]
        exact fp_on fk1 hk2
      · have ek : (xs.map kd).take (j + 1) = (xs.map kd).take j ++ [kd x] := by
          rw [List.take_add_one, List.getElem?_map, hxj]
          rfl
        rw [ek, Array.toList_push]
        refine each_more (each_mono (fun w d q => ?_) hks) ⟨y, ry, dp2⟩
        obtain ⟨z, rz, dz⟩ := q
        exact ⟨z, rz, dp_same sm2 _ _ dz⟩
  case done =>
    rintro s1 ⟨H1, kA, e, I1, sm, hk0, ha0, nk1, na1, hks⟩
    rw [Nat.zero_add, List.take_of_length_le (by rw [List.length_map]; omega)] at hks
    have hk' : PySem.W.EachIs (fun v d => ∃ as, Reads s1.heap v d as) kA.toList (xs.map kd) := each_mono (fun v d q => by
      obtain ⟨y, ry, dy⟩ := q
      exact Dp.reads I1 d y v dy ry) hks
    have hsz : kA.size = vs.length := by
      have z := each_len hk'
      rw [Array.length_toList, List.length_map] at z
      omega
    -- all but the list of the keys
    let Hk : Hp := upd (fun _ => none) kS (.lst [])
    have hidK : (hidT s1.heap Hk).get? kS = none := by
      cases q : (hidT s1.heap Hk).get? kS with
      | none => rfl
      | some o =>
        have z := (of_hidT q).2
        rw [show Hk kS = some (.lst []) from upd_same] at z
        cases z
    refine wpAny_bind (listItems_at nk1 rfl ?_)
    refine PySem.W.keyH_end (κ := PySem.W.dataKind s1.heap (xs.map kd)) (h₁ := hidT s1.heap Hk) (fun b o _ q => (of_hidT q).1) hidK nk1 na1 hka (PySem.W.SortsAt.data hk' hal hsk hu) hsz hz fun h3 tk3 c k3 n3 => ?_
    have each := PySem.W.keyedOut_each (rev := false) (out := PySem.W.sortVals (PySem.W.dataKind s1.heap (xs.map kd)) false kA.toList vs) kd (vs := vs) ⟨s1.heap, kA.toList, hal, rfl, hk'⟩ (vals_each rv)
    have I3 := Inv.take (t' := tk3) (kS := kS) (h' := h3) (c := c) I1 (fp_on fa ha0) (fp_on fk hk0) (fun b o hb hb2 q => k3 b o hb (hidT_get q (by rw [show Hk b = none from by show upd _ _ _ _ = _; rw [upd_ne hb2]]))) ?_ (each_vals each) n3
    · exact h _ H1 I3 sm ha0
    · rw [List.length_mergeSort]
      omega
end
section
variable {X : Cx} {k : Nat} {g sf : Addr} {fd : FuncData} {ps : List Str} {sp : Sp}
def rSortM (X : Cx) (g : Addr) (sp : Sp) : List V → List V → Hp → VK → Prop := fun vs zs H Q => ∃ (l f sf : Addr) (xs : List V) (kd : V → PyData), vs = [.ref l] ∧ zs = [.ref f] ∧ H f = some (.met g sf) ∧ (SqL X.K H l xs ∨ SqT X.K H l xs) ∧
  KeyOk X sf sp H xs kd ∧ PySem.W.AllAlike (xs.map kd) ∧ PySem.W.Sortable (xs.map kd) ∧ (∀ x ∈ xs, (kd x).depth ≤ 50) ∧ ∀ H' a, Same H H' → H' a = none → Q (.ref a) (upd H' a (.lst (xs.mergeSort (PySem.W.dataLe false kd))))
theorem cr_sortM (room : Room (k + 2) X.A) (F : FnOk X.prog X.w X.K X.mg X.base CX0 k g fd ps sp) (bd : Binds X.K fd ps []) : CallRK X (.builtin "sorted") [Str.ofString "key"] (rSortM X g sp) := by
  intro pins s σ H vs zs us ws Q I rv rz h
  obtain ⟨l, f, sf, xs, kd, rfl, rfl, em, hq, ok, hal, hsk, hdp, q⟩ := h
  obtain ⟨u, rfl, ru⟩ := vals1 rv
  obtain ⟨w, rfl, rw'⟩ := vals1 rz
  cases ru
  cases rw'
  obtain ⟨T, o, its, n, hT, ho, hc, hd, rx, hz⟩ : ∃ (T : String) (o : Obj) (its : List Value) (n : Nat), (T = "list" ∨ T = "tuple") ∧ s.heap.get? l = some o ∧ o.cls = .type T ∧ o.data = .seq its.toArray n ∧ Vals xs its ∧ its.length ≤ sizeLine := by
    rcases hq with hq | hq
    · obtain ⟨its, r, ⟨o, n, ho, hc, _, hd⟩, hz⟩ := I.list hq
      exact ⟨"list", o, its, n, .inl rfl, ho, hc, hd, r, by rw [← r.length]; exact hz⟩
    · obtain ⟨its, r, ⟨o, ho, hc, n, hd⟩, hz⟩ := I.tuple hq
      exact ⟨"tuple", o, its, n, .inr rfl, ho, hc, hd, r, by rw [← r.length]; exact hz⟩
  have hu := room.units
  refine sorted_seq ho hT hc hd hz (ksk_s1 _ _) (fun _ => ksk_l1 _ _) fun E' => ?_
  show wpAny _ _ (Builtin.«list.sort» ⟨[.ref (s.heap.objs.size + 1)], [(Str.ofString "key", .ref f)]⟩) _ _ _
  rw [ksk_t1]
  unfold ksk_tree
  have na0 := PySem.W.copyHeap_at s.heap its
  obtain ⟨e1, na1⟩ : ∃ e1, ((PySem.W.copyHeap s.heap its).update (s.heap.objs.size + 1) (Obj.mapSeq fun _ => (#[] : Array Value))).get? (s.heap.objs.size + 1) = some (seqObj "list" #[] e1) := ⟨_, get?_update_seq na0 fun _ => #[]⟩
  have sb := Heap.SameBut.update (PySem.W.copyHeap s.heap its) (s.heap.objs.size + 1) (Obj.mapSeq fun _ => (#[] : Array Value))
  refine wpAny_bind (listItems_at na0 rfl ?_)
  refine wpAny_bind (listUpdate_at na0 rfl ?_ (by rw [List.size_toArray]; exact hz) (Nat.zero_le _))
  refine wpAny_bind (seqEpoch_at na1 rfl ?_)
  refine wpAny_bind (wpAny_newTuple ?_ (by show its.length ≤ _; exact hz))
  refine wpAny_bind (wpAny_newList ?_ (Nat.zero_le _))
  refine wpAny_holding ?_
  have old : ∀ b o, s.heap.get? b = some o → ((((PySem.W.copyHeap s.heap its).update (s.heap.objs.size + 1) (Obj.mapSeq fun _ => (#[] : Array Value))).push (seqObj "tuple" its.toArray 0)).push (seqObj "list" #[] 0)).get? b = some o := fun b o e =>
    Heap.get?_push_of_some _ (Heap.get?_push_of_some _ ((sb.2 b (Nat.ne_of_lt (Nat.lt_succ_of_lt (Heap.lt_size e)))).trans (PySem.W.copyHeap_old e)))
  have big : s.heap.objs.size + 1 < (PySem.W.copyHeap s.heap its).objs.size := Heap.lt_size na0
  have hkS : (((PySem.W.copyHeap s.heap its).update (s.heap.objs.size + 1) (Obj.mapSeq fun _ => (#[] : Array Value))).push (seqObj "tuple" its.toArray 0)).objs.size = (PySem.W.copyHeap s.heap its).objs.size + 1 := by rw [size_push', Heap.size_update]
  have ltS : s.heap.objs.size + 1 < (((PySem.W.copyHeap s.heap its).update (s.heap.objs.size + 1) (Obj.mapSeq fun _ => (#[] : Array Value))).push (seqObj "tuple" its.toArray 0)).objs.size := by
    rw [hkS]
    omega
  have le1 : s.heap.objs.size ≤ s.heap.objs.size + 1 := Nat.le_succ _
  have le2 : s.heap.objs.size ≤ (((PySem.W.copyHeap s.heap its).update (s.heap.objs.size + 1) (Obj.mapSeq fun _ => (#[] : Array Value))).push (seqObj "tuple" its.toArray 0)).objs.size := by rw [hkS]; omega
  refine keyI_rest (A := X.A.in1.in1) (E := E') (by show X.A.frames = some X.stack; exact I.ok.frames) room.in1.in1 F em bd ok (I.kept (t' := s.toks) old) (I.fpOk le1 (I.hok.fresh le1)) (I.fpOk le2 (I.hok.fresh le2)) (Nat.ne_of_gt ltS) rx
    (Heap.get?_push_size _ rfl) (Heap.get?_push_of_some _ (Heap.get?_push_of_some _ na1)) hz hal hsk (fun d hd' => ?_) fun s' H' I' sm ha => ⟨rfl, ?_⟩
  · obtain ⟨x, hx, rfl⟩ := List.mem_map.mp hd'
    have := hdp x hx
    show X.A.units + 1 + 1 + (kd x).depth < cLine
    omega
  · exact ⟨.ref _, _, I', rfl, q H' _ sm ha⟩
end
section
variable {X : Cx} {e : Expr} {ta : TE} {C g : Addr} {m : Str} {pos : Pos}
/-- o.m as a value -/
def tBound (C : Addr) (m : Str) (g : Addr) (ta : TE) : TE := fun σ H Q => ta σ H fun x H1 => ∃ a dx fs, x = .ref a ∧ H1 a = some (.ins C dx fs) ∧ fs.lookup m = none ∧ ∀ q, H1 q = none → Q (.ref q) (upd H1 q (.met g a))
theorem pe_bound (he : PE X e ta) (c : Cls X.K C) (k : BMeth X.K C m g) (hb : attributeBase e m X.env (eval e X.env) = eval e X.env) : PE X (.Attribute e m pos) (tBound C m g ta) := by
  refine ⟨fun pins s σ H Q I h => ?_⟩
  refine attr_of hb (thn (he.run pins s σ H _ I h) fun u s1 ⟨x, H1, I1, rx, a, dx, fs, ex, ea, l, q⟩ => ?_)
  subst ex
  exact op_getbound I1 ea c k l rx q
end
end Xsm
set_option Elab.async false
set_option linter.all false
set_option maxRecDepth 100000
set_option maxHeartbeats 4000000
set_option pp.maxSteps 400
set_option pp.deepTerms false
/-! enumerate(text). -/
namespace Xen
open PySem PySem.Spec PyProof.Rows L2 Xt
/-- the text's signs, each in a new pair with its number -/
def IteS (x : Str) : It :=
  ⟨fun i _ => i < x.cps.size, fun i H v H' => ∃ T c, v = .ref T ∧ H T = none ∧ H' = upd H T (.tup [.int (i : Nat), .str ⟨#[c]⟩]) ∧ x.cps[i]? = some c, fun i _ => x.cps.size = i⟩
theorem turn_enumS {P : Program} {w : World} {K : PySem.W.Frag} {elts : List Expr} {kk : Nat} {tpos : Pos} {x : Str} {t : Tok} (e it : Addr) :
    Turn P w K (.Tuple elts kk tpos) (IteS x) [e, it] e (fun i h => (∃ old, IsEnum h e it ((i : Nat) : Int) old) ∧ h.IsStrIter it (strIterType x) x t i ∧ e ≠ it) where
  mem := by simp
  obj := fun i h st b hb => by
    obtain ⟨⟨old, he⟩, ⟨o, ho, hc, hd⟩, _⟩ := st
    have e' : b = e ∨ b = it := by simpa using hb
    rcases e' with z | z
    · rw [z]; exact ⟨_, he, fun v q => nomatch q⟩
    · rw [z]; exact ⟨o, ho, fun v q => by rw [hd] at q; cases q⟩
  keep := fun i h h' st k => let ⟨⟨old, he⟩, ⟨o, ho, r⟩, hne⟩ := st; ⟨⟨old, k e (by simp) _ he⟩, ⟨o, k it (by simp) _ ho, r⟩, hne⟩
  item := by
    intro X hP hw hK hc i pins s σ H E I hf st hg
    subst hP hw hK
    obtain ⟨⟨old, he⟩, hit, hne⟩ := st
    have hi : i < x.cps.size := hg
    have hel : e < s.heap.objs.size := Heap.lt_size he
    have hil : it < s.heap.objs.size := by obtain ⟨_, q, _⟩ := hit; exact Heap.lt_size q
    refine wpAny_pyNext_enum_itemD (Draws.text (A := X.A.in1) (I.ok.hd hc) it x t) he hit hi hne (by simp; exact hne) fun y h' tk hy ho hst' hT hsz hk => ?_
    obtain ⟨c, u, hc', rfl⟩ := hy
    refine ⟨_, rfl, wpAny_letOwnedTupleGo_enum (s := { s with heap := h', toks := tk + 1 }) ho fun h'' he' sb => ?_⟩
    have hT2 : h''.get? s.heap.objs.size = some { cls := .type "tuple", data := .seq #[.int i tk, .str ⟨#[c]⟩ u] } := (sb.2 _ (Nat.ne_of_gt hel)).trans hT
    have new : ObjOk X.prog X.w (upd H s.heap.objs.size (.tup [.int (i : Nat), .str ⟨#[c]⟩])) h'' s.heap.objs.size (.tup [.int (i : Nat), .str ⟨#[c]⟩]) :=
      ⟨by show 2 ≤ sizeLine; decide, [.int i tk, .str ⟨#[c]⟩ u], .cons ⟨_, rfl⟩ (.cons ⟨_, rfl⟩ .nil), ⟨_, hT2, rfl, _, rfl⟩⟩
    have I1 : Inv X pins σ (upd H s.heap.objs.size (.tup [.int (i : Nat), .str ⟨#[c]⟩])) { s with heap := h'', toks := tk + 1 } :=
      I.turnedNew (ch := [e, it]) (fun b ob hb q => (sb.2 b (fun z => hb (by simp [z]))).trans (hk b ob (fun z => hb (by simp [z])) (fun z => hb (by simp [z])) q)) hf (Nat.le_refl _) new
    refine ⟨.ref s.heap.objs.size, _, I1, rfl, ⟨_, c, rfl, I.hok.fresh (Nat.le_refl _), rfl, hc'⟩, ⟨⟨.str ⟨#[c]⟩ u, ?_⟩, ?_, hne⟩, fun b hb => ?_⟩
    · have e1 : ((i + 1 : Nat) : Int) = (i : Int) + 1 := by omega
      rw [e1]; exact he'
    · obtain ⟨o, ho2, r⟩ := hst'
      exact ⟨o, (sb.2 it (Ne.symm hne)).trans ho2, r⟩
    · have hb' : b < s.heap.objs.size := by
        have e' : b = e ∨ b = it := by simpa using hb
        rcases e' with z | z
        · rw [z]; exact hel
        · rw [z]; exact hil
      rw [upd_ne (Nat.ne_of_lt hb')]
      exact (hf b hb).1
  done := by
    intro X hP hw hK hc i pins s σ H E I hf st hg
    subst hP hw hK
    obtain ⟨⟨old, he⟩, hit, hne⟩ := st
    obtain ⟨f0, f1, f2, f3, f4, f5⟩ := hf it (by simp)
    have en : x.cps.size = i := hg
    exact wpAny_pyNext_enum_endD (Draws.text (A := X.A.in1) (I.ok.hd hc) it x t) he (by rw [en]; exact hit) fun h' eb => ⟨rfl, I.turned (t' := s.toks) (fun b o hb q => eb b o hb q) f0 f1 f3 f4 f5⟩
  self := fun A i s Q E st h => let ⟨⟨_, he⟩, _⟩ := st; wpAny_pyIter_enum he h
def iEnumS (ta : TA) : TI := fun σ H R => ta σ H fun vs H1 => ∃ x : Str, vs = [.str x] ∧ R (IteS x) H1
theorem pi_enumS {X : Cx} {e : Expr} {ta : TA} {p pos tpos : Pos} {elts : List Expr} {kk : Nat} (hg : Gl X "enumerate") (hm : X.mg "enumerate" = none) (ha : PA X [e] ta) (hs : starEach [e] X.env = [(false, eval e X.env)] := by rfl) :
    PI X (.Tuple elts kk tpos) (.Call (.Name "enumerate" p) [e] [] pos) (iEnumS ta) := by
  refine ⟨fun pins s σ H R I h => ?_⟩
  refine Call_ (ld_blt I hg hm boot_enumerate (PyProof.Rows.callWith_type1 (thn (ha.run pos pins s σ H _ I h) fun us s1 ⟨vs, H1, I1, r1, q1⟩ => ?_) hs rfl))
  obtain ⟨x, ex, q⟩ := q1
  subst ex
  cases r1 with
  | cons r rr =>
    cases rr
    obtain ⟨t, rfl⟩ := r
    refine call_enumerate_str fun h' he hit hsz hk => wpAny_pyIter_enum he ?_
    have I2 : Inv X pins σ H1 { s1 with heap := h' } := I1.kept (t' := s1.toks) hk
    refine ⟨s1.heap.objs.size + 1, [s1.heap.objs.size + 1, s1.heap.objs.size], _, _, H1, rfl, I2, turn_enumS (x := x) (t := t) (s1.heap.objs.size + 1) s1.heap.objs.size, ⟨⟨.none, he⟩, hit, Nat.succ_ne_self _⟩, fun b hb => ?_, q⟩
    have e' : b = s1.heap.objs.size + 1 ∨ b = s1.heap.objs.size := by simpa using hb
    have hle : s1.heap.objs.size ≤ b := by
      rcases e' with z | z
      · rw [z]; exact Nat.le_add_right _ _
      · rw [z]; exact Nat.le_refl _
    exact I1.fpOk hle (I1.hok.fresh hle)
theorem walk_enumS {x : Str} : Walk (IteS x) x.cps.size (fun _ => True) (YPair (fun i => some (.int (i : Nat))) (fun i => x.cps[i]?.map fun c => V.str ⟨#[c]⟩)) := by
  refine ⟨fun i _ hi _ => hi, fun _ _ => rfl, fun i H v H' _ q y => ?_⟩
  obtain ⟨T, c, h1, h2, h3, h4⟩ := y
  exact ⟨T, .int (i : Nat), .str ⟨#[c]⟩, h1, h2, h3, rfl, by show (x.cps[i]?).map _ = _; rw [h4]; rfl⟩
end Xen
set_option Elab.async false
set_option linter.all false
set_option maxRecDepth 100000
set_option maxHeartbeats 4000000
namespace K79
open PySem PySem.Spec PyProof.Rows L2
/-! ## defs that show things: promises where no showing is under way -/
structure Gn (P : Program) (w : World) (K : PySem.W.Frag) (mg : Str → Option Value) (base : Heap) (k : Nat) (f : Addr) (fd : FuncData) (ps : List Str) (sp : Sp) : Prop where
  many : ∀ vs H Q E, sp vs H Q E → vs.length = ps.length
  go : ∀ (A : Around) (outer : List Env) (s : Shared) (H : Hp) (args : Args) (us : List Value) (vs : List V) (Q : VK) (E : XK), A.guards = some [] → Room k A →
    Env0 P w K mg base A outer s H → BindsTo s fd args (ps.zip us) → Vals vs us → sp vs H Q E → codeAny (model P w) A (.call (.ref f) args) (CR CX0 outer P w H s Q E) s
section
variable {P : Program} {w : World} {K : PySem.W.Frag} {mg : Str → Option Value} {base : Heap}
theorem gn_body {x qual : Str} {st : Stmt} {f : Addr} {fd : FuncData} {N ps : List Str} {k : Nat} {sp : Sp} (F : Fun K x qual st f fd) (S : FnScope N ps (defScope st))
    (many : ∀ vs H Q E, sp vs H Q E → vs.length = ps.length)
    (body : ∀ (cdv : Value) (A : Around) (outer : List Env) (s : Shared) (H : Hp) (vs : List V) (Q : VK) (E : XK), A.guards = some [] →
      Room k (A.deeper (envOfC qual (defScope st) s.heap.objs.size f cdv)) → sp vs H Q E →
      ∃ t, PSs (cxOf CX0 P w K mg base N qual (defScope st) f cdv A outer s H E).nox (defBody st) t ∧ t { nx := fun _ H' => Q .non H', rt := Q } (start N vs) H) :
    Gn P w K mg base (k + 1) f fd ps sp := by
  obtain ⟨oc, od, kV, doc, pm, an, cdv, ct, osl, rfl, lk, hcd⟩ := F.ex
  refine ⟨many, fun A outer s H args us vs Q E hg room en bd rv hsp => ?_⟩
  have kin : K.In s.heap := en.mod.kin.keeps fun b o q => (en.bs b o q).1
  refine Att.call_fn kin (en.mod.nolimit.keeps fun b o q => (en.bs b o q).1) lk hcd room.depth bd ?_ (fun s1 inc => ?_) S.co S.gen S.kind
  · refine List.all_eq_true.mpr fun y hy => ?_
    rcases S.par y.1 (List.of_mem_zip (a := y.1) (b := y.2) hy).1 with q | q
    · rw [q]; rfl
    · rw [q]; rfl
  · obtain ⟨t, ht, hq⟩ := body cdv A outer s H vs Q E hg (room.deeper _) hsp
    have I := inv_start (CX := CX0) (E := E) S room.hd en (many _ _ _ _ hsp) rv inc
    refine wpAny_mono (ht.nox.run [] s1 _ H _ I hq) (fun fl s' hs => ?_) fun _ _ z => z
    cases fl with
    | ret u =>
      obtain ⟨v, _, H', J, r, q⟩ := hs
      exact ⟨v, H', J.os, J.bare, J.base, J.hok, r, q⟩
    | next =>
      obtain ⟨_, H', J, q⟩ := hs
      exact ⟨.non, H', J.os, J.bare, J.base, J.hok, rfl, q⟩
    | brk =>
      obtain ⟨_, _, _, z⟩ := hs
      exact False.elim z
    | cont =>
      obtain ⟨_, _, _, z⟩ := hs
      exact False.elim z
end
section
variable {X : Cx} {k : Nat} {f : Addr} {fd : FuncData} {ps : List Str} {sp : Sp} {x : Str} {p pos : Pos} {e : Expr} {es : List Expr} {t : TA}
theorem pe_gn (F : Gn X.prog X.w X.K X.mg X.base k f fd ps sp) (quiet : X.A.guards = some []) (room : Room k X.A) (gl : Gl X x) (mgf : X.mg x = some (.ref f))
    (kp : PySem.W.keepIn X.K (.ref f) = true) (bd : Binds X.K fd ps []) (ha : PA X (e :: es) t) (hdb : (x == ("__debug__" : Str)) = false := by decide)
    (he : starEach (e :: es) X.env = (false, eval e X.env) :: starEach es X.env := by rfl) (hpl : (backTo pos (starEach es X.env)).any (·.1) = false := by rfl) :
    PE X (.Call (.Name x p) (e :: es) [] pos) (tCall sp [] E0 t) := by
  refine ⟨fun pins s σ H Q I h => wpAny_Call_Name_kw (ld_glob I gl mgf ?_ hdb)⟩
  refine PySem.W.callWith_K (h₀ := X.base) I.ok.mod.kin kp ?_ he hpl
  refine thn (ha.run pos pins s σ H _ I h) fun us s1 z => ?_
  obtain ⟨vs, H1, I1, rv, q⟩ := z
  have q' : sp vs H1 Q E0 := by
    have z := q
    rw [List.append_nil] at z
    exact z
  have many : us.length = ps.length := rv.length.symm.trans (F.many _ _ _ _ q')
  have b1 := bd s1 us I1.kIn (by rw [List.append_nil]; exact many)
  rw [List.append_nil] at b1
  refine ⟨I1.kIn, wpAny_call (codeAny_mono (F.go X.A X.stack s1 H1 ⟨us, []⟩ us vs Q E0 quiet room I1.env0 b1 rv q') fun r s' hr => ?_)⟩
  cases r with
  | error z => exact False.elim hr
  | ok fl =>
    cases fl with
    | ret u => exact I1.after hr
    | next => exact False.elim hr
    | brk => exact False.elim hr
    | cont => exact False.elim hr
/-- repr of data at any depth -/
theorem cr_reprD (quiet : X.A.guards = some []) (room : Room k X.A) : CallR X (.builtin "repr") (fun xs H Q => ∃ (a : Addr) (d : PyData), xs = [.ref a] ∧ Dp X.K H (.ref a) d ∧ d.showable = true ∧ d.hasDict = false ∧
    d.depth ≤ 50 ∧ d.shown.length ≤ sizeLine ∧ Q (.str d.shown) H) := by
  intro pins s σ H xs us Q I r h
  obtain ⟨a, d, rfl, hd, hs, hn, hp, hz, q⟩ := h
  obtain ⟨u, rfl, rx⟩ := vals1 r
  obtain ⟨as, rd⟩ := Dp.reads I d _ u hd rx
  cases rx
  have hu := room.units
  exact repr_of_reads' rd hs (fun z => absurd (hn.symm.trans z) Bool.false_ne_true) quiet (by omega) (fun _ _ z => z) (fun h' u tk kept => ⟨.str d.shown, H, I.kept kept, ⟨u, rfl⟩, q⟩) hz
theorem cr_repr_bl : CallR X (.builtin "repr") (fun xs H Q => ∃ b : Bool, xs = [.bl b] ∧ Q (.str (if b then "True" else "False")) H) := by
  intro pins s σ H xs us Q I r h
  obtain ⟨b, rfl, q⟩ := h
  obtain ⟨u, rfl, rx⟩ := vals1 r
  cases rx
  exact PySem.P.repr_of_bool ⟨.str _, H, I.tok _, ⟨_, rfl⟩, q⟩
end
end K79
set_option Elab.async false
set_option linter.all false
set_option maxRecDepth 100000
set_option maxHeartbeats 4000000
namespace K79
open PySem PySem.Spec PyProof.Rows L2
theorem law_go {P : Program} {w : World} {K : PySem.W.Frag} {mg mb : Str → Option Value} {k : Nat} {fa a : Addr} {fd : FuncData} {x : Str} {sp : Sp} {z : Shared} {vs : List Value} {ns : List Int}
    (kin : K.In z.heap) (nsG : z.heap.Ns mainGlobals mg) (nsB : z.heap.Ns builtinsNs mb) (same : ∀ y : Str, y ≠ "__name__" → mb y = bootBuiltins y) (lim : z.heap.NoLimit) (dig : z.heap.NoDigits) (no : z.gens = #[])
    (at_ : z.heap.get? a = some { cls := .type "list", data := .seq vs.toArray }) (intsA : IntsAre vs ns) (many : ns.length ≤ sizeLine) (room : Room k callerA)
    (F : ∀ base : Heap, K.In base → base.Ns mainGlobals mg → base.NoDigits → Gn P w K mg base k fa fd [x] sp) (bind : ∀ (s : Shared) (u : Value), BindsTo s fd ⟨[u], []⟩ [(x, u)])
    (hsp : ∀ H : Hp, SqL K H a (ns.map V.int) → sp [.ref a] H (fun v _ => v = .bl true) fun _ _ _ => False) :
    codeAny (model P w) callerA (.call (.ref fa) ⟨[.ref a], []⟩) (fun r s' => r = .ok (.ret (.bool true)) ∧ OldK z.heap s'.heap ∧ s'.os = z.os ∧ AllBare s'.gens) z := by
  have rv : Vals (ns.map V.int) vs := vals_ints intsA
  have sz : (ns.map V.int).length ≤ sizeLine := by rw [List.length_map]; exact many
  -- what is tracked: the script, unless it is the module's own
  let u : HO := .frz { cls := .type "list", data := .seq vs.toArray } (.lst (ns.map V.int))
  let H : Hp := fun b => if b = a ∧ K.lookup a = none then some u else none
  have only : ∀ b o, H b = some o → b = a ∧ K.lookup a = none ∧ o = u := fun b o e => by
    by_cases c : b = a ∧ K.lookup a = none
    · have e2 : H b = some u := if_pos c
      rw [e2] at e
      exact ⟨c.1, c.2, (Option.some.inj e).symm⟩
    · have e2 : H b = none := if_neg c
      rw [e2] at e
      cases e
  have sq : SqL K H a (ns.map V.int) := by
    cases hk : K.lookup a with
    | none => exact .inl (.inr ⟨_, if_pos ⟨rfl, hk⟩⟩)
    | some o =>
      have e := kin a o hk
      rw [at_] at e
      cases e
      exact .inr ⟨_, vs.toArray, _, hk, rfl, rfl, rfl, by rw [List.size_toArray, ← rv.length]; exact sz, by simpa using rv⟩
  have hok : HOk P w H z.heap := fun b o e => by
    obtain ⟨rfl, _, rfl⟩ := only b o e
    exact ⟨at_, sz, vs, _, rv, at_⟩
  have dictFree : ∀ {b : Addr} {o : Obj} {es : Array DictEntry} {ep : Nat}, z.heap.get? b = some o → o.data = .dict es ep → H b = none := fun {b o es ep} e d => by
    cases q : H b with
    | none => rfl
    | some v =>
      obtain ⟨rfl, _, _⟩ := only b v q
      rw [at_] at e
      cases e
      cases (show Data.seq vs.toArray _ = Data.dict es ep from d)
  have nsK : ∀ {b : Addr} {m : Str → Option Value}, z.heap.Ns b m → (hidT z.heap H).Ns b m := fun {b m} q => by
    obtain ⟨o, es, ep, e, d, r⟩ := q
    exact ⟨o, es, ep, hidT_get e (dictFree e d), d, r⟩
  have kb : K.In (hidT z.heap H) := fun b o e => by
    refine hidT_get (kin b o e) ?_
    cases q : H b with
    | none => rfl
    | some v =>
      obtain ⟨rfl, n, _⟩ := only b v q
      rw [n] at e
      cases e
  have limB : (hidT z.heap H).NoLimit := by
    obtain ⟨mc, h1, h2⟩ := lim
    exact ⟨mc, nsK h1, h2⟩
  have digB : (hidT z.heap H).NoDigits := by
    obtain ⟨mc, h1, h2⟩ := dig
    exact ⟨mc, nsK h1, h2⟩
  have en : Env0 P w K mg (hidT z.heap H) callerA [] z H :=
    ⟨rfl, ⟨kb, nsK nsG, ⟨mb, nsK nsB, same⟩, limB⟩, fun _ _ e => of_hidT e, Nat.le_of_eq (hidT_size _ _), trivial, (fun b hb => absurd (show b ∈ ([] : List Addr) from hb) List.not_mem_nil), hok, .of_eq no⟩
  refine codeAny_mono ((F _ kb (nsK nsG) digB).go callerA [] z H ⟨[.ref a], []⟩ [.ref a] [.ref a] _ _ rfl room en (bind z (.ref a)) (.cons rfl .nil) (hsp H sq)) fun r s' h => ?_
  match r, h with
  | .error e, h => exact False.elim h
  | .ok .next, h => exact False.elim h
  | .ok .brk, h => exact False.elim h
  | .ok .cont, h => exact False.elim h
  | .ok (.ret y), h =>
    obtain ⟨v, H', os, bare, un, hok', r', q⟩ := h
    obtain rfl : v = .bl true := q
    obtain rfl : y = Value.bool true := r'
    refine ⟨rfl, OldK.of_keep fun b o e => ?_, os, bare⟩
    cases q : H b with
    | none => exact un.keep b o e q (fun y => by cases y) (fun y => by cases y)
    | some v =>
      obtain ⟨rfl, _, rfl⟩ := only b v q
      have e2 := (hok' _ _ (un.frzs _ _ _ q)).1
      rw [at_] at e
      cases e
      exact e2
theorem walk_go {l : PySem.W.OpenLaw} {n k : Nat} {q : Program} {loose : List Str} {XP : (Str → Option Value) → Heap → Prop} {YP : World → Heap → Prop} {d : DefRec} {K : Params → PySem.W.Frag} {sp : PySem.W.Frag → Sp} {x : Str}
    (most : l.most = some n) (small : n ≤ sizeLine) (nodef : d.params.defaults = []) (room : Room k callerA) (hY : ∀ (w : World) (h : Heap), YP w h → (K w.params).In h)
    (F : ∀ (w : World) (mg : Str → Option Value) (fa : Addr) (h : Heap), (K w.params).In h → h.Ns mainGlobals mg → mg d.name = some (.ref fa) →
      ∃ fd : FuncData, (∀ (s : Shared) (u : Value), BindsTo s fd ⟨[u], []⟩ [(x, u)]) ∧ ∀ base : Heap, (K w.params).In base → base.Ns mainGlobals mg → base.NoDigits →
        Gn l.prog w (K w.params) mg base k fa fd [x] (sp (K w.params)))
    (hsp : ∀ (K : PySem.W.Frag) (H : Hp) (a : Addr) (ns : List Int), ns.length ≤ n → SqL K H a (ns.map V.int) → sp K [.ref a] H (fun v _ => v = .bl true) fun _ _ _ => False) :
    PySem.W.WalkO q loose XP YP l.row.toRowW d [] (fun f vs => PySem.call f vs) := by
  refine Att.attach_call most nodef fun w s₀ s₁ mg mb fa o pm cd doc a vs ns G Y _ _ _ hmg hobj hints hlen hg => ?_
  have kin := hY w _ Y
  obtain ⟨fd, hb, hF⟩ := F w mg fa _ kin G.T.g hmg
  exact law_go kin G.T.g G.T.b G.T.builtins G.T.nolimit G.T.nodigits hg hobj hints (Nat.le_trans hlen small) room hF hb fun H hS => hsp _ H a ns hlen hS
end K79
set_option Elab.async false
set_option linter.all false
set_option maxRecDepth 100000
set_option maxHeartbeats 4000000
set_option pp.maxSteps 400
set_option pp.deepTerms false
namespace K79
open PySem PySem.Spec PyProof.Rows L2
/-! ## == by a class's own __eq__, either way about -/
/-- what the written part says of the class -/
structure OwnC (K : PySem.W.Frag) (C f : Addr) : Prop where
  eq : PySem.W.findIn K (.ref C) "__eq__" = some (some (.ref f))
  fn : PySem.W.isFn K (.ref f) = true
  ne : PySem.W.findIn K (.ref C) "__ne__" = some (some (.builtin "object.__ne__"))
  mo : PySem.W.mroIn K C (.type "object") = some true
  sInt : PySem.W.subIn K (.ref C) (.type "int") = some false
  sStr : PySem.W.subIn K (.ref C) (.type "str") = some false
  sNon : PySem.W.subIn K (.ref C) (.type "NoneType") = some false
  sTup : PySem.W.subIn K (.ref C) (.type "tuple") = some false
  sLst : PySem.W.subIn K (.ref C) (.type "list") = some false
section
variable {X : Cx} {pins : List (Addr × Obj)} {σ : L2.St} {H : Hp} {n : Nat} {f C : Addr} {fd : FuncData} {ps : List Str} {sp : Sp}
/-- the end of such a comparison: a truth -/
def BP (X : Cx) (pins : List (Addr × Obj)) (σ : L2.St) (Q : Bool → Hp → Prop) (u : Value) (s' : Shared) : Prop := ∃ b H', u = .bool b ∧ Inv X pins σ H' s' ∧ Q b H'
theorem own_call {A : Around} {s : Shared} {a : Addr} {y : V} {v : Value} {Q : Bool → Hp → Prop} {E : Value → Shared → Prop} (fr : A.frames = some X.stack) (room : Room n A) (F : FnOk X.prog X.w X.K X.mg X.base CX0 n f fd ps sp) (bd : Binds X.K fd ps [])
    (I : Inv X pins σ H s) (rv : RelV y v) (hsp : sp [.ref a, y] H (fun z H' => ∃ b, z = .bl b ∧ Q b H') E0) : wpAny (model X.prog X.w) A (call (.ref f) [.ref a, v]) (BP X pins σ Q) E s := by
  have en : Env0 X.prog X.w X.K X.mg X.base A X.stack s H := by
    have z := I.env0
    exact ⟨fr, z.mod, z.bs, z.bsz, z.funs, z.frf, z.hok, z.bare⟩
  have hl : [V.ref a, y].length = ps.length := F.len _ _ _ _ hsp
  have b1 := bd s [.ref a, v] I.kIn (by simpa using hl)
  rw [List.append_nil] at b1
  refine wpAny_call (codeAny_mono (F.run A X.stack s H ⟨[.ref a, v], []⟩ [.ref a, v] [.ref a, y] _ E0 room en b1 (.cons rfl (.cons rv .nil)) hsp) fun r s2 hr => ?_)
  match r, hr with
  | .error z, hr => exact False.elim hr
  | .ok .next, hr => exact False.elim hr
  | .ok .brk, hr => exact False.elim hr
  | .ok .cont, hr => exact False.elim hr
  | .ok (.ret u), hr =>
    obtain ⟨z, H2, I2, rz, b, rfl, q⟩ := I.after hr
    cases rz
    exact ⟨b, H2, rfl, I2, q⟩
theorem rc_L {A : Around} {s : Shared} {a dx : Addr} {fs : List (Str × V)} {y : V} {v tb : Value} {Q : Bool → Hp → Prop} {E : Value → Shared → Prop} (W : OwnC X.K C f) (fr : A.frames = some X.stack) (room : Room n A)
    (F : FnOk X.prog X.w X.K X.mg X.base CX0 n f fd ps sp) (bd : Binds X.K fd ps []) (I : Inv X pins σ H s) (ha : H a = some (.ins C dx fs)) (rv : RelV y v) (hb : PySem.W.Looks (model X.prog X.w) s.heap (typeOf v) tb)
    (nf : PySem.W.notFirst X.K C tb = true) (hsp : sp [.ref a, y] H (fun z H' => ∃ b, z = .bl b ∧ Q b H') E0) : wpAny (model X.prog X.w) A (richCompare .Eq (.ref a) v) (BP X pins σ Q) E s := by
  obtain ⟨mA, J, _⟩ := ins_get I.hok ha
  obtain ⟨od, J, _⟩ := J.look
  obtain ⟨m, hF⟩ := I.fr
  refine PySem.W.cmp_K (op := .Eq) room.units0 hF I.ok.mod.kin J hb nf W.eq W.fn (wpAny_mono (own_call fr room F bd I rv hsp) (fun u s' hu => ?_) fun _ _ z => z)
  obtain ⟨b, H', rfl, I', q⟩ := hu
  exact ⟨b, H', rfl, I', q⟩
/-- a builtin's own == has no answer, then the class's own is asked -/
theorem rc_R {A : Around} {s : Shared} {a dx : Addr} {fs : List (Str × V)} {y : V} {v : Value} {T id : String} {Q : Bool → Hp → Prop} {E : Value → Shared → Prop} (W : OwnC X.K C f) (fr : A.frames = some X.stack) (room : Room n A)
    (F : FnOk X.prog X.w X.K X.mg X.base CX0 n f fd ps sp) (bd : Binds X.K fd ps []) (I : Inv X pins σ H s) (ha : H a = some (.ins C dx fs)) (rv : RelV y v) (hT : s.TypeIs v T) (one : oneThing? .Eq v (.ref a) = none)
    (sub : PySem.W.subIn X.K (.ref C) (.type T) = some false) (slot : Slot T "__eq__" id) (dec : ∀ E', wpAny (model X.prog X.w) A (call (.builtin id) [v, .ref a]) (fun u s' => u = .notImplemented ∧ s' = s) E' s)
    (hsp : sp [.ref a, y] H (fun z H' => ∃ b, z = .bl b ∧ Q b H') E0) : wpAny (model X.prog X.w) A (richCompare .Eq v (.ref a)) (BP X pins σ Q) E s := by
  obtain ⟨mA, J, _⟩ := ins_get I.hok ha
  obtain ⟨od, J, _⟩ := J.look
  have two : wpAny (model X.prog X.w) A (tryCompare (.ref a) "__eq__" v) (fun r s' => ∃ u, r = some u ∧ BP X pins σ Q u s') E s := by
    unfold tryCompare
    refine wpAny_bind (PySem.W.ifBound_K I.kIn J W.eq W.fn (wpAny_mono (own_call fr room F bd I rv hsp) (fun u s' hu => ?_) fun _ _ z => z))
    obtain ⟨b, H', rfl, I', q⟩ := hu
    exact wpAny_pure ⟨_, rfl, b, H', rfl, I', q⟩
  have first : wpAny (model X.prog X.w) A (tryCompare v "__eq__" (.ref a)) (fun r s' => r = none ∧ s' = s) E s :=
    wpAny_tryCompare_declines hT slot (wpAny_mono (dec E) (fun u s' z => ⟨z.1, rfl, z.2⟩) fun _ _ z => z)
  simp only [richCompare, cmpInfo_Eq, one]
  refine wpAny_holding (wpAny_bind (wpAny_cRoomFor room.units0 ?_))
  refine wpAny_bind (wpAny_typeOf hT (wpAny_bind (J.type.here ?_)))
  split
  · refine wpAny_bind ((PySem.W.looks_subIn I.kIn sub).here ?_)
    simp only [Bool.false_eq_true, if_false, Bool.not_false, if_true]
    refine wpAny_bind (m := tryCompare v _ (.ref a)) (wpAny_mono first (fun r s1 z => ?_) fun _ _ e => e)
    obtain ⟨z1, z2⟩ := z
    subst z1
    subst z2
    refine wpAny_bind (m := tryCompare (.ref a) _ v) (wpAny_mono two (fun r s2 z => ?_) fun _ _ e => e)
    obtain ⟨u, rfl, q⟩ := z
    exact wpAny_pure q
  · rename_i q
    exact absurd (by simp) q
end
end K79
set_option Elab.async false
set_option linter.all false
set_option maxRecDepth 100000
set_option maxHeartbeats 4000000
set_option pp.maxSteps 400
set_option pp.deepTerms false
namespace K79
open PySem PySem.Spec PyProof.Rows L2
section
variable {prog : Program} {w : World} {A : Around} {E : Value → Shared → Prop} {s : Shared} {a C dx : Addr} {K : PySem.W.Frag} {ox : Obj} {od : Option Obj}
theorem dec_none : wpAny (model prog w) A (call (.builtin "NoneType.__eq__") [.none, .ref a]) (fun u s' => u = .notImplemented ∧ s' = s) E s := by
  refine GQ.call_here F.slot_NoneType_eq (T := "NoneType") rfl F.entry_NoneType_eq (F.args_NoneType_eq_2 _ _) ?_
  wp_walk
  exact ⟨rfl, rfl⟩
theorem dec_int {i : Int} {t : Tok} (ho : s.heap.get? a = some (PySem.W.instObj C dx)) : wpAny (model prog w) A (call (.builtin "int.__eq__") [.int i t, .ref a]) (fun u s' => u = .notImplemented ∧ s' = s) E s := by
  refine GQ.call_here F.slot_int_eq (typeIs_int _ _ _) F.entry_int_eq (F.args_int_eq_2 _ _) ?_
  wp_walk using wpAny_load ho
  exact ⟨rfl, rfl⟩
theorem dec_str {i : Str} {t : Tok} (ho : s.heap.get? a = some (PySem.W.instObj C dx)) : wpAny (model prog w) A (call (.builtin "str.__eq__") [.str i t, .ref a]) (fun u s' => u = .notImplemented ∧ s' = s) E s := by
  refine GQ.call_here F.slot_str_eq (typeIs_str _ _ _) F.entry_str_eq (F.args_str_eq_2 _ _) ?_
  wp_walk using wpAny_load ho
  exact ⟨rfl, rfl⟩
theorem isi_no {T : String} {Q : Bool → Shared → Prop} (J : PySem.W.InstAt s.heap a ox C od) (kin : K.In s.heap) (sub : PySem.W.subIn K (.ref C) (.type T) = some false) (h : Q false s) : wpAny (model prog w) A (isInstance (.ref a) (.type T)) Q E s := by
  unfold isInstance
  exact wpAny_bind (J.type.here ((PySem.W.looks_subIn kin sub).here h))
theorem dec_tup {t : Addr} (hT : s.TypeIs (.ref t) "tuple") (J : PySem.W.InstAt s.heap a ox C od) (kin : K.In s.heap) (sub : PySem.W.subIn K (.ref C) (.type "tuple") = some false) :
    wpAny (model prog w) A (call (.builtin "tuple.__eq__") [.ref t, .ref a]) (fun u s' => u = .notImplemented ∧ s' = s) E s := by
  refine GQ.call_here F.slot_tuple_eq hT F.entry_tuple_eq (F.args_tuple_eq_2 _ _) ?_
  wp_walk using isi_no J kin sub
  exact ⟨rfl, rfl⟩
theorem dec_lst {t : Addr} (hT : s.TypeIs (.ref t) "list") (J : PySem.W.InstAt s.heap a ox C od) (kin : K.In s.heap) (sub : PySem.W.subIn K (.ref C) (.type "list") = some false) :
    wpAny (model prog w) A (call (.builtin "list.__eq__") [.ref t, .ref a]) (fun u s' => u = .notImplemented ∧ s' = s) E s := by
  refine GQ.call_here F.slot_list_eq hT F.entry_list_eq (F.args_list_eq_2 _ _) ?_
  wp_walk using isi_no J kin sub
  exact ⟨rfl, rfl⟩
end
section
variable {X : Cx} {pins : List (Addr × Obj)} {σ : L2.St} {H : Hp} {n : Nat} {f C : Addr} {fd : FuncData} {ps : List Str} {sp : Sp}
/-- != of two instances -/
theorem rc_N {A : Around} {s : Shared} {a dx : Addr} {fs : List (Str × V)} {y : V} {v tb : Value} {Q : Bool → Hp → Prop} {E : Value → Shared → Prop} (W : OwnC X.K C f) (fr : A.frames = some X.stack) (room : Room (n + 1) A)
    (F : FnOk X.prog X.w X.K X.mg X.base CX0 n f fd ps sp) (bd : Binds X.K fd ps []) (I : Inv X pins σ H s) (ha : H a = some (.ins C dx fs)) (rv : RelV y v) (hb : PySem.W.Looks (model X.prog X.w) s.heap (typeOf v) tb)
    (nf : PySem.W.notFirst X.K C tb = true) (hsp : sp [.ref a, y] H (fun z H' => ∃ b, z = .bl b ∧ Q (!b) H') E0) : wpAny (model X.prog X.w) A (richCompare .NotEq (.ref a) v) (BP X pins σ Q) E s := by
  obtain ⟨mA, J, _⟩ := ins_get I.hok ha
  obtain ⟨od, J, _⟩ := J.look
  have inner : wpAny (model X.prog X.w) A.in1 (Builtin.«object.__ne__» ⟨[.ref a, v], []⟩) (fun fl s' => ∃ u, fl = .done (.ret u) ∧ u ≠ .notImplemented ∧ BP X pins σ Q u s') E s := by
    unfold Builtin.«object.__ne__»
    refine wpAny_bind (m := slotArgs "__ne__" 1 _) (wpAny_pure ?_)
    dsimp only
    refine wpAny_bind (wpAny_cRoomFor room.in1.units0 ?_)
    refine wpAny_bind (PySem.W.ifBound_K I.kIn J W.eq W.fn (wpAny_mono (own_call (A := A.in1) fr room.in1 F bd I rv hsp) (fun u s' hu => ?_) fun _ _ z => z))
    obtain ⟨b, H', rfl, I', q⟩ := hu
    dsimp only
    refine wpAny_bind (m := truthy (.bool b)) (wpAny_truthy_bool ?_)
    exact wpAny_pure ⟨_, rfl, by simp, !b, H', rfl, I', q⟩
  have call_ : wpAny (model X.prog X.w) A (call (.builtin "object.__ne__") [.ref a, v]) (fun u s' => u ≠ .notImplemented ∧ BP X pins σ Q u s') E s := by
    refine wpAny_call (codeAny_call_builtin PySem.F.cmp_object.ne.plain PySem.F.cmpEntry_ne (PySem.W.check_slot PySem.F.cmpKind_ne PySem.F.cmpSplit_ne (J.type.andThen (PySem.W.looks_mroIn I.kIn W.mo)) (PySem.F.cmpArgs_ne _ _) (wpAny_mono inner (fun fl s' z => ?_) fun _ _ z => z)))
    obtain ⟨u, rfl, z1, z2⟩ := z
    exact ⟨z1, z2⟩
  have one : wpAny (model X.prog X.w) A (tryCompare (.ref a) "__ne__" v) (fun r s' => ∃ u, r = some u ∧ BP X pins σ Q u s') E s := by
    unfold tryCompare
    refine wpAny_bind ?_
    simp only [callSpecialIfBound?, bindSpecialIfBound?]
    refine wpAny_holding (wpAny_bind (wpAny_bind (wpAny_bind (J.type.here ((PySem.W.looks_findIn I.kIn W.ne).here ?_)))))
    refine wpAny_bind (wpAny_askSetting (wpAny_ite ?_))
    have fin : wpAny (model X.prog X.w) A (call (.builtin "object.__ne__") ([.ref a] ++ [v]) >>= fun z => pure (some z)) (fun r s1 => wpAny (model X.prog X.w) A (match r with
        | some .notImplemented => pure none
        | none => pure none
        | some z => pure (some z)) (fun r s' => ∃ u, r = some u ∧ BP X pins σ Q u s') E s1) E s := by
      refine wpAny_bind (wpAny_mono call_ (fun u s' z => wpAny_pure ?_) fun _ _ z => z)
      obtain ⟨z1, b, H', rfl, z2⟩ := z
      exact wpAny_pure ⟨_, rfl, b, H', rfl, z2⟩
    split
    · exact wpAny_bind (wpAny_of_eq (PySem.F.cmp_object.ne.bind _) (wpAny_pure (by exact fin)))
    · exact wpAny_tryCatch (wpAny_bind (wpAny_of_eq (PySem.F.cmp_object.ne.bind _) (wpAny_pure (by exact fin))))
  unfold richCompare
  simp only [oneThing_ref]
  refine wpAny_holding (wpAny_bind (wpAny_cRoomFor room.units0 ?_))
  refine wpAny_bind (J.type.here (wpAny_bind (hb.here ?_)))
  split
  · rename_i d
    have no : PySem.W.subIn X.K tb (.ref C) = some false := by
      rcases Bool.or_eq_true_iff.mp nf with z | z
      · rw [beq_iff_eq.mp z] at d
        simp at d
      · exact beq_iff_eq.mp z
    refine wpAny_bind ((PySem.W.looks_subIn I.kIn no).here ?_)
    simp only [Bool.false_eq_true, if_false]
    refine wpAny_bind (m := tryCompare (.ref a) _ v) (wpAny_mono one (fun r s' z => ?_) fun _ _ z => z)
    obtain ⟨u, rfl, q⟩ := z
    exact wpAny_pure q
  · refine wpAny_bind (wpAny_pure ?_)
    simp only [Bool.false_eq_true, if_false]
    refine wpAny_bind (m := tryCompare (.ref a) _ v) (wpAny_mono one (fun r s' z => ?_) fun _ _ z => z)
    obtain ⟨u, rfl, q⟩ := z
    exact wpAny_pure q
end
end K79
set_option Elab.async false
set_option linter.all false
set_option maxRecDepth 100000
set_option maxHeartbeats 4000000
set_option pp.maxSteps 400
set_option pp.deepTerms false
namespace K79
open PySem PySem.Spec PyProof.Rows L2
open AutoSeq1 (wpAny_loadPart')
section
variable {prog : Program} {w : World} {A : Around}
theorem in_loop {l x : Addr} {as : List Addr} {e : Addr → Bool} {J : Nat → Shared → Prop} {Y : Shared → Prop} {R : Result → Shared → Prop} (hl : ∀ i s, J i s → ∃ n, s.heap.get? l = some { cls := .type "list", data := .seq (as.map Value.ref).toArray n })
    (turn : ∀ i c s, as[i]? = some c → J i s → wpAny (model prog w) A.in1 (eqBool (.ref c) (.ref x)) (fun r s' => r = e c ∧ (e c = true → Y s') ∧ (e c = false → J (i + 1) s')) (fun z s' => R (.error z) s') s)
    (yes : ∀ s, Y s → R (.ok (.ret (.bool true))) s) (no : ∀ s, J as.length s → R (.ok (.ret (.bool false))) s) (k : Nat) :
    ∀ i : Nat, as.length - i = k → i ≤ as.length → ∀ s, J i s → wpAny (model prog w) A.in1 (Builtin.«list.__contains__.loop» ⟨[.ref l, .ref x, rawInt i], []⟩) (GQ.FinOf prog w A R) (fun z s' => R (.error z) s') s := by
  induction k with
  | zero =>
    intro i hk hi s h
    obtain ⟨n, e1⟩ := hl i s h
    have he : i = as.length := by omega
    have fin := no s (he ▸ h)
    obtain ⟨hp, g, d, tk, os⟩ := s
    wp_walk using wpAny_loadPart' e1
    have none_ : (as.map Value.ref).toArray[((i : Nat) : Int).toNat]? = none := by simp; omega
    rw [none_]
    wp_walk
    exact fin
  | succ k ih =>
    intro i hk hi s h
    obtain ⟨n, e1⟩ := hl i s h
    have lt : i < as.length := by omega
    have ht := turn i as[i] s (List.getElem?_eq_getElem lt) h
    obtain ⟨hp, g, d, tk, os⟩ := s
    wp_walk using wpAny_loadPart' e1
    have some_ : (as.map Value.ref).toArray[((i : Nat) : Int).toNat]? = some (.ref as[i]) := by simp [lt]
    have hc : ((i : Int) + 1) = ((i + 1 : Nat) : Int) := by omega
    rw [some_]
    refine wpAny_bind (wpAny_mono ht (fun r s2 h2 => ?_) fun _ _ z => z)
    obtain ⟨hr, h3, h4⟩ := h2
    subst hr
    cases hb : e as[i] with
    | true =>
      have y2 := yes s2 (h3 hb)
      obtain ⟨hp2, g2, d2, tk2, os2⟩ := s2
      wp_walk
      exact y2
    | false =>
      have rec_ := ih (i + 1) (by omega) (by omega) s2 (h4 hb)
      obtain ⟨hp2, g2, d2, tk2, os2⟩ := s2
      wp_walk
      rw [hc]
      exact ⟨plainId_quiet MeetsSeq.plain_contains_loop _, codeAny_builtin MeetsSeq.entry_contains_loop (by
        rw [Around.under_plainId MeetsSeq.plain_contains_loop _]
        exact rec_)⟩
end
section
variable {X : Cx} {n : Nat} {f C : Addr} {fd : FuncData} {ps : List Str} {sp : Sp}
/-- what is asked of the items and of what is looked for -/
structure InD (sp : Sp) (C : Addr) (H : Hp) (a l : Addr) (as : List Addr) (e : Addr → Bool) : Prop where
  ha : ∃ dx fs, H a = some (.ins C dx fs)
  hl : H l = some (.lst (as.map V.ref))
  ne : ∀ c ∈ as, c ≠ a
  it : ∀ c ∈ as, ∃ dx fs, H c = some (.ins C dx fs)
  ask : ∀ c ∈ as, ∀ (H' : Hp) (Q : Bool → Hp → Prop), Same H H' → (∀ H2, Same H' H2 → Q (e c) H2) → sp [.ref c, .ref a] H' (fun z H2 => ∃ b, z = .bl b ∧ Q b H2) E0
theorem as_ref : ∀ {as : List Addr} {its : List Value}, Vals (as.map V.ref) its → its = as.map Value.ref
  | [], _, .nil => rfl
  | a :: as, _, .cons r t => by
    cases r
    rw [as_ref t]
    rfl
theorem contains_own (W : OwnC X.K C f) (room : Room (n + 2) X.A) (F : FnOk X.prog X.w X.K X.mg X.base CX0 n f fd ps sp) (bd : Binds X.K fd ps []) {pins : List (Addr × Obj)} {σ : L2.St} {H : Hp} {s : Shared} {a l : Addr} {as : List Addr} {e : Addr → Bool}
    {E : Value → Shared → Prop} {Q : Bool → Shared → Prop} (I : Inv X pins σ H s) (d : InD sp C H a l as e) (q : ∀ H' s', Inv X pins σ H' s' → Same H H' → Q (as.any e) s') :
    wpAny (model X.prog X.w) X.A (call (.builtin "list.__contains__") [.ref l, .ref a]) (fun u s' => ∃ b, u = .bool b ∧ Q b s') E s := by
  have at_ : ∀ {s' : Shared} {H' : Hp}, Inv X pins σ H' s' → Same H H' → ∃ n, s'.heap.get? l = some { cls := .type "list", data := .seq (as.map Value.ref).toArray n } := fun {s' H'} I' sm => by
    obtain ⟨_, its, m, r, e1⟩ := I'.hok l _ (sm _ _ d.hl)
    rw [as_ref r] at e1
    exact ⟨m, e1⟩
  obtain ⟨m0, e0⟩ := at_ I (Same.refl H)
  refine GQ.call_here PySem.F.slot_list_contains ⟨_, e0, rfl⟩ PySem.F.entry_list_contains (PySem.F.args_list_contains_2 _ _) ?_
  have loop := in_loop (prog := X.prog) (w := X.w) (A := X.A) (l := l) (x := a) (as := as) (e := e) (J := fun i s' => ∃ H', Inv X pins σ H' s' ∧ Same H H' ∧ (as.take i).any e = false) (Y := fun s' => ∃ H', Inv X pins σ H' s' ∧ Same H H' ∧ as.any e = true)
    (R := wants (fun u s' => ∃ b, u = .bool b ∧ Q b s') E) (fun i s' z => by
      obtain ⟨H', I', sm, _⟩ := z
      exact at_ I' sm) (fun i c s' hc z => ?_) (fun s' z => ?_) (fun s' z => ?_) as.length 0 (by omega) (Nat.zero_le _) s ⟨H, I, Same.refl H, by simp⟩
  · obtain ⟨hp, g, dd, tk, os⟩ := s
    wp_walk using wpAny_loadPart' e0
    exact ⟨plainId_quiet MeetsSeq.plain_contains_loop _, codeAny_builtin MeetsSeq.entry_contains_loop (by
      rw [Around.under_plainId MeetsSeq.plain_contains_loop _]
      exact loop)⟩
  · obtain ⟨H', I', sm, no⟩ := z
    have cm : c ∈ as := List.mem_of_getElem? hc
    obtain ⟨dx, fs, ec⟩ := d.it c cm
    obtain ⟨dxa, fsa, ea⟩ := d.ha
    obtain ⟨mB, JB, _⟩ := ins_get I'.hok (sm _ _ ea)
    obtain ⟨oB, JB, _⟩ := JB.look
    refine GQ.eqBool_refG (d.ne c cm) (wpAny_mono (rc_L (A := X.A.in1) (n := n) W (by show X.A.frames = some X.stack; exact I.ok.frames) (room.in1.mono (Nat.le_succ _)) F bd I' (sm _ _ ec) (y := .ref a) rfl JB.type (by simp [PySem.W.notFirst])
      (d.ask c cm H' (fun b H2 => b = e c ∧ Same H' H2) sm fun H2 s2 => ⟨rfl, s2⟩)) (fun u s2 hu => ?_) fun _ _ z => z)
    obtain ⟨b, H2, rfl, I2, rfl, s2⟩ := hu
    refine ⟨_, rfl, rfl, fun y => ⟨H2, I2, sm.trans s2, List.any_eq_true.mpr ⟨c, cm, y⟩⟩, fun y => ⟨H2, I2, sm.trans s2, ?_⟩⟩
    rw [List.take_add_one, hc, List.any_append, no]
    simp [y]
  · obtain ⟨H', I', sm, y⟩ := z
    refine ⟨true, rfl, ?_⟩
    have r := q H' s' I' sm
    rw [y] at r
    exact r
  · obtain ⟨H', I', sm, y⟩ := z
    rw [List.take_length] at y
    refine ⟨false, rfl, ?_⟩
    have r := q H' s' I' sm
    rw [y] at r
    exact r
def rInO (sp : Sp) (C : Addr) (neg : Bool) : R2 := fun x y H Q => ∃ (a l : Addr) (as : List Addr) (e : Addr → Bool), x = .ref a ∧ y = .ref l ∧ InD sp C H a l as e ∧ ∀ H', Same H H' → Q (.bl (if neg = true then !as.any e else as.any e)) H'
theorem op_inO (W : OwnC X.K C f) (room : Room (n + 2) X.A) (F : FnOk X.prog X.w X.K X.mg X.base CX0 n f fd ps sp) (bd : Binds X.K fd ps []) : OpR X (compareOp .In) (rInO sp C false) := by
  intro pins s σ H x y u v Q I rx ry h
  obtain ⟨a, l, as, e, rfl, rfl, d, q⟩ := h
  cases rx
  cases ry
  obtain ⟨_, its, m, r, e1⟩ := I.hok l _ d.hl
  show wpAny (model X.prog X.w) X.A (do return Value.bool (← contains (.ref l) (.ref a))) _ _ s
  refine wpAny_bind (wpAny_contains_slot ⟨_, e1, rfl⟩ PySem.F.slot_list_contains (wpAny_mono (contains_own (Q := fun b s' => EP X pins σ Q (.bool b) s') W room F bd I d fun H' s' I' sm => ⟨.bl (as.any e), H', I', rfl, q H' sm⟩) (fun z s' hz => ?_) fun _ _ z => z))
  obtain ⟨b, rfl, hq⟩ := hz
  exact wpAny_truthy_bool (wpAny_pure hq)
theorem op_notInO (W : OwnC X.K C f) (room : Room (n + 2) X.A) (F : FnOk X.prog X.w X.K X.mg X.base CX0 n f fd ps sp) (bd : Binds X.K fd ps []) : OpR X (compareOp .NotIn) (rInO sp C true) := by
  intro pins s σ H x y u v Q I rx ry h
  obtain ⟨a, l, as, e, rfl, rfl, d, q⟩ := h
  cases rx
  cases ry
  obtain ⟨_, its, m, r, e1⟩ := I.hok l _ d.hl
  show wpAny (model X.prog X.w) X.A (do return Value.bool (!(← contains (.ref l) (.ref a)))) _ _ s
  refine wpAny_bind (wpAny_contains_slot ⟨_, e1, rfl⟩ PySem.F.slot_list_contains (wpAny_mono (contains_own (Q := fun b s' => EP X pins σ Q (.bool (!b)) s') W room F bd I d fun H' s' I' sm => ⟨.bl (!as.any e), H', I', rfl, q H' sm⟩) (fun z s' hz => ?_) fun _ _ z => z))
  obtain ⟨b, rfl, hq⟩ := hz
  exact wpAny_truthy_bool (wpAny_pure hq)
end
end K79
set_option Elab.async false
set_option linter.all false
set_option maxRecDepth 100000
set_option maxHeartbeats 4000000
set_option pp.maxSteps 400
set_option pp.deepTerms false
namespace K79
open PySem PySem.Spec PyProof.Rows L2
open Xk Az
def top (i : Nat) : Stmt := PySem.Challenge.pw_takesworks_k79_whole_sorted_and_shown.main.body.getD i (.Pass ⟨0, 0, 0, 0⟩)
abbrev sIsTextOf : Stmt := top 6
abbrev sIsSmallText : Stmt := top 7
abbrev sIsWord : Stmt := top 8
abbrev sIsGroup : Stmt := top 14
abbrev sAreLetters : Stmt := top 15
abbrev sArePassed : Stmt := top 16
abbrev sAreUnlike : Stmt := top 9
abbrev sCustomInit : Stmt := inClass (top 18) 0
abbrev sLetterAt : Stmt := top 17
abbrev sCustomLettersIn : Stmt := inClass (top 18) 3
abbrev sCustomPasses : Stmt := inClass (top 18) 4
abbrev sCustomBare : Stmt := inClass (top 18) 5
abbrev sCustomRank : Stmt := inClass (top 18) 6
abbrev sCustomInOrder : Stmt := inClass (top 18) 7
abbrev sCustomShown : Stmt := inClass (top 18) 8
abbrev sCustomRead : Stmt := inClass (top 18) 9
abbrev sHand : Stmt := top 20
abbrev sTake : Stmt := top 21
abbrev sPick : Stmt := top 22
abbrev sLetters : Stmt := top 23
abbrev sPassed : Stmt := top 24
abbrev sText : Stmt := top 25
abbrev sExchanged : Stmt := top 26
abbrev sKey : Stmt := top 27
abbrev sTurned : Stmt := top 28
abbrev sMerged : Stmt := top 29
abbrev sSortedRight : Stmt := top 30
abbrev sNearRight : Stmt := top 31
abbrev sFirstUnlike : Stmt := top 32
abbrev sAboutRight : Stmt := top 33
abbrev sLaw : Stmt := top 34
theorem scIsTextOf : FnScope ["thing", "signs", "least", "most", "sign"] ["thing", "signs", "least", "most"] (defScope sIsTextOf) := ⟨rfl, rfl, rfl, by decide +kernel, rfl, by decide +kernel, by decide +kernel⟩
theorem scIsSmallText : FnScope ["thing", "least", "most"] ["thing", "least", "most"] (defScope sIsSmallText) := ⟨rfl, rfl, rfl, by decide +kernel, rfl, by decide +kernel, by decide +kernel⟩
theorem scIsWord : FnScope ["thing"] ["thing"] (defScope sIsWord) := ⟨rfl, rfl, rfl, by decide +kernel, rfl, by decide +kernel, by decide +kernel⟩
theorem scIsGroup : FnScope ["thing", "text"] ["thing"] (defScope sIsGroup) := ⟨rfl, rfl, rfl, by decide +kernel, rfl, by decide +kernel, by decide +kernel⟩
theorem scAreLetters : FnScope ["thing", "group", "text"] ["thing"] (defScope sAreLetters) := ⟨rfl, rfl, rfl, by decide +kernel, rfl, by decide +kernel, by decide +kernel⟩
theorem scArePassed : FnScope ["thing", "word"] ["thing"] (defScope sArePassed) := ⟨rfl, rfl, rfl, by decide +kernel, rfl, by decide +kernel, by decide +kernel⟩
theorem scAreUnlike : FnScope ["things"] ["things"] (defScope sAreUnlike) := ⟨rfl, rfl, rfl, by decide +kernel, rfl, by decide +kernel, by decide +kernel⟩
theorem scCustomInit : FnScope ["self", "letters", "passed", "comma", "words", "number", "group", "text"] ["self", "letters", "passed", "comma"] (defScope sCustomInit) := ⟨rfl, rfl, rfl, by decide +kernel, rfl, by decide +kernel, by decide +kernel⟩
theorem scLetterAt : FnScope ["numbers", "text", "at", "many", "letter"] ["numbers", "text", "at"] (defScope sLetterAt) := ⟨rfl, rfl, rfl, by decide +kernel, rfl, by decide +kernel, by decide +kernel⟩
theorem scCustomLettersIn : FnScope ["self", "text", "small", "found", "at", "letter"] ["self", "text"] (defScope sCustomLettersIn) := ⟨rfl, rfl, rfl, by decide +kernel, rfl, by decide +kernel, by decide +kernel⟩
theorem scCustomPasses : FnScope ["self", "word"] ["self", "word"] (defScope sCustomPasses) := ⟨rfl, rfl, rfl, by decide +kernel, rfl, by decide +kernel, by decide +kernel⟩
theorem scCustomBare : FnScope ["self", "text", "word", "blank", "rest"] ["self", "text"] (defScope sCustomBare) := ⟨rfl, rfl, rfl, by decide +kernel, rfl, by decide +kernel, by decide +kernel⟩
theorem scCustomRank : FnScope ["self", "text"] ["self", "text"] (defScope sCustomRank) := ⟨rfl, rfl, rfl, by decide +kernel, rfl, by decide +kernel, by decide +kernel⟩
theorem scCustomInOrder : FnScope ["self", "texts", "down", "rising"] ["self", "texts", "down"] (defScope sCustomInOrder) := ⟨rfl, rfl, rfl, by decide +kernel, rfl, by decide +kernel, by decide +kernel⟩
theorem scCustomShown : FnScope ["self", "text", "rest", "word"] ["self", "text"] (defScope sCustomShown) := ⟨rfl, rfl, rfl, by decide +kernel, rfl, by decide +kernel, by decide +kernel⟩
theorem scCustomRead : FnScope ["self", "text", "rest", "between", "word"] ["self", "text"] (defScope sCustomRead) := ⟨rfl, rfl, rfl, by decide +kernel, rfl, by decide +kernel, by decide +kernel⟩
theorem scHand : FnScope ["_law_script", "_law_k", "_law_cell", "_law_great"] ["_law_script", "_law_k"] (defScope sHand) := ⟨rfl, rfl, rfl, by decide +kernel, rfl, by decide +kernel, by decide +kernel⟩
theorem scTake : FnScope ["_law_hand_here", "_law_many", "_law_digit", "_law_mixed"] ["_law_hand_here", "_law_many"] (defScope sTake) := ⟨rfl, rfl, rfl, by decide +kernel, rfl, by decide +kernel, by decide +kernel⟩
theorem scPick : FnScope ["_law_hand_here", "_law_some"] ["_law_hand_here", "_law_some"] (defScope sPick) := ⟨rfl, rfl, rfl, by decide +kernel, rfl, by decide +kernel, by decide +kernel⟩
theorem scLetters : FnScope ["_law_hand_here", "_law_small", "_law_known", "_law_groups", "_law_many", "_law_k", "_law_group", "_law_turn", "_law_text_here"] ["_law_hand_here"] (defScope sLetters) := ⟨rfl, rfl, rfl, by decide +kernel, rfl, by decide +kernel, by decide +kernel⟩
theorem scPassed : FnScope ["_law_hand_here", "_law_found", "_law_k", "_law_word", "_law_turn"] ["_law_hand_here"] (defScope sPassed) := ⟨rfl, rfl, rfl, by decide +kernel, rfl, by decide +kernel, by decide +kernel⟩
theorem scText : FnScope ["_law_hand_here", "_law_letters_here", "_law_passed_here", "_law_known", "_law_group", "_law_text_here", "_law_word", "_law_k", "_law_sign"] ["_law_hand_here", "_law_letters_here", "_law_passed_here"] (defScope sText) := ⟨rfl, rfl, rfl, by decide +kernel, rfl, by decide +kernel, by decide +kernel⟩
theorem scExchanged : FnScope ["_law_hand_here", "_law_letters_here", "_law_text_here", "_law_mates", "_law_group", "_law_one", "_law_twos", "_law_found", "_law_at", "_law_sign", "_law_near", "_law_some", "_law_other"] ["_law_hand_here", "_law_letters_here", "_law_text_here"] (defScope sExchanged) := ⟨rfl, rfl, rfl, by decide +kernel, rfl, by decide +kernel, by decide +kernel⟩
theorem scKey : FnScope ["_law_custom", "_law_text_here"] ["_law_custom", "_law_text_here"] (defScope sKey) := ⟨rfl, rfl, rfl, by decide +kernel, rfl, by decide +kernel, by decide +kernel⟩
theorem scTurned : FnScope ["_law_hand_here", "_law_texts", "_law_left", "_law_found"] ["_law_hand_here", "_law_texts"] (defScope sTurned) := ⟨rfl, rfl, rfl, by decide +kernel, rfl, by decide +kernel, by decide +kernel⟩
theorem scMerged : FnScope ["_law_custom", "_law_one", "_law_other", "_law_found"] ["_law_custom", "_law_one", "_law_other"] (defScope sMerged) := ⟨rfl, rfl, rfl, by decide +kernel, rfl, by decide +kernel, by decide +kernel⟩
theorem scSortedRight : FnScope ["_law_hand_here", "_law_custom", "_law_texts", "_law_due", "_law_cut", "_law_ranks", "_law_k", "_law_text_here"] ["_law_hand_here", "_law_custom", "_law_texts"] (defScope sSortedRight) := ⟨rfl, rfl, rfl, by decide +kernel, rfl, by decide +kernel, by decide +kernel⟩
theorem scNearRight : FnScope ["_law_hand_here", "_law_custom", "_law_letters_here", "_law_texts", "_law_text_here", "_law_near", "_law_row", "_law_ends", "_law_one"] ["_law_hand_here", "_law_custom", "_law_letters_here", "_law_texts"] (defScope sNearRight) := ⟨rfl, rfl, rfl, by decide +kernel, rfl, by decide +kernel, by decide +kernel⟩
theorem scFirstUnlike : FnScope ["_law_one", "_law_other", "_law_mine", "_law_its"] ["_law_one", "_law_other"] (defScope sFirstUnlike) := ⟨rfl, rfl, rfl, by decide +kernel, rfl, by decide +kernel, by decide +kernel⟩
theorem scAboutRight : FnScope ["_law_custom", "_law_about", "_law_texts", "_law_one", "_law_other", "_law_mine", "_law_its"] ["_law_custom", "_law_about", "_law_texts"] (defScope sAboutRight) := ⟨rfl, rfl, rfl, by decide +kernel, rfl, by decide +kernel, by decide +kernel⟩
theorem scLaw : FnScope ["_law_script", "_law_k", "_law_hand_here", "_law_letters_here", "_law_passed_here", "_law_comma", "_law_custom", "_law_about", "_law_texts", "_law_turn"] ["_law_script"] (defScope sLaw) := ⟨rfl, rfl, rfl, by decide +kernel, rfl, by decide +kernel, by decide +kernel⟩
/-! ## objects -/
/-- all that was tracked stands but for the hand -/
def But (h : Addr) (H H' : Hp) : Prop := ∀ b o, b ≠ h → H b = some o → H' b = some o
theorem But.refl (h : Addr) (H : Hp) : But h H H := fun _ _ _ e => e
theorem But.trans {h : Addr} {H H1 H2 : Hp} (p : But h H H1) (q : But h H1 H2) : But h H H2 := fun b o n e => q b o n (p b o n e)
theorem Same.but {H H' : Hp} (s : Same H H') (h : Addr) : But h H H' := fun b o _ e => s b o e
theorem But.seqT {K : PySem.W.Frag} {h : Addr} {H H' : Hp} (s : But h H H') {t : Addr} {xs : List V} (n : t ≠ h) (q : SqT K H t xs) : SqT K H' t xs := by
  rcases q with (q | ⟨o, q⟩) | q
  · exact .inl (.inl (s _ _ n q))
  · exact .inl (.inr ⟨o, s _ _ n q⟩)
  · exact .inr q
theorem But.seqL {K : PySem.W.Frag} {h : Addr} {H H' : Hp} (s : But h H H') {t : Addr} {xs : List V} (n : t ≠ h) (q : SqL K H t xs) : SqL K H' t xs := by
  rcases q with (q | ⟨o, q⟩) | q
  · exact .inl (.inl (s _ _ n q))
  · exact .inl (.inr ⟨o, s _ _ n q⟩)
  · exact .inr q
theorem Same.seqT {K : PySem.W.Frag} {H H' : Hp} (s : Same H H') {t : Addr} {xs : List V} (q : SqT K H t xs) : SqT K H' t xs := by
  rcases q with (q | ⟨o, q⟩) | q
  · exact .inl (.inl (s _ _ q))
  · exact .inl (.inr ⟨o, s _ _ q⟩)
  · exact .inr q
theorem same_upd {H : Hp} {p : Addr} {o : HO} (h : H p = none) : Same H (upd H p o) := fun b x e => by
  rw [upd_ne (ne_of_none e h)]
  exact e
theorem but_upd {H : Hp} {p : Addr} {o : HO} : But p H (upd H p o) := fun b x n e => by
  rw [upd_ne n]
  exact e
/-- the hand: what is left of the cell, what it is mixed of, how often it was asked -/
def Hand (n : Int) (H : Hp) (a : Addr) : Prop := ∃ g m c : Int, H a = some (.lst [.int g, .int m, .int c]) ∧ 0 ≤ g ∧ 0 ≤ m ∧ m < 2305843009213693951 ∧ 0 ≤ c ∧ c ≤ n
theorem Hand.mono {n n' : Int} {H : Hp} {a : Addr} (h : Hand n H a) (l : n ≤ n') : Hand n' H a := by
  obtain ⟨g, m, c, e, h1, h2, h3, h4, h5⟩ := h
  exact ⟨g, m, c, e, h1, h2, h3, h4, Int.le_trans h5 l⟩
theorem Hand.same {n : Int} {H H' : Hp} {a : Addr} (h : Hand n H a) (s : Same H H') : Hand n H' a := by
  obtain ⟨g, m, c, e, r⟩ := h
  exact ⟨g, m, c, s _ _ e, r⟩
theorem Hand.at_ {n : Int} {H : Hp} {a : Addr} (h : Hand n H a) : ∃ xs, H a = some (.lst xs) := by
  obtain ⟨g, m, c, e, r⟩ := h
  exact ⟨_, e⟩
theorem Hand.ne_tup {K : PySem.W.Frag} {n : Int} {H : Hp} {a t : Addr} {xs : List V} (h : Hand n H a) (e : H t = some (.tup xs)) : t ≠ a := by
  obtain ⟨ys, e2⟩ := h.at_
  exact ne_of e e2 (by intro z; cases z)
theorem But.free {h l : Addr} {H H' : Hp} (b : But h H H') (ne : l ≠ h) (e : H' l = none) : H l = none := by
  cases q : H l with
  | none => rfl
  | some o =>
    rw [b l o ne q] at e
    cases e
theorem Hand.fresh {n : Int} {H : Hp} {a l : Addr} (h : Hand n H a) (e : H l = none) : l ≠ a := by
  obtain ⟨xs, q⟩ := h.at_
  exact (ne_of_none q e).symm
theorem Hand.upd {n : Int} {H : Hp} {a p : Addr} {x : HO} (h : Hand n H a) (ne : a ≠ p) : Hand n (L2.upd H p x) a := by
  obtain ⟨g, m, c, e, r⟩ := h
  exact ⟨g, m, c, by rw [upd_ne ne]; exact e, r⟩
theorem off_all {h : Addr} {H : Hp} : L2.Same (del H h) H := fun b o e => by
  by_cases z : b = h
  · rw [z, del_same] at e
    cases e
  · rw [del_ne z] at e
    exact e
theorem off_but {h : Addr} {H H' : Hp} (s : But h H H') : L2.Same (del H h) (del H' h) := fun b o e => by
  by_cases z : b = h
  · rw [z, del_same] at e
    cases e
  · rw [del_ne z] at e
    rw [del_ne z]
    exact s b o z e
theorem off_new {h p : Addr} {H : Hp} {o : HO} (ne : p ≠ h) : del (upd H p o) h p = some o := by rw [del_ne ne, upd_same]
theorem off_at {h p : Addr} {H : Hp} {o : HO} (ne : p ≠ h) (e : H p = some o) : del H h p = some o := by rw [del_ne ne, e]
/-- things of the built-in kinds that are asked -/
inductive Odd (H : Hp) : V → String → Prop where
  | int (i : Int) : Odd H (.int i) "int"
  | str (x : Str) : Odd H (.str x) "str"
  | non : Odd H .non "NoneType"
  | tup {a : Addr} {xs : List V} (e : H a = some (.tup xs)) : Odd H (.ref a) "tuple"
  | lst {a : Addr} {xs : List V} (e : H a = some (.lst xs)) : Odd H (.ref a) "list"
abbrev OddT (t : String) : Prop := t = "int" ∨ t = "str" ∨ t = "NoneType" ∨ t = "tuple" ∨ t = "list"
theorem Odd.one {H : Hp} {o : V} {t : String} (h : Odd H o t) : OddT t := by
  cases h <;> simp [OddT]
theorem Odd.ty {K : PySem.W.Frag} {H : Hp} {o : V} {t : String} (h : Odd H o t) : TyX K H o (.type t) := by
  cases h with
  | int i => exact .base (.int i)
  | str x => exact .base (.str x)
  | non => exact .base .non
  | tup e => exact .base (.tup e)
  | lst e => exact .base (.lst e)
theorem Odd.same {H H' : Hp} {o : V} {t : String} (h : Odd H o t) (s : Same H H') : Odd H' o t := by
  cases h with
  | int i => exact .int i
  | str x => exact .str x
  | non => exact .non
  | tup e => exact .tup (s _ _ e)
  | lst e => exact .lst (s _ _ e)
structure KitC (K : PySem.W.Frag) (C : Addr) : Prop where
  me : PySem.W.kitOne K (.ref C) (.ref C) = some true
  no : ∀ t : String, OddT t → PySem.W.kitOne K (.type t) (.ref C) = some false
  sub : ∀ t : String, OddT t → PySem.W.subIn K (.type t) (.ref C) = some false
theorem kitC_mk {K : PySem.W.Frag} {C : Addr} (ty : PySem.W.typeIn K (.ref C) = some (.type "type")) (mo : PySem.W.mroIn K C (.type "object") = some true) (s1 : PySem.W.subIn K (.type "int") (.ref C) = some false)
    (s2 : PySem.W.subIn K (.type "str") (.ref C) = some false) (s3 : PySem.W.subIn K (.type "NoneType") (.ref C) = some false) (s4 : PySem.W.subIn K (.type "tuple") (.ref C) = some false) (s5 : PySem.W.subIn K (.type "list") (.ref C) = some false) : KitC K C := by
  have cl : (PySem.W.clsIn K C).isSome = true := by
    unfold PySem.W.mroIn at mo
    cases e : PySem.W.clsIn K C with
    | none => rw [e] at mo; cases mo
    | some c => rfl
  have sub : ∀ t : String, OddT t → PySem.W.subIn K (.type t) (.ref C) = some false := fun t ht => by
    rcases ht with rfl | rfl | rfl | rfl | rfl
    · exact s1
    · exact s2
    · exact s3
    · exact s4
    · exact s5
  refine ⟨?_, fun t ht => ?_, sub⟩
  · unfold PySem.W.kitOne
    simp
  · have q : (Value.type t == Value.ref C) = false := rfl
    unfold PySem.W.kitOne
    rw [q]
    simp only [Bool.false_eq_true, if_false]
    unfold PySem.W.kitCls
    dsimp only
    rw [cl, ty]
    simp only [beq_self_eq_true, Bool.and_self, if_true]
    exact sub t ht
section
variable {X : Cx} {pins : List (Addr × Obj)} {σ : L2.St} {H : Hp} {s : Shared} {n : Nat} {f C : Addr} {fd : FuncData} {ps : List Str} {sp : Sp}
/-- a def of the written part is run somewhere below -/
theorem own_run {A : Around} {vs : List V} {us : List Value} {Q : VK} {E : Value → Shared → Prop} (fr : A.frames = some X.stack) (room : Room n A) (F : FnOk X.prog X.w X.K X.mg X.base CX0 n f fd ps sp) (bd : Binds X.K fd ps [])
    (I : Inv X pins σ H s) (rv : Vals vs us) (hsp : sp vs H Q E0) : wpAny (model X.prog X.w) A (call (.ref f) us) (EP X pins σ Q) E s := by
  have en : Env0 X.prog X.w X.K X.mg X.base A X.stack s H := by
    have z := I.env0
    exact ⟨fr, z.mod, z.bs, z.bsz, z.funs, z.frf, z.hok, z.bare⟩
  have hl : vs.length = ps.length := F.len _ _ _ _ hsp
  have b1 := bd s us I.kIn (by simpa [← rv.length] using hl)
  rw [List.append_nil] at b1
  refine wpAny_call (codeAny_mono (F.run A X.stack s H ⟨us, []⟩ us vs _ E0 room en b1 rv hsp) fun r s2 hr => ?_)
  match r, hr with
  | .error z, hr => exact False.elim hr
  | .ok .next, hr => exact False.elim hr
  | .ok .brk, hr => exact False.elim hr
  | .ok .cont, hr => exact False.elim hr
  | .ok (.ret u), hr => exact I.after hr
theorem odd_looks {y : V} {v : Value} {t : String} (I : Inv X pins σ H s) (rv : RelV y v) (o : Odd H y t) : PySem.W.Looks (model X.prog X.w) s.heap (typeOf v) (.type t) := by
  obtain ⟨P, Z, p, _⟩ := kit_of I rv (o.ty (K := X.K))
  exact Z.ty _ _ I.kIn p
/-- day == thing -/
def rEqL (C : Addr) (sp : Sp) : R2 := fun x y H Q => ∃ (a dx : Addr) (fs : List (Str × V)), x = .ref a ∧ H a = some (.ins C dx fs) ∧ ((∃ t, Odd H y t) ∨ ∃ b dz gs, y = .ref b ∧ H b = some (.ins C dz gs)) ∧
  sp [.ref a, y] H (fun z H' => ∃ b, z = .bl b ∧ Q (.bl b) H') E0
theorem op_eqL (W : OwnC X.K C f) (Z : KitC X.K C) (room : Room n X.A) (F : FnOk X.prog X.w X.K X.mg X.base CX0 n f fd ps sp) (bd : Binds X.K fd ps []) : OpR X (compareOp .Eq) (rEqL C sp) := by
  intro pins s σ H x y u v Q I rx ry h
  obtain ⟨a, dx, fs, rfl, ha, hy, hsp⟩ := h
  cases rx
  have fin : ∀ tb, PySem.W.Looks (model X.prog X.w) s.heap (typeOf v) tb → PySem.W.notFirst X.K C tb = true → wpAny (model X.prog X.w) X.A (compareOp .Eq (.ref a) v) (EP X pins σ Q) X.xe s := fun tb hb nf => by
    show wpAny (model X.prog X.w) X.A (richCompare .Eq (.ref a) v) _ _ s
    refine wpAny_mono (rc_L (Q := fun b H' => Q (.bl b) H') W I.ok.frames room F bd I ha ry hb nf hsp) (fun z s' hz => ?_) fun _ _ z => z
    obtain ⟨b, H', rfl, I', q⟩ := hz
    exact ⟨.bl b, H', I', rfl, q⟩
  rcases hy with ⟨t, o⟩ | ⟨b, dz, gs, rfl, hb⟩
  · refine fin _ (odd_looks I ry o) ?_
    unfold PySem.W.notFirst
    rw [Z.sub t o.one]
    simp
  · cases ry
    obtain ⟨mB, JB, _⟩ := ins_get I.hok hb
    obtain ⟨oB, JB, _⟩ := JB.look
    exact fin _ JB.type (by simp [PySem.W.notFirst])
/-- day != day -/
def rNeL (C : Addr) (sp : Sp) : R2 := fun x y H Q => ∃ (a dx : Addr) (fs : List (Str × V)) (b dz : Addr) (gs : List (Str × V)), x = .ref a ∧ H a = some (.ins C dx fs) ∧ y = .ref b ∧ H b = some (.ins C dz gs) ∧
  sp [.ref a, y] H (fun z H' => ∃ b, z = .bl b ∧ Q (.bl (!b)) H') E0
theorem op_neL (W : OwnC X.K C f) (room : Room (n + 1) X.A) (F : FnOk X.prog X.w X.K X.mg X.base CX0 n f fd ps sp) (bd : Binds X.K fd ps []) : OpR X (compareOp .NotEq) (rNeL C sp) := by
  intro pins s σ H x y u v Q I rx ry h
  obtain ⟨a, dx, fs, b, dz, gs, rfl, ha, rfl, hb, hsp⟩ := h
  cases rx
  cases ry
  obtain ⟨mB, JB, _⟩ := ins_get I.hok hb
  obtain ⟨oB, JB, _⟩ := JB.look
  show wpAny (model X.prog X.w) X.A (richCompare .NotEq (.ref a) (.ref b)) _ _ s
  refine wpAny_mono (rc_N (Q := fun b H' => Q (.bl b) H') (y := .ref b) W I.ok.frames room F bd I ha rfl JB.type (by simp [PySem.W.notFirst]) hsp) (fun z s' hz => ?_) fun _ _ z => z
  obtain ⟨b, H', rfl, I', q⟩ := hz
  exact ⟨.bl b, H', I', rfl, q⟩
/-- thing == day -/
def rEqR (C : Addr) (sp : Sp) : R2 := fun x y H Q => ∃ (a dx : Addr) (fs : List (Str × V)), y = .ref a ∧ H a = some (.ins C dx fs) ∧
  (((∃ t, Odd H x t) ∧ sp [.ref a, x] H (fun z H' => ∃ b, z = .bl b ∧ Q (.bl b) H') E0) ∨ ∃ b dz gs, x = .ref b ∧ H b = some (.ins C dz gs) ∧ sp [.ref b, .ref a] H (fun z H' => ∃ b, z = .bl b ∧ Q (.bl b) H') E0)
theorem op_eqR (W : OwnC X.K C f) (room : Room n X.A) (F : FnOk X.prog X.w X.K X.mg X.base CX0 n f fd ps sp) (bd : Binds X.K fd ps []) : OpR X (compareOp .Eq) (rEqR C sp) := by
  intro pins s σ H x y u v Q I rx ry h
  obtain ⟨a, dx, fs, rfl, ha, h⟩ := h
  cases ry
  show wpAny (model X.prog X.w) X.A (richCompare .Eq u (.ref a)) _ _ s
  have fin : ∀ {A : Around} {z : Value} {s' : Shared}, BP X pins σ (fun b H' => Q (.bl b) H') z s' → EP X pins σ Q z s' := fun {A z s'} hz => by
    obtain ⟨b, H', rfl, I', q⟩ := hz
    exact ⟨.bl b, H', I', rfl, q⟩
  obtain ⟨mA, J, eI⟩ := ins_get I.hok ha
  obtain ⟨oA, J', _⟩ := J.look
  rcases h with ⟨⟨t, o⟩, hsp⟩ | ⟨b, dz, gs, rfl, hb, hsp⟩
  · cases o with
    | int i =>
      obtain ⟨tk, rfl⟩ := rx
      refine wpAny_mono (rc_R (Q := fun b H' => Q (.bl b) H') (y := .int i) W I.ok.frames room F bd I ha ⟨tk, rfl⟩ (typeIs_int _ _ _) rfl W.sInt PySem.F.slot_int_eq (fun E' => dec_int J.obj) hsp) (fun z s' hz => fin (A := X.A) hz) fun _ _ z => z
    | str i =>
      obtain ⟨tk, rfl⟩ := rx
      refine wpAny_mono (rc_R (Q := fun b H' => Q (.bl b) H') (y := .str i) W I.ok.frames room F bd I ha ⟨tk, rfl⟩ (typeIs_str _ _ _) rfl W.sStr PySem.F.slot_str_eq (fun E' => dec_str J.obj) hsp) (fun z s' hz => fin (A := X.A) hz) fun _ _ z => z
    | non =>
      cases rx
      refine wpAny_mono (rc_R (Q := fun b H' => Q (.bl b) H') (y := .non) W I.ok.frames room F bd I ha rfl (T := "NoneType") rfl rfl W.sNon PySem.F.slot_NoneType_eq (fun E' => dec_none) hsp) (fun z s' hz => fin (A := X.A) hz) fun _ _ z => z
    | @tup b xs e =>
      cases rx
      obtain ⟨_, _, _, ob, h1, h2, _⟩ := (show ObjOk X.prog X.w H s.heap b (.tup xs) from I.hok b _ e)
      refine wpAny_mono (rc_R (Q := fun b H' => Q (.bl b) H') (y := .ref b) W I.ok.frames room F bd I ha rfl (T := "tuple") ⟨ob, h1, h2⟩ rfl W.sTup PySem.F.slot_tuple_eq (fun E' => dec_tup ⟨ob, h1, h2⟩ J' I.kIn W.sTup) hsp) (fun z s' hz => fin (A := X.A) hz) fun _ _ z => z
    | @lst b xs e =>
      cases rx
      obtain ⟨_, _, k, _, h1⟩ := (show ObjOk X.prog X.w H s.heap b (.lst xs) from I.hok b _ e)
      refine wpAny_mono (rc_R (Q := fun b H' => Q (.bl b) H') (y := .ref b) W I.ok.frames room F bd I ha rfl (T := "list") ⟨_, h1, rfl⟩ rfl W.sLst PySem.F.slot_list_eq (fun E' => dec_lst ⟨_, h1, rfl⟩ J' I.kIn W.sLst) hsp) (fun z s' hz => fin (A := X.A) hz) fun _ _ z => z
  · cases rx
    refine wpAny_mono (rc_L (Q := fun b H' => Q (.bl b) H') (y := .ref a) W I.ok.frames room F bd I hb rfl J'.type (by simp [PySem.W.notFirst]) hsp) (fun z s' hz => fin (A := X.A) hz) fun _ _ z => z
/-- str(o) by its own __str__ -/
theorem cr_strO (hs : PySem.W.findIn X.K (.ref C) "__str__" = some (some (.ref f))) (hf : PySem.W.isFn X.K (.ref f) = true) (room : Room (n + 2) X.A) (F : FnOk X.prog X.w X.K X.mg X.base CX0 n f fd ps sp) (bd : Binds X.K fd ps []) :
    CallR X (.type "str") (fun xs H Q => ∃ (a dx : Addr) (fs : List (Str × V)), xs = [.ref a] ∧ H a = some (.ins C dx fs) ∧ sp [.ref a] H (fun z H' => ∃ y, z = .str y ∧ Q (.str y) H') E0) := by
  intro pins s σ H xs us Q I r h
  obtain ⟨a, dx, fs, rfl, ha, hsp⟩ := h
  obtain ⟨u, rfl, rx⟩ := vals1 r
  cases rx
  obtain ⟨mA, J, _⟩ := ins_get I.hok ha
  obtain ⟨oA, J, _⟩ := J.look
  refine PySem.W.kso_call room.in1.in1.units0 I.kIn J hs hf (wpAny_mono (own_run (A := X.A.in1.in1) (vs := [.ref a]) I.ok.frames room.in1.in1 F bd I (.cons rfl .nil) hsp) (fun v s' hv => ?_) fun _ _ z => z)
  obtain ⟨v', H', I', rv, y, rfl, q⟩ := hv
  obtain ⟨tk, rfl⟩ := rv
  exact ⟨.str y, H', I', ⟨tk, rfl⟩, q⟩
/-- repr(o) by its own __repr__ -/
theorem cr_reprO (hs : PySem.W.findIn X.K (.ref C) "__repr__" = some (some (.ref f))) (hf : PySem.W.isFn X.K (.ref f) = true) (room : Room (n + 1) X.A) (F : FnOk X.prog X.w X.K X.mg X.base CX0 n f fd ps sp) (bd : Binds X.K fd ps []) :
    CallR X (.builtin "repr") (fun xs H Q => ∃ (a dx : Addr) (fs : List (Str × V)), xs = [.ref a] ∧ H a = some (.ins C dx fs) ∧ sp [.ref a] H (fun z H' => ∃ y, z = .str y ∧ Q (.str y) H') E0) := by
  intro pins s σ H xs us Q I r h
  obtain ⟨a, dx, fs, rfl, ha, hsp⟩ := h
  obtain ⟨u, rfl, rx⟩ := vals1 r
  cases rx
  obtain ⟨mA, J, _⟩ := ins_get I.hok ha
  obtain ⟨oA, J, _⟩ := J.look
  refine Calls.call_function_entry PySem.F.kind_repr PySem.F.plain_repr PySem.F.entry_repr (PySem.F.args_repr1 _) ?_
  unfold Builtin.«repr»
  refine wpAny_bind (m := oneArg "repr" _) (wpAny_pure ?_)
  refine wpAny_bind (wpAny_cRoomFor room.in1.units0 ?_)
  refine wpAny_bind (wpAny_bind (J.type.here ((PySem.W.looks_findIn I.kIn hs).here ?_)))
  refine wpAny_bind (m := callSpecialIfBound? (.ref a) (Str.ofString "__repr__") _) (PySem.W.ifBound_K I.kIn J hs hf (wpAny_mono (own_run (A := X.A.in1) (vs := [.ref a]) I.ok.frames room.in1 F bd I (.cons rfl .nil) hsp) (fun v s' hv => ?_) fun _ _ z => z))
  obtain ⟨v', H', I', rv, y, rfl, q⟩ := hv
  obtain ⟨tk, rfl⟩ := rv
  refine wpAny_bind (wpAny_isInstance (T := "str") (b := true) rfl isSubtype_str_str ?_)
  exact wpAny_pure ⟨_, rfl, .str y, H', I', ⟨tk, rfl⟩, q⟩
end
section
variable {X : Cx}
theorem cr_alt {f : Value} {r1 r2 : List V → Hp → VK → Prop} (h1 : CallR X f r1) (h2 : CallR X f r2) : CallR X f (fun xs H Q => r1 xs H Q ∨ r2 xs H Q) :=
  fun pins s σ H xs us Q I r h => h.elim (h1 pins s σ H xs us Q I r) (h2 pins s σ H xs us Q I r)
end
end K79
set_option Elab.async false
set_option linter.all false
set_option maxRecDepth 100000
set_option maxHeartbeats 4000000
set_option pp.maxSteps 400
set_option pp.deepTerms false
namespace K79
open PySem PySem.Spec PyProof.Rows L2
open Xk Az
section
variable {P : Program} {w : World} {K : PySem.W.Frag} {mg : Str → Option Value} {base : Heap} {C : Addr}
/-- a def that may be called by its name -/
structure Ca (P : Program) (w : World) (K : PySem.W.Frag) (mg : Str → Option Value) (base : Heap) (k : Nat) (x : Str) (ps : List Str) (sp : Sp) : Prop where
  ex : ∃ (f : Addr) (fd : FuncData), FnOk P w K mg base CX0 k f fd ps sp ∧ mg x = some (.ref f) ∧ PySem.W.keepIn K (.ref f) = true ∧ Binds K fd ps []
/-- a def of the text, as the head finds it -/
structure Df (K : PySem.W.Frag) (mg : Str → Option Value) (x : Str) (ps : List Str) (st : Stmt) (f : Addr) (fd : FuncData) : Prop where
  fn : Fun K x x st f fd
  mgf : mg x = some (.ref f)
  bd : Binds K fd ps []
theorem Df.ca {k : Nat} {x : Str} {ps : List Str} {st : Stmt} {f : Addr} {fd : FuncData} {sp : Sp} (d : Df K mg x ps st f fd)
    (h : FnOk P w K mg base CX0 k f fd ps sp) : Ca P w K mg base k x ps sp := ⟨f, fd, h, d.mgf, d.fn.kp, d.bd⟩
section
variable {X : Cx} {k j : Nat} {x : Str} {ps : List Str} {sp : Sp} {p pos : Pos} {e : Expr} {es : List Expr} {t : TA}
theorem pe_ca (c : Ca X.prog X.w X.K X.mg X.base k x ps sp) (hr : Room j X.A) (hk : k ≤ j) (hg : Gl X x) (ha : PA X (e :: es) t) (hdb : (x == ("__debug__" : Str)) = false := by decide)
    (he : starEach (e :: es) X.env = (false, eval e X.env) :: starEach es X.env := by rfl) (hpl : (backTo pos (starEach es X.env)).any (·.1) = false := by rfl) :
    PE X (.Call (.Name x p) (e :: es) [] pos) (tCall sp [] E0 t) := by
  obtain ⟨f, fd, F, hm, kp, b⟩ := c.ex
  exact pe_call F (hr.mono hk) hg hm kp b .nil pass0 ha hdb he hpl
end
/-- the refusals: where their classes stand -/
structure Ex where
  NoCustom : Addr
def small : Str := "abcdefghijklmnopqrstuvwxyz"
def isTup : PyData → Bool
  | .tuple _ => true
  | _ => false
def isStr : PyData → Bool
  | .str _ => true
  | _ => false
def isBo : PyData → Bool
  | .bool _ => true
  | _ => false
theorem len_cps (x : Str) : x.length = x.cps.toList.length := by
  rw [Array.length_toList]
  rfl
def chk (x sg : Str) : Bool := x.cps.toList.all fun c => decide (c ∈ sg.cps.toList)
def ofT (d : PyData) (sg : Str) (a b : Int) : Bool := match d with
  | .str x => decide (a ≤ (x.length : Int)) && decide ((x.length : Int) ≤ b) && chk x sg
  | _ => false
def St (d : PyData) : Prop := ∀ x, d = .str x → x.length ≤ 2000
def spTextOf (K : PySem.W.Frag) : Sp := fun vs H Q _ => ∃ (v : V) (d : PyData) (sg : Str) (a b : Int), vs = [v, .str sg, .int a, .int b] ∧ Dz K H v d ∧ (∀ x, d = .str x → x.length ≤ 2000) ∧ ∀ H', L2.Same H H' → Q (.bl (ofT d sg a b)) H'
def spSmall (K : PySem.W.Frag) : Sp := fun vs H Q _ => ∃ (v : V) (d : PyData) (a b : Int), vs = [v, .int a, .int b] ∧ Dz K H v d ∧ St d ∧ ∀ H', L2.Same H H' → Q (.bl (ofT d small a b)) H'
def spWord (K : PySem.W.Frag) : Sp := fun vs H Q _ => ∃ (v : V) (d : PyData), vs = [v] ∧ Dz K H v d ∧ St d ∧ ∀ H', L2.Same H H' → Q (.bl (ofT d small 1 8)) H'
/-- a group of letters -/
def grD (d : PyData) : Bool := match d with
  | .tuple ds => decide (ds.length ≠ 0) && ds.all fun e => ofT e small 1 2
  | _ => false
def S2 (d : PyData) : Prop := ∀ ds, d = .tuple ds → ds.length ≤ 1000 ∧ ∀ e ∈ ds, St e
def spGroup (K : PySem.W.Frag) : Sp := fun vs H Q _ => ∃ (v : V) (d : PyData), vs = [v] ∧ Dz K H v d ∧ S2 d ∧ ∀ H', L2.Same H H' → Q (.bl (grD d)) H'
/-- the texts among these -/
def txs : List PyData → List Str
  | [] => []
  | .str x :: r => x :: txs r
  | _ :: r => txs r
def txG : PyData → List Str
  | .tuple es => txs es
  | _ => []
def flat (ds : List PyData) : List Str := ds.flatMap txG
def ltD (d : PyData) : Bool := match d with
  | .tuple ds => decide ((1 : Int) ≤ ds.length) && decide ((ds.length : Int) ≤ 40) && ds.all grD && decide (flat ds).Nodup
  | _ => false
def S3 (d : PyData) : Prop := ∀ ds, d = .tuple ds → ds.length ≤ 1000 ∧ (∀ e ∈ ds, S2 e) ∧ (flat ds).length ≤ 4000
def spLetters (K : PySem.W.Frag) : Sp := fun vs H Q _ => ∃ (v : V) (d : PyData), vs = [v] ∧ Dz K H v d ∧ S3 d ∧ ∀ H', L2.Same H H' → Q (.bl (ltD d)) H'
def psD (d : PyData) : Bool := match d with
  | .tuple ds => decide ((ds.length : Int) ≤ 20) && ds.all (fun e => ofT e small 1 8) && decide (txs ds).Nodup
  | _ => false
def spPassed (K : PySem.W.Frag) : Sp := fun vs H Q _ => ∃ (v : V) (d : PyData), vs = [v] ∧ Dz K H v d ∧ S2 d ∧ ∀ H', L2.Same H H' → Q (.bl (psD d)) H'
/-- a row of texts, none twice -/
def spUnlike (K : PySem.W.Frag) : Sp := fun vs H Q _ => ∃ (l : Addr) (xs : List Str), vs = [.ref l] ∧ (SqL K H l (xs.map V.str) ∨ SqT K H l (xs.map V.str)) ∧ xs.length ≤ 4000 ∧ Q (.bl (decide xs.Nodup)) H
theorem txs_all {K : PySem.W.Frag} {H : Hp} {sg : Str} {a b : Int} : ∀ {xs : List V} {ds : List PyData}, DzAll K H xs ds → (ds.all fun e => ofT e sg a b) = true → xs = (txs ds).map V.str
  | [], [], .nil, _ => rfl
  | v :: xs, d :: ds, .cons h r, al => by
    rw [List.all_cons, Bool.and_eq_true] at al
    have ih := txs_all r al.2
    cases h with
    | str x => rw [ih]; rfl
    | _ => cases al.1
theorem txs_len {ds : List PyData} : (txs ds).length ≤ ds.length := by
  induction ds with
  | nil => exact Nat.le_refl _
  | cons d r ih =>
    cases d <;> simp only [txs, List.length_cons] <;> omega
theorem z_str : ∀ d : PyData, PySem.W.kitOne K (.type (kindD d)) (.type "str") = some (isStr d)
  | .none => kit_ty (a := "NoneType") (b := "str") (r := false) (by decide +kernel)
  | .bool _ => kit_ty (a := "bool") (b := "str") (r := false) (by decide +kernel)
  | .int _ => kit_ty (a := "int") (b := "str") (r := false) (by decide +kernel)
  | .str _ => kit_ty (a := "str") (b := "str") (r := true) (by decide +kernel)
  | .list _ => kit_ty (a := "list") (b := "str") (r := false) (by decide +kernel)
  | .tuple _ => kit_ty (a := "tuple") (b := "str") (r := false) (by decide +kernel)
  | .dict _ => kit_ty (a := "dict") (b := "str") (r := false) (by decide +kernel)
theorem z_tup : ∀ d : PyData, PySem.W.kitOne K (.type (kindD d)) (.type "tuple") = some (isTup d)
  | .none => kit_ty (a := "NoneType") (b := "tuple") (r := false) (by decide +kernel)
  | .bool _ => kit_ty (a := "bool") (b := "tuple") (r := false) (by decide +kernel)
  | .int _ => kit_ty (a := "int") (b := "tuple") (r := false) (by decide +kernel)
  | .str _ => kit_ty (a := "str") (b := "tuple") (r := false) (by decide +kernel)
  | .list _ => kit_ty (a := "list") (b := "tuple") (r := false) (by decide +kernel)
  | .tuple _ => kit_ty (a := "tuple") (b := "tuple") (r := true) (by decide +kernel)
  | .dict _ => kit_ty (a := "dict") (b := "tuple") (r := false) (by decide +kernel)
theorem z_bool : ∀ d : PyData, PySem.W.kitOne K (.type (kindD d)) (.type "bool") = some (isBo d)
  | .none => kit_ty (a := "NoneType") (b := "bool") (r := false) (by decide +kernel)
  | .bool _ => kit_ty (a := "bool") (b := "bool") (r := true) (by decide +kernel)
  | .int _ => kit_ty (a := "int") (b := "bool") (r := false) (by decide +kernel)
  | .str _ => kit_ty (a := "str") (b := "bool") (r := false) (by decide +kernel)
  | .list _ => kit_ty (a := "list") (b := "bool") (r := false) (by decide +kernel)
  | .tuple _ => kit_ty (a := "tuple") (b := "bool") (r := false) (by decide +kernel)
  | .dict _ => kit_ty (a := "dict") (b := "bool") (r := false) (by decide +kernel)
/-- what the top has left, besides the defs -/
structure Txt (K : PySem.W.Frag) (mg : Str → Option Value) (C : Addr) (e : Ex) : Prop where
  cl : Cls K C
  n1 : NoAttr K C "letters"
  n2 : NoAttr K C "passed"
  n3 : NoAttr K C "comma"
  n4 : NoAttr K C "numbers"
  mgC : mg "Custom" = some (.ref C)
  ins : C8.InsC K C
  sm : ∃ t, mg "SMALL_LETTERS" = some (.str small t)
  lw : ∃ t, mg "LONGEST_WORD" = some (.int 8 t)
  mg_ : ∃ t, mg "MOST_GROUPS" = some (.int 40 t)
  ll : ∃ t, mg "LONGEST_LETTER" = some (.int 2 t)
  mp : ∃ t, mg "MOST_PASSED" = some (.int 20 t)
  mNoCustom : mg "NoCustom" = some (.ref e.NoCustom)
  isi : mg "isinstance" = none
  bool : mg "bool" = none
  str : mg "str" = none
  tuple : mg "tuple" = none
  list : mg "list" = none
  len : mg "len" = none
  set : mg "set" = none
  all : mg "all" = none
  any : mg "any" = none
  enumerate : mg "enumerate" = none
  range : mg "range" = none
  abs : mg "abs" = none
  min : mg "min" = none
  max : mg "max" = none
  int : mg "int" = none
  repr : mg "repr" = none
  sorted : mg "sorted" = none
  zip : mg "zip" = none
  xP : PySem.W.excIn K e.NoCustom PySem.HandSPX.veTail "ValueError.__new__" = true
  kP : PySem.W.keepIn K (.ref e.NoCustom) = true
  bP : PySem.W.subIn K (.ref e.NoCustom) (.type "BaseException") = some true
  tP : PySem.W.typeIn K (.ref e.NoCustom) = some (.type "type")
theorem ok_of {f : Addr} {fd : FuncData} {e : Ex} (D : Df K mg "is_text_of" ["thing", "signs", "least", "most"] sIsTextOf f fd) (T : Txt K mg C e) : FnOk P w K mg base CX0 1 f fd ["thing", "signs", "least", "most"] (spTextOf K) := by
  refine D.fn.ok scIsTextOf (fun vs H Q E h => ?_) (fun cdv A outer s H vs Q E hr h => ?_)
  · obtain ⟨v, d, sg, a, b, rfl, hz, sz, q⟩ := h
    rfl
  · obtain ⟨v, d, sg, a, b, rfl, hz, sz, q⟩ := h
    refine ⟨_, (pss_cons (ps_if (PW.pt (pw_or (pt_not (pt_val (pe_callB call_isi (by rfl) T.isi (by decide +kernel) (pa_cons (pv 0) (pa_cons (pe_bltn (v := .ty "str") (by rfl) T.str (by decide +kernel) rfl) pa_nil))))) (pw_or1 (pt_not (pt_chain op_le op_le (pv 2) (pe_callB call_len_str (by rfl) T.len PySem.boot_len (pa_cons (pv 0) pa_nil)) (pv 3)))))) (pss_one (ps_ret pe_bl)) pss_nil)
      (pss_one (ps_ret (pe_callB (cr_all (by rfl)) (by rfl) T.all (by decide +kernel) (pa_cons (pe_lc (own := [("sign", 4)]) (g := gName 4) (tt := tYes) (by rfl) scIsTextOf.nd (pi_str (pv 0)) (blkOk_by (own := [("sign", 4)]) (N := ["thing", "signs", "least", "most", "sign"]) (sc := defScope sIsTextOf) (by decide +kernel)) (fun _ _ _ _ _ => pg_name (i := 4) scIsTextOf.nd rfl (.inl rfl)) (fun _ _ _ _ _ => pts_nil) (fun _ _ _ _ _ => pe_cmpR op_in_sign (pv 4) (pv 1) (by rfl))) pa_nil))))), ?_⟩
    refine ⟨_, rfl, _, _, _, _, isStr d, rfl, .ty _, hz.ty, z_str d, _, rfl, ?_⟩
    have qf : ofT d sg a b = false → Q (.bl false) H := fun e => by
      have w := q H (Same.refl H)
      rw [e] at w
      exact w
    cases hz with
    | str x =>
      have lx := sz x rfl
      have fit : x.length ≤ sizeLine := Nat.le_trans lx (by decide)
      refine iteF ⟨_, rfl, _, rfl, x, rfl, fit, a, _, rfl, rfl, _, rfl, ?_⟩
      have eo : ofT (.str x) sg a b = (decide (a ≤ (x.length : Int)) && decide ((x.length : Int) ≤ b) && chk x sg) := rfl
      cases c1 : decide (a ≤ (x.length : Int)) with
      | false => exact iteF ⟨_, rfl, iteT (qf (by rw [eo, c1]; rfl))⟩
      | true =>
        refine iteT ⟨_, rfl, _, b, rfl, rfl, _, rfl, ?_⟩
        cases c2 : decide ((x.length : Int) ≤ b) with
        | false => exact iteT (qf (by rw [eo, c1, c2]; rfl))
        | true =>
          refine iteF ⟨_, rfl, x, rfl, fun L nL => ?_⟩
          have sL := same_upd nL (o := .lst [])
          refine lc_it (walk_str (z := x)) (fun i Hi => ∃ bs : List Bool, bs = (x.cps.toList.take i).map (fun c => decide (c ∈ sg.cps.toList)) ∧ Hi L = some (.lst (bs.map V.bl)) ∧ L2.Same H Hi) ?_ (fun _ _ _ _ => trivial) ?_ ?_
          · exact ⟨[], rfl, upd_same, sL⟩
          · rintro i v Hi Hi' _ ⟨bs, eb, eL, sm⟩ ⟨rfl, c, ec, rfl⟩
            rw [← Array.getElem?_toList] at ec
            refine ⟨rfl, ?_⟩
            unfold tYes
            refine iteT ⟨_, rfl, _, rfl, c, sg, rfl, rfl, ?_⟩
            have il : i < x.cps.toList.length := (List.getElem?_eq_some_iff.mp ec).1
            refine ⟨_, eL, ?_, bs ++ [decide (c ∈ sg.cps.toList)], ?_, ?_, fun b o e => ?_⟩
            · rw [List.length_map, eb, List.length_map, List.length_take]
              refine Nat.lt_of_le_of_lt (show min i x.cps.toList.length ≤ 2000 from ?_) (by decide)
              rw [← len_cps]
              omega
            · rw [List.take_succ, ec, List.map_append, eb]
              rfl
            · rw [upd_same, List.map_append]
              rfl
            · rw [upd_ne (ne_of_none e nL)]
              exact sm _ _ e
          · rintro He ⟨bs, eb, eL, sm⟩
            refine ⟨L, _, rfl, SqL.of eL, ?_⟩
            have w := q He sm
            rw [eo, c1, c2] at w
            rw [eb, List.take_of_length_le (by rw [Array.length_toList]; exact Nat.le_refl _), List.all_map]
            exact w
    | _ => exact iteT (qf rfl)
theorem ok_small {f : Addr} {fd : FuncData} {e : Ex} (D : Df K mg "is_small_text" ["thing", "least", "most"] sIsSmallText f fd) (T : Txt K mg C e) (cO : Ca P w K mg base 1 "is_text_of" ["thing", "signs", "least", "most"] (spTextOf K)) : FnOk P w K mg base CX0 2 f fd ["thing", "least", "most"] (spSmall K) := by
  obtain ⟨_, gS⟩ := T.sm
  obtain ⟨_, gW⟩ := T.lw
  obtain ⟨_, gG⟩ := T.mg_
  obtain ⟨_, gL⟩ := T.ll
  obtain ⟨_, gP⟩ := T.mp
  refine D.fn.ok scIsSmallText (fun vs H Q E h => ?_) (fun cdv A outer s H vs Q E hr h => ?_)
  · obtain ⟨v, d, a, b, rfl, hz, sz, q⟩ := h
    rfl
  · obtain ⟨v, d, a, b, rfl, hz, sz, q⟩ := h
    refine ⟨_, (pss_one (ps_ret (pe_ca cO hr (by decide) (by rfl) (pa_cons (pv 0) (pa_cons (pe_glob (v := .str small) (by rfl) gS ⟨_, rfl⟩) (pa_cons (pv 1) (pa_cons (pv 2) pa_nil))))))), ?_⟩
    exact ⟨_, rfl, _, rfl, _, rfl, v, d, small, a, b, rfl, hz, sz, q⟩
theorem ok_word8 {f : Addr} {fd : FuncData} {e : Ex} (D : Df K mg "is_word" ["thing"] sIsWord f fd) (T : Txt K mg C e) (cS : Ca P w K mg base 2 "is_small_text" ["thing", "least", "most"] (spSmall K)) : FnOk P w K mg base CX0 3 f fd ["thing"] (spWord K) := by
  obtain ⟨_, gS⟩ := T.sm
  obtain ⟨_, gW⟩ := T.lw
  obtain ⟨_, gG⟩ := T.mg_
  obtain ⟨_, gL⟩ := T.ll
  obtain ⟨_, gP⟩ := T.mp
  refine D.fn.ok scIsWord (fun vs H Q E h => ?_) (fun cdv A outer s H vs Q E hr h => ?_)
  · obtain ⟨v, d, rfl, hz, sz, q⟩ := h
    rfl
  · obtain ⟨v, d, rfl, hz, sz, q⟩ := h
    refine ⟨_, (pss_one (ps_ret (pe_ca cS hr (by decide) (by rfl) (pa_cons (pv 0) (pa_cons pe_int (pa_cons (pe_glob (v := .int 8) (by rfl) gW ⟨_, rfl⟩) pa_nil)))))), ?_⟩
    exact ⟨_, rfl, v, d, 1, 8, rfl, hz, sz, q⟩
theorem dz_len {H : Hp} : ∀ {xs : List V} {ds : List PyData}, DzAll K H xs ds → xs.length = ds.length
  | [], _, .nil => rfl
  | _ :: _, _, .cons _ hr => by rw [List.length_cons, List.length_cons, dz_len hr]
theorem dz_get {H : Hp} : ∀ {xs : List V} {ds : List PyData} {i : Nat} {v : V}, DzAll K H xs ds → xs[i]? = some v → ∃ d, ds[i]? = some d ∧ Dz K H v d
  | [], _, _, _, .nil, e => by simp at e
  | _ :: _, _, 0, _, .cons hd _, e => by
    cases e
    exact ⟨_, rfl, hd⟩
  | _ :: _, _, i + 1, _, .cons _ hr, e => dz_get (i := i) hr e
theorem ok_unlike {f : Addr} {fd : FuncData} {e : Ex} (D : Df K mg "are_unlike" ["things"] sAreUnlike f fd) (T : Txt K mg C e) : FnOk P w K mg base CX0 1 f fd ["things"] (spUnlike K) := by
  refine D.fn.ok scAreUnlike (fun vs H Q E h => ?_) (fun cdv A outer s H vs Q E hr h => ?_)
  · obtain ⟨l, xs, rfl, hq, l4, q⟩ := h
    rfl
  · obtain ⟨l, xs, rfl, hq, l4, q⟩ := h
    refine ⟨_, (pss_one (ps_ret (pe_cmpR op_eq (Xsl.pe_lenSetN (by rfl) (by rfl) T.len (by rfl) T.set (pv 0)) (pe_callB call_len_seq (by rfl) T.len PySem.boot_len (pa_cons (pv 0) pa_nil)) (nomark _)))), ?_⟩
    have lt : xs.length + 1 < scanBound := Nat.lt_of_le_of_lt (Nat.succ_le_succ l4) (by decide)
    refine ⟨_, rfl, l, xs, rfl, hq, lt, _, rfl, l, xs.map V.str, rfl, hq, ?_⟩
    have e : decide (V.int ((Xsl.unlike xs : Nat) : Int) = V.int ((xs.map V.str).length : Nat)) = decide xs.Nodup := by
      rw [List.length_map]
      exact decide_eq_decide.mpr ⟨fun z => (Xsl.unlike_nodup xs).mp (by have := V.int.inj z; omega), fun z => by rw [(Xsl.unlike_nodup xs).mpr z]⟩
    rw [← e] at q
    exact ⟨rfl, q⟩
theorem ok_group {f : Addr} {fd : FuncData} {e : Ex} (D : Df K mg "is_group" ["thing"] sIsGroup f fd) (T : Txt K mg C e) (cS : Ca P w K mg base 2 "is_small_text" ["thing", "least", "most"] (spSmall K)) : FnOk P w K mg base CX0 3 f fd ["thing"] (spGroup K) := by
  obtain ⟨_, gS⟩ := T.sm
  obtain ⟨_, gW⟩ := T.lw
  obtain ⟨_, gG⟩ := T.mg_
  obtain ⟨_, gL⟩ := T.ll
  obtain ⟨_, gP⟩ := T.mp
  refine D.fn.ok scIsGroup (fun vs H Q E h => ?_) (fun cdv A outer s H vs Q E hr h => ?_)
  · obtain ⟨v, d, rfl, hz, s2, q⟩ := h
    rfl
  · obtain ⟨v, d, rfl, hz, s2, q⟩ := h
    refine ⟨_, (pss_cons (ps_if (PW.pt (pw_or (pt_not (pt_val (pe_callB call_isi (by rfl) T.isi (by decide +kernel) (pa_cons (pv 0) (pa_cons (pe_bltn (v := .ty "tuple") (by rfl) T.tuple (by decide +kernel) rfl) pa_nil))))) (pw_or1 (pt_cmpR op_eq (pe_callB call_len_seq (by rfl) T.len PySem.boot_len (pa_cons (pv 0) pa_nil)) pe_int (nomark _))))) (pss_one (ps_ret pe_bl)) pss_nil)
      (pss_one (ps_ret (pe_callB (cr_all (by rfl)) (by rfl) T.all (by decide +kernel) (pa_cons (pe_lc (own := [("text", 1)]) (g := gName 1) (tt := tYes) (te := tCall (spSmall K) [] E0 (tCons (tVar 1) (tCons (tC (.int 1)) (tCons (tC (.int 2)) tNil)))) (by rfl) scIsGroup.nd (pi_tup (pv 0)) (blkOk_by (own := [("text", 1)]) (N := ["thing", "text"]) (sc := defScope sIsGroup) (by decide +kernel)) (fun _ _ _ _ _ => pg_name (i := 1) scIsGroup.nd rfl (.inl rfl)) (fun _ _ _ _ _ => pts_nil) (fun _ _ _ _ _ => pe_ca cS hr (by decide) (by rfl) (pa_cons (pv 1) (pa_cons pe_int (pa_cons (pe_glob (v := .int 2) (by rfl) gL ⟨_, rfl⟩) pa_nil))))) pa_nil))))), ?_⟩
    refine ⟨_, rfl, _, _, _, _, isTup d, rfl, .ty _, hz.ty, z_tup d, _, rfl, ?_⟩
    cases hz with
    | @tup t xs ds et ra =>
      obtain ⟨l1000, s2⟩ := s2 _ rfl
      have lx := dz_len ra
      refine iteF ⟨_, rfl, t, xs, rfl, .inr (SqT.of et), rfl, _, rfl, ?_⟩
      by_cases c0 : xs = []
      · subst c0
        have w := q H (Same.refl H)
        obtain rfl : ds = [] := List.eq_nil_of_length_eq_zero lx.symm
        exact iteT w
      · have n0 : xs.length ≠ 0 := fun z => c0 (List.eq_nil_of_length_eq_zero z)
        refine ite2 (fun z => absurd (by have := V.int.inj (of_decide_eq_true z); omega) n0) fun _ => ?_
        refine ⟨_, rfl, t, rfl, ⟨_, SqT.of et⟩, fun D nD => ?_⟩
        refine lc_tup (K := K) (a := t) (xs := xs) (fun i Hi => L2.Same H Hi ∧ Hi D = some (.lst (((ds.map fun e => ofT e small 1 2).take i).map V.bl))) ⟨same_upd nD, upd_same⟩ (fun i Hi _ z => SqT.of (z.1 _ _ et)) ?_ ?_
        · rintro i x Hi hx ⟨sm, eD⟩
          have il : i < xs.length := (List.getElem?_eq_some_iff.mp hx).1
          obtain ⟨di, edi, dzi⟩ := dz_get ra hx
          refine ⟨rfl, ?_⟩
          unfold tYes
          refine iteT ⟨_, rfl, x, di, 1, 2, rfl, dzi.same sm, s2 di (List.mem_of_getElem? edi), fun H1 s1 => ⟨_, s1 _ _ eD, ?_, fun c o e => ?_, ?_⟩⟩
          · rw [List.length_map, List.length_take]
            exact Nat.lt_of_le_of_lt (Nat.le_trans (Nat.min_le_left _ _) (show i ≤ 1000 by omega)) (by decide)
          · rw [upd_ne (ne_of_none e nD)]
            exact s1 _ _ (sm _ _ e)
          · rw [upd_same, List.take_add_one, List.getElem?_map, edi, List.map_append]
            rfl
        · rintro H2 ⟨s2', eD⟩
          have tk : (ds.map fun e => ofT e small 1 2).take xs.length = ds.map fun e => ofT e small 1 2 := List.take_of_length_le (by rw [List.length_map]; omega)
          rw [tk] at eD
          refine ⟨D, _, rfl, SqL.of eD, ?_⟩
          have w := q H2 s2'
          have er : grD (.tuple ds) = (ds.map fun e => ofT e small 1 2).all id := by
            unfold grD
            dsimp only
            rw [decide_eq_true (show ds.length ≠ 0 by omega), List.all_map]
            rfl
          rw [er] at w
          exact w
    | _ => exact iteT (q H (Same.refl H))
end
end K79
set_option Elab.async false
set_option linter.all false
set_option maxRecDepth 100000
set_option maxHeartbeats 4000000
set_option pp.maxSteps 400
set_option pp.deepTerms false
namespace K79
open PySem PySem.Spec PyProof.Rows L2
open Xk Az
section
variable {P : Program} {w : World} {K : PySem.W.Frag} {mg : Str → Option Value} {base : Heap} {C : Addr}
theorem gr_get {K : PySem.W.Frag} {H : Hp} {x : V} {d : PyData} (h : Dz K H x d) (g : grD d = true) : ∃ (a : Addr) (ys : List Str), x = .ref a ∧ H a = some (.tup (ys.map V.str)) ∧ txG d = ys := by
  cases h with
  | @tup t xs ds et ra =>
    unfold grD at g
    rw [Bool.and_eq_true] at g
    have e := txs_all ra g.2
    exact ⟨t, txs ds, rfl, by rw [← e]; exact et, rfl⟩
  | _ => cases g
theorem ok_letters {f : Addr} {fd : FuncData} {e : Ex} (D : Df K mg "are_letters" ["thing"] sAreLetters f fd) (T : Txt K mg C e) (cGr : Ca P w K mg base 3 "is_group" ["thing"] (spGroup K)) (cU : Ca P w K mg base 1 "are_unlike" ["things"] (spUnlike K)) : FnOk P w K mg base CX0 4 f fd ["thing"] (spLetters K) := by
  obtain ⟨_, gS⟩ := T.sm
  obtain ⟨_, gW⟩ := T.lw
  obtain ⟨_, gG⟩ := T.mg_
  obtain ⟨_, gL⟩ := T.ll
  obtain ⟨_, gP⟩ := T.mp
  refine D.fn.ok scAreLetters (fun vs H Q E h => ?_) (fun cdv A outer s H vs Q E hr h => ?_)
  · obtain ⟨v, d, rfl, hz, s3, q⟩ := h
    rfl
  · obtain ⟨v, d, rfl, hz, s3, q⟩ := h
    refine ⟨_, (pss_cons (ps_if (PW.pt (pw_or (pt_not (pt_val (pe_callB call_isi (by rfl) T.isi (by decide +kernel) (pa_cons (pv 0) (pa_cons (pe_bltn (v := .ty "tuple") (by rfl) T.tuple (by decide +kernel) rfl) pa_nil))))) (pw_or1 (pt_not (pt_chain op_le op_le pe_int (pe_callB call_len_seq (by rfl) T.len PySem.boot_len (pa_cons (pv 0) pa_nil)) (pe_glob (v := .int 40) (by rfl) gG ⟨_, rfl⟩)))))) (pss_one (ps_ret pe_bl)) pss_nil)
      (pss_cons (ps_if (pt_not (pt_val (pe_callB (cr_all (by rfl)) (by rfl) T.all (by decide +kernel) (pa_cons (pe_lc (own := [("group", 1)]) (g := gName 1) (tt := tYes) (te := tCall (spGroup K) [] E0 (tCons (tVar 1) tNil)) (by rfl) scAreLetters.nd (pi_tup (pv 0)) (blkOk_by (own := [("group", 1)]) (N := ["thing", "group", "text"]) (sc := defScope sAreLetters) (by decide +kernel)) (fun _ _ _ _ _ => pg_name (i := 1) scAreLetters.nd rfl (.inl rfl)) (fun _ _ _ _ _ => pts_nil) (fun _ _ _ _ _ => pe_ca cGr hr (by decide) (by rfl) (pa_cons (pv 1) pa_nil))) pa_nil)))) (pss_one (ps_ret pe_bl)) pss_nil)
      (pss_one (ps_ret (pe_ca cU hr (by decide) (by rfl) (pa_cons (pe_lc2 (own := [("group", 1), ("text", 2)]) (vs1 := [2]) (g := gName 1) (g1 := gName 2) (tt := tYes) (tt1 := tYes) (wi1 := iTup K (tVar 1)) (te := tVar 2) (by rfl) scAreLetters.nd (pi_tup (pv 0)) (blkOk_by (own := [("group", 1), ("text", 2)]) (N := ["thing", "group", "text"]) (sc := defScope sAreLetters) (by decide +kernel)) (by decide) (fun _ _ _ _ _ => pg_name (i := 1) scAreLetters.nd rfl (.inl rfl)) (fun _ _ _ _ _ => pts_nil) (fun _ _ _ _ _ => pi_tup (pv 1)) (fun _ _ _ _ _ => pg_name (i := 2) scAreLetters.nd rfl (.inl rfl)) (fun _ _ _ _ _ => pts_nil) (fun _ _ _ _ _ => pv 2)) pa_nil)))))), ?_⟩
    refine ⟨_, rfl, _, _, _, _, isTup d, rfl, .ty _, hz.ty, z_tup d, _, rfl, ?_⟩
    cases hz with
    | @tup t xs ds et ra =>
      obtain ⟨l1000, s2, f4⟩ := s3 _ rfl
      have lx := dz_len ra
      refine iteF ⟨_, rfl, t, xs, rfl, .inr (SqT.of et), 1, _, rfl, rfl, _, rfl, ?_⟩
      have qz : ltD (.tuple ds) = false → ∀ H', L2.Same H H' → Q (.bl false) H' := fun e H' sm => by
        have w := q H' sm
        rw [e] at w
        exact w
      have eo : ltD (.tuple ds) = (decide ((1 : Int) ≤ (xs.length : Int)) && decide ((xs.length : Int) ≤ 40) && ds.all grD && decide (flat ds).Nodup) := by rw [lx]; rfl
      cases c1 : decide ((1 : Int) ≤ (xs.length : Int)) with
      | false => exact iteF ⟨_, rfl, iteT (qz (by rw [eo, c1]; rfl) H (Same.refl H))⟩
      | true =>
        refine iteT ⟨_, 40, rfl, rfl, _, rfl, ?_⟩
        cases c2 : decide ((xs.length : Int) ≤ 40) with
        | false => exact iteT (qz (by rw [eo, c1, c2]; rfl) H (Same.refl H))
        | true =>
          refine iteF ?_
          refine ⟨_, rfl, t, rfl, ⟨_, SqT.of et⟩, fun D nD => ?_⟩
          refine lc_tup (K := K) (a := t) (xs := xs) (fun i Hi => L2.Same H Hi ∧ Hi D = some (.lst (((ds.map grD).take i).map V.bl))) ⟨same_upd nD, upd_same⟩ (fun i Hi _ z => SqT.of (z.1 _ _ et)) ?_ ?_
          · rintro i x Hi hx ⟨sm, eD⟩
            have il : i < xs.length := (List.getElem?_eq_some_iff.mp hx).1
            obtain ⟨di, edi, dzi⟩ := dz_get ra hx
            refine ⟨rfl, ?_⟩
            unfold tYes
            refine iteT ⟨_, rfl, x, di, rfl, dzi.same sm, s2 di (List.mem_of_getElem? edi), fun H1 s1 => ⟨_, s1 _ _ eD, ?_, fun c o e => ?_, ?_⟩⟩
            · rw [List.length_map, List.length_take]
              exact Nat.lt_of_le_of_lt (Nat.le_trans (Nat.min_le_left _ _) (show i ≤ 1000 by omega)) (by decide)
            · rw [upd_ne (ne_of_none e nD)]
              exact s1 _ _ (sm _ _ e)
            · rw [upd_same, List.take_add_one, List.getElem?_map, edi, List.map_append]
              rfl
          · rintro H2 ⟨s2', eD⟩
            have tk : (ds.map grD).take xs.length = ds.map grD := List.take_of_length_le (by rw [List.length_map]; omega)
            rw [tk] at eD
            refine ⟨D, _, rfl, SqL.of eD, ?_⟩
            have er : (ds.map grD).all id = ds.all grD := by rw [List.all_map]; rfl
            refine ⟨_, rfl, ?_⟩
            dsimp only
            rw [er]
            cases c3 : ds.all grD with
            | false => exact iteT (qz (by rw [eo, c1, c2, c3]; rfl) H2 s2')
            | true =>
              refine iteF ⟨_, rfl, t, rfl, ⟨_, SqT.of (s2' _ _ et)⟩, fun L nL => ?_⟩
              refine Xdc.goes (walk_tup (K := K) (a := t) (xs := xs)) (fun i Hi => L2.Same H2 Hi ∧ Hi L = some (.lst ((flat (ds.take i)).map V.str))) ⟨same_upd nL, upd_same⟩ (fun i Hi _ z => SqT.of (z.1 _ _ (s2' _ _ et))) ?_ ?_
              · rintro i x Hi Hi' il ⟨sm, eL⟩ ⟨rfl, hx⟩
                obtain ⟨di, edi, dzi⟩ := dz_get ra hx
                obtain ⟨a, ys, rfl, ea, ey⟩ := gr_get dzi (List.all_eq_true.mp c3 di (List.mem_of_getElem? edi))
                have ea2 := sm _ _ (s2' _ _ ea)
                have fl : flat (ds.take (i + 1)) = flat (ds.take i) ++ ys := by
                  unfold flat
                  rw [List.take_add_one, edi, List.flatMap_append, ← ey]
                  simp
                have fle : (flat (ds.take (i + 1))).length ≤ (flat ds).length := by
                  have e := congrArg List.length (congrArg flat (List.take_append_drop (i + 1) ds))
                  unfold flat at e ⊢
                  rw [List.flatMap_append, List.length_append] at e
                  omega
                refine ⟨rfl, ?_⟩
                refine ⟨_, rfl, a, rfl, ⟨_, SqT.of ea2⟩, ?_⟩
                refine Xdc.goes (g := gName 2) (tt := tYes) (B := fun N σ H => tVar 2 σ H fun y H7 => ∃ acc, H7 L = some (.lst acc) ∧ acc.length < sizeLine ∧ N (upd H7 L (.lst (acc ++ [y])))) (walk_tup (K := K) (a := a) (xs := ys.map V.str)) (fun j Hj => L2.Same H2 Hj ∧ Hj L = some (.lst ((flat (ds.take i) ++ ys.take j).map V.str))) ⟨sm, by rw [List.take_zero, List.append_nil]; exact eL⟩ (fun j Hj _ z => SqT.of (z.1 _ _ (s2' _ _ ea))) ?_ ?_
                · rintro j y Hj Hj' jl ⟨smj, eLj⟩ ⟨rfl, hy⟩
                  refine ⟨rfl, ?_⟩
                  rw [List.getElem?_map] at hy
                  obtain ⟨z, hz, rfl⟩ := Option.map_eq_some_iff.mp hy
                  refine ⟨_, rfl, _, eLj, ?_, fun c o e => ?_, ?_⟩
                  · rw [List.length_map, List.length_append, List.length_take]
                    rw [fl, List.length_append] at fle
                    exact Nat.lt_of_le_of_lt (show _ ≤ 4000 by omega) (by decide)
                  · rw [upd_ne (ne_of_none e nL)]
                    exact smj _ _ e
                  · rw [upd_same, List.take_add_one, hz, ← List.append_assoc, List.map_append (l₂ := (some z).toList)]
                    rfl
                · rintro Hj ⟨smj, eLj⟩
                  rw [List.length_map, List.take_length] at eLj
                  exact ⟨smj, by rw [fl]; exact eLj⟩
              · rintro H3 ⟨s3', eL⟩
                rw [List.take_of_length_le (by omega)] at eL
                refine ⟨L, _, rfl, .inl (SqL.of eL), f4, ?_⟩
                have w := q H3 (s2'.trans s3')
                rw [eo, c1, c2, c3] at w
                exact w
    | _ => exact iteT (q H (Same.refl H))
theorem ok_passed {f : Addr} {fd : FuncData} {e : Ex} (D : Df K mg "are_passed" ["thing"] sArePassed f fd) (T : Txt K mg C e) (cWd : Ca P w K mg base 3 "is_word" ["thing"] (spWord K)) (cU : Ca P w K mg base 1 "are_unlike" ["things"] (spUnlike K)) : FnOk P w K mg base CX0 4 f fd ["thing"] (spPassed K) := by
  obtain ⟨_, gS⟩ := T.sm
  obtain ⟨_, gW⟩ := T.lw
  obtain ⟨_, gG⟩ := T.mg_
  obtain ⟨_, gL⟩ := T.ll
  obtain ⟨_, gP⟩ := T.mp
  refine D.fn.ok scArePassed (fun vs H Q E h => ?_) (fun cdv A outer s H vs Q E hr h => ?_)
  · obtain ⟨v, d, rfl, hz, s2, q⟩ := h
    rfl
  · obtain ⟨v, d, rfl, hz, s2, q⟩ := h
    refine ⟨_, (pss_cons (ps_if (PW.pt (pw_or (pt_not (pt_val (pe_callB call_isi (by rfl) T.isi (by decide +kernel) (pa_cons (pv 0) (pa_cons (pe_bltn (v := .ty "tuple") (by rfl) T.tuple (by decide +kernel) rfl) pa_nil))))) (pw_or1 (pt_cmpR op_gt (pe_callB call_len_seq (by rfl) T.len PySem.boot_len (pa_cons (pv 0) pa_nil)) (pe_glob (v := .int 20) (by rfl) gP ⟨_, rfl⟩) (nomark _))))) (pss_one (ps_ret pe_bl)) pss_nil)
      (pss_one (ps_ret (pe_and (pe_callB (cr_all (by rfl)) (by rfl) T.all (by decide +kernel) (pa_cons (pe_lc (own := [("word", 1)]) (g := gName 1) (tt := tYes) (te := tCall (spWord K) [] E0 (tCons (tVar 1) tNil)) (by rfl) scArePassed.nd (pi_tup (pv 0)) (blkOk_by (own := [("word", 1)]) (N := ["thing", "word"]) (sc := defScope sArePassed) (by decide +kernel)) (fun _ _ _ _ _ => pg_name (i := 1) scArePassed.nd rfl (.inl rfl)) (fun _ _ _ _ _ => pts_nil) (fun _ _ _ _ _ => pe_ca cWd hr (by decide) (by rfl) (pa_cons (pv 1) pa_nil))) pa_nil)) (pe_one (pe_ca cU hr (by decide) (by rfl) (pa_cons (pv 0) pa_nil))))))), ?_⟩
    refine ⟨_, rfl, _, _, _, _, isTup d, rfl, .ty _, hz.ty, z_tup d, _, rfl, ?_⟩
    cases hz with
    | @tup t xs ds et ra =>
      obtain ⟨l1000, s2⟩ := s2 _ rfl
      have lx := dz_len ra
      refine iteF ⟨_, rfl, t, xs, rfl, .inr (SqT.of et), _, _, rfl, rfl, _, rfl, ?_⟩
      have qz : psD (.tuple ds) = false → ∀ H', L2.Same H H' → Q (.bl false) H' := fun e H' sm => by
        have w := q H' sm
        rw [e] at w
        exact w
      have eo : psD (.tuple ds) = (decide ((xs.length : Int) ≤ 20) && ds.all (fun e => ofT e small 1 8) && decide (txs ds).Nodup) := by rw [lx]; rfl
      cases c1 : decide ((20 : Int) < xs.length) with
      | true =>
        have z1 : decide ((xs.length : Int) ≤ 20) = false := decide_eq_false (by have := of_decide_eq_true c1; omega)
        exact iteT (qz (by rw [eo, z1]; rfl) H (Same.refl H))
      | false =>
        have z1 : decide ((xs.length : Int) ≤ 20) = true := decide_eq_true (by have := of_decide_eq_false c1; omega)
        refine iteF ?_
        refine ⟨_, rfl, t, rfl, ⟨_, SqT.of et⟩, fun D nD => ?_⟩
        refine lc_tup (K := K) (a := t) (xs := xs) (fun i Hi => L2.Same H Hi ∧ Hi D = some (.lst (((ds.map fun e => ofT e small 1 8).take i).map V.bl))) ⟨same_upd nD, upd_same⟩ (fun i Hi _ z => SqT.of (z.1 _ _ et)) ?_ ?_
        · rintro i x Hi hx ⟨sm, eD⟩
          have il : i < xs.length := (List.getElem?_eq_some_iff.mp hx).1
          obtain ⟨di, edi, dzi⟩ := dz_get ra hx
          refine ⟨rfl, ?_⟩
          unfold tYes
          refine iteT ⟨_, rfl, x, di, rfl, dzi.same sm, s2 di (List.mem_of_getElem? edi), fun H1 s1 => ⟨_, s1 _ _ eD, ?_, fun c o e => ?_, ?_⟩⟩
          · rw [List.length_map, List.length_take]
            exact Nat.lt_of_le_of_lt (Nat.le_trans (Nat.min_le_left _ _) (show i ≤ 1000 by omega)) (by decide)
          · rw [upd_ne (ne_of_none e nD)]
            exact s1 _ _ (sm _ _ e)
          · rw [upd_same, List.take_add_one, List.getElem?_map, edi, List.map_append]
            rfl
        · rintro H2 ⟨s2', eD⟩
          have tk : (ds.map fun e => ofT e small 1 8).take xs.length = ds.map fun e => ofT e small 1 8 := List.take_of_length_le (by rw [List.length_map]; omega)
          rw [tk] at eD
          refine ⟨D, _, rfl, SqL.of eD, ?_⟩
          have er : (ds.map fun e => ofT e small 1 8).all id = ds.all fun e => ofT e small 1 8 := by rw [List.all_map]; rfl
          refine ⟨_, rfl, ?_⟩
          dsimp only
          rw [er]
          cases c3 : ds.all fun e => ofT e small 1 8 with
          | false => exact iteF (qz (by rw [eo, z1, c3]; rfl) H2 s2')
          | true =>
            have ex := txs_all ra c3
            have et2 := s2' _ _ et
            rw [ex] at et2
            have tl := txs_len (ds := ds)
            refine iteT ⟨_, rfl, t, txs ds, rfl, .inr (SqT.of et2), by omega, ?_⟩
            have w := q H2 s2'
            rw [eo, z1, c3] at w
            exact w
    | _ => exact iteT (q H (Same.refl H))
end
end K79
set_option Elab.async false
set_option linter.all false
set_option maxRecDepth 100000
set_option maxHeartbeats 4000000
set_option pp.maxSteps 400
set_option pp.deepTerms false
namespace K79
open PySem PySem.Spec PyProof.Rows L2
open Xk Az
section
variable {P : Program} {w : World} {K : PySem.W.Frag} {mg : Str → Option Value} {base : Heap} {C : Addr}
/-- what the letters count -/
def numG (n : Nat) (g : List Str) (kvs : List (Key × V)) : List (Key × V) := g.foldl (fun k x => putK k (.inr x) (.int (n : Nat))) kvs
def numF : Nat → List (List Str) → List (Key × V) → List (Key × V)
  | _, [], acc => acc
  | n, g :: r, acc => numF (n + 1) r (numG n g acc)
theorem numG_app (n : Nat) (g : List Str) (x : Str) (kvs : List (Key × V)) : numG n (g ++ [x]) kvs = putK (numG n g kvs) (.inr x) (.int (n : Nat)) := by
  unfold numG
  rw [List.foldl_append]
  rfl
theorem numF_app : ∀ (a : List (List Str)) (n : Nat) (g : List Str) (acc : List (Key × V)), numF n (a ++ [g]) acc = numG (n + a.length) g (numF n a acc)
  | [], n, g, acc => rfl
  | b :: r, n, g, acc => by
    show numF (n + 1) (r ++ [g]) (numG n b acc) = _
    rw [numF_app r (n + 1) g (numG n b acc), List.length_cons, show n + (r.length + 1) = n + 1 + r.length by omega]
    rfl
theorem numG_len (n : Nat) : ∀ (g : List Str) (kvs : List (Key × V)), (numG n g kvs).length ≤ kvs.length + g.length
  | [], kvs => Nat.le_refl _
  | x :: r, kvs => by
    have h := numG_len n r (putK kvs (.inr x) (.int (n : Nat)))
    have := length_putK kvs (.inr x) (.int (n : Nat))
    rw [List.length_cons]
    show (numG n r (putK kvs (.inr x) (.int (n : Nat)))).length ≤ _
    omega
theorem numF_len : ∀ (a : List (List Str)) (n : Nat) (acc : List (Key × V)), (numF n a acc).length ≤ acc.length + a.flatten.length
  | [], n, acc => Nat.le_refl _
  | b :: r, n, acc => by
    have h := numF_len r (n + 1) (numG n b acc)
    have := numG_len n b acc
    rw [List.flatten_cons, List.length_append]
    show (numF (n + 1) r (numG n b acc)).length ≤ _
    omega
def lts (d : PyData) : List (List Str) := match d with
  | .tuple ds => ds.map txG
  | _ => []
/-- a Custom -/
def custF (l p c n : V) : List (Str × V) := [("letters", l), ("passed", p), ("comma", c), ("numbers", n)]
def CustAt (C : Addr) (H : Hp) (x : Addr) (l p : V) (b : Bool) (gs : List (List Str)) : Prop := ∃ dx nd, H x = some (.ins C dx (custF l p (.bl b) (.ref nd))) ∧ H nd = some (.dK (numF 0 gs []))
theorem CustAt.same {C : Addr} {H H' : Hp} {x : Addr} {l p : V} {b : Bool} {gs : List (List Str)} (h : CustAt C H x l p b gs) (s : L2.Same H H') : CustAt C H' x l p b gs := by
  obtain ⟨dx, nd, e, e2⟩ := h
  exact ⟨dx, nd, s _ _ e, s _ _ e2⟩
theorem dz_txts {K : PySem.W.Frag} {H : Hp} : ∀ ys : List Str, DzAll K H (ys.map V.str) (ys.map PyData.str)
  | [] => .nil
  | y :: r => .cons (.str y) (dz_txts r)
theorem txs_self {sg : Str} {a b : Int} : ∀ {ds : List PyData}, (ds.all fun e => ofT e sg a b) = true → ds = (txs ds).map PyData.str
  | [], _ => rfl
  | d :: r, al => by
    rw [List.all_cons, Bool.and_eq_true] at al
    have ih := txs_self al.2
    cases d with
    | str x => exact congrArg (List.cons (PyData.str x)) ih
    | _ => cases al.1
theorem ps_get {K : PySem.W.Frag} {H : Hp} {x : V} {d : PyData} (h : Dz K H x d) (g : psD d = true) : ∃ (a : Addr) (ys : List Str), x = .ref a ∧ H a = some (.tup (ys.map V.str)) ∧ d = .tuple (ys.map PyData.str) := by
  cases h with
  | @tup t xs ds et ra =>
    unfold psD at g
    simp only [Bool.and_eq_true] at g
    have e := txs_all ra g.1.2
    exact ⟨t, txs ds, rfl, by rw [← e]; exact et, by rw [← txs_self g.1.2]⟩
  | _ => cases g
def wdD (d : PyData) : PyData := match d with
  | .none => .tuple []
  | d => d
def spInit (K : PySem.W.Frag) (C : Addr) (e : Ex) : Sp := fun vs H Q E => ∃ (x dx : Addr) (l p c : V) (dl dp dc : PyData), vs = [.ref x, l, p, c] ∧ H x = some (.ins C dx []) ∧ Dz K H l dl ∧ S3 dl ∧ Dz K H p dp ∧ S2 dp ∧ Dz K H c dc ∧
  (∀ b, ltD dl = true → psD (wdD dp) = true → dc = .bool b → ∀ (H' : Hp) (p' : V), (∀ b o, H b = some o → b ≠ x → H' b = some o) → Dz K H' p' (wdD dp) → CustAt C H' x l p' b (lts dl) → Q .non H') ∧
  ((ltD dl && psD (wdD dp) && isBo dc) = false → ∀ H', L2.Same H H' → E (.ref e.NoCustom) none H')
theorem f_1 (l p c n : V) : (custF l p c n).lookup ("letters" : Str) = some l := by unfold custF; exact List.lookup_cons_self
theorem f_2 (l p c n : V) : (custF l p c n).lookup ("passed" : Str) = some p := by
  unfold custF
  rw [List.lookup_cons, show (("passed" : Str) == ("letters" : Str)) = false by decide +kernel]
  exact List.lookup_cons_self
theorem f_3 (l p c n : V) : (custF l p c n).lookup ("comma" : Str) = some c := by
  unfold custF
  rw [List.lookup_cons, show (("comma" : Str) == ("letters" : Str)) = false by decide +kernel]
  dsimp only
  rw [List.lookup_cons, show (("comma" : Str) == ("passed" : Str)) = false by decide +kernel]
  exact List.lookup_cons_self
theorem f_4 (l p c n : V) : (custF l p c n).lookup ("numbers" : Str) = some n := by
  unfold custF
  rw [List.lookup_cons, show (("numbers" : Str) == ("letters" : Str)) = false by decide +kernel]
  dsimp only
  rw [List.lookup_cons, show (("numbers" : Str) == ("passed" : Str)) = false by decide +kernel]
  dsimp only
  rw [List.lookup_cons, show (("numbers" : Str) == ("comma" : Str)) = false by decide +kernel]
  exact List.lookup_cons_self
theorem ok_init {f : Addr} {fd : FuncData} {e : Ex} (F : FunD K "__init__" "Custom.__init__" (defArgs sCustomInit) (defBody sCustomInit) (defScope sCustomInit) [.non, .bl true] [] f fd) (T : Txt K mg C e) (cL : Ca P w K mg base 4 "are_letters" ["thing"] (spLetters K)) (cPs : Ca P w K mg base 4 "are_passed" ["thing"] (spPassed K)) : FnOk P w K mg base (L2.CX P w) 5 f fd ["self", "letters", "passed", "comma"] (spInit K C e) := by
  refine F.ok (CX := L2.CX P w) scCustomInit (fun vs H Q E h => ?_) (fun cdv A outer s H vs Q E hr h => ?_)
  · obtain ⟨x, dx, l, p, c, dl, dp, dc, rfl, hx, hl, sl, hp, sp, hc, q1, q2⟩ := h
    rfl
  · obtain ⟨x, dx, l, p, c, dl, dp, dc, rfl, hx, hl, sl, hp, sp, hc, q1, q2⟩ := h
    refine ⟨_, (C8.pss_cut (ps_set (i := 4) scCustomInit.nd rfl (.inl rfl) (pe_ifExp (pt_cmpR op_isN (pv 2) pe_non (nomark _)) (pe_tup pa_nil) (pv 2)))
      (pss_cons (ps_if (pt_not (pt_val (pe_ca cL hr (by decide) (by rfl) (pa_cons (pv 1) pa_nil)))) (pss_one (ps_raise rfl (takes_of rfl rfl rfl rfl) (pmk_own PySem.F.excBase_ValueError T.xP T.mNoCustom T.kP (raises_own T.bP T.tP) (by rfl)))) pss_nil)
      (pss_cons (ps_if (pt_not (pt_val (pe_ca cPs hr (by decide) (by rfl) (pa_cons (pv 4) pa_nil)))) (pss_one (ps_raise rfl (takes_of rfl rfl rfl rfl) (pmk_own PySem.F.excBase_ValueError T.xP T.mNoCustom T.kP (raises_own T.bP T.tP) (by rfl)))) pss_nil)
      (pss_cons (ps_if (pt_not (pt_val (pe_callB call_isi (by rfl) T.isi (by decide +kernel) (pa_cons (pv 3) (pa_cons (pe_bltn (v := .ty "bool") (by rfl) T.bool (by decide +kernel) rfl) pa_nil))))) (pss_one (ps_raise rfl (takes_of rfl rfl rfl rfl) (pmk_own PySem.F.excBase_ValueError T.xP T.mNoCustom T.kP (raises_own T.bP T.tP) (by rfl)))) pss_nil)
      (pss_cons (ps_fld (pv 0) (pv 1) rfl)
      (pss_cons (ps_fld (pv 0) (pv 4) rfl)
      (pss_cons (ps_fld (pv 0) (pv 3) rfl)
      (pss_one (ps_fld (pv 0) (Xdc.pe_dc2 (own := [("number", 5), ("group", 6), ("text", 7)]) (us := [7]) (g := (gTup K 2 (gCons (gName 5) (gCons (gName 6) gNil)))) (gj := gName 7) (tt := tYes) (tj := tYes) (wj := iTup K (tVar 6)) (tk := tVar 7) (ty := tVar 5) (.dK []) (by simp) hr.units0 (by rfl) scCustomInit.nd (Xt.pi_enumT (by rfl) T.enumerate (pa_cons (pv 1) pa_nil)) (blkOk_by (own := [("number", 5), ("group", 6), ("text", 7)]) (N := ["self", "letters", "passed", "comma", "words", "number", "group", "text"]) (sc := defScope sCustomInit) (by decide +kernel)) (by decide) (fun _ _ _ _ _ => pg_tup (by rfl) (pgs_cons (pg_name (i := 5) scCustomInit.nd rfl (.inl rfl)) (pgs_cons (pg_name (i := 6) scCustomInit.nd rfl (.inl rfl)) pgs_nil))) (fun _ _ _ _ _ => pts_nil) (fun _ _ _ _ _ => pi_tup (pv 6)) (fun _ _ _ _ _ => pg_name (i := 7) scCustomInit.nd rfl (.inl rfl)) (fun _ _ _ _ _ => pts_nil) (fun _ _ _ _ _ => pv 7) (fun _ _ _ _ _ => pv 5)) rfl))))))))), ?_⟩
    refine ⟨fun σ1 H1 => ∃ p', σ1 = [some (.ref x), some l, some p, some c, some p', none, none, none] ∧ L2.Same H H1 ∧ Dz K H1 p' (wdD dp), ?_, ?_⟩
    · refine ⟨_, rfl, rfl, _, rfl, ?_⟩
      have hp0 := hp
      cases hp with
      | non => exact iteT ⟨by decide, fun q nq => ⟨_, rfl, same_upd nq, .tup upd_same .nil⟩⟩
      | bl => exact iteF ⟨_, rfl, _, rfl, Same.refl H, hp0⟩
      | int => exact iteF ⟨_, rfl, _, rfl, Same.refl H, hp0⟩
      | str => exact iteF ⟨_, rfl, _, rfl, Same.refl H, hp0⟩
      | lst => exact iteF ⟨_, rfl, _, rfl, Same.refl H, hp0⟩
      | tup => exact iteF ⟨_, rfl, _, rfl, Same.refl H, hp0⟩
      | dct => exact iteF ⟨_, rfl, _, rfl, Same.refl H, hp0⟩
    rintro σ1 H1 ⟨p', rfl, sm1, hp1⟩
    have sp1 : S2 (wdD dp) := by
      cases dp with
      | none => exact fun ds e => by cases e; exact ⟨by decide, fun e h => by cases h⟩
      | _ => exact sp
    refine ⟨_, rfl, l, dl, rfl, hl.same sm1, sl, fun H2 s2 => ⟨_, rfl, ?_⟩⟩
    cases c1 : ltD dl with
    | false => exact iteT (q2 (by rw [c1]; rfl) H2 (sm1.trans s2))
    | true =>
    refine iteF ⟨_, rfl, p', wdD dp, rfl, hp1.same s2, sp1, fun H3 s3 => ⟨_, rfl, ?_⟩⟩
    have s03 := (sm1.trans s2).trans s3
    have s13 := s2.trans s3
    cases c2 : psD (wdD dp) with
    | false => exact iteT (q2 (by rw [c1, c2]; rfl) H3 s03)
    | true =>
    have hc3 := hc.same s03
    refine iteF ⟨_, rfl, _, _, _, _, isBo dc, rfl, .ty _, hc3.ty, z_bool dc, _, rfl, ?_⟩
    cases c3 : isBo dc with
    | false => exact iteT (q2 (by rw [c1, c2, c3]; rfl) H3 s03)
    | true =>
    obtain ⟨b, rfl⟩ : ∃ b, dc = .bool b := by
      cases dc with
      | bool b => exact ⟨b, rfl⟩
      | _ => cases c3
    obtain rfl : c = .bl b := by cases hc; rfl
    refine iteF ?_
    refine ⟨_, rfl, _, rfl, x, C, dx, [], rfl, s03 _ _ hx, T.cl, T.n1, (by decide), ?_⟩
    refine ⟨_, rfl, _, rfl, x, C, dx, _, rfl, upd_same, T.cl, T.n2, (by show 1 < 1000; decide), ?_⟩
    refine ⟨_, rfl, _, rfl, x, C, dx, _, rfl, upd_same, T.cl, T.n3, (by show 2 < 1000; decide), ?_⟩
    rw [upd_upd, upd_upd]
    generalize hH4 : upd H3 x _ = H4
    have ex4 : H4 x = some (.ins C dx [("letters", l), ("passed", p'), ("comma", .bl b)]) := by rw [← hH4]; exact upd_same
    have s34 : ∀ b o, H3 b = some o → b ≠ x → H4 b = some o := fun b o e n => by rw [← hH4, upd_ne n]; exact e
    have ny : ∀ {a : Addr} {ys : List V}, H a = some (.tup ys) → a ≠ x := fun {a ys} e z => by
      rw [z, hx] at e
      cases e
    cases hl with
    | @tup t xs ds et ra =>
      obtain ⟨l1000, s2', f4⟩ := sl _ rfl
      have lx := dz_len ra
      have c3' : ds.all grD = true := by
        unfold ltD at c1
        simp only [Bool.and_eq_true] at c1
        exact c1.1.2
      have et4 : H4 t = some (.tup xs) := s34 _ _ (s03 _ _ et) (ny et)
      refine ⟨_, rfl, t, xs, rfl, SqT.of et4, fun D nD => ?_⟩
      refine Xdc.goes (Xt.walk_enumT (K := K) (a := t) (xs := xs)) (fun i Hi => L2.Same H4 Hi ∧ Hi D = some (.dK (numF 0 ((ds.map txG).take i) []))) ⟨same_upd nD, upd_same⟩ (fun i Hi _ z => SqT.of (z.1 _ _ et4)) ?_ ?_
      · rintro i v Hi Hi' il ⟨sm, eD⟩ ⟨T', x1, x2, rfl, nT, rfl, ex1, hx2⟩
        obtain rfl : V.int (i : Nat) = x1 := Option.some.inj ex1
        obtain ⟨di, edi, dzi⟩ := dz_get ra hx2
        obtain ⟨a, ys, rfl, ea, ey⟩ := gr_get dzi (List.all_eq_true.mp c3' di (List.mem_of_getElem? edi))
        have st := same_upd nT (o := .tup [.int (i : Nat), .ref a])
        have ea4 : H4 a = some (.tup (ys.map V.str)) := s34 _ _ (s03 _ _ ea) (ny ea)
        have tk : (ds.map txG).take (i + 1) = (ds.map txG).take i ++ [ys] := by rw [List.take_add_one, List.getElem?_map, edi, ← ey]; rfl
        have nx : numF 0 ((ds.map txG).take (i + 1)) [] = numG i ys (numF 0 ((ds.map txG).take i) []) := by
          rw [tk, numF_app, List.length_take, List.length_map]
          congr 1
          omega
        have fle : ((ds.map txG).take i).flatten.length + ys.length ≤ 4000 := by
          have e := congrArg (fun q => (List.flatten q).length) (List.take_append_drop (i + 1) (ds.map txG))
          rw [List.flatten_append, List.length_append, tk, List.flatten_append, List.length_append] at e
          have e2 : (ds.map txG).flatten.length = (flat ds).length := by unfold flat; rw [List.flatMap_def]
          have e3 : [ys].flatten = ys := by simp
          rw [e3] at e
          omega
        refine ⟨T', _, rfl, SqT.of upd_same, rfl, _, _, rfl, _, _, rfl, rfl, rfl, ?_⟩
        refine ⟨_, rfl, a, rfl, ⟨_, SqT.of (st _ _ (sm _ _ ea4))⟩, ?_⟩
        refine Xdc.goes (g := gName 7) (tt := tYes) (B := fun N σ H => tVar 7 σ H fun y H7 => tVar 5 σ H7 fun z H8 => ∃ H9, DPut H8 D y z H9 ∧ N H9) (walk_tup (K := K) (a := a) (xs := ys.map V.str)) (fun j Hj => L2.Same H4 Hj ∧ Hj D = some (.dK (numG i (ys.take j) (numF 0 ((ds.map txG).take i) [])))) ⟨sm.trans st, by rw [List.take_zero]; exact st _ _ eD⟩ (fun j Hj _ z => SqT.of (z.1 _ _ ea4)) ?_ ?_
        · rintro j y Hj Hj' jl ⟨smj, eDj⟩ ⟨rfl, hy⟩
          rw [List.getElem?_map] at hy
          obtain ⟨z, hz, rfl⟩ := Option.map_eq_some_iff.mp hy
          refine ⟨rfl, ?_⟩
          refine ⟨_, rfl, _, rfl, _, .k (k := .inr z) eDj ?_, fun c o e => ?_, ?_⟩
          · have h1 := numG_len i (ys.take j) (numF 0 ((ds.map txG).take i) [])
            have h2 := numF_len ((ds.map txG).take i) 0 []
            have h3 : (ys.take j).length ≤ ys.length := by rw [List.length_take]; exact Nat.min_le_right _ _
            have h4 : ([] : List (Key × V)).length = 0 := rfl
            exact Nat.lt_of_le_of_lt (show _ ≤ 4000 by omega) (by decide)
          · rw [upd_ne (ne_of_none e nD)]
            exact smj _ _ e
          · rw [upd_same, List.take_add_one, hz]
            show some (HO.dK _) = some (HO.dK (numG i (ys.take j ++ [z]) _))
            rw [numG_app]
        · rintro Hj ⟨smj, eDj⟩
          rw [List.length_map, List.take_length] at eDj
          exact ⟨smj, by rw [nx]; exact eDj⟩
      · rintro H5 ⟨s45, eD⟩
        rw [List.take_of_length_le (by rw [List.length_map]; omega)] at eD
        refine ⟨_, rfl, x, C, dx, _, rfl, s45 _ _ ex4, T.cl, T.n4, (by show 3 < 1000; decide), ?_⟩
        have nDx : D ≠ x := fun z => by rw [z, ex4] at nD; cases nD
        refine q1 b c1 c2 rfl _ p' (fun b o e n => by rw [upd_ne n]; exact s45 _ _ (s34 b o (s03 _ _ e) n)) ?_ ⟨dx, D, upd_same, ?_⟩
        · obtain ⟨a, ys, rfl, ea, ed⟩ := ps_get hp1 c2
          have nax : a ≠ x := fun z => by
            have e := sm1 _ _ hx
            rw [← z, ea] at e
            cases e
          rw [ed]
          exact .tup (by rw [upd_ne nax]; exact s45 _ _ (s34 _ _ (s13 _ _ ea) nax)) (dz_txts ys)
        · rw [upd_ne nDx]
          exact eD
    | _ => cases c1
end
end K79
set_option Elab.async false
set_option linter.all false
set_option maxRecDepth 100000
set_option maxHeartbeats 4000000
set_option pp.maxSteps 400
set_option pp.deepTerms false
namespace K79
open PySem PySem.Spec PyProof.Rows L2
open Xk Az
section
variable {P : Program} {w : World} {K : PySem.W.Frag} {mg : Str → Option Value} {base : Heap} {C : Addr}
/-- letters, passed words, whether a comma -/
abbrev Cg := List (List Str) × List Str × Bool
def gP (g : List Str) : PyData := .tuple (g.map PyData.str)
def ltP (gs : List (List Str)) : PyData := .tuple (gs.map gP)
theorem txs_str : ∀ ys : List Str, txs (ys.map PyData.str) = ys
  | [] => rfl
  | y :: r => congrArg (List.cons y) (txs_str r)
theorem txG_gP (g : List Str) : txG (gP g) = g := txs_str g
theorem map_txG : ∀ gs : List (List Str), (gs.map gP).map txG = gs
  | [] => rfl
  | g :: r => by rw [List.map_cons, List.map_cons, map_txG r, txG_gP]
theorem lts_ltP (gs : List (List Str)) : lts (ltP gs) = gs := map_txG gs
theorem flat_gP (gs : List (List Str)) : flat (gs.map gP) = gs.flatten := by
  unfold flat
  rw [List.flatMap_def, map_txG]
structure GoodC (c : Cg) : Prop where
  lt : ltD (ltP c.1) = true
  ps : psD (gP c.2.1) = true
  sz : c.1.flatten.length ≤ 1000
def CuAt (K : PySem.W.Frag) (C : Addr) (H : Hp) (a : Addr) (c : Cg) : Prop := ∃ l p, CustAt C H a l p c.2.2 c.1 ∧ Dz K H l (ltP c.1) ∧ Dz K H p (gP c.2.1)
theorem CuAt.same {K : PySem.W.Frag} {C : Addr} {H H' : Hp} {a : Addr} {c : Cg} (h : CuAt K C H a c) (s : L2.Same H H') : CuAt K C H' a c := by
  obtain ⟨l, p, h1, h2, h3⟩ := h
  exact ⟨l, p, h1.same s, h2.same s, h3.same s⟩
theorem ltD_all {gs : List (List Str)} (h : ltD (ltP gs) = true) : ∀ g ∈ gs, g ≠ [] ∧ ∀ t ∈ g, ofT (.str t) small 1 2 = true := fun g hg => by
  unfold ltD ltP at h
  simp only [Bool.and_eq_true] at h
  have a := List.all_eq_true.mp h.1.2 (gP g) (List.mem_map.mpr ⟨g, hg, rfl⟩)
  unfold grD gP at a
  simp only [Bool.and_eq_true, decide_eq_true_eq] at a
  refine ⟨fun z => a.1 (by rw [z]; rfl), fun t ht => List.all_eq_true.mp a.2 (.str t) (List.mem_map.mpr ⟨t, ht, rfl⟩)⟩
theorem psD_all {ws : List Str} (h : psD (gP ws) = true) : ∀ t ∈ ws, ofT (.str t) small 1 8 = true := fun t ht => by
  unfold psD gP at h
  simp only [Bool.and_eq_true] at h
  exact List.all_eq_true.mp h.1.2 (.str t) (List.mem_map.mpr ⟨t, ht, rfl⟩)
theorem of_get {t sg : Str} {a b : Int} (h : ofT (.str t) sg a b = true) : a ≤ (t.length : Int) ∧ (t.length : Int) ≤ b ∧ ∀ c ∈ t.cps.toList, c ∈ sg.cps.toList := by
  unfold ofT at h
  simp only [Bool.and_eq_true, decide_eq_true_eq] at h
  exact ⟨h.1.1, h.1.2, fun c hc => of_decide_eq_true (List.all_eq_true.mp h.2 c hc)⟩
theorem of_mk {t sg : Str} {a b : Int} (h1 : a ≤ (t.length : Int)) (h2 : (t.length : Int) ≤ b) (h3 : ∀ c ∈ t.cps.toList, c ∈ sg.cps.toList) : ofT (.str t) sg a b = true := by
  unfold ofT
  simp only [Bool.and_eq_true, decide_eq_true_eq]
  exact ⟨⟨h1, h2⟩, List.all_eq_true.mpr fun c hc => decide_eq_true (h3 c hc)⟩
theorem flat_part {α : Type} {g : List α} : ∀ {gs : List (List α)}, g ∈ gs → g.length ≤ gs.flatten.length
  | [], h => by cases h
  | a :: r, h => by
    rw [List.flatten_cons, List.length_append]
    rcases List.mem_cons.mp h with z | z
    · rw [z]; omega
    · have := flat_part z; omega
theorem good_s3 {c : Cg} (h : GoodC c) : S3 (ltP c.1) := fun ds e => by
  cases e
  have hl : c.1.length ≤ 40 := by
    have h := h.lt
    unfold ltD ltP at h
    simp only [Bool.and_eq_true, decide_eq_true_eq, List.length_map] at h
    omega
  refine ⟨by rw [List.length_map]; omega, fun e he => ?_, by rw [flat_gP]; have := h.sz; omega⟩
  obtain ⟨g, hg, rfl⟩ := List.mem_map.mp he
  intro es ee
  cases ee
  refine ⟨by rw [List.length_map]; have := flat_part hg; have := h.sz; omega, fun e he => ?_⟩
  obtain ⟨t, ht, rfl⟩ := List.mem_map.mp he
  intro x ex
  cases ex
  have := (of_get ((ltD_all h.lt g hg).2 t ht)).2.1
  omega
theorem good_s2 {ws : List Str} (h : psD (gP ws) = true) : S2 (gP ws) := fun ds e => by
  cases e
  have hl : ws.length ≤ 20 := by
    have h := h
    unfold psD gP at h
    simp only [Bool.and_eq_true, decide_eq_true_eq, List.length_map] at h
    omega
  refine ⟨by rw [List.length_map]; omega, fun e he => ?_⟩
  obtain ⟨t, ht, rfl⟩ := List.mem_map.mp he
  intro x ex
  cases ex
  have := (of_get (psD_all h t ht)).2.1
  omega
theorem eqv_strs : ∀ xs ys : List Str, PyData.eqvAll (xs.map PyData.str) (ys.map PyData.str) = decide (xs = ys)
  | [], [] => rfl
  | [], _ :: _ => rfl
  | _ :: _, [] => rfl
  | x :: xs, y :: ys => by
    simp only [List.map_cons, PyData.eqvAll, PyData.eqv, eqv_strs xs ys]
    by_cases h1 : x = y
    · by_cases h2 : xs = ys
      · subst h1 h2; simp
      · simp [h2]
    · simp [h1]
theorem eqv_gP (a b : List Str) : PyData.eqv (gP a) (gP b) = decide (a = b) := by
  unfold gP
  simp only [PyData.eqv]
  exact eqv_strs a b
theorem eqv_gPs : ∀ xs ys : List (List Str), PyData.eqvAll (xs.map gP) (ys.map gP) = decide (xs = ys)
  | [], [] => rfl
  | [], _ :: _ => rfl
  | _ :: _, [] => rfl
  | x :: xs, y :: ys => by
    simp only [List.map_cons, PyData.eqvAll, eqv_gP, eqv_gPs xs ys]
    by_cases h1 : x = y
    · by_cases h2 : xs = ys
      · subst h1 h2; simp
      · simp [h2]
    · simp [h1]
theorem eqv_ltP (a b : List (List Str)) : PyData.eqv (ltP a) (ltP b) = decide (a = b) := by
  unfold ltP
  simp only [PyData.eqv]
  exact eqv_gPs a b
theorem tx_dp {K : PySem.W.Frag} {H : Hp} : ∀ {xs : List V} {ys : List Str}, DzAll K H xs (ys.map PyData.str) → DpAll K H xs (ys.map PyData.str)
  | [], [], .nil => .nil
  | _ :: _, y :: ys, .cons h r => by
    cases h
    exact .cons (.str y) (tx_dp r)
theorem gP_dp {K : PySem.W.Frag} {H : Hp} {v : V} {g : List Str} (h : Dz K H v (gP g)) : Dp K H v (gP g) := by
  unfold gP at h
  cases h with
  | tup e r => exact .tup (SqT.of e) (tx_dp r)
theorem gPs_dp {K : PySem.W.Frag} {H : Hp} : ∀ {xs : List V} {gs : List (List Str)}, DzAll K H xs (gs.map gP) → DpAll K H xs (gs.map gP)
  | [], [], .nil => .nil
  | _ :: _, g :: gs, .cons h r => .cons (gP_dp h) (gPs_dp r)
theorem ltP_dp {K : PySem.W.Frag} {H : Hp} {v : V} {gs : List (List Str)} (h : Dz K H v (ltP gs)) : Dp K H v (ltP gs) := by
  unfold ltP at h
  cases h with
  | tup e r => exact .tup (SqT.of e) (gPs_dp r)
theorem asc_small : ∀ c ∈ small.cps.toList, c < 128 := by decide +kernel
theorem strOk_sm {t : Str} (h : ∀ c ∈ t.cps.toList, c ∈ small.cps.toList) : PyData.strOk t = true := by
  unfold PyData.strOk
  rw [← Array.all_toList, List.all_eq_true]
  exact fun c hc => decide_eq_true (Nat.lt_of_lt_of_le (asc_small c (h c hc)) (by decide))
theorem lay_strs : ∀ {ys : List Str}, (∀ y ∈ ys, ∀ c ∈ y.cps.toList, c ∈ small.cps.toList) → PyData.canLayAll0 (ys.map PyData.str) = true ∧ PyData.depthAll (ys.map PyData.str) ≤ 2
  | [], _ => ⟨by simp [PyData.canLayAll0], by simp [PyData.depthAll]⟩
  | y :: ys, h => by
    obtain ⟨a, b⟩ := lay_strs (ys := ys) fun z hz => h z (List.mem_cons_of_mem _ hz)
    have w := strOk_sm (h y List.mem_cons_self)
    constructor
    · simp [PyData.canLayAll0, PyData.canLay0, w, a]
    · simp only [List.map_cons, PyData.depthAll, PyData.depth]
      omega
theorem lay_gPs : ∀ {gs : List (List Str)}, (∀ g ∈ gs, ∀ y ∈ g, ∀ c ∈ y.cps.toList, c ∈ small.cps.toList) → PyData.canLayAll0 (gs.map gP) = true ∧ PyData.depthAll (gs.map gP) ≤ 4
  | [], _ => ⟨by simp [PyData.canLayAll0], by simp [PyData.depthAll]⟩
  | g :: gs, h => by
    obtain ⟨a, b⟩ := lay_gPs (gs := gs) fun z hz => h z (List.mem_cons_of_mem _ hz)
    obtain ⟨a1, b1⟩ := lay_strs (h g List.mem_cons_self)
    constructor
    · simp [gP, PyData.canLayAll0, PyData.canLay0, a1, a]
    · simp only [List.map_cons, PyData.depthAll, gP, PyData.depth]
      omega
theorem gP_shaped {ws : List Str} (h : ∀ y ∈ ws, ∀ c ∈ y.cps.toList, c ∈ small.cps.toList) : SeqAt.shaped (gP ws) = true := by
  obtain ⟨a, b⟩ := lay_strs h
  unfold SeqAt.shaped gP
  have h1 : (PyData.tuple (ws.map PyData.str)).canLay0 = true := by simp only [PyData.canLay0]; exact a
  have h2 : (PyData.tuple (ws.map PyData.str)).depth ≤ 64 := by simp only [PyData.depth]; omega
  rw [h1, decide_eq_true h2]
  rfl
theorem ltP_shaped {gs : List (List Str)} (h : ∀ g ∈ gs, ∀ y ∈ g, ∀ c ∈ y.cps.toList, c ∈ small.cps.toList) : SeqAt.shaped (ltP gs) = true := by
  obtain ⟨a, b⟩ := lay_gPs h
  unfold SeqAt.shaped ltP
  have h1 : (PyData.tuple (gs.map gP)).canLay0 = true := by simp only [PyData.canLay0]; exact a
  have h2 : (PyData.tuple (gs.map gP)).depth ≤ 64 := by simp only [PyData.depth]; omega
  rw [h1, decide_eq_true h2]
  rfl
theorem GoodC.sh1 {c : Cg} (h : GoodC c) : SeqAt.shaped (ltP c.1) = true := ltP_shaped fun g hg y hy => (of_get ((ltD_all h.lt g hg).2 y hy)).2.2
theorem GoodC.sh2 {c : Cg} (h : GoodC c) : SeqAt.shaped (gP c.2.1) = true := gP_shaped fun y hy => (of_get (psD_all h.ps y hy)).2.2
def spEq (K : PySem.W.Frag) (C : Addr) : Sp := fun vs H Q _ => ∃ (a : Addr) (o : V) (c : Cg), vs = [.ref a, o] ∧ CuAt K C H a c ∧ GoodC c ∧
  ((∃ t, Odd H o t ∧ Q (.bl false) H) ∨ ∃ (b : Addr) (d : Cg), o = .ref b ∧ CuAt K C H b d ∧ GoodC d ∧ Q (.bl (decide (c = d))) H)
def custT (n : Nat) : Str := "Custom(" ++ Str.ofString (toString (n : Int)) ++ ")"
def spRepr (K : PySem.W.Frag) (C : Addr) : Sp := fun vs H Q _ => ∃ (a : Addr) (c : Cg), vs = [.ref a] ∧ CuAt K C H a c ∧ GoodC c ∧ Q (.str (custT c.1.length)) H
theorem fitN {n : Nat} (h : n ≤ 100000) : n ≤ sizeLine := Nat.le_trans h (by decide)
theorem lg {i : Int} (h0 : -(10 ^ 31) < i) (h1 : i < 10 ^ 31) : i.natAbs.log2 < 1920 := by
  have h2 : i.natAbs < 2 ^ 110 := by
    have : (10 : Int) ^ 31 < 2 ^ 110 := by decide
    omega
  exact Nat.lt_of_lt_of_le (PySem.Flt.log2_lt_of (by decide) h2) (by decide)
theorem big39 : (10 : Int) ^ 30 < 10 ^ 39 := by decide
theorem tx_le {i : Int} (h0 : -(10 ^ 30) ≤ i) (h1 : i ≤ 10 ^ 30) : (Str.ofString (toString i)).length ≤ 40 := by
  have b := big39
  cases i with
  | ofNat m =>
    have c : (Int.ofNat m) = (m : Int) := rfl
    exact Nat.le_trans (toString_length_le (v := (m : Int)) (by omega) (k := 39) (by decide) (by omega)) (by decide)
  | negSucc m =>
    have c : Int.negSucc m = -((m : Int) + 1) := rfl
    have z := toString_length_le (v := ((m + 1 : Nat) : Int)) (by omega) (k := 39) (by decide) (by omega)
    rw [PySem.ofString_length] at z ⊢
    have z2 : (toString (m + 1)).length ≤ 39 := z
    show ("-" ++ toString (m + 1)).length ≤ 40
    rw [String.length_append]
    have : "-".length = 1 := rfl
    omega
end
end K79
set_option Elab.async false
set_option linter.all false
set_option maxRecDepth 100000
set_option maxHeartbeats 4000000
set_option pp.maxSteps 400
set_option pp.deepTerms false
namespace K79
open PySem PySem.Spec PyProof.Rows L2
open Xk Az
section
variable {P : Program} {w : World} {K : PySem.W.Frag} {mg : Str → Option Value} {base : Heap} {C : Addr}
abbrev far : Int := 1000000
def spHand (K : PySem.W.Frag) : Sp := fun vs H Q _ => ∃ (a : Addr) (k : Int) (ns : List Int), vs = [.ref a, .int k] ∧ 0 ≤ k ∧ SqL K H a (ns.map V.int) ∧
  ∀ p g m, H p = none → 0 ≤ g → 0 ≤ m → m < 2305843009213693951 → Q (.ref p) (upd H p (.lst [.int g, .int m, .int 0]))
def spTake : Sp := fun vs H Q _ => ∃ (h : Addr) (many n : Int), vs = [.ref h, .int many] ∧ 0 < many ∧ many < 10 ^ 30 ∧ Hand n H h ∧ n ≤ far ∧
  ∀ d H', 0 ≤ d → d < many → Hand (n + 1) H' h → But h H H' → Q (.int d) H'
def spPick : Sp := fun vs H Q _ => ∃ (h : Addr) (n : Int) (s : V), vs = [.ref h, s] ∧ Hand n H h ∧ n ≤ far ∧
  ((∃ (l : Addr) (xs : List V), s = .ref l ∧ H l = some (.lst xs) ∧ l ≠ h ∧ xs ≠ [] ∧ xs.length < 1000 ∧ ∀ v H', v ∈ xs → Hand (n + 1) H' h → But h H H' → Q v H') ∨
   (∃ x : Str, s = .str x ∧ 0 < x.length ∧ x.length < 1000 ∧ ∀ c H', c ∈ x.cps.toList → Hand (n + 1) H' h → But h H H' → Q (.str ⟨#[c]⟩) H') ∨
   (∃ (t : Addr) (xs : List V), s = .ref t ∧ H t = some (.tup xs) ∧ xs ≠ [] ∧ xs.length < 1000 ∧ ∀ v H', v ∈ xs → Hand (n + 1) H' h → But h H H' → Q v H'))
theorem wide30 {g many : Int} (m1 : 0 < many) (m2 : many < 10 ^ 30) : CDivW g many := by
  have h : (10 : Int) ^ 30 < 2 ^ 110 := by decide
  exact wide_div (b := 110) m1 (by omega) (by decide) (by decide)
theorem lt30 {n : Nat} (h : n < 1000) : (n : Int) < 10 ^ 30 := Int.lt_trans (Int.ofNat_lt.mpr h) (by decide)
theorem lt30i {i : Int} (h : i < 1000000) : i < 10 ^ 30 := Int.lt_trans h (by decide)
theorem b01 (b : Bool) : -(2 ^ 64) < (if b = true then (1 : Int) else 0) ∧ (if b = true then (1 : Int) else 0) < 2 ^ 64 := by cases b <;> decide
theorem b0 (b : Bool) : 0 ≤ (if b = true then (1 : Int) else 0) := by cases b <;> decide
theorem ok_hand {f : Addr} {fd : FuncData} {e : Ex} (D : Df K mg "_law_hand" ["_law_script", "_law_k"] sHand f fd) (T : Txt K mg C e) : FnOk P w K mg base CX0 1 f fd ["_law_script", "_law_k"] (spHand K) := by
  refine D.fn.ok scHand (fun vs H Q E h => ?_) (fun cdv A outer s H vs Q E hr h => ?_)
  · obtain ⟨a, k, ns, rfl, _⟩ := h
    rfl
  · obtain ⟨a, k, ns, rfl, hk, hS, q⟩ := h
    refine ⟨_, pss_cons (ps_set (i := 2) scHand.nd rfl (.inl rfl) (pe_ifExp (pt_cmpR op_lt (pv 1) (pe_callB call_len_seq (by rfl) T.len PySem.boot_len (pa_cons (pv 0) pa_nil)) (nomark _)) (pe_ix ix_list (pv 0) (pv 1) (fun _ _ => rfl)) pe_int))
      (pss_cons (ps_set (i := 3) scHand.nd rfl (.inl rfl) (pe_op op_mul (pe_op op_mod (pe_callB call_abs (by rfl) T.abs (by decide +kernel) (pa_cons (pv 2) pa_nil)) (pe_op op_mulW (pe_op op_pow pe_int pe_int) (pe_op op_pow pe_int pe_int)))
        (pe_callTy call_int1 (by rfl) T.int (by decide +kernel) (pa_cons (pe_cmpR op_ge (pe_callB call_abs (by rfl) T.abs (by decide +kernel) (pa_cons (pv 2) pa_nil)) (pe_op op_pow pe_int pe_int) (nomark _)) pa_nil))))
      (pss_one (ps_ret (pe_lst (pa_cons (pv 3) (pa_cons (pe_op op_mod (pe_op op_add (pe_op op_add (pe_op op_mod (pv 2) pe_int) (pe_op op_mul pe_int (pv 1))) pe_int) pe_int) (pa_cons pe_int pa_nil))))))), ?_⟩
    refine ⟨_, rfl, _, rfl, a, _, rfl, .inl hS, k, _, rfl, rfl, _, rfl, ?_⟩
    refine ite2 (fun e => ?_) (fun e => ?_)
    · have hlt : k < ((ns.map V.int).length : Int) := of_decide_eq_true e
      rw [List.length_map] at hlt
      obtain ⟨j, rfl⟩ : ∃ j : Nat, k = (j : Int) := ⟨k.toNat, by omega⟩
      have hj : j < ns.length := by omega
      have hat : atI (ns.map V.int) ((j : Nat) : Int) = some (.int ns[j]) := atI_nat (by rw [List.getElem?_map, List.getElem?_eq_getElem hj]; rfl)
      refine ⟨_, rfl, _, rfl, a, _, _, _, rfl, rfl, hS, hat, ?_⟩
      refine ⟨_, rfl, ns[j], rfl, 10, 60, rfl, rfl, ⟨by decide, by decide, by decide⟩, 10, 60, rfl, rfl, ⟨by decide, by decide, by decide⟩, _, _, rfl, rfl, ?_, _, _, rfl, rfl, ?_, ?_⟩
      · exact wide_mul (a := 300) (b := 300) (by decide +kernel) (by decide +kernel) (by decide) (by decide) (by decide)
      · show (0 : Int) < 10 ^ (60 : Int).toNat * 10 ^ (60 : Int).toNat
        decide +kernel
      · refine ⟨_, rfl, ns[j], rfl, 10, 18, rfl, rfl, ⟨by decide, by decide, by decide⟩, _, _, rfl, rfl, .inr ⟨_, rfl, _, _, rfl, rfl, .inr ?_, ?_⟩⟩
        · exact b01 _
        · refine ⟨_, rfl, _, rfl, ns[j], 2305843009213693951, rfl, rfl, (by show (0 : Int) < 2305843009213693951; decide), _, rfl, 7919, _, rfl, rfl, .inl (by decide), _, _, rfl, rfl, _, _, rfl, rfl, _, _, rfl, rfl, (by show (0 : Int) < 2305843009213693951; decide), (by show 3 ≤ sizeLine; decide), fun p np => ?_⟩
          refine q p _ _ np ?_ (Int.emod_nonneg _ (by decide)) (Int.emod_lt_of_pos _ (by decide))
          refine Int.mul_nonneg (Int.emod_nonneg _ (by decide +kernel)) ?_
          exact b0 _
    · refine ⟨_, rfl, 0, rfl, 10, 60, rfl, rfl, ⟨by decide, by decide, by decide⟩, 10, 60, rfl, rfl, ⟨by decide, by decide, by decide⟩, _, _, rfl, rfl, ?_, _, _, rfl, rfl, ?_, ?_⟩
      · exact wide_mul (a := 300) (b := 300) (by decide +kernel) (by decide +kernel) (by decide) (by decide) (by decide)
      · show (0 : Int) < 10 ^ (60 : Int).toNat * 10 ^ (60 : Int).toNat
        decide +kernel
      · refine ⟨_, rfl, 0, rfl, 10, 18, rfl, rfl, ⟨by decide, by decide, by decide⟩, _, _, rfl, rfl, .inr ⟨_, rfl, _, _, rfl, rfl, .inr ?_, ?_⟩⟩
        · exact b01 _
        · refine ⟨_, rfl, _, rfl, 0, 2305843009213693951, rfl, rfl, (by show (0 : Int) < 2305843009213693951; decide), _, rfl, 7919, _, rfl, rfl, .inl (by decide), _, _, rfl, rfl, _, _, rfl, rfl, _, _, rfl, rfl, (by show (0 : Int) < 2305843009213693951; decide), (by show 3 ≤ sizeLine; decide), fun p np => ?_⟩
          refine q p _ _ np ?_ (Int.emod_nonneg _ (by decide)) (Int.emod_lt_of_pos _ (by decide))
          refine Int.mul_nonneg (Int.emod_nonneg _ (by decide +kernel)) ?_
          exact b0 _
theorem ok_take {f : Addr} {fd : FuncData} (D : Df K mg "_law_take" ["_law_hand_here", "_law_many"] sTake f fd) : FnOk P w K mg base CX0 1 f fd ["_law_hand_here", "_law_many"] spTake := by
  refine D.fn.ok scTake (fun vs H Q E h => ?_) (fun cdv A outer s H vs Q E hr h => ?_)
  · obtain ⟨h, many, n, rfl, _⟩ := h
    rfl
  · obtain ⟨h, many, n, rfl, m1, m2, ⟨g, m, c, hh, g0, k0, k1, c0, c1⟩, hn, q⟩ := h
    refine ⟨_, pss_cons (ps_if (pt_cmpR op_gt (pe_ix ix_list (pv 0) pe_int (fun _ _ => rfl)) pe_int (nomark _))
        (pss_cons (ps_set (i := 2) scTake.nd rfl (.inl rfl) (pe_op op_mod (pe_ix ix_list (pv 0) pe_int (fun _ _ => rfl)) (pv 1)))
        (pss_cons (ps_asg (pe_op op_fdivW (pe_ix ix_list (pv 0) pe_int (fun _ _ => rfl)) (pv 1)) (pg_sub (pv 0) pe_int set_list))
        (pss_one (ps_ret (pv 2))))) pss_nil)
      (pss_cons (ps_asg (pe_op op_add (pe_ix ix_list (pv 0) pe_int (fun _ _ => rfl)) pe_int) (pg_sub (pv 0) pe_int set_list))
      (pss_cons (ps_set (i := 3) scTake.nd rfl (.inl rfl) (pe_op op_mod (pe_op op_mul (pe_op op_add (pe_op op_add (pe_ix ix_list (pv 0) pe_int (fun _ _ => rfl))
          (pe_op op_mul (pe_op op_mul pe_int (pe_ix ix_list (pv 0) pe_int (fun _ _ => rfl))) (pe_ix ix_list (pv 0) pe_int (fun _ _ => rfl)))) pe_int) pe_int) pe_int))
      (pss_cons (ps_set (i := 3) scTake.nd rfl (.inl rfl) (pe_op op_mod (pe_op op_mul (pv 3) (pe_op op_add (pe_op op_mod (pv 3) pe_int) (pe_op op_mul pe_int (pe_ix ix_list (pv 0) pe_int (fun _ _ => rfl))))) pe_int))
      (pss_one (ps_ret (pe_op op_mod (pe_op op_add (pe_op op_fdiv (pv 3) pe_int) (pe_op op_fdiv (pv 3) pe_int)) (pv 1))))))), ?_⟩
    have far' : n ≤ 1000000 := hn
    refine ⟨_, rfl, h, _, 0, _, rfl, rfl, SqL.of hh, atI_nat (j := 0) rfl, g, 0, rfl, rfl, _, rfl, ite2 (fun e => ?_) (fun e => ?_)⟩
    · refine ⟨_, rfl, h, _, 0, _, rfl, rfl, SqL.of hh, atI_nat (j := 0) rfl, _, rfl, g, many, rfl, rfl, m1, ?_⟩
      refine ⟨_, rfl, h, _, 0, _, rfl, rfl, SqL.of hh, atI_nat (j := 0) rfl, _, rfl, g, many, rfl, rfl, wide30 m1 m2, _, rfl, h, _, 0, 0, rfl, rfl, hh, rfl, ?_⟩
      refine ⟨_, rfl, ?_⟩
      exact q _ _ (Int.emod_nonneg _ (by omega)) (Int.emod_lt_of_pos _ m1) ⟨g / many, m, c, upd_same, Int.ediv_nonneg g0 (by omega), k0, k1, c0, by omega⟩ but_upd
    · refine ⟨_, rfl, h, _, 2, _, rfl, rfl, SqL.of hh, atI_nat (j := 2) rfl, c, 1, rfl, rfl, _, rfl, h, _, 2, 2, rfl, rfl, hh, rfl, ?_⟩
      have h2 : (upd H h (.lst [.int g, .int m, .int (c + 1)])) h = some (.lst [.int g, .int m, .int (c + 1)]) := upd_same
      have s2 := SqL.of (K := K) h2
      refine ⟨_, rfl, h, _, 1, _, rfl, rfl, s2, atI_nat (j := 1) rfl, _, rfl, h, _, 2, _, rfl, rfl, s2, atI_nat (j := 2) rfl, 65537, c + 1, rfl, rfl, .inl (by decide), _, rfl, h, _, 2, _, rfl, rfl, s2, atI_nat (j := 2) rfl, _, c + 1, rfl, rfl, .inr (by omega),
        m, _, rfl, rfl, _, 11, rfl, rfl, _, 48271, rfl, rfl, .inr (by decide), _, 2305843009213693921, rfl, rfl, (by show (0 : Int) < 2305843009213693921; decide), ?_⟩
      generalize (m + 65537 * (c + 1) * (c + 1) + 11) * 48271 = z
      have z0 : 0 ≤ z % 2305843009213693921 := Int.emod_nonneg _ (by decide)
      have z1 : z % 2305843009213693921 < 2305843009213693921 := Int.emod_lt_of_pos _ (by decide)
      refine ⟨_, rfl, _, rfl, _, 1000003, rfl, rfl, (by show (0 : Int) < 1000003; decide), _, rfl, h, _, 2, _, rfl, rfl, s2, atI_nat (j := 2) rfl, 99991, c + 1, rfl, rfl, .inl (by decide), _, _, rfl, rfl, _, _, rfl, rfl, .inl (by omega),
        _, 2305843009213693907, rfl, rfl, (by show (0 : Int) < 2305843009213693907; decide), ?_⟩
      refine ⟨_, rfl, _, 97, rfl, rfl, ⟨by decide, by decide⟩, _, rfl, _, 1000033, rfl, rfl, ⟨by decide, by decide⟩, _, _, rfl, rfl, _, rfl, _, many, rfl, rfl, m1, ?_⟩
      exact q _ _ (Int.emod_nonneg _ (by omega)) (Int.emod_lt_of_pos _ m1) ⟨g, m, c + 1, h2, g0, k0, k1, by omega, by omega⟩ but_upd
theorem ok_pick {f : Addr} {fd : FuncData} {e : Ex} (D : Df K mg "_law_pick" ["_law_hand_here", "_law_some"] sPick f fd) (T : Txt K mg C e) (cT : Ca P w K mg base 1 "_law_take" ["_law_hand_here", "_law_many"] spTake) : FnOk P w K mg base CX0 2 f fd ["_law_hand_here", "_law_some"] spPick := by
  refine D.fn.ok scPick (fun vs H Q E h => ?_) (fun cdv A outer s H vs Q E hr h => ?_)
  · obtain ⟨h, n, s, rfl, hh, hn, q⟩ := h
    rfl
  · obtain ⟨h, n, s, rfl, hh, hn, q⟩ := h
    refine ⟨_, (pss_one (ps_ret (pe_ix ix_seq (pv 1) (pe_ca cT hr (by decide) (by rfl) (pa_cons (pv 0) (pa_cons (pe_callB (cr_alt call_len_seq call_len_str) (by rfl) T.len PySem.boot_len (pa_cons (pv 1) pa_nil)) pa_nil))) (fun _ _ => rfl)))), ?_⟩
    refine ⟨_, rfl, _, rfl, _, rfl, ?_⟩
    rcases q with ⟨l, xs, rfl, hl, nl, ne, few, q⟩ | ⟨x, rfl, pos, few, q⟩ | ⟨t, xs, rfl, et, ne, few, q⟩
    · have pos : 0 < xs.length := List.length_pos_iff.mpr ne
      refine .inl ⟨l, xs, rfl, .inl (SqL.of hl), h, (xs.length : Int), n, rfl, by omega, lt30 few, hh, hn, fun d H' d0 d1 hh' bt => ?_⟩
      obtain ⟨j, rfl⟩ : ∃ j : Nat, d = (j : Int) := ⟨d.toNat, by omega⟩
      have hj : j < xs.length := by omega
      refine .inl ⟨l, xs, _, xs[j], rfl, rfl, SqL.of (bt _ _ nl hl), atI_nat (List.getElem?_eq_getElem hj), ?_⟩
      exact q _ H' (List.getElem_mem hj) hh' bt
    · have sz : x.length ≤ sizeLine := Nat.le_trans (show x.length ≤ 1000 by omega) (by decide)
      refine .inr ⟨x, rfl, sz, h, (x.length : Int), n, rfl, by omega, lt30 few, hh, hn, fun d H' d0 d1 hh' bt => ?_⟩
      obtain ⟨j, rfl⟩ : ∃ j : Nat, d = (j : Int) := ⟨d.toNat, by omega⟩
      have hj : j < x.cps.toList.length := by
        have : x.length = x.cps.toList.length := by rw [Array.length_toList]; rfl
        omega
      refine .inr (.inr ⟨x, _, x.cps.toList[j], rfl, rfl, sz, atI_nat (List.getElem?_eq_getElem hj), ?_⟩)
      exact q _ H' (List.getElem_mem hj) hh' bt
    · have pos : 0 < xs.length := List.length_pos_iff.mpr ne
      have nt : t ≠ h := by
        obtain ⟨g, m, c, e2, _⟩ := id hh
        exact ne_of et e2 (by intro z; cases z)
      refine .inl ⟨t, xs, rfl, .inr (SqT.of et), h, (xs.length : Int), n, rfl, by omega, lt30 few, hh, hn, fun d H' d0 d1 hh' bt => ?_⟩
      obtain ⟨j, rfl⟩ : ∃ j : Nat, d = (j : Int) := ⟨d.toNat, by omega⟩
      have hj : j < xs.length := by omega
      refine .inr (.inl ⟨t, xs, _, xs[j], rfl, rfl, SqT.of (bt _ _ nt et), atI_nat (List.getElem?_eq_getElem hj), ?_⟩)
      exact q _ H' (List.getElem_mem hj) hh' bt
end
end K79
set_option Elab.async false
set_option linter.all false
set_option maxRecDepth 100000
set_option maxHeartbeats 4000000
set_option pp.maxSteps 400
set_option pp.deepTerms false
namespace K79
open PySem PySem.Spec PyProof.Rows L2
open Xk Az
section
variable {P : Program} {w : World} {K : PySem.W.Frag} {mg : Str → Option Value} {base : Heap} {C : Addr}
section
variable {X : Cx}
theorem vals_map {α : Type} (g : α → V) (R : α → Value → Prop) (hR : ∀ a v, R a v → RelV (g a) v) : ∀ (as : List α) (us : List Value), as.length = us.length → (∀ (i : Nat) (a : α) (u : Value), as[i]? = some a → us[i]? = some u → R a u) → Vals (as.map g) us
  | [], [], _, _ => .nil
  | a :: as, u :: us, hl, h => .cons (hR a u (h 0 a u rfl rfl)) (vals_map g R hR as us (by simpa using hl) fun i b v e1 e2 => h (i + 1) b v (by simpa using e1) (by simpa using e2))
  | [], _ :: _, hl, _ => by simp at hl
  | _ :: _, [], hl, _ => by simp at hl
def sg1 (c : Nat) : V := .str ⟨#[c]⟩
theorem cr_listS (hc : X.calm = true) : CallR X (.type "list") (fun xs H Q => ∃ x : Str, xs = [.str x] ∧ x.length ≤ sizeLine ∧ ∀ l, H l = none → Q (.ref l) (upd H l (.lst (x.cps.toList.map sg1)))) := by
  intro pins s σ H xs us Q I r h
  obtain ⟨x, rfl, hz, q⟩ := h
  obtain ⟨u, rfl, rx⟩ := vals1 r
  obtain ⟨t, rfl⟩ := rx
  refine call_list_str (I.ok.hd hc) x t (fun h' tk acc c kp e it => ?_) hz
  have v : Vals (x.cps.toList.map sg1) acc.toList := by
    refine vals_map sg1 (fun c u => ∃ t, u = Value.str ⟨#[c]⟩ t) (fun a v ⟨t, e⟩ => ⟨t, e⟩) _ _ (by rw [Array.length_toList, Array.length_toList, it.1]) fun i a u e1 e2 => ?_
    obtain ⟨c', t', q1, q2⟩ := it.2 i u (by rw [← Array.getElem?_toList]; exact e2)
    rw [← Array.getElem?_toList, e1] at q1
    exact ⟨t', by rw [Option.some.inj q1]; exact q2⟩
  have hl : (x.cps.toList.map sg1).length ≤ sizeLine := by rw [List.length_map, Array.length_toList]; exact hz
  exact ⟨.ref s.heap.objs.size, _, I.laid (t' := tk) kp (Nat.le_refl _) (show ObjOk X.prog X.w _ h' _ (.lst (x.cps.toList.map sg1)) from ⟨hl, acc.toList, c, v, by simpa using e⟩), rfl, q _ (I.hok.fresh (Nat.le_refl _))⟩
end
/-- tuples stay -/
def Tk (H H' : Hp) : Prop := ∀ (b : Addr) (xs : List V), H b = some (.tup xs) → H' b = some (.tup xs)
theorem Tk.trans {H H1 H2 : Hp} (a : Tk H H1) (b : Tk H1 H2) : Tk H H2 := fun c xs e => b c xs (a c xs e)
theorem _root_.L2.Same.tk {H H' : Hp} (s : L2.Same H H') : Tk H H' := fun b xs e => s b _ e
theorem Hand.nt {n : Int} {H : Hp} {a t : Addr} {xs : List V} (h : Hand n H a) (e : H t = some (.tup xs)) : t ≠ a := by
  obtain ⟨g, m, c, e2, _⟩ := h
  exact ne_of e e2 (by intro z; cases z)
theorem tk_but {h : Addr} {n : Int} {H H' : Hp} (a : Hand n H h) (s : But h H H') : Tk H H' := fun b xs e => s _ _ (a.nt e) e
theorem tk_lst {H : Hp} {a : Addr} {xs : List V} {o : HO} (e : H a = some (.lst xs)) : Tk H (upd H a o) := fun b ys e2 => by
  rw [upd_ne (ne_of e2 e (by intro z; cases z))]
  exact e2
/-- a group, where it stands -/
def GP (H : Hp) (v : V) (g : List Str) : Prop := ∃ a : Addr, v = .ref a ∧ H a = some (.tup (g.map V.str))
def GPs (H : Hp) : List V → List (List Str) → Prop
  | [], [] => True
  | v :: xs, g :: gs => GP H v g ∧ GPs H xs gs
  | _, _ => False
def LP (H : Hp) (v : V) (gs : List (List Str)) : Prop := ∃ (a : Addr) (xs : List V), v = .ref a ∧ H a = some (.tup xs) ∧ GPs H xs gs
theorem GP.tk {H H' : Hp} {v : V} {g : List Str} (h : GP H v g) (s : Tk H H') : GP H' v g := let ⟨a, e, e2⟩ := h; ⟨a, e, s _ _ e2⟩
theorem GPs.tk {H H' : Hp} (s : Tk H H') : ∀ {xs : List V} {gs : List (List Str)}, GPs H xs gs → GPs H' xs gs
  | [], [], h => h
  | _ :: _, _ :: _, h => ⟨h.1.tk s, h.2.tk s⟩
  | [], _ :: _, h => h.elim
  | _ :: _, [], h => h.elim
theorem LP.tk {H H' : Hp} {v : V} {gs : List (List Str)} (h : LP H v gs) (s : Tk H H') : LP H' v gs := let ⟨a, xs, e, e2, r⟩ := h; ⟨a, xs, e, s _ _ e2, r.tk s⟩
theorem GPs.snoc {H : Hp} {v : V} {g : List Str} (h2 : GP H v g) : ∀ {xs : List V} {gs : List (List Str)}, GPs H xs gs → GPs H (xs ++ [v]) (gs ++ [g])
  | [], [], _ => ⟨h2, trivial⟩
  | _ :: _, _ :: _, h => ⟨h.1, h.2.snoc h2⟩
  | [], _ :: _, h => h.elim
  | _ :: _, [], h => h.elim
theorem GPs.length {H : Hp} : ∀ {xs : List V} {gs : List (List Str)}, GPs H xs gs → xs.length = gs.length
  | [], [], _ => rfl
  | _ :: _, _ :: _, h => congrArg Nat.succ h.2.length
  | [], _ :: _, h => h.elim
  | _ :: _, [], h => h.elim
theorem GP.dz {H : Hp} {v : V} {g : List Str} (h : GP H v g) : Dz K H v (gP g) := by
  obtain ⟨a, rfl, e⟩ := h
  exact .tup e (dz_txts g)
theorem GPs.dz {H : Hp} : ∀ {xs : List V} {gs : List (List Str)}, GPs H xs gs → DzAll K H xs (gs.map gP)
  | [], [], _ => .nil
  | _ :: _, _ :: _, h => .cons h.1.dz h.2.dz
  | [], _ :: _, h => h.elim
  | _ :: _, [], h => h.elim
theorem LP.dz {H : Hp} {v : V} {gs : List (List Str)} (h : LP H v gs) : Dz K H v (ltP gs) := by
  obtain ⟨a, xs, rfl, e, r⟩ := h
  exact .tup e r.dz
theorem inV_strs (g : Str) : ∀ gs : List Str, inV (.str g) (gs.map V.str) = decide (g ∈ gs)
  | [] => rfl
  | x :: r => by
    have ih := inV_strs g r
    unfold inV at ih ⊢
    rw [List.map_cons, List.any_cons, ih, Bool.eq_iff_iff]
    simp only [Bool.or_eq_true, decide_eq_true_eq, List.mem_cons]
    have e : eqV (V.str x) (V.str g) = true ↔ g = x := by
      show (x == g) = true ↔ _
      rw [beq_iff_eq]
      exact eq_comm
    rw [e]
def sm12 (t : Str) : Prop := ofT (.str t) small 1 2 = true
theorem ones_len : ∀ {c : Nat}, ((⟨#[c]⟩ : Str)).length = 1 := rfl
theorem sm_one {c : Nat} (h : c ∈ small.cps.toList) : sm12 ⟨#[c]⟩ := of_mk (by rw [ones_len]; decide) (by rw [ones_len]; decide) fun d hd => by
  have : d = c := by simpa using hd
  rw [this]; exact h
theorem sm_two {c d : Nat} (h : c ∈ small.cps.toList) (h2 : d ∈ small.cps.toList) : sm12 ((⟨#[c]⟩ : Str) ++ ⟨#[d]⟩) := by
  refine of_mk ?_ ?_ fun z hz => ?_
  · rw [strLen_append, ones_len, ones_len]; decide
  · rw [strLen_append, ones_len, ones_len]; decide
  · rw [Str.cps_append, Array.toList_append, List.mem_append] at hz
    rcases hz with z1 | z1
    · have : z = c := by simpa using z1
      rw [this]; exact h
    · have : z = d := by simpa using z1
      rw [this]; exact h2
theorem good_lt {gs : List (List Str)} (h0 : 1 ≤ gs.length) (h40 : gs.length ≤ 40) (hn : ∀ g ∈ gs, g ≠ []) (hs : ∀ t ∈ gs.flatten, sm12 t) (nd : gs.flatten.Nodup) : ltD (ltP gs) = true := by
  unfold ltD ltP
  dsimp only
  rw [flat_gP, decide_eq_true nd, List.length_map, decide_eq_true (show (1 : Int) ≤ gs.length by omega), decide_eq_true (show (gs.length : Int) ≤ 40 by omega), Bool.and_true, Bool.true_and, Bool.true_and, List.all_eq_true]
  intro d hd
  obtain ⟨g, hg, rfl⟩ := List.mem_map.mp hd
  unfold grD gP
  dsimp only
  rw [List.length_map, decide_eq_true (show g.length ≠ 0 from fun z => hn g hg (List.eq_nil_of_length_eq_zero z)), Bool.true_and, List.all_eq_true]
  intro e he
  obtain ⟨t, ht, rfl⟩ := List.mem_map.mp he
  exact hs t (List.mem_flatten.mpr ⟨g, hg, ht⟩)
/-- letters drawn -/
structure Lt (gs : List (List Str)) : Prop where
  ok : ltD (ltP gs) = true
  sz : gs.flatten.length ≤ 160
def spLts : Sp := fun vs H Q _ => ∃ (h : Addr) (n : Int), vs = [.ref h] ∧ Hand n H h ∧ n + 2000 ≤ far ∧ ∀ (v : V) (gs : List (List Str)) H', LP H' v gs → Lt gs → Hand (n + 1000) H' h → But h H H' → Q v H'
theorem same_none {H H' : Hp} {b : Addr} (s : L2.Same H H') (e : H' b = none) : H b = none := by
  cases z : H b with
  | none => rfl
  | some o => rw [s _ _ z] at e; cases e
/-- letters under way: known, groups, and the group that is being made -/
structure Lw (h S Kn G R : Addr) (c : Int) (H Hi : Hp) (k j : Nat) (kn : List Str) (xs : List V) (gs : List (List Str)) (gr : List Str) : Prop where
  eS : Hi S = some (.lst (small.cps.toList.map sg1))
  eK : Hi Kn = some (.lst (kn.map V.str))
  eG : Hi G = some (.lst xs)
  eR : Hi R = some (.lst (gr.map V.str))
  gp : GPs Hi xs gs
  fl : kn = gs.flatten ++ gr
  nd : kn.Nodup
  sm : ∀ t ∈ kn, sm12 t
  ne : ∀ g ∈ gs, g ≠ []
  lg : gs.length ≤ k
  l1 : 1 ≤ k + j → kn ≠ []
  lk : kn.length ≤ 4 * k + j
  hd : Hand c Hi h
  bt : But h H Hi
/-- where they stand: apart -/
structure Ap (h S Kn G : Addr) (H : Hp) : Prop where
  Sh : S ≠ h
  Kh : Kn ≠ h
  Gh : G ≠ h
  SK : S ≠ Kn
  SG : S ≠ G
  KG : Kn ≠ G
  HK : H Kn = none
  HG : H G = none
  HS : H S = none
theorem Lw.but {h S Kn G R : Addr} {c c' : Int} {H Hi H' : Hp} {k j : Nat} {kn : List Str} {xs : List V} {gs : List (List Str)} {gr : List Str} (ap : Ap h S Kn G H) (Rh : R ≠ h) (l : Lw h S Kn G R c H Hi k j kn xs gs gr) (b : But h Hi H') (hd : Hand c' H' h) : Lw h S Kn G R c' H H' k j kn xs gs gr :=
  ⟨b _ _ ap.Sh l.eS, b _ _ ap.Kh l.eK, b _ _ ap.Gh l.eG, b _ _ Rh l.eR, l.gp.tk (tk_but l.hd b), l.fl, l.nd, l.sm, l.ne, l.lg, l.l1, l.lk, hd, l.bt.trans b⟩
theorem but_new {h a : Addr} {H Hi : Hp} {o : HO} (b : But h H Hi) (e : H a = none) : But h H (upd Hi a o) := fun d x nd z => by
  rw [upd_ne (ne_of_none z e)]
  exact b d x nd z
theorem Lw.add {h S Kn G R : Addr} {c : Int} {H Hi : Hp} {k j : Nat} {kn : List Str} {xs : List V} {gs : List (List Str)} {gr : List Str} {t : Str} (ap : Ap h S Kn G H) (Rh : R ≠ h) (SR : S ≠ R) (KR : Kn ≠ R) (GR : G ≠ R) (HR : H R = none)
    (l : Lw h S Kn G R c H Hi k j kn xs gs gr) (st : sm12 t) (nt : t ∉ kn) : Lw h S Kn G R c H (upd (upd Hi Kn (.lst (kn.map V.str ++ [.str t]))) R (.lst (gr.map V.str ++ [.str t]))) k (j + 1) (kn ++ [t]) xs gs (gr ++ [t]) := by
  have tk : Tk Hi (upd (upd Hi Kn (.lst (kn.map V.str ++ [.str t]))) R (.lst (gr.map V.str ++ [.str t]))) := (tk_lst l.eK).trans (tk_lst (by rw [upd_ne (Ne.symm KR)]; exact l.eR))
  refine ⟨by rw [upd_ne SR, upd_ne ap.SK]; exact l.eS, by rw [upd_ne KR, upd_same, List.map_append]; rfl, by rw [upd_ne GR, upd_ne (Ne.symm ap.KG)]; exact l.eG, by rw [upd_same, List.map_append]; rfl, l.gp.tk tk, by rw [l.fl, List.append_assoc], ?_, ?_, l.ne, l.lg, fun _ => by simp, by rw [List.length_append]; have := l.lk; simp; omega, (l.hd.upd (Ne.symm ap.Kh)).upd (Ne.symm Rh), but_new (but_new l.bt ap.HK) HR⟩
  · rw [List.nodup_append]
    exact ⟨l.nd, by simp, fun a ha b hb => by rw [List.mem_singleton.mp hb]; exact fun z => nt (z ▸ ha)⟩
  · intro u hu
    rcases List.mem_append.mp hu with z | z
    · exact l.sm u z
    · rw [List.mem_singleton.mp z]; exact st
theorem ok_lts {f : Addr} {fd : FuncData} {e : Ex} (D : Df K mg "_law_letters" ["_law_hand_here"] sLetters f fd) (T : Txt K mg C e) (cT : Ca P w K mg base 1 "_law_take" ["_law_hand_here", "_law_many"] spTake) (cP : Ca P w K mg base 2 "_law_pick" ["_law_hand_here", "_law_some"] spPick) : FnOk P w K mg base CX0 3 f fd ["_law_hand_here"] spLts := by
  refine D.fn.ok scLetters (fun vs H Q E h => ?_) (fun cdv A outer s H vs Q E hr h => ?_)
  · obtain ⟨h, n, rfl, hd, hn, q⟩ := h
    rfl
  · obtain ⟨h, n, rfl, hd, hn, q⟩ := h
    refine ⟨_, (pss_cons (ps_set (i := 1) scLetters.nd rfl (.inl rfl) (pe_callTy (cr_listS (by rfl)) (by rfl) T.list (by decide +kernel) (pa_cons pe_str pa_nil)))
      (pss_cons (ps_par3 (i := 2) (j := 3) (l := 4) (by rfl) scLetters.nd rfl rfl rfl (by decide) (by decide) (by decide) rfl rfl rfl (pa_cons (pe_lst pa_nil) (pa_cons (pe_lst pa_nil) (pa_cons (pe_ca cP hr (by decide) (by rfl) (pa_cons (pv 0) (pa_cons (pe_lst (pa_cons pe_int (pa_cons pe_int (pa_cons pe_int (pa_cons pe_int (pa_cons pe_int (pa_cons (pe_op op_add pe_int (pe_ca cT hr (by decide) (by rfl) (pa_cons (pv 0) (pa_cons pe_int pa_nil)))) pa_nil))))))) pa_nil))) pa_nil))) (by rfl))
      (pss_cons (ps_for PassesOwn.never rfl (pi_range1 (by rfl) T.range (pa_cons (pv 4) pa_nil)) (pg_name (i := 5) scLetters.nd rfl (.inl rfl)) (pss_cons (ps_set (i := 6) scLetters.nd rfl (.inl rfl) (pe_lst pa_nil))
      (pss_cons (ps_for PassesOwn.never rfl (pi_range1 (by rfl) T.range (pa_cons (pe_ca cP hr (by decide) (by rfl) (pa_cons (pv 0) (pa_cons (pe_lst (pa_cons pe_int (pa_cons pe_int (pa_cons pe_int (pa_cons pe_int pa_nil))))) pa_nil))) pa_nil)) (pg_name (i := 7) scLetters.nd rfl (.inl rfl)) (pss_cons (ps_set (i := 8) scLetters.nd rfl (.inl rfl) (pe_ca cP hr (by decide) (by rfl) (pa_cons (pv 0) (pa_cons (pv 1) pa_nil))))
      (C8.pss_cut (ps_if (PW.pt (pw_or (pt_cmpR op_eq (pe_ca cT hr (by decide) (by rfl) (pa_cons (pv 0) (pa_cons pe_int pa_nil))) pe_int (nomark _)) (pw_or1 (pt_cmpR op_gt (pe_callB call_len_seq (by rfl) T.len PySem.boot_len (pa_cons (pv 2) pa_nil)) pe_int (nomark _))))) (pss_one (ps_set (i := 8) scLetters.nd rfl (.inl rfl) (pe_op op_add_str (pv 8) (pe_ca cP hr (by decide) (by rfl) (pa_cons (pv 0) (pa_cons (pv 1) pa_nil)))))) pss_nil)
      (pss_one (ps_if (pt_cmpR op_notIn_seq (pv 8) (pv 2) (by rfl)) (pss_cons (ps_expr (pe_bm PySem.F.plainAttrs_list PySem.F.slot_list_append PySem.F.type_list_append mt_append (pv 2) (pa_cons (pv 8) pa_nil)))
      (pss_one (ps_expr (pe_bm PySem.F.plainAttrs_list PySem.F.slot_list_append PySem.F.type_list_append mt_append (pv 6) (pa_cons (pv 8) pa_nil))))) pss_nil)))))
      (pss_one (ps_if (pt_cmpR (Xt.op_neL0 hr.units) (pv 6) (pe_lst pa_nil) (nomark _)) (pss_one (ps_expr (pe_bm PySem.F.plainAttrs_list PySem.F.slot_list_append PySem.F.type_list_append mt_append (pv 3) (pa_cons (pe_callTy call_tuple_of (by rfl) T.tuple (by decide +kernel) (pa_cons (pv 6) pa_nil)) pa_nil)))) pss_nil)))))
      (pss_one (ps_ret (pe_callTy call_tuple_of (by rfl) T.tuple (by decide +kernel) (pa_cons (pv 3) pa_nil))))))), ?_⟩
    have fr : n + 2000 ≤ 1000000 := hn
    have l26 : small.length = 26 := by decide +kernel
    refine ⟨small, rfl, by rw [l26]; decide, fun S nS => ?_⟩
    have sS := same_upd nS (o := .lst (small.cps.toList.map sg1))
    have eS : (upd H S (.lst (small.cps.toList.map sg1))) S = some (.lst (small.cps.toList.map sg1)) := upd_same
    have Sh := hd.fresh nS
    generalize upd H S (.lst (small.cps.toList.map sg1)) = H1 at sS eS ⊢
    refine ⟨(by show 0 ≤ sizeLine; decide), fun Kn nK => ?_⟩
    have sK := same_upd nK (o := .lst [])
    have eK : (upd H1 Kn (.lst [])) Kn = some (.lst []) := upd_same
    have Kh := (hd.same sS).fresh nK
    have SK : S ≠ Kn := ne_of_none eS nK
    generalize upd H1 Kn (.lst []) = H2 at sK eK ⊢
    refine ⟨(by show 0 ≤ sizeLine; decide), fun G nG => ?_⟩
    have sG := same_upd nG (o := .lst [])
    have eG : (upd H2 G (.lst [])) G = some (.lst []) := upd_same
    have Gh := ((hd.same sS).same sK).fresh nG
    have KG : Kn ≠ G := ne_of_none eK nG
    have SG : S ≠ G := ne_of_none (sK _ _ eS) nG
    generalize upd H2 G (.lst []) = H3 at sG eG ⊢
    have s3 := (sS.trans sK).trans sG
    have h3 := hd.same s3
    refine ⟨_, rfl, _, rfl, h, 40, n, rfl, by decide, by decide, h3, by show n ≤ 1000000; omega, fun d H4 d0 d1 h4 b4 => ?_⟩
    refine ⟨_, _, rfl, rfl, (by show 6 ≤ sizeLine; decide), fun L nL => ?_⟩
    have sL := same_upd nL (o := .lst [.int 1, .int 2, .int 5, .int 26, .int 40, .int (1 + d)])
    refine ⟨h, n + 1, _, rfl, h4.same sL, by show n + 1 ≤ 1000000; omega, .inl ⟨L, _, rfl, upd_same, h4.fresh nL, by simp, by show 6 < 1000; decide, fun v H5 mv h5 b5 => ?_⟩⟩
    obtain ⟨m, rfl, m1, m40⟩ : ∃ m : Int, v = .int m ∧ 1 ≤ m ∧ m ≤ 40 := by
      simp only [List.mem_cons, List.not_mem_nil, or_false] at mv
      rcases mv with z | z | z | z | z | z
      · exact ⟨_, z, by decide, by decide⟩
      · exact ⟨_, z, by decide, by decide⟩
      · exact ⟨_, z, by decide, by decide⟩
      · exact ⟨_, z, by decide, by decide⟩
      · exact ⟨_, z, by decide, by decide⟩
      · exact ⟨_, z, by omega, by omega⟩
    have b35 : But h H3 H5 := b4.trans ((Same.but sL h).trans b5)
    have b05 : But h H H5 := (Same.but s3 h).trans b35
    have HK : H Kn = none := same_none sS nK
    have HG : H G = none := same_none (sS.trans sK) nG
    have ap : Ap h S Kn G H := ⟨Sh, Kh, Gh, SK, SG, KG, HK, HG, nS⟩
    have eS5 := b35 _ _ Sh (sG _ _ (sK _ _ eS))
    have eK5 := b35 _ _ Kh (sG _ _ eK)
    have eG5 := b35 _ _ Gh eG
    clear b35 sL b5 b4 h4 h3
    refine ⟨_, _, _, rfl, ?_⟩
    refine ⟨_, rfl, m, rfl, by omega, by omega, for_range (lo := 0) (n := m.toNat) (fun k σ Hi => ∃ (kn : List Str) (xs : List V) (gs : List (List Str)) (c5 c6 c7 c8 : Option V), σ = [some (.ref h), some (.ref S), some (.ref Kn), some (.ref G), some (.int m), c5, c6, c7, c8] ∧
      Hi S = some (.lst (small.cps.toList.map sg1)) ∧ Hi Kn = some (.lst (kn.map V.str)) ∧ Hi G = some (.lst xs) ∧ GPs Hi xs gs ∧ kn = gs.flatten ∧ kn.Nodup ∧ (∀ t ∈ kn, sm12 t) ∧ (∀ g ∈ gs, g ≠ []) ∧ gs.length ≤ k ∧ (1 ≤ k → kn ≠ []) ∧ kn.length ≤ 4 * k ∧ Hand (n + 2 + 13 * k) Hi h ∧ But h H Hi) ?_ ?_ ?_⟩
    · exact ⟨[], [], [], _, _, _, _, rfl, eS5, eK5, eG5, trivial, rfl, List.nodup_nil, by simp, by simp, Nat.le_refl _, fun z => absurd z (by decide), Nat.le_refl _, h5.mono (by omega), b05⟩
    · rintro k σ Hi hk ⟨kn, xs, gs, c5, c6, c7, c8, rfl, eSi, eKi, eGi, gp, fl, nd, sm, ne, lg, l1, lk, hdi, bi⟩
      have km : (k : Int) < m := by omega
      refine ⟨(by show 0 ≤ sizeLine; decide), fun R nR => ?_⟩
      have sR := same_upd nR (o := .lst [])
      have eR : (upd Hi R (.lst [])) R = some (.lst []) := upd_same
      have Rh := hdi.fresh nR
      have SR : S ≠ R := ne_of_none eSi nR
      have KR : Kn ≠ R := ne_of_none eKi nR
      have GR : G ≠ R := ne_of_none eGi nR
      have HR : H R = none := bi.free Rh nR
      generalize upd Hi R (.lst []) = Hj at sR eR ⊢
      have lw0 : Lw h S Kn G R (n + 2 + 13 * k) H Hj k 0 kn xs gs [] := ⟨sR _ _ eSi, sR _ _ eKi, sR _ _ eGi, eR, gp.tk sR.tk, by rw [List.append_nil]; exact fl, nd, sm, ne, lg, fun z => l1 (by omega), by omega, hdi.same sR, bi.trans (Same.but sR h)⟩
      clear eSi eKi eGi gp lk l1 hdi bi sR eR nR
      refine ⟨_, rfl, (by show 4 ≤ sizeLine; decide), fun L1 nL1 => ?_⟩
      have sL1 := same_upd nL1 (o := .lst [.int 1, .int 1, .int 2, .int 4])
      refine ⟨h, n + 2 + 13 * k, _, rfl, lw0.hd.same sL1, by show n + 2 + 13 * (k : Int) ≤ 1000000; omega, .inl ⟨L1, _, rfl, upd_same, lw0.hd.fresh nL1, by simp, by show 4 < 1000; decide, fun v Hp' mv hp' bp' => ?_⟩⟩
      obtain ⟨r, rfl, r1, r4⟩ : ∃ r : Int, v = .int r ∧ 1 ≤ r ∧ r ≤ 4 := by
        simp only [List.mem_cons, List.not_mem_nil, or_false] at mv
        rcases mv with z | z | z | z <;> exact ⟨_, z, by decide, by decide⟩
      have lw1 := lw0.but ap Rh ((Same.but sL1 h).trans bp') hp'
      clear lw0 bp' hp' sL1 nL1 mv
      refine ⟨r, rfl, by omega, by omega, for_range (lo := 0) (n := r.toNat) (fun j σ Hx => ∃ (kn2 gr : List Str) (c7 c8 : Option V), σ = [some (.ref h), some (.ref S), some (.ref Kn), some (.ref G), some (.int m), some (.int (0 + (k : Nat))), some (.ref R), c7, c8] ∧ Lw h S Kn G R (n + 3 + 13 * k + 3 * j) H Hx k j kn2 xs gs gr) ?_ ?_ ?_⟩
      · exact ⟨kn, [], _, _, rfl, { lw1 with hd := lw1.hd.mono (by omega) }⟩
      · rintro j σ Hx hj ⟨kn2, gr, c7, c8, rfl, lw⟩
        have jr : (j : Int) < r := by omega
        have kb : n + 3 + 13 * (k : Int) + 3 * j + 3 ≤ 1000000 := by omega
        refine ⟨_, rfl, _, rfl, h, n + 3 + 13 * k + 3 * j, _, rfl, lw.hd, by show n + 3 + 13 * (k : Int) + 3 * j ≤ 1000000; omega, .inl ⟨S, _, rfl, lw.eS, Sh, by decide +kernel, by rw [List.length_map]; decide +kernel, fun v Ha mv ha ba => ?_⟩⟩
        obtain ⟨c, mc, rfl⟩ := List.mem_map.mp mv
        have lwa := lw.but ap Rh ba ha
        clear lw ba ha mv
        refine ⟨fun σ Hy => ∃ t, σ = [some (.ref h), some (.ref S), some (.ref Kn), some (.ref G), some (.int m), some (.int (0 + (k : Nat))), some (.ref R), some (.int (0 + (j : Nat))), some (.str t)] ∧ sm12 t ∧ Lw h S Kn G R (n + 3 + 13 * k + 3 * ((j + 1 : Nat) : Int)) H Hy k j kn2 xs gs gr, ?_, ?_⟩
        · have kb2 : n + 3 + 13 * (k : Int) + 3 * ((j + 1 : Nat) : Int) ≤ 1000000 := by omega
          refine ⟨_, rfl, h, 2, _, rfl, by decide, by decide, lwa.hd, by show n + 3 + 13 * (k : Int) + 3 * j + 1 ≤ 1000000; omega, fun d Hb d0 d1 hb bb => ⟨rfl, _, rfl, ite2 (fun e1 => ?_) (fun e1 => ?_)⟩⟩
          · have lwb := lwa.but ap Rh bb hb
            refine iteT ⟨_, rfl, _, rfl, _, rfl, h, _, _, rfl, lwb.hd, by show n + 3 + 13 * (k : Int) + 3 * j + 1 + 1 ≤ 1000000; omega, .inl ⟨S, _, rfl, lwb.eS, Sh, by decide +kernel, by rw [List.length_map]; decide +kernel, fun v Hc mv hc bc => ?_⟩⟩
            obtain ⟨c2, mc2, rfl⟩ := List.mem_map.mp mv
            exact ⟨_, _, rfl, rfl, (by rw [ones_len, ones_len]; decide), _, rfl, sm_two mc mc2, { lwb.but ap Rh bc hc with hd := hc.mono (by omega) }⟩
          · have lwb := lwa.but ap Rh bb hb
            refine ⟨_, rfl, Kn, _, rfl, .inl (SqL.of lwb.eK), _, _, rfl, rfl, _, rfl, ite2 (fun e2 => ?_) (fun e2 => ?_)⟩
            · refine ⟨_, rfl, _, rfl, _, rfl, h, _, _, rfl, lwb.hd, by show n + 3 + 13 * (k : Int) + 3 * j + 1 + 1 ≤ 1000000; omega, .inl ⟨S, _, rfl, lwb.eS, Sh, by decide +kernel, by rw [List.length_map]; decide +kernel, fun v Hc mv hc bc => ?_⟩⟩
              obtain ⟨c2, mc2, rfl⟩ := List.mem_map.mp mv
              exact ⟨_, _, rfl, rfl, (by rw [ones_len, ones_len]; decide), _, rfl, sm_two mc mc2, { lwb.but ap Rh bc hc with hd := hc.mono (by omega) }⟩
            · exact ⟨_, rfl, sm_one mc, { lwb with hd := hb.mono (by omega) }⟩
        · rintro σ Hy ⟨t, rfl, st, lwt⟩
          have kl : kn2.length ≤ 1000 := by have := lwt.lk; omega
          have gl : gr.length ≤ 1000 := by
            have e := congrArg List.length lwt.fl
            rw [List.length_append] at e
            omega
          refine ⟨_, rfl, _, rfl, Kn, _, rfl, .inl (SqL.of lwt.eK), rfl, flat_strs _, _, rfl, ?_⟩
          rw [inV_strs]
          by_cases mt : t ∈ kn2
          · rw [decide_eq_true mt]
            have nn : kn2 ≠ [] := fun z => by
              rw [z] at mt
              cases mt
            exact iteF ⟨kn2, gr, _, _, rfl, { lwt with l1 := fun _ => nn, lk := by have := lwt.lk; omega }⟩
          · rw [decide_eq_false mt]
            have lwn := lwt.add ap Rh SR KR GR HR st mt
            refine iteT ⟨_, rfl, .inl ⟨rfl, _, SqL.of lwt.eK⟩, _, rfl, Kn, _, _, rfl, rfl, lwt.eK, by rw [List.length_map]; exact Nat.lt_of_le_of_lt kl (by decide), ?_⟩
            have eR' : (upd Hy Kn (.lst (kn2.map V.str ++ [V.str t]))) R = some (.lst (gr.map V.str)) := by rw [upd_ne (Ne.symm KR)]; exact lwt.eR
            exact ⟨_, rfl, .inl ⟨rfl, _, SqL.of eR'⟩, _, rfl, R, _, _, rfl, rfl, eR', by rw [List.length_map]; exact Nat.lt_of_le_of_lt gl (by decide), _, _, _, _, rfl, lwn⟩
      · rintro σ Hx ⟨kn2, gr, c7, c8, rfl, lw⟩
        have rn : (r.toNat : Int) = r := by omega
        have lw : Lw h S Kn G R (n + 3 + 13 * k + 3 * (r.toNat : Int)) H Hx k r.toNat kn2 xs gs gr := lw
        have kne : kn2 ≠ [] := lw.l1 (by omega)
        have bud : Hand (n + 2 + 13 * ((k + 1 : Nat) : Int)) Hx h := lw.hd.mono (by omega)
        refine ⟨_, rfl, (by show 0 ≤ sizeLine; decide), fun L2' nL2 => ?_⟩
        have sL2 := same_upd nL2 (o := .lst [])
        refine ⟨R, L2', _, rfl, rfl, sL2 _ _ lw.eR, upd_same, _, rfl, ?_⟩
        have lw2 := lw.but ap Rh (Same.but sL2 h) (lw.hd.same sL2)
        generalize upd Hx L2' (.lst []) = Hz at lw2 ⊢
        have lk4 : kn2.length ≤ 4 * (k + 1) := by have := lw.lk; omega
        have lgs := lw.lg
        have lxs : xs.length ≤ 1000 := by rw [lw.gp.length]; omega
        by_cases ge : gr = []
        · rw [ge]
          have ef : kn2 = gs.flatten := by rw [lw.fl, ge, List.append_nil]
          exact iteF ⟨kn2, xs, gs, _, _, _, _, rfl, lw2.eS, lw2.eK, lw2.eG, lw2.gp, ef, lw2.nd, lw2.sm, lw2.ne, by omega, fun _ => kne, lk4, lw2.hd.mono (by omega), lw2.bt⟩
        · have en : (!(gr.map V.str).isEmpty) = true := by
            cases gr with
            | nil => exact absurd rfl ge
            | cons a b => rfl
          rw [en]
          refine iteT ⟨_, rfl, .inl ⟨rfl, _, SqL.of lw2.eG⟩, _, rfl, R, _, rfl, .inl ⟨SqL.of lw2.eR, fun T' nT => ?_⟩⟩
          have sT := same_upd nT (o := .tup (gr.map V.str))
          have lw3 := lw2.but ap Rh (Same.but sT h) (lw2.hd.same sT)
          have eT : (upd Hz T' (.tup (gr.map V.str))) T' = some (.tup (gr.map V.str)) := upd_same
          generalize upd Hz T' (.tup (gr.map V.str)) = Hw at lw3 eT ⊢
          have tk := tk_lst (o := .lst (xs ++ [V.ref T'])) lw3.eG
          refine ⟨G, _, _, rfl, rfl, lw3.eG, Nat.lt_of_le_of_lt lxs (by decide), kn2, xs ++ [.ref T'], gs ++ [gr], _, _, _, _, rfl, ?_, ?_, upd_same, ?_, ?_, lw3.nd, lw3.sm, ?_, ?_, fun _ => kne, lk4, (lw3.hd.upd (Ne.symm ap.Gh)).mono (by omega), but_new lw3.bt ap.HG⟩
          · rw [upd_ne ap.SG]; exact lw3.eS
          · rw [upd_ne ap.KG]; exact lw3.eK
          · exact (lw3.gp.tk tk).snoc ⟨T', rfl, tk _ _ eT⟩
          · rw [lw3.fl, List.flatten_append]; simp
          · intro g hg
            rcases List.mem_append.mp hg with z | z
            · exact lw3.ne g z
            · rw [List.mem_singleton.mp z]; exact ge
          · rw [List.length_append]
            exact Nat.succ_le_succ lw3.lg
    · rintro σ He ⟨kn, xs, gs, c5, c6, c7, c8, rfl, eSi, eKi, eGi, gp, fl, nd, sm, ne, lg, l1, lk, hdi, bi⟩
      have mn : (m.toNat : Int) = m := by omega
      have gl1 : 1 ≤ gs.length := by
        cases gs with
        | nil => exact absurd fl (l1 (by omega))
        | cons a b => simp
      refine ⟨_, rfl, G, _, rfl, .inl ⟨SqL.of eGi, fun T' nT => ?_⟩⟩
      have sT := same_upd nT (o := .tup xs)
      subst fl
      refine q _ gs _ ⟨T', xs, rfl, upd_same, gp.tk sT.tk⟩ ⟨good_lt gl1 (by omega) ne sm nd, by omega⟩ ((hdi.same sT).mono (by omega)) (bi.trans (Same.but sT h))
end
end K79
set_option Elab.async false
set_option linter.all false
set_option maxRecDepth 100000
set_option maxHeartbeats 4000000
set_option pp.maxSteps 400
set_option pp.deepTerms false
namespace K79
open PySem PySem.Spec PyProof.Rows L2
open Xk Az
section
variable {P : Program} {w : World} {K : PySem.W.Frag} {mg : Str → Option Value} {base : Heap} {C : Addr}
theorem join_cps' : ∀ ys : List Str, (Str.join "" ys).cps.toList = (ys.map fun y => y.cps.toList).flatten
  | [] => rfl
  | [x] => by simp [Str.join]
  | x :: z :: r => by
    show (x ++ "" ++ Str.join "" (z :: r)).cps.toList = _
    rw [Str.cps_append, Array.toList_append, Str.cps_append, Array.toList_append, join_cps' (z :: r)]
    have e0 : (("" : Str)).cps.toList = [] := rfl
    rw [e0, List.append_nil]
    rfl
theorem join_cps (ys : List Str) : (Txt.join "" ys).cps.toList = (ys.map fun y => y.cps.toList).flatten := by
  rw [TL.join_eq]
  exact join_cps' ys
theorem join_len (ys : List Str) : (Txt.join "" ys).length = (ys.map (·.length)).sum := by
  rw [len_cps, join_cps, List.length_flatten, List.map_map]
  congr 1
theorem ones_sum : ∀ ys : List Str, (∀ y ∈ ys, y.length = 1) → (ys.map (·.length)).sum = ys.length
  | [], _ => rfl
  | y :: r, h => by
    rw [List.map_cons, List.sum_cons, h y List.mem_cons_self, ones_sum r (fun z hz => h z (List.mem_cons_of_mem _ hz)), List.length_cons]
    omega
theorem good_ps {ws : List Str} (h : ws.length ≤ 20) (hs : ∀ t ∈ ws, ofT (.str t) small 1 8 = true) (nd : ws.Nodup) : psD (gP ws) = true := by
  unfold psD gP
  dsimp only
  rw [txs_str, decide_eq_true nd, List.length_map, decide_eq_true (show (ws.length : Int) ≤ 20 by omega), Bool.and_true, Bool.true_and, List.all_eq_true]
  intro d hd
  obtain ⟨t, ht, rfl⟩ := List.mem_map.mp hd
  exact hs t ht
def spPss : Sp := fun vs H Q _ => ∃ (h : Addr) (n : Int), vs = [.ref h] ∧ Hand n H h ∧ n + 2000 ≤ far ∧ ∀ (v : V) (ws : List Str) H', GP H' v ws → psD (gP ws) = true → Hand (n + 400) H' h → But h H H' → Q v H'
theorem ok_pss {f : Addr} {fd : FuncData} {e : Ex} (D : Df K mg "_law_passed" ["_law_hand_here"] sPassed f fd) (T : Txt K mg C e) (cT : Ca P w K mg base 1 "_law_take" ["_law_hand_here", "_law_many"] spTake) (cP : Ca P w K mg base 2 "_law_pick" ["_law_hand_here", "_law_some"] spPick) : FnOk P w K mg base CX0 3 f fd ["_law_hand_here"] spPss := by
  refine D.fn.ok scPassed (fun vs H Q E h => ?_) (fun cdv A outer s H vs Q E hr h => ?_)
  · obtain ⟨h, n, rfl, hd, hn, q⟩ := h
    rfl
  · obtain ⟨h, n, rfl, hd, hn, q⟩ := h
    refine ⟨_, (pss_cons (ps_set (i := 1) scPassed.nd rfl (.inl rfl) (pe_lst pa_nil))
      (pss_cons (ps_for PassesOwn.never rfl (pi_range1 (by rfl) T.range (pa_cons (pe_ca cP hr (by decide) (by rfl) (pa_cons (pv 0) (pa_cons (pe_lst (pa_cons pe_int (pa_cons pe_int (pa_cons pe_int (pa_cons pe_int pa_nil))))) pa_nil))) pa_nil)) (pg_name (i := 2) scPassed.nd rfl (.inl rfl)) (pss_cons (ps_set (i := 3) scPassed.nd rfl (.inl rfl) (pe_m1 F.slot_str_join F.type_str_join mt_join pe_str (pe_lc (own := [("_law_turn", 4)]) (g := gName 4) (tt := tYes) (by rfl) scPassed.nd (pi_range1 (by rfl) T.range (pa_cons (pe_op op_add pe_int (pe_ca cT hr (by decide) (by rfl) (pa_cons (pv 0) (pa_cons pe_int pa_nil)))) pa_nil)) (blkOk_by (own := [("_law_turn", 4)]) (N := ["_law_hand_here", "_law_found", "_law_k", "_law_word", "_law_turn"]) (sc := defScope sPassed) (by decide +kernel)) (fun _ _ _ _ _ => pg_name (i := 4) scPassed.nd rfl (.inl rfl)) (fun _ _ _ _ _ => pts_nil) (fun _ _ _ _ _ => pe_ca cP hr (by decide) (by rfl) (pa_cons (pv 0) (pa_cons pe_str pa_nil))))))
      (pss_one (ps_if (pt_cmpR op_notIn_seq (pv 3) (pv 1) (by rfl)) (pss_one (ps_expr (pe_bm PySem.F.plainAttrs_list PySem.F.slot_list_append PySem.F.type_list_append mt_append (pv 1) (pa_cons (pv 3) pa_nil)))) pss_nil))))
      (pss_one (ps_ret (pe_callTy call_tuple_of (by rfl) T.tuple (by decide +kernel) (pa_cons (pv 1) pa_nil)))))), ?_⟩
    have fr : n + 2000 ≤ 1000000 := hn
    have l26 : small.length = 26 := by decide +kernel
    refine ⟨(by show 0 ≤ sizeLine; decide), fun F nF => ?_⟩
    have sF := same_upd nF (o := .lst [])
    have eF : (upd H F (.lst [])) F = some (.lst []) := upd_same
    have Fh := hd.fresh nF
    generalize upd H F (.lst []) = H1 at sF eF ⊢
    refine ⟨_, rfl, (by show 4 ≤ sizeLine; decide), fun L nL => ?_⟩
    have sL := same_upd nL (o := .lst [.int 0, .int 1, .int 3, .int 20])
    refine ⟨h, n, _, rfl, (hd.same sF).same sL, by show n ≤ 1000000; omega, .inl ⟨L, _, rfl, upd_same, (hd.same sF).fresh nL, by simp, by show 4 < 1000; decide, fun v H2 mv h2 b2 => ?_⟩⟩
    obtain ⟨m, rfl, m0, m20⟩ : ∃ m : Int, v = .int m ∧ 0 ≤ m ∧ m ≤ 20 := by
      simp only [List.mem_cons, List.not_mem_nil, or_false] at mv
      rcases mv with z | z | z | z <;> exact ⟨_, z, by decide, by decide⟩
    have b12 : But h H1 H2 := (Same.but sL h).trans b2
    have b02 : But h H H2 := (Same.but sF h).trans b12
    have eF2 := b12 _ _ Fh eF
    clear b12 b2 sL mv
    refine ⟨m, rfl, by omega, by omega, for_range (lo := 0) (n := m.toNat) (fun k σ Hi => ∃ (ws : List Str) (c2 c3 c4 : Option V), σ = [some (.ref h), some (.ref F), c2, c3, c4] ∧ Hi F = some (.lst (ws.map V.str)) ∧ ws.length ≤ k ∧ (∀ t ∈ ws, ofT (.str t) small 1 8 = true) ∧ ws.Nodup ∧ Hand (n + 1 + 9 * k) Hi h ∧ But h H Hi) ?_ ?_ ?_⟩
    · exact ⟨[], _, _, _, rfl, eF2, Nat.le_refl _, by simp, List.nodup_nil, h2.mono (by omega), b02⟩
    · rintro k σ Hi hk ⟨ws, c2, c3, c4, rfl, eFi, lw, sm, nd, hdi, bi⟩
      have km : (k : Int) < m := by omega
      have kb : n + 1 + 9 * (k : Int) + 9 ≤ 1000000 := by omega
      refine ⟨⟨_, rfl⟩, _, rfl, h, 8, _, rfl, by decide, by decide, hdi, by show n + 1 + 9 * (k : Int) ≤ 1000000; omega, fun d H3 d0 d1 h3 b3 => ?_⟩
      refine ⟨1, d, rfl, rfl, _, rfl, by omega, by omega, fun W nW => ?_⟩
      have sW := same_upd nW (o := .lst [])
      have Wh := h3.fresh nW
      have FW : F ≠ W := ne_of_none (b3 _ _ Fh eFi) nW
      have HW : H W = none := bi.free Wh (b3.free Wh nW)
      refine lc_range (lo := 0) (fun i Hj => ∃ ys : List Str, Hj W = some (.lst (ys.map V.str)) ∧ ys.length = i ∧ (∀ y ∈ ys, ∃ c ∈ small.cps.toList, y = ⟨#[c]⟩) ∧ Hand (n + 2 + 9 * k + i) Hj h ∧ But h H3 Hj) ?_ ?_ ?_
      · exact ⟨[], upd_same, rfl, by simp, (h3.same sW).mono (by omega), Same.but sW h⟩
      · rintro i Hj hi ⟨ys, eW, ly, cy, hdj, bj⟩
        have hi' : i < (1 + d).toNat := hi
        refine ⟨rfl, ?_⟩
        unfold tYes
        refine iteT ⟨_, rfl, h, _, _, rfl, hdj, by show n + 2 + 9 * (k : Int) + i ≤ 1000000; omega, .inr (.inl ⟨small, rfl, by rw [l26]; decide, by rw [l26]; decide, fun c H4 mc h4 b4 => ?_⟩)⟩
        refine ⟨_, b4 _ _ Wh eW, ?_, ys ++ [⟨#[c]⟩], ?_, by rw [List.length_append, ly]; rfl, ?_, (h4.upd (Ne.symm Wh)).mono (by omega), ?_⟩
        · rw [List.length_map, ly]
          exact Nat.lt_of_le_of_lt (show i ≤ 100 by omega) (by decide)
        · rw [upd_same, List.map_append]
          rfl
        · intro y hy
          rcases List.mem_append.mp hy with z | z
          · exact cy y z
          · exact ⟨c, mc, List.mem_singleton.mp z⟩
        · intro b x nb e
          rw [upd_ne (ne_of_none e nW)]
          exact b4 b x nb (bj b x nb e)
      · rintro H4 ⟨ys, eW, ly, cy, h4, b4⟩
        have ly' : ys.length = (1 + d).toNat := ly
        have h4' : Hand (n + 2 + 9 * k + ((1 + d).toNat : Int)) H4 h := h4
        have ones : ∀ y ∈ ys, y.length = 1 := fun y hy => by
          obtain ⟨c, _, e⟩ := cy y hy
          rw [e]
          rfl
        have sum := ones_sum ys ones
        have l0 : (("" : Str)).length = 0 := rfl
        have wd : ofT (.str (Txt.join "" ys)) small 1 8 = true := by
          refine of_mk ?_ ?_ fun c hc => ?_
          · rw [join_len, sum]; omega
          · rw [join_len, sum]; omega
          · rw [join_cps] at hc
            obtain ⟨l, ml, hcl⟩ := List.mem_flatten.mp hc
            obtain ⟨y, my, rfl⟩ := List.mem_map.mp ml
            obtain ⟨c', mc', e⟩ := cy y my
            rw [e] at hcl
            have : c = c' := by simpa using hcl
            rw [this]
            exact mc'
        have eF4 : H4 F = some (.lst (ws.map V.str)) := b4 _ _ Fh (b3 _ _ Fh eFi)
        have b04 : But h H H4 := bi.trans (b3.trans b4)
        refine ⟨"", W, ys, rfl, rfl, .inl (SqL.of eW), by rw [sum, l0]; omega, ?_⟩
        refine ⟨_, rfl, _, rfl, F, _, rfl, .inl (SqL.of eF4), rfl, flat_strs _, _, rfl, ?_⟩
        rw [inV_strs]
        by_cases mt : Txt.join "" ys ∈ ws
        · rw [decide_eq_true mt]
          exact iteF ⟨ws, _, _, _, rfl, eF4, by omega, sm, nd, h4'.mono (by omega), b04⟩
        · rw [decide_eq_false mt]
          refine iteT ⟨_, rfl, .inl ⟨rfl, _, SqL.of eF4⟩, _, rfl, F, _, _, rfl, rfl, eF4, by rw [List.length_map]; exact Nat.lt_of_le_of_lt (show ws.length ≤ 100 by omega) (by decide), ws ++ [Txt.join "" ys], _, _, _, rfl, by rw [upd_same, List.map_append]; rfl, by rw [List.length_append]; exact Nat.succ_le_succ lw, ?_, ?_, (h4'.upd (Ne.symm Fh)).mono (by omega), but_new b04 nF⟩
          · intro t ht
            rcases List.mem_append.mp ht with z | z
            · exact sm t z
            · rw [List.mem_singleton.mp z]; exact wd
          · rw [List.nodup_append]
            exact ⟨nd, by simp, fun a ha b hb => by rw [List.mem_singleton.mp hb]; exact fun z => mt (z ▸ ha)⟩
    · rintro σ He ⟨ws, c2, c3, c4, rfl, eFi, lw, sm, nd, hdi, bi⟩
      have mn : (m.toNat : Int) = m := by omega
      refine ⟨_, rfl, F, _, rfl, .inl ⟨SqL.of eFi, fun T' nT => ?_⟩⟩
      have sT := same_upd nT (o := .tup (ws.map V.str))
      exact q _ ws _ ⟨T', rfl, upd_same⟩ (good_ps (by omega) sm nd) ((hdi.same sT).mono (by omega)) (bi.trans (Same.but sT h))
end
end K79
set_option Elab.async false
set_option linter.all false
set_option maxRecDepth 100000
set_option maxHeartbeats 4000000
set_option pp.maxSteps 400
set_option pp.deepTerms false
namespace K79
open PySem PySem.Spec PyProof.Rows L2
open Xk Az
section
variable {P : Program} {w : World} {K : PySem.W.Frag} {mg : Str → Option Value} {base : Heap} {C : Addr}
abbrev psC : List Str := ["self", "letters", "passed", "comma"]
theorem made_ok {e : Ex} {H : Hp} {x dx : Addr} (nx : H x = none) (nd : H dx = none) {G sv : V} {dp : PyData} (c : Cg) (gc : GoodC c) (lG : Dz K H G (ltP c.1)) (hs : Dz K H sv dp) (ew : wdD dp = gP c.2.1) {Q : V → Hp → Prop} {E : XK}
    (q : ∀ H', L2.Same H H' → CuAt K C H' x c → Q (.ref x) H') : spInit K C e [.ref x, G, sv, .bl c.2.2] (upd (upd H dx (.own x)) x (.ins C dx [])) (fun v H2 => v = .non ∧ Q (.ref x) H2) E := by
  have s : L2.Same H (upd (upd H dx (.own x)) x (.ins C dx [])) := fun b z e => by
    rw [upd_ne (ne_of_none e nx), upd_ne (ne_of_none e nd)]
    exact e
  have s2w : S2 (wdD dp) := by rw [ew]; exact good_s2 gc.ps
  have s2 : S2 dp := by
    clear ew hs
    cases dp with
    | none => exact fun ds e => nomatch e
    | _ => exact s2w
  refine ⟨x, dx, G, sv, .bl c.2.2, ltP c.1, dp, .bool c.2.2, rfl, upd_same, lG.same s, good_s3 gc, hs.same s, s2, .bl _, fun b h1 h2 eb H' p' keep dz at_ => ⟨rfl, ?_⟩, fun bad => ?_⟩
  · cases eb
    refine q H' (fun b z e => keep b z (s b z e) (ne_of_none e nx)) ⟨G, p', ?_, ?_, ?_⟩
    · rw [← lts_ltP c.1]; exact at_
    · exact (lG.same fun b z e => keep b z (s b z e) (ne_of_none e nx))
    · rw [← ew]; exact dz
  · rw [gc.lt, ew, gc.ps] at bad
    cases bad
theorem made_of {e : Ex} {H : Hp} {x dx : Addr} {vs : List V} (nx : H x = none) (nd : H dx = none) (G sv : V) {dp : PyData} (c : Cg) (gc : GoodC c) (ev : vs = [.ref x, G, sv, .bl c.2.2]) (lG : Dz K H G (ltP c.1)) (hs : Dz K H sv dp) (ew : wdD dp = gP c.2.1) {P : V → Hp → Prop} {E : XK}
    (q : ∀ H', L2.Same H H' → CuAt K C H' x c → P .non H') : spInit K C e vs (upd (upd H dx (.own x)) x (.ins C dx [])) P E := by
  subst ev
  obtain ⟨x', dx', l, p, c', dl, dp', dc, e1, e2, e3, e4, e5, e6, e7, q1, q2⟩ := made_ok (K := K) (C := C) (e := e) (Q := fun _ H' => P .non H') (E := E) nx nd c gc lG hs ew q
  exact ⟨x', dx', l, p, c', dl, dp', dc, e1, e2, e3, e4, e5, e6, e7, fun b h1 h2 h3 H' p' k d a => (q1 b h1 h2 h3 H' p' k d a).2, q2⟩
def g3 {α : Type} (us _ds ws : List α) : List α := us ++ ws.reverse
def g1 {α : Type} (us _ds ws : List α) : List α := us ++ ws
def gPa {α : Type} (us ds ws : List α) : List α := us ++ ws ++ ds.drop 1
def gLC {α : Type} (us ds ws : List α) : List α := us ++ (ws.take 1 ++ ds.take 1 ++ ws.drop 1)
theorem vals_rev : ∀ {zs : List V} {ws : List Value}, Vals zs ws → Vals zs.reverse ws.reverse
  | [], [], .nil => .nil
  | _ :: _, _ :: _, .cons r t => by
    rw [List.reverse_cons, List.reverse_cons]
    exact Vals.append (vals_rev t) (.cons r .nil)
theorem vals_take : ∀ (k : Nat) {zs : List V} {ws : List Value}, Vals zs ws → Vals (zs.take k) (ws.take k)
  | 0, _, _, _ => by rw [List.take_zero, List.take_zero]; exact .nil
  | _ + 1, [], [], .nil => .nil
  | k + 1, _ :: _, _ :: _, .cons r t => .cons r (vals_take k t)
theorem vals_drop : ∀ (k : Nat) {zs : List V} {ws : List Value}, Vals zs ws → Vals (zs.drop k) (ws.drop k)
  | 0, _, _, r => r
  | _ + 1, [], [], .nil => .nil
  | k + 1, _ :: _, _ :: _, .cons _ t => vals_drop k t
/-- a Custom is made: by places, by names, with what is left out -/
structure Dm (P : Program) (w : World) (K : PySem.W.Frag) (mg : Str → Option Value) (base : Heap) (C : Addr) (e : Ex) (f : Addr) (fd : FuncData) : Prop where
  mm : Mk K C f
  ok : FnOk P w K mg base (L2.CX P w) 5 f fd psC (spInit K C e)
  b3 : Binds K fd psC []
  b2 : ∃ ds, Vals [.bl true] ds ∧ Binds K fd psC ds
  b1 : ∃ ds, Vals [.non, .bl true] ds ∧ Binds K fd psC ds
  k3 : ∃ its, KBn K fd psC 1 ["comma", "passed", "letters"] (fun us ws => g3 us its ws) (fun vs zs => g3 vs [.non, .bl true] zs)
  k1 : ∃ its, KBn K fd psC 3 ["comma"] (fun us ws => g1 us its ws) (fun vs zs => g1 vs [.non, .bl true] zs)
  kp : ∃ its, KBn K fd psC 2 ["passed"] (fun us ws => gPa us its ws) (fun vs zs => gPa vs [.non, .bl true] zs)
  kl : ∃ its, KBn K fd psC 1 ["letters", "comma"] (fun us ws => gLC us its ws) (fun vs zs => gLC vs [.non, .bl true] zs)
theorem dm_mk {e : Ex} {f : Addr} {fd : FuncData} (F : FunD K "__init__" "Custom.__init__" (defArgs sCustomInit) (defBody sCustomInit) (defScope sCustomInit) [.non, .bl true] [] f fd) (mk : Mk K C f)
    (ok : FnOk P w K mg base (L2.CX P w) 5 f fd psC (spInit K C e)) : Dm P w K mg base C e f fd := by
  refine ⟨mk, ok, ?_, ?_, ?_, ?_, ?_, ?_, ?_⟩
  · obtain ⟨ds, r, b⟩ := F.binds1 (ps := psC) 4 2 (by simp) rfl fun T kV doc pm an cdv ct us its h1 h2 => by
      match us, its, h1, h2 with
      | [_, _, _, _], [_, _], _, _ => exact ⟨_, rfl, rfl⟩
    cases r
    exact b
  · exact F.binds1 (ps := psC) 3 1 (by simp) rfl fun T kV doc pm an cdv ct us its h1 h2 => by
      match us, its, h1, h2 with
      | [_, _, _], [_, _], _, _ => exact ⟨_, rfl, rfl⟩
  · exact F.binds1 (ps := psC) 2 0 (by simp) rfl fun T kV doc pm an cdv ct us its h1 h2 => by
      match us, its, h1, h2 with
      | [_, _], [_, _], _, _ => exact ⟨_, rfl, rfl⟩
  · exact F.kbindsD (ps := psC) 1 ["comma", "passed", "letters"] (fun us ds ws => g3 us ds ws) (by simp) (fun r _ t => Vals.append r (vals_rev t)) fun T kV doc pm an cdv ct us its ws h1 h2 h3 => by
      match us, its, ws, h1, h2, h3 with
      | [_], [_, _], [_, _, _], _, _, _ => exact ⟨_, rfl, rfl⟩
  · exact F.kbindsD (ps := psC) 3 ["comma"] (fun us ds ws => g1 us ds ws) (by simp) (fun r _ t => Vals.append r t) fun T kV doc pm an cdv ct us its ws h1 h2 h3 => by
      match us, its, ws, h1, h2, h3 with
      | [_, _, _], [_, _], [_], _, _, _ => exact ⟨_, rfl, rfl⟩
  · exact F.kbindsD (ps := psC) 2 ["passed"] (fun us ds ws => gPa us ds ws) (by simp) (fun r d t => Vals.append (Vals.append r t) (vals_drop 1 d)) fun T kV doc pm an cdv ct us its ws h1 h2 h3 => by
      match us, its, ws, h1, h2, h3 with
      | [_, _], [_, _], [_], _, _, _ => exact ⟨_, rfl, rfl⟩
  · exact F.kbindsD (ps := psC) 1 ["letters", "comma"] (fun us ds ws => gLC us ds ws) (by simp) (fun r d t => Vals.append r (Vals.append (Vals.append (vals_take 1 t) (vals_take 1 d)) (vals_drop 1 t))) fun T kV doc pm an cdv ct us its ws h1 h2 h3 => by
      match us, its, ws, h1, h2, h3 with
      | [_], [_, _], [_, _], _, _, _ => exact ⟨_, rfl, rfl⟩
theorem dz_GP {H : Hp} {v : V} {g : List Str} (h : Dz K H v (gP g)) : GP H v g := by
  have g1 := h
  unfold gP at h
  cases h with
  | @tup t xs ds et ra =>
    have e : ∀ {xs : List V} {ys : List Str}, DzAll K H xs (ys.map PyData.str) → xs = ys.map V.str := fun {xs ys} r => by
      induction ys generalizing xs with
      | nil => cases r; rfl
      | cons y q ih =>
        cases r with
        | cons h r =>
          cases h
          rw [ih r]
          rfl
    exact ⟨t, rfl, by rw [← e ra]; exact et⟩
theorem dz_GPs {H : Hp} : ∀ {xs : List V} {gs : List (List Str)}, DzAll K H xs (gs.map gP) → GPs H xs gs
  | [], [], .nil => trivial
  | _ :: _, _ :: _, .cons h r => ⟨dz_GP h, dz_GPs r⟩
theorem dz_LP {H : Hp} {v : V} {gs : List (List Str)} (h : Dz K H v (ltP gs)) : LP H v gs := by
  unfold ltP at h
  cases h with
  | @tup t xs ds et ra => exact ⟨t, xs, rfl, et, dz_GPs ra⟩
theorem CuAt.but {H H' : Hp} {h a : Addr} {n : Int} {c : Cg} (x : CuAt K C H a c) (hd : Hand n H h) (b : But h H H') : CuAt K C H' a c := by
  obtain ⟨l, p, ⟨dx, nd, e, e2⟩, d1, d2⟩ := x
  have tk := tk_but hd b
  obtain ⟨g, m, k, eh, _⟩ := hd
  exact ⟨l, p, ⟨dx, nd, b _ _ (ne_of e eh (by intro z; cases z)) e, b _ _ (ne_of e2 eh (by intro z; cases z)) e2⟩, ((dz_LP d1).tk tk).dz, ((dz_GP d2).tk tk).dz⟩
structure Lv (gs : List (List Str)) : Prop where
  h1 : 1 ≤ gs.length
  h40 : gs.length ≤ 40
  ne : ∀ g ∈ gs, g ≠ []
  sm : ∀ t ∈ gs.flatten, sm12 t
  nd : gs.flatten.Nodup
  sz : gs.flatten.length ≤ 1000
theorem Lv.lt {gs : List (List Str)} (h : Lv gs) : ltD (ltP gs) = true := good_lt h.h1 h.h40 h.ne h.sm h.nd
theorem lv_of {gs : List (List Str)} (h : ltD (ltP gs) = true) (sz : gs.flatten.length ≤ 1000) : Lv gs := by
  have al := ltD_all h
  unfold ltD ltP at h
  simp only [Bool.and_eq_true, decide_eq_true_eq, List.length_map] at h
  refine ⟨by omega, by omega, fun g hg => (al g hg).1, fun t ht => ?_, ?_, sz⟩
  · obtain ⟨g, hg, m⟩ := List.mem_flatten.mp ht
    exact (al g hg).2 t m
  · have n := h.2
    rw [flat_gP] at n
    exact n
theorem GoodC.lv {c : Cg} (h : GoodC c) : Lv c.1 := lv_of h.lt h.sz
end
end K79
set_option Elab.async false
set_option linter.all false
set_option maxRecDepth 100000
set_option maxHeartbeats 4000000
set_option pp.maxSteps 400
set_option pp.deepTerms false
namespace K79
open PySem PySem.Spec PyProof.Rows L2
open Xk Az
section
variable {P : Program} {w : World} {K : PySem.W.Frag} {mg : Str → Option Value} {base : Heap} {C : Addr}
theorem up_asc {x : Str} (h : ∀ c ∈ x.cps.toList, c < 128) : (∀ c ∈ (Txt.upper x).cps.toList, c < 128) ∧ (Txt.upper x).length ≤ x.length := by
  have e := PyProof.Rows.upper_ascii (x := x) h
  have u : ∀ c, c < 128 → PyProof.Rows.up1 c < 128 := fun c hc => by
    unfold PyProof.Rows.up1
    split <;> omega
  rw [e]
  refine ⟨fun c hc => ?_, ?_⟩
  · have m : c ∈ (x.cps.map PyProof.Rows.up1).toList := hc
    rw [Array.toList_map] at m
    obtain ⟨b, hb, rfl⟩ := List.mem_map.mp m
    exact u b (h b hb)
  · show (x.cps.map PyProof.Rows.up1).size ≤ x.cps.size
    rw [Array.size_map]
    exact Nat.le_refl _
theorem cutS_in {x : Str} {lo hi : Option Int} : ∀ c ∈ (cutS x lo hi).cps.toList, c ∈ x.cps.toList := fun c hc => by
  unfold cutS at hc
  exact List.mem_of_mem_drop (List.mem_of_mem_take (by simpa using hc))
theorem cutS_len (x : Str) (lo hi : Option Int) : (cutS x lo hi).length ≤ x.length := by
  rw [len_cps, len_cps x]
  unfold cutS
  simp only [List.length_take, List.length_drop]
  omega
theorem asc_app {x y : Str} (h1 : ∀ c ∈ x.cps.toList, c < 128) (h2 : ∀ c ∈ y.cps.toList, c < 128) : ∀ c ∈ (x ++ y).cps.toList, c < 128 := fun c hc => by
  rw [Str.cps_append, Array.toList_append, List.mem_append] at hc
  exact hc.elim (h1 c) (h2 c)
/-- a number that is looked up -/
def look (kvs : List (Key × V)) (z : Str) : Option Nat := match valV kvs (.inr z) with
  | some (.int n) => some n.toNat
  | _ => none
/-- all numbers small -/
def NI (m : Nat) (kvs : List (Key × V)) : Prop := ∀ k v, valV kvs k = some v → ∃ n : Nat, v = .int (n : Nat) ∧ n < m
theorem ni_look {m : Nat} {kvs : List (Key × V)} (h : NI m kvs) (z : Str) : valV kvs (.inr z) = (look kvs z).map fun n => V.int (n : Nat) := by
  unfold look
  cases e : valV kvs (.inr z) with
  | none => rfl
  | some v =>
    obtain ⟨n, rfl, _⟩ := h _ _ e
    rfl
theorem ni_lt {m : Nat} {kvs : List (Key × V)} (h : NI m kvs) {z : Str} {n : Nat} (e : look kvs z = some n) : n < m := by
  have w := ni_look h z
  rw [e] at w
  obtain ⟨k, ek, lt⟩ := h _ _ w
  cases ek
  exact lt
theorem numG_ni {m n : Nat} (hn : n < m) : ∀ {g : List Str} {kvs : List (Key × V)}, NI m kvs → NI m (numG n g kvs)
  | [], _, h => h
  | x :: r, kvs, h => by
    refine numG_ni hn (g := r) (kvs := putK kvs (.inr x) (.int (n : Nat))) fun k v e => ?_
    rw [valV_put] at e
    split at e
    · cases e; exact ⟨n, rfl, hn⟩
    · exact h k v e
theorem numF_ni {m : Nat} : ∀ {gs : List (List Str)} {n : Nat} {acc : List (Key × V)}, NI m acc → n + gs.length ≤ m → NI m (numF n gs acc)
  | [], _, _, h, _ => h
  | g :: r, n, acc, h, l => by
    rw [List.length_cons] at l
    exact numF_ni (gs := r) (n := n + 1) (numG_ni (by omega) h) (by omega)
theorem ni_nil {m : Nat} : NI m [] := fun k v e => by cases e
def one (kvs : List (Key × V)) (a : Nat) : List Nat := (look kvs ⟨#[a]⟩).toList
/-- what is read from the left -/
def rd (kvs : List (Key × V)) : List Nat → List Nat
  | [] => []
  | [a] => one kvs a
  | a :: b :: r => match look kvs ⟨#[a, b]⟩ with
    | some n => n :: rd kvs r
    | none => one kvs a ++ rd kvs (b :: r)
theorem one_lt {m : Nat} {kvs : List (Key × V)} (h : NI m kvs) (a : Nat) : (∀ n ∈ one kvs a, n < m) ∧ (one kvs a).length ≤ 1 := by
  unfold one
  cases e : look kvs ⟨#[a]⟩ with
  | none => exact ⟨fun n hn => (List.not_mem_nil hn).elim, Nat.zero_le _⟩
  | some k => exact ⟨fun n hn => by rw [List.mem_singleton.mp hn]; exact ni_lt h e, Nat.le_refl _⟩
theorem rd_lt {m : Nat} {kvs : List (Key × V)} (h : NI m kvs) : ∀ (l : List Nat), (∀ n ∈ rd kvs l, n < m) ∧ (rd kvs l).length ≤ l.length
  | [] => ⟨fun n hn => (List.not_mem_nil hn).elim, Nat.le_refl _⟩
  | [a] => one_lt h a
  | a :: b :: r => by
    rw [rd]
    split
    · rename_i k e
      obtain ⟨i1, i2⟩ := rd_lt h r
      refine ⟨fun n hn => ?_, by simp only [List.length_cons]; omega⟩
      rcases List.mem_cons.mp hn with z | z
      · rw [z]; exact ni_lt h e
      · exact i1 n z
    · obtain ⟨i1, i2⟩ := rd_lt h (b :: r)
      obtain ⟨o1, o2⟩ := one_lt h a
      refine ⟨fun n hn => (List.mem_append.mp hn).elim (o1 n) (i1 n), ?_⟩
      rw [List.length_append]
      simp only [List.length_cons] at i2 ⊢
      omega
def kvL (gs : List (List Str)) : List (Key × V) := numF 0 gs []
def lets (gs : List (List Str)) (x : Str) : List Nat := rd (kvL gs) (Txt.lower x).cps.toList
theorem Lv.ni {gs : List (List Str)} (h : Lv gs) : NI 40 (kvL gs) := numF_ni ni_nil (by have := h.h40; omega)
/-- a short text of plain signs, without a comma -/
structure As (x : Str) (n : Nat) : Prop where
  a : ∀ c ∈ x.cps.toList, c < 128
  k : ∀ c ∈ x.cps.toList, c ≠ 44
  l : x.length ≤ n
theorem As.mono {x : Str} {n m : Nat} (h : As x n) (l : n ≤ m) : As x m := ⟨h.a, h.k, Nat.le_trans h.l l⟩
theorem As.low {x : Str} {n : Nat} (h : As x n) : As (Txt.lower x) n := by
  have e := PyProof.Rows.lower_ascii h.a
  have inn : ∀ c ∈ (Txt.lower x).cps.toList, ∃ b ∈ x.cps.toList, c = PyProof.Rows.lo1 b := fun c hc => by
    rw [e] at hc
    have m : c ∈ (x.cps.map PyProof.Rows.lo1).toList := hc
    rw [Array.toList_map] at m
    obtain ⟨b, hb, z⟩ := List.mem_map.mp m
    exact ⟨b, hb, z.symm⟩
  refine ⟨fun c hc => ?_, fun c hc => ?_, ?_⟩
  · obtain ⟨b, hb, z⟩ := inn c hc
    have := h.a b hb
    rw [z]
    unfold PyProof.Rows.lo1
    split <;> omega
  · obtain ⟨b, hb, z⟩ := inn c hc
    have := h.k b hb
    rw [z]
    unfold PyProof.Rows.lo1
    split <;> omega
  · rw [e]
    show (x.cps.map PyProof.Rows.lo1).size ≤ n
    rw [Array.size_map]
    exact h.l
theorem lets_ok {gs : List (List Str)} (g : Lv gs) {x : Str} {n : Nat} (h : As x n) : (∀ k ∈ lets gs x, k < 40) ∧ (lets gs x).length ≤ n := by
  obtain ⟨a, b⟩ := rd_lt g.ni (Txt.lower x).cps.toList
  have := h.low.l
  rw [len_cps] at this
  exact ⟨a, Nat.le_trans b this⟩
/-- the signs at a place, two at most, or one -/
def cutK (z : Str) (i k : Nat) : Str := cutS z (some (i : Int)) (some ((i : Int) + k))
theorem cutK_of (z : Str) (i k : Nat) (h : i < z.length) : cutK z i k = ⟨((z.cps.toList.drop i).take k).toArray⟩ := by
  unfold cutK cutS
  rw [show ((i : Int) + (k : Nat)) = ((i + k : Nat) : Int) by omega, HT.sIx_nat, HT.sIx_nat, Nat.min_eq_left (show i ≤ z.length by omega)]
  congr 2
  have l := len_cps z
  by_cases c : i + k ≤ z.length
  · rw [Nat.min_eq_left c, Nat.add_sub_cancel_left]
  · rw [Nat.min_eq_right (by omega), List.take_of_length_le (by rw [List.length_drop]; omega), List.take_of_length_le (by rw [List.length_drop]; omega)]
/-- the letter that stands there -/
def atL (kvs : List (Key × V)) (z : Str) (i : Nat) : V :=
  if (valV kvs (.inr (cutK z i 2))).isSome then .str (cutK z i 2) else if (valV kvs (.inr (cutK z i 1))).isSome then .str (cutK z i 1) else .non
def spLA (K : PySem.W.Frag) : Sp := fun vs H Q _ => ∃ (nd : Addr) (kvs : List (Key × V)) (z : Str) (i : Nat), vs = [.ref nd, .str z, .int (i : Nat)] ∧ H nd = some (.dK kvs) ∧ z.length ≤ 1000 ∧ ∀ H', L2.Same H H' → Q (atL kvs z i) H'
theorem at_cases {m : Nat} {kvs : List (Key × V)} (ni : NI m kvs) (z : Str) (i : Nat) (h : i < z.length) :
    (∃ (y : Str) (n : Nat), atL kvs z i = .str y ∧ valV kvs (.inr y) = some (.int (n : Nat)) ∧ 1 ≤ y.length ∧ i + y.length ≤ z.length ∧ rd kvs (z.cps.toList.drop i) = n :: rd kvs (z.cps.toList.drop (i + y.length))) ∨
    (atL kvs z i = .non ∧ rd kvs (z.cps.toList.drop i) = rd kvs (z.cps.toList.drop (i + 1))) := by
  have lc := len_cps z
  have hi : i < z.cps.toList.length := by omega
  obtain ⟨a, ea⟩ : ∃ a, z.cps.toList[i] = a := ⟨_, rfl⟩
  have ed : z.cps.toList.drop i = a :: z.cps.toList.drop (i + 1) := by rw [List.drop_eq_getElem_cons hi, ea]
  have c2 := cutK_of z i 2 h
  have c1 : cutK z i 1 = ⟨#[a]⟩ := by rw [cutK_of z i 1 h, ed]; rfl
  have n1 := ni_look ni ⟨#[a]⟩
  unfold atL
  rw [c1]
  cases er : z.cps.toList.drop (i + 1) with
  | nil =>
    rw [ed, er] at c2 ⊢
    have c2' : cutK z i 2 = ⟨#[a]⟩ := c2
    rw [c2', show rd kvs [a] = one kvs a from rfl]
    unfold one
    have le : z.cps.toList.length ≤ i + 1 := by
      have := congrArg List.length er
      rw [List.length_drop, List.length_nil] at this
      omega
    cases lk : look kvs ⟨#[a]⟩ with
    | none =>
      rw [lk] at n1
      rw [n1]
      exact .inr ⟨rfl, rfl⟩
    | some n =>
      rw [lk] at n1
      refine .inl ⟨⟨#[a]⟩, n, by rw [n1]; rfl, n1, Nat.le_refl _, by show i + 1 ≤ z.length; omega, ?_⟩
      rw [show (⟨#[a]⟩ : Str).length = 1 from rfl, er]
      rfl
  | cons b r =>
    have hi2 : i + 1 < z.cps.toList.length := by
      have := congrArg List.length er
      rw [List.length_drop, List.length_cons] at this
      omega
    have er2 : z.cps.toList.drop (i + 2) = r := by
      have := congrArg (List.drop 1) er
      rw [List.drop_drop] at this
      exact this
    rw [ed, er] at c2 ⊢
    have c2' : cutK z i 2 = ⟨#[a, b]⟩ := c2
    have n2 := ni_look ni ⟨#[a, b]⟩
    rw [c2', rd]
    unfold one
    cases lk2 : look kvs ⟨#[a, b]⟩ with
    | some n =>
      rw [lk2] at n2
      refine .inl ⟨⟨#[a, b]⟩, n, by rw [n2]; rfl, n2, by show 1 ≤ 2; decide, by show i + 2 ≤ z.length; omega, ?_⟩
      rw [show (⟨#[a, b]⟩ : Str).length = 2 from rfl, er2]
    | none =>
      rw [lk2] at n2
      rw [n2]
      cases lk : look kvs ⟨#[a]⟩ with
      | none =>
        rw [lk] at n1
        rw [n1]
        exact .inr ⟨rfl, rfl⟩
      | some n =>
        rw [lk] at n1
        refine .inl ⟨⟨#[a]⟩, n, by rw [n1]; rfl, n1, Nat.le_refl _, by show i + 1 ≤ z.length; omega, ?_⟩
        rw [show (⟨#[a]⟩ : Str).length = 1 from rfl, er]
        rfl
/-- reading, under way -/
def WLI (a F : Addr) (x : Str) (kvs : List (Key × V)) (H : Hp) (m : Nat) (σ : L2.St) (Hi : Hp) : Prop := ∃ (i : Nat) (acc : List Nat) (c5 : Option V), σ = [some (.ref a), some (.str x), some (.str (Txt.lower x)), some (.ref F), some (.int (i : Nat)), c5] ∧ m = (Txt.lower x).length - i ∧ i ≤ (Txt.lower x).length ∧ L2.Same H Hi ∧ Hi F = some (.lst (acc.map fun n => V.int (n : Nat))) ∧ acc.length ≤ i ∧ acc ++ rd kvs ((Txt.lower x).cps.toList.drop i) = rd kvs (Txt.lower x).cps.toList
def spLI (K : PySem.W.Frag) (C : Addr) : Sp := fun vs H Q _ => ∃ (a : Addr) (c : Cg) (x : Str), vs = [.ref a, .str x] ∧ CuAt K C H a c ∧ GoodC c ∧ As x 500 ∧ ∀ t H', H' t = some (.tup ((lets c.1 x).map fun n => V.int (n : Nat))) → L2.Same H H' → Q (.ref t) H'
theorem ok_la {f : Addr} {fd : FuncData} {e : Ex} (D : Df K mg "letter_at" ["numbers", "text", "at"] sLetterAt f fd) (T : Txt K mg C e) : FnOk P w K mg base CX0 1 f fd ["numbers", "text", "at"] (spLA K) := by
  obtain ⟨_, gL⟩ := T.ll
  refine D.fn.ok scLetterAt (fun vs H Q E h => ?_) (fun cdv A outer s H vs Q E hr h => ?_)
  · obtain ⟨nd, kvs, z, i, rfl, en, l1, q⟩ := h
    rfl
  · obtain ⟨nd, kvs, z, i, rfl, en, l1, q⟩ := h
    refine ⟨_, (pss_cons (ps_for PassesOwn.never rfl (pi_tup (pe_tup (pa_cons (pe_glob (v := .int 2) (by rfl) gL ⟨_, rfl⟩) (pa_cons pe_int pa_nil)))) (pg_name (i := 3) scLetterAt.nd rfl (.inl rfl)) (pss_cons (ps_set (i := 4) scLetterAt.nd rfl (.inl rfl) (pe_slice sl_str (pv 1) (po_some (pv 2)) (po_some (pe_op op_add (pv 2) (pv 3)))))
      (pss_one (ps_if (pt_cmp (pc_din (hu_of hr) (pv 4) (pv 0))) (pss_one (ps_ret (pv 4))) pss_nil))))
      (pss_one (ps_ret pe_non))), ?_⟩
    refine ⟨(by show 2 ≤ sizeLine; decide), fun t nt => ⟨t, rfl, ⟨_, SqT.of upd_same⟩, ?_⟩⟩
    have st := same_upd nt (o := .tup [.int 2, .int 1])
    have et : (upd H t (.tup [.int 2, .int 1])) t = some (.tup [.int 2, .int 1]) := upd_same
    generalize upd H t (.tup [.int 2, .int 1]) = H1 at st et ⊢
    have lz : z.length ≤ sizeLine := Nat.le_trans l1 (by decide)
    refine for_tup (K := K) (a := t) (xs := [.int 2, .int 1]) (fun j σ Hi => ∃ c3 c4, σ = [some (.ref nd), some (.str z), some (.int (i : Nat)), c3, c4] ∧ L2.Same H1 Hi ∧ (1 ≤ j → (valV kvs (.inr (cutK z i 2))).isSome = false) ∧ (2 ≤ j → (valV kvs (.inr (cutK z i 1))).isSome = false)) ?_ ?_ ?_ ?_
    · exact ⟨_, _, rfl, Same.refl H1, (fun h => by omega), (fun h => by omega)⟩
    · rintro j σ Hi _ ⟨_, _, _, sm, _⟩
      exact SqT.of (sm _ _ et)
    · rintro j v σ Hi hv ⟨c3, c4, rfl, sm, a1, a2⟩
      have s0 := st.trans sm
      match j, hv with
      | 0, hv =>
        obtain rfl : V.int 2 = v := Option.some.inj hv
        refine ⟨_, rfl, _, rfl, _, rfl, _, rfl, _, rfl, _, _, rfl, rfl, _, rfl, z, rfl, lz, ?_⟩
        refine ⟨_, rfl, _, rfl, nd, _, rfl, DGet.k (k := .inr (cutK z i 2)) (s0 _ _ en), _, rfl, ?_⟩
        cases e : (valV kvs (.inr (cutK z i 2))).isSome with
        | true =>
          refine iteT ⟨_, rfl, ?_⟩
          have w := q Hi s0
          unfold atL at w
          rw [e] at w
          exact w
        | false => exact iteF ⟨_, _, rfl, sm, fun _ => rfl, fun h => by omega⟩
      | 1, hv =>
        obtain rfl : V.int 1 = v := Option.some.inj hv
        refine ⟨_, rfl, _, rfl, _, rfl, _, rfl, _, rfl, _, _, rfl, rfl, _, rfl, z, rfl, lz, ?_⟩
        refine ⟨_, rfl, _, rfl, nd, _, rfl, DGet.k (k := .inr (cutK z i 1)) (s0 _ _ en), _, rfl, ?_⟩
        cases e : (valV kvs (.inr (cutK z i 1))).isSome with
        | true =>
          refine iteT ⟨_, rfl, ?_⟩
          have w := q Hi s0
          unfold atL at w
          rw [a1 (Nat.le_refl _), e] at w
          exact w
        | false => exact iteF ⟨_, _, rfl, sm, fun _ => a1 (Nat.le_refl _), fun _ => rfl⟩
      | j + 2, hv => cases hv
    · rintro σ He ⟨c3, c4, rfl, sm, a1, a2⟩
      have w := q He (st.trans sm)
      unfold atL at w
      rw [a1 (by show 1 ≤ 2; decide), a2 (by show 2 ≤ 2; decide)] at w
      exact w
theorem ok_li {f : Addr} {fd : FuncData} {e : Ex} (F : Fun K "letters_in" "Custom.letters_in" sCustomLettersIn f fd) (T : Txt K mg C e) (cLA : Ca P w K mg base 1 "letter_at" ["numbers", "text", "at"] (spLA K)) : FnOk P w K mg base CX0 2 f fd ["self", "text"] (spLI K C) := by
  refine F.ok scCustomLettersIn (fun vs H Q E h => ?_) (fun cdv A outer s H vs Q E hr h => ?_)
  · obtain ⟨a, c, x, rfl, at_, gc, ax, q⟩ := h
    rfl
  · obtain ⟨a, c, x, rfl, at_, gc, ax, q⟩ := h
    refine ⟨_, (pss_cons (ps_set (i := 2) scCustomLettersIn.nd rfl (.inl rfl) (pe_lower (pv 1)))
      (pss_cons (ps_set (i := 3) scCustomLettersIn.nd rfl (.inl rfl) (pe_lst pa_nil))
      (pss_cons (ps_set (i := 4) scCustomLettersIn.nd rfl (.inl rfl) pe_int)
      (pss_cons (ps_while PassesOwn.never (pt_cmpR op_lt (pv 4) (pe_callB call_len_str (by rfl) T.len PySem.boot_len (pa_cons (pv 2) pa_nil)) (nomark _)) (pss_cons (ps_set (i := 5) scCustomLettersIn.nd rfl (.inl rfl) (pe_ca cLA hr (by decide) (by rfl) (pa_cons (pe_fld (pv 0) rfl) (pa_cons (pv 2) (pa_cons (pv 4) pa_nil)))))
      (pss_one (ps_if (pt_cmpR op_isN (pv 5) pe_non (nomark _)) (pss_one (ps_aug (i := 4) scCustomLettersIn.nd rfl (.inl rfl) pe_int ip_add)) (pss_cons (ps_expr (pe_bm PySem.F.plainAttrs_list PySem.F.slot_list_append PySem.F.type_list_append mt_append (pv 3) (pa_cons (pe_dget (hu_of hr) (pe_fld (pv 0) rfl) (pv 5) (fun _ _ => rfl)) pa_nil)))
      (pss_one (ps_aug (i := 4) scCustomLettersIn.nd rfl (.inl rfl) (pe_callB call_len_str (by rfl) T.len PySem.boot_len (pa_cons (pv 5) pa_nil)) ip_add)))))))
      (pss_one (ps_ret (pe_callTy call_tuple_of (by rfl) T.tuple (by decide +kernel) (pa_cons (pv 3) pa_nil)))))))), ?_⟩
    obtain ⟨l', p', ⟨dx, nd, ea, en⟩, dl', dp'⟩ := id at_
    have ni := gc.lv.ni
    have az := ax.low
    have lz := az.l
    have szl : (Txt.lower x).length ≤ sizeLine := Nat.le_trans (show (Txt.lower x).length ≤ 1000 by omega) (by decide)
    have lc := len_cps (Txt.lower x)
    refine ⟨_, rfl, ⟨_, rfl⟩, x, rfl, rfl, Nat.le_trans ax.l (by decide), ?_⟩
    refine ⟨(by show 0 ≤ sizeLine; decide), fun F nF => ?_⟩
    have sF := same_upd nF (o := .lst [])
    have eF : (upd H F (.lst [])) F = some (.lst (([] : List Nat).map fun n => V.int (n : Nat))) := upd_same
    generalize upd H F (.lst []) = H1 at sF eF ⊢
    refine ⟨WLI a F x (kvL c.1) H, ⟨_, 0, [], none, rfl, rfl, Nat.zero_le _, sF, eF, Nat.le_refl _, rfl⟩, ?_⟩
    rintro m σ Hi ⟨i, acc, c5, rfl, rfl, il, sm, eFi, la, inv⟩
    have eai := sm _ _ ea
    refine ⟨_, rfl, _, rfl, Txt.lower x, rfl, szl, _, _, rfl, rfl, _, rfl, ite2 (fun e => ?_) (fun e => ?_)⟩
    · have hi : i < (Txt.lower x).length := by have := of_decide_eq_true e; omega
      refine ⟨fun σ' H' => ∃ m', m' < (Txt.lower x).length - i ∧ WLI a F x (kvL c.1) H m' σ' H', fun σ' H' z => z, ?_⟩
      refine ⟨_, rfl, a, C, dx, _, _, rfl, eai, T.cl, T.n4, f_4 _ _ _ _, _, rfl, _, rfl, nd, kvL c.1, Txt.lower x, i, rfl, sm _ _ en, by omega, fun H2 s2 => ?_⟩
      have s02 := sm.trans s2
      have eF2 := s2 _ _ eFi
      rcases at_cases ni (Txt.lower x) i hi with ⟨y, n, e1, ev, y1, yl, er⟩ | ⟨e1, er⟩
      · rw [e1]
        refine ⟨_, rfl, rfl, _, rfl, iteF ?_⟩
        refine ⟨_, rfl, .inl ⟨rfl, _, SqL.of eF2⟩, _, rfl, a, C, dx, _, _, rfl, s02 _ _ ea, T.cl, T.n4, f_4 _ _ _ _, _, rfl, nd, _, rfl, by rw [← ev]; exact DGet.k (k := .inr y) (s02 _ _ en), ?_⟩
        refine ⟨F, _, _, rfl, rfl, eF2, by rw [List.length_map]; exact Nat.lt_of_le_of_lt (show acc.length ≤ 1000 by omega) (by decide), ?_⟩
        refine ⟨_, rfl, _, rfl, y, rfl, Nat.le_trans (show y.length ≤ 1000 by omega) (by decide), _, _, rfl, rfl, ?_⟩
        refine ⟨(Txt.lower x).length - (i + y.length), by omega, i + y.length, acc ++ [n], _, rfl, rfl, yl, fun b o e => ?_, by rw [upd_same, List.map_append]; rfl, by rw [List.length_append]; show acc.length + 1 ≤ _; omega, ?_⟩
        · rw [upd_ne (ne_of_none e nF)]
          exact s02 _ _ e
        · rw [← inv, er, List.append_assoc]
          rfl
      · rw [e1]
        refine ⟨_, rfl, rfl, _, rfl, iteT ⟨_, rfl, _, _, rfl, rfl, ?_⟩⟩
        exact ⟨(Txt.lower x).length - (i + 1), by omega, i + 1, acc, _, rfl, rfl, by omega, s02, eF2, by omega, by rw [← inv, er]⟩
    · have hi : (Txt.lower x).length ≤ i := by have : ¬ ((i : Int) < ((Txt.lower x).length : Int)) := fun z => e (decide_eq_true z); omega
      refine ⟨_, rfl, F, _, rfl, .inl ⟨SqL.of eFi, fun t nt => ?_⟩⟩
      have w := q t _ (by show (upd Hi t (.tup (acc.map fun n => V.int (n : Nat)))) t = _; rw [upd_same]; congr 3; rw [List.drop_eq_nil_of_le (by omega)] at inv; unfold lets; rw [← inv]; exact (List.append_nil acc).symm) (sm.trans (same_upd nt))
      exact w
end
end K79
set_option Elab.async false
set_option linter.all false
set_option maxRecDepth 100000
set_option maxHeartbeats 4000000
set_option pp.maxSteps 400
set_option pp.deepTerms false
namespace K79
open PySem PySem.Spec PyProof.Rows L2
open Xk Az
section
variable {P : Program} {w : World} {K : PySem.W.Frag} {mg : Str → Option Value} {base : Heap} {C : Addr}
theorem fn_passes (l p c n : V) : (custF l p c n).lookup ("passes" : Str) = none := by
  unfold custF
  rw [List.lookup_cons, show (("passes" : Str) == ("letters" : Str)) = false by decide +kernel]
  dsimp only
  rw [List.lookup_cons, show (("passes" : Str) == ("passed" : Str)) = false by decide +kernel]
  dsimp only
  rw [List.lookup_cons, show (("passes" : Str) == ("comma" : Str)) = false by decide +kernel]
  dsimp only
  rw [List.lookup_cons, show (("passes" : Str) == ("numbers" : Str)) = false by decide +kernel]
  dsimp only
  rfl
theorem fn_bare (l p c n : V) : (custF l p c n).lookup ("bare" : Str) = none := by
  unfold custF
  rw [List.lookup_cons, show (("bare" : Str) == ("letters" : Str)) = false by decide +kernel]
  dsimp only
  rw [List.lookup_cons, show (("bare" : Str) == ("passed" : Str)) = false by decide +kernel]
  dsimp only
  rw [List.lookup_cons, show (("bare" : Str) == ("comma" : Str)) = false by decide +kernel]
  dsimp only
  rw [List.lookup_cons, show (("bare" : Str) == ("numbers" : Str)) = false by decide +kernel]
  dsimp only
  rfl
theorem fn_lin (l p c n : V) : (custF l p c n).lookup ("letters_in" : Str) = none := by
  unfold custF
  rw [List.lookup_cons, show (("letters_in" : Str) == ("letters" : Str)) = false by decide +kernel]
  dsimp only
  rw [List.lookup_cons, show (("letters_in" : Str) == ("passed" : Str)) = false by decide +kernel]
  dsimp only
  rw [List.lookup_cons, show (("letters_in" : Str) == ("comma" : Str)) = false by decide +kernel]
  dsimp only
  rw [List.lookup_cons, show (("letters_in" : Str) == ("numbers" : Str)) = false by decide +kernel]
  dsimp only
  rfl
theorem fn_rank (l p c n : V) : (custF l p c n).lookup ("rank" : Str) = none := by
  unfold custF
  rw [List.lookup_cons, show (("rank" : Str) == ("letters" : Str)) = false by decide +kernel]
  dsimp only
  rw [List.lookup_cons, show (("rank" : Str) == ("passed" : Str)) = false by decide +kernel]
  dsimp only
  rw [List.lookup_cons, show (("rank" : Str) == ("comma" : Str)) = false by decide +kernel]
  dsimp only
  rw [List.lookup_cons, show (("rank" : Str) == ("numbers" : Str)) = false by decide +kernel]
  dsimp only
  rfl
theorem fn_ord (l p c n : V) : (custF l p c n).lookup ("in_order" : Str) = none := by
  unfold custF
  rw [List.lookup_cons, show (("in_order" : Str) == ("letters" : Str)) = false by decide +kernel]
  dsimp only
  rw [List.lookup_cons, show (("in_order" : Str) == ("passed" : Str)) = false by decide +kernel]
  dsimp only
  rw [List.lookup_cons, show (("in_order" : Str) == ("comma" : Str)) = false by decide +kernel]
  dsimp only
  rw [List.lookup_cons, show (("in_order" : Str) == ("numbers" : Str)) = false by decide +kernel]
  dsimp only
  rfl
theorem fn_shown (l p c n : V) : (custF l p c n).lookup ("shown" : Str) = none := by
  unfold custF
  rw [List.lookup_cons, show (("shown" : Str) == ("letters" : Str)) = false by decide +kernel]
  dsimp only
  rw [List.lookup_cons, show (("shown" : Str) == ("passed" : Str)) = false by decide +kernel]
  dsimp only
  rw [List.lookup_cons, show (("shown" : Str) == ("comma" : Str)) = false by decide +kernel]
  dsimp only
  rw [List.lookup_cons, show (("shown" : Str) == ("numbers" : Str)) = false by decide +kernel]
  dsimp only
  rfl
theorem fn_read (l p c n : V) : (custF l p c n).lookup ("read" : Str) = none := by
  unfold custF
  rw [List.lookup_cons, show (("read" : Str) == ("letters" : Str)) = false by decide +kernel]
  dsimp only
  rw [List.lookup_cons, show (("read" : Str) == ("passed" : Str)) = false by decide +kernel]
  dsimp only
  rw [List.lookup_cons, show (("read" : Str) == ("comma" : Str)) = false by decide +kernel]
  dsimp only
  rw [List.lookup_cons, show (("read" : Str) == ("numbers" : Str)) = false by decide +kernel]
  dsimp only
  rfl
/-- a method of it -/
structure Mt (P : Program) (w : World) (K : PySem.W.Frag) (mg : Str → Option Value) (base : Heap) (C : Addr) (m : Str) (k : Nat) (f : Addr) (fd : FuncData) (ps : List Str) (sp : Sp) : Prop where
  m : Meth K C m f
  ok : FnOk P w K mg base CX0 k f fd ps sp
  bd : Binds K fd ps []
theorem sub_list (x : Str) (i j : Nat) : (Builtin.Str.strSub x i j).cps.toList = (x.cps.toList.drop i).take (j - i) := by
  unfold Builtin.Str.strSub
  rw [Array.toList_extract]
theorem str_eq {x y : Str} (h : x.cps.toList = y.cps.toList) : x = y := by
  cases x; cases y
  exact congrArg Str.mk (Array.toList_inj.mp h)
theorem cut_to (x : Str) (i : Nat) (h : i ≤ x.length) : cutS x none (some (i : Int)) = Builtin.Str.strSub x 0 i := by
  refine str_eq ?_
  rw [sub_list]
  unfold cutS
  rw [HT.sIx_nat, show HT.sIx x.length 0 none = 0 from rfl, Nat.min_eq_left h]
theorem cut_from (x : Str) (i : Nat) (h : i ≤ x.length) : cutS x (some (i : Int)) none = Builtin.Str.strSub x i x.length := by
  refine str_eq ?_
  rw [sub_list]
  unfold cutS
  rw [HT.sIx_nat, show HT.sIx x.length x.length none = x.length from rfl, Nat.min_eq_left h]
theorem As.sub {x : Str} {n : Nat} (h : As x n) (i j : Nat) : As (Builtin.Str.strSub x i j) n := by
  have m : ∀ c ∈ (Builtin.Str.strSub x i j).cps.toList, c ∈ x.cps.toList := fun c hc => by
    rw [sub_list] at hc
    exact List.mem_of_mem_drop (List.mem_of_mem_take hc)
  refine ⟨fun c hc => h.a c (m c hc), fun c hc => h.k c (m c hc), ?_⟩
  have := h.l
  rw [len_cps] at this ⊢
  rw [sub_list, List.length_take, List.length_drop]
  omega
/-- the first blank -/
structure Fst (x : Str) (i : Nat) : Prop where
  at_ : x.cps.toList[i]? = some 32
  no : ∀ k, k < i → x.cps.toList[k]? ≠ some 32
def bareT (ws : List Str) (x : Str) : Str := match x.cps.toList.findIdx? (fun c => decide (c = 32)) with
  | none => x
  | some i => if i + 1 < x.length ∧ Txt.lower (Builtin.Str.strSub x 0 i) ∈ ws then Builtin.Str.strSub x (i + 1) x.length else x
theorem Fst.lt {x : Str} {i : Nat} (h : Fst x i) : i < x.length := by
  rw [len_cps]
  exact (List.getElem?_eq_some_iff.mp h.at_).1
theorem bare_some {ws : List Str} {x : Str} {i : Nat} (h : Fst x i) : bareT ws x = if i + 1 < x.length ∧ Txt.lower (Builtin.Str.strSub x 0 i) ∈ ws then Builtin.Str.strSub x (i + 1) x.length else x := by
  have e : x.cps.toList.findIdx? (fun c => decide (c = 32)) = some i := by
    obtain ⟨hi, e⟩ := List.getElem?_eq_some_iff.mp h.at_
    rw [List.findIdx?_eq_some_iff_getElem]
    refine ⟨hi, decide_eq_true e, fun j hj => ?_⟩
    have := h.no j hj
    rw [List.getElem?_eq_getElem (by omega)] at this
    simpa using this
  unfold bareT
  rw [e]
theorem bare_none {ws : List Str} {x : Str} (h : ∀ i : Nat, x.cps.toList[i]? ≠ some 32) : bareT ws x = x := by
  have e : x.cps.toList.findIdx? (fun c => decide (c = 32)) = none := by
    rw [List.findIdx?_eq_none_iff]
    intro c hc
    obtain ⟨i, hi⟩ := List.mem_iff_getElem?.mp hc
    exact decide_eq_false fun z => h i (by rw [hi, z])
  unfold bareT
  rw [e]
theorem As.bare {ws : List Str} {x : Str} {n : Nat} (h : As x n) : As (bareT ws x) n := by
  unfold bareT
  split
  · exact h
  · split
    · exact h.sub _ _
    · exact h
theorem parts_of (x : Str) : (Txt.partition x " " = (x, Str.empty, Str.empty) ∧ ∀ i : Nat, x.cps.toList[i]? ≠ some 32) ∨ ∃ i, Txt.partition x " " = (Builtin.Str.strSub x 0 i, (" " : Str), Builtin.Str.strSub x (i + 1) x.length) ∧ Fst x i := by
  have eb : (" " : Str) = ⟨#[32]⟩ := by decide +kernel
  rw [eb]
  rcases partition_whole x ⟨#[32]⟩ with ⟨h, n⟩ | ⟨i, h, a, n⟩
  · exact .inl ⟨h, fun i z => n i ((StrLaws.subAt_one x 32 i).mpr z)⟩
  · exact .inr ⟨i, h, (StrLaws.subAt_one x 32 i).mp a, fun k hk z => n k hk ((StrLaws.subAt_one x 32 k).mpr z)⟩
def spPsw (K : PySem.W.Frag) (C : Addr) : Sp := fun vs H Q _ => ∃ (a : Addr) (c : Cg) (y : Str), vs = [.ref a, .str y] ∧ CuAt K C H a c ∧ GoodC c ∧ y.length ≤ 5000 ∧ Q (.bl (decide (Txt.lower y ∈ c.2.1))) H
def spBare (K : PySem.W.Frag) (C : Addr) : Sp := fun vs H Q _ => ∃ (a : Addr) (c : Cg) (x : Str), vs = [.ref a, .str x] ∧ CuAt K C H a c ∧ GoodC c ∧ As x 500 ∧ ∀ H', L2.Same H H' → Q (.str (bareT c.2.1 x)) H'
def nums (ns : List Nat) : HO := .tup (ns.map fun n => V.int (n : Nat))
def RkAt (H : Hp) (v : V) (c : Cg) (x : Str) : Prop := ∃ t t1 t2, v = .ref t ∧ H t = some (.tup [.ref t1, .ref t2, .str x]) ∧ H t1 = some (nums (lets c.1 (bareT c.2.1 x))) ∧ H t2 = some (nums (lets c.1 x))
def spRank (K : PySem.W.Frag) (C : Addr) : Sp := fun vs H Q _ => ∃ (a : Addr) (c : Cg) (x : Str), vs = [.ref a, .str x] ∧ CuAt K C H a c ∧ GoodC c ∧ As x 500 ∧ ∀ v H', RkAt H' v c x → L2.Same H H' → Q v H'
theorem ok_psw {f : Addr} {fd : FuncData} {e : Ex} (F : Fun K "passes" "Custom.passes" sCustomPasses f fd) (T : Txt K mg C e) : FnOk P w K mg base CX0 1 f fd ["self", "word"] (spPsw K C) := by
  refine F.ok scCustomPasses (fun vs H Q E h => ?_) (fun cdv A outer s H vs Q E hr h => ?_)
  · obtain ⟨a, c, y, rfl, at_, gc, yl, q⟩ := h
    rfl
  · obtain ⟨a, c, y, rfl, at_, gc, yl, q⟩ := h
    refine ⟨_, (pss_one (ps_ret (pe_cmpR op_in_seq (pe_lower (pv 1)) (pe_fld (pv 0) rfl) (by rfl)))), ?_⟩
    obtain ⟨l', p', ⟨dx, nd, ea, en⟩, dl', dp'⟩ := id at_
    obtain ⟨b, rfl, eb⟩ := dz_GP dp'
    refine ⟨_, rfl, ⟨_, rfl⟩, y, rfl, rfl, Nat.le_trans yl (by decide), ?_⟩
    refine ⟨_, rfl, a, C, dx, _, _, rfl, ea, T.cl, T.n2, f_2 _ _ _ _, b, _, rfl, .inr (SqT.of eb), rfl, flat_strs _, ?_⟩
    rw [inV_strs]
    exact q
theorem ok_bare {f : Addr} {fd : FuncData} {e : Ex} {fP : Addr} {fdP : FuncData} (F : Fun K "bare" "Custom.bare" sCustomBare f fd) (T : Txt K mg C e) (mP : Mt P w K mg base C "passes" 1 fP fdP ["self", "word"] (spPsw K C)) : FnOk P w K mg base CX0 2 f fd ["self", "text"] (spBare K C) := by
  refine F.ok scCustomBare (fun vs H Q E h => ?_) (fun cdv A outer s H vs Q E hr h => ?_)
  · obtain ⟨a, c, x, rfl, at_, gc, ax, q⟩ := h
    rfl
  · obtain ⟨a, c, x, rfl, at_, gc, ax, q⟩ := h
    refine ⟨_, (pss_cons (ps_asg (pe_partition (pv 1) pe_str) (pg_tup (by rfl) (pgs_cons (pg_name (i := 2) scCustomBare.nd rfl (.inl rfl)) (pgs_cons (pg_name (i := 3) scCustomBare.nd rfl (.inl rfl)) (pgs_cons (pg_name (i := 4) scCustomBare.nd rfl (.inl rfl)) pgs_nil)))))
      (pss_one (ps_ret (pe_ifExp (PW.pt (pw_and (pt_cmpR op_ne (pv 4) pe_str (nomark _)) (pw_and1 (pt_val (pe_meth (pv 0) T.cl mP.m mP.ok (hr.mono (by decide)) mP.bd .nil pass0 (pa_cons (pv 2) pa_nil)))))) (pv 4) (pv 1))))), ?_⟩
    obtain ⟨l', p', ⟨dx, nd, ea, en⟩, dl', dp'⟩ := id at_
    have sz : x.length ≤ sizeLine := Nat.le_trans ax.l (by decide)
    refine ⟨_, rfl, ⟨_, rfl⟩, x, " ", rfl, rfl, (by decide +kernel), sz, fun p np => ?_⟩
    have sp := same_upd np (o := .tup [.str (Txt.partition x " ").1, .str (Txt.partition x " ").2.1, .str (Txt.partition x " ").2.2])
    have ep : (upd H p (.tup [.str (Txt.partition x " ").1, .str (Txt.partition x " ").2.1, .str (Txt.partition x " ").2.2])) p = some (.tup [.str (Txt.partition x " ").1, .str (Txt.partition x " ").2.1, .str (Txt.partition x " ").2.2]) := upd_same
    generalize upd H p (.tup [.str (Txt.partition x " ").1, .str (Txt.partition x " ").2.1, .str (Txt.partition x " ").2.2]) = H1 at sp ep ⊢
    have w := q H1 sp
    refine ⟨p, _, rfl, SqT.of ep, rfl, _, _, rfl, _, _, rfl, _, _, rfl, rfl, ?_⟩
    rcases parts_of x with ⟨e, no⟩ | ⟨i, e, fi⟩
    · rw [e]
      rw [bare_none no] at w
      refine ⟨_, rfl, rfl, _, rfl, ?_⟩
      rw [show (!decide (V.str Str.empty = V.str "")) = false by decide +kernel]
      exact iteF ⟨_, rfl, w⟩
    · rw [e]
      rw [bare_some fi] at w
      have lt := fi.lt
      refine ⟨_, rfl, rfl, _, rfl, ?_⟩
      by_cases c1 : i + 1 < x.length
      · have ne : (!decide (V.str (Builtin.Str.strSub x (i + 1) x.length) = V.str "")) = true := by
          rw [decide_eq_false]
          · rfl
          · intro z
            have := congrArg (fun v => match v with | V.str s => s.cps.toList.length | _ => 0) z
            dsimp only at this
            rw [sub_list, List.length_take, List.length_drop, ← len_cps] at this
            have e0 : ("" : Str).cps.toList.length = 0 := by decide +kernel
            omega
        rw [ne]
        refine iteT ⟨_, rfl, a, dx, _, rfl, sp _ _ ea, fn_passes _ _ _ _, _, rfl, a, c, _, rfl, at_.same sp, gc, Nat.le_trans (ax.sub 0 i).l (by decide), _, rfl, ?_⟩
        by_cases c2 : Txt.lower (Builtin.Str.strSub x 0 i) ∈ c.2.1
        · rw [decide_eq_true c2]
          rw [if_pos ⟨c1, c2⟩] at w
          exact iteT ⟨_, rfl, w⟩
        · rw [decide_eq_false c2]
          rw [if_neg (fun z => c2 z.2)] at w
          exact iteF ⟨_, rfl, w⟩
      · have ne : (!decide (V.str (Builtin.Str.strSub x (i + 1) x.length) = V.str "")) = false := by
          rw [decide_eq_true]
          · rfl
          · refine congrArg V.str (str_eq ?_)
            rw [sub_list, List.drop_eq_nil_of_le (by rw [← len_cps]; omega), List.take_nil]
            decide +kernel
        rw [ne]
        rw [if_neg (fun z => c1 z.1)] at w
        exact iteF ⟨_, rfl, w⟩
theorem ok_rank {f : Addr} {fd : FuncData} {e : Ex} {fB fL : Addr} {fdB fdL : FuncData} (F : Fun K "rank" "Custom.rank" sCustomRank f fd) (T : Txt K mg C e) (mB : Mt P w K mg base C "bare" 2 fB fdB ["self", "text"] (spBare K C)) (mL : Mt P w K mg base C "letters_in" 2 fL fdL ["self", "text"] (spLI K C)) : FnOk P w K mg base CX0 3 f fd ["self", "text"] (spRank K C) := by
  refine F.ok scCustomRank (fun vs H Q E h => ?_) (fun cdv A outer s H vs Q E hr h => ?_)
  · obtain ⟨a, c, x, rfl, at_, gc, ax, q⟩ := h
    rfl
  · obtain ⟨a, c, x, rfl, at_, gc, ax, q⟩ := h
    refine ⟨_, (pss_one (ps_ret (pe_tup (pa_cons (pe_meth (pv 0) T.cl mL.m mL.ok (hr.mono (by decide)) mL.bd .nil pass0 (pa_cons (pe_meth (pv 0) T.cl mB.m mB.ok (hr.mono (by decide)) mB.bd .nil pass0 (pa_cons (pv 1) pa_nil)) pa_nil)) (pa_cons (pe_meth (pv 0) T.cl mL.m mL.ok (hr.mono (by decide)) mL.bd .nil pass0 (pa_cons (pv 1) pa_nil)) (pa_cons (pv 1) pa_nil)))))), ?_⟩
    obtain ⟨l', p', ⟨dx, nd, ea, en⟩, dl', dp'⟩ := id at_
    refine ⟨_, rfl, a, dx, _, rfl, ea, fn_lin _ _ _ _, _, rfl, a, dx, _, rfl, ea, fn_bare _ _ _ _, _, rfl, a, c, x, rfl, at_, gc, ax, fun H1 s1 => ?_⟩
    refine ⟨a, c, bareT c.2.1 x, rfl, at_.same s1, gc, ax.bare, fun t1 H2 e2 s2 => ?_⟩
    have s02 := s1.trans s2
    refine ⟨_, rfl, a, dx, _, rfl, s02 _ _ ea, fn_lin _ _ _ _, _, rfl, a, c, x, rfl, at_.same s02, gc, ax, fun t2 H3 e3 s3 => ?_⟩
    refine ⟨_, rfl, (by show 3 ≤ sizeLine; decide), fun t nt => ?_⟩
    have st := same_upd nt (o := .tup [.ref t1, .ref t2, .str x])
    exact q _ _ ⟨t, t1, t2, rfl, upd_same, st _ _ (s3 _ _ e2), st _ _ e3⟩ ((s02.trans s3).trans st)
end
end K79
set_option Elab.async false
set_option linter.all false
set_option maxRecDepth 100000
set_option maxHeartbeats 4000000
set_option pp.maxSteps 400
set_option pp.deepTerms false
namespace K79
open PySem PySem.Spec PyProof.Rows L2
open Xk Az
section
variable {P : Program} {w : World} {K : PySem.W.Frag} {mg : Str → Option Value} {base : Heap} {C : Addr}
open Xrp2 (cb)
/-- its first word -/
def fstW (x : Str) : Str := (Txt.partition x " ").1
def shownT (c : Cg) (x : Str) : Str := if c.2.2 = true ∧ bareT c.2.1 x ≠ x then bareT c.2.1 x ++ cb ++ fstW x else x
def readT (c : Cg) (y : Str) : Str := if c.2.2 = true ∧ (Txt.rpartition y cb).1 ≠ "" ∧ Txt.lower (Txt.rpartition y cb).2.2 ∈ c.2.1 then (Txt.rpartition y cb).2.2 ++ " " ++ (Txt.rpartition y cb).1 else y
theorem sub_all (x : Str) (i : Nat) (h : x.cps.toList[i]? = some 32) : Builtin.Str.strSub x 0 i ++ " " ++ Builtin.Str.strSub x (i + 1) x.length = x := by
  have il := (List.getElem?_eq_some_iff.mp h).1
  have e := (List.getElem?_eq_some_iff.mp h).2
  refine str_eq ?_
  have eb : (" " : Str).cps.toList = [32] := by decide +kernel
  rw [Str.cps_append, Str.cps_append, Array.toList_append, Array.toList_append, sub_list, sub_list, eb, List.drop_zero, Nat.sub_zero]
  rw [List.take_of_length_le (l := x.cps.toList.drop (i + 1)) (by rw [List.length_drop, ← len_cps]; omega)]
  conv => rhs; rw [← List.take_append_drop i x.cps.toList, List.drop_eq_getElem_cons il, e]
  rw [List.append_assoc]
  rfl
/-- what a first word that is passed is told by -/
theorem bare_ne {ws : List Str} {x : Str} (h : bareT ws x ≠ x) : ∃ i, Fst x i ∧ i + 1 < x.length ∧ Txt.lower (Builtin.Str.strSub x 0 i) ∈ ws ∧ bareT ws x = Builtin.Str.strSub x (i + 1) x.length ∧ fstW x = Builtin.Str.strSub x 0 i := by
  rcases parts_of x with ⟨e, no⟩ | ⟨i, e, fi⟩
  · exact absurd (bare_none no) h
  · rw [bare_some fi] at h ⊢
    split at h
    · rename_i c
      rw [if_pos c]
      exact ⟨i, fi, c.1, c.2, rfl, by unfold fstW; rw [e]⟩
    · exact absurd rfl h
theorem bare_len {ws : List Str} {x : Str} : (bareT ws x).length ≤ x.length := by
  by_cases h : bareT ws x = x
  · rw [h]; exact Nat.le_refl _
  · obtain ⟨i, fi, c1, c2, e1, e2⟩ := bare_ne h
    rw [e1, len_cps, sub_list, List.length_take, List.length_drop, ← len_cps]
    omega
theorem shown_le {c : Cg} {x : Str} {n : Nat} (a : As x n) : (shownT c x).length ≤ 2 * n + 2 := by
  unfold shownT
  split
  · rename_i h
    obtain ⟨i, fi, c1, c2, e1, e2⟩ := bare_ne h.2
    have l1 := (a.bare (ws := c.2.1)).l
    have l2 := (a.sub 0 i).l
    rw [strLen_append, strLen_append, Xrp2.cb_n, e2]
    omega
  · have := a.l
    omega
theorem read_shown {c : Cg} {x : Str} {n : Nat} (a : As x n) : readT c (shownT c x) = x := by
  by_cases h : c.2.2 = true ∧ bareT c.2.1 x ≠ x
  · obtain ⟨i, fi, c1, c2, e1, e2⟩ := bare_ne h.2
    have es : shownT c x = Builtin.Str.strSub x (i + 1) x.length ++ cb ++ Builtin.Str.strSub x 0 i := by
      unfold shownT
      rw [if_pos h, e1, e2]
    have er := Xrp2.rpt_one (r := Builtin.Str.strSub x (i + 1) x.length) (w := Builtin.Str.strSub x 0 i) (a.sub _ _).k (a.sub _ _).k
    have ne : Builtin.Str.strSub x (i + 1) x.length ≠ "" := fun z => by
      have this : (Builtin.Str.strSub x (i + 1) x.length).cps.toList.length = ("" : Str).cps.toList.length := by rw [z]
      rw [sub_list, List.length_take, List.length_drop, ← len_cps] at this
      have e0 : ("" : Str).cps.toList.length = 0 := by decide +kernel
      omega
    unfold readT
    rw [es, er, if_pos ⟨h.1, ne, c2⟩]
    exact sub_all x i fi.at_
  · have es : shownT c x = x := by
      unfold shownT
      rw [if_neg h]
    unfold readT
    rw [es, Xrp2.rpt_no a.k, if_neg]
    rintro ⟨_, z, _⟩
    exact z (show Str.empty = "" by decide +kernel)
theorem plain_shown {gs : List (List Str)} {ws : List Str} {x : Str} : shownT (gs, ws, false) x = x := by
  unfold shownT
  rw [if_neg (fun z => Bool.noConfusion z.1)]
theorem plain_read {gs : List (List Str)} {ws : List Str} {x : Str} : readT (gs, ws, false) x = x := by
  unfold readT
  rw [if_neg (fun z => Bool.noConfusion z.1)]
def spShown (K : PySem.W.Frag) (C : Addr) : Sp := fun vs H Q _ => ∃ (a : Addr) (c : Cg) (x : Str), vs = [.ref a, .str x] ∧ CuAt K C H a c ∧ GoodC c ∧ As x 500 ∧ ∀ H', L2.Same H H' → Q (.str (shownT c x)) H'
def spRead (K : PySem.W.Frag) (C : Addr) : Sp := fun vs H Q _ => ∃ (a : Addr) (c : Cg) (y : Str), vs = [.ref a, .str y] ∧ CuAt K C H a c ∧ GoodC c ∧ y.length ≤ 2000 ∧ ∀ H', L2.Same H H' → Q (.str (readT c y)) H'
theorem ok_shown {f : Addr} {fd : FuncData} {e : Ex} {fB : Addr} {fdB : FuncData} (F : Fun K "shown" "Custom.shown" sCustomShown f fd) (T : Txt K mg C e) (mB : Mt P w K mg base C "bare" 2 fB fdB ["self", "text"] (spBare K C)) : FnOk P w K mg base CX0 3 f fd ["self", "text"] (spShown K C) := by
  refine F.ok scCustomShown (fun vs H Q E h => ?_) (fun cdv A outer s H vs Q E hr h => ?_)
  · obtain ⟨a, c, x, rfl, at_, gc, ax, q⟩ := h
    rfl
  · obtain ⟨a, c, x, rfl, at_, gc, ax, q⟩ := h
    refine ⟨_, (pss_cons (ps_set (i := 2) scCustomShown.nd rfl (.inl rfl) (pe_meth (pv 0) T.cl mB.m mB.ok (hr.mono (by decide)) mB.bd .nil pass0 (pa_cons (pv 1) pa_nil)))
      (pss_cons (ps_if (PW.pt (pw_or (pt_not (pt_val (pe_fld (pv 0) rfl))) (pw_or1 (pt_cmpR op_eq (pv 2) (pv 1) (nomark _))))) (pss_one (ps_ret (pv 1))) pss_nil)
      (pss_cons (ps_set (i := 3) scCustomShown.nd rfl (.inl rfl) (pe_ix ix_tup (pe_partition (pv 1) pe_str) pe_int (fun _ _ => rfl)))
      (pss_one (ps_ret (pe_joined (.cons (pe_fmt (pv 2)) (.cons pe_str (.cons (pe_fmt (pv 3)) .nil))))))))), ?_⟩
    obtain ⟨l', p', ⟨dx, nd, ea, en⟩, dl', dp'⟩ := id at_
    have sz : x.length ≤ sizeLine := Nat.le_trans ax.l (by decide)
    refine ⟨_, rfl, a, dx, _, rfl, ea, fn_bare _ _ _ _, _, rfl, a, c, x, rfl, at_, gc, ax, fun H1 s1 => ?_⟩
    refine ⟨_, rfl, a, C, dx, _, _, rfl, s1 _ _ ea, T.cl, T.n3, f_3 _ _ _ _, _, rfl, ?_⟩
    have w1 := q H1 s1
    cases c1 : c.2.2 with
    | false =>
      have e : shownT c x = x := by
        unfold shownT
        rw [c1, if_neg (fun z => Bool.noConfusion z.1)]
      rw [e] at w1
      exact iteT ⟨_, rfl, w1⟩
    | true =>
      refine iteF ⟨_, rfl, _, rfl, rfl, _, rfl, ite2 (fun e2 => ?_) (fun e2 => ?_)⟩
      · have e3 : bareT c.2.1 x = x := by
          have := of_decide_eq_true e2
          injection this
        have e : shownT c x = x := by
          unfold shownT
          rw [if_neg (fun z => z.2 e3)]
        rw [e] at w1
        exact ⟨_, rfl, w1⟩
      · have e3 : bareT c.2.1 x ≠ x := fun z => e2 (decide_eq_true (congrArg V.str z))
        have e : shownT c x = bareT c.2.1 x ++ cb ++ fstW x := by
          unfold shownT
          rw [if_pos ⟨c1, e3⟩]
        obtain ⟨i, fi, c3, c4, e4, e5⟩ := bare_ne e3
        refine ⟨_, rfl, ⟨_, rfl⟩, x, " ", rfl, rfl, (by decide +kernel), sz, fun p np => ⟨p, _, (0 : Nat), _, rfl, rfl, SqT.of upd_same, atI_nat rfl, ?_⟩⟩
        have sp := same_upd np (o := .tup [.str (Txt.partition x " ").1, .str (Txt.partition x " ").2.1, .str (Txt.partition x " ").2.2])
        have w2 := q _ (s1.trans sp)
        rw [e] at w2
        have e0 : Str.empty.length = 0 := rfl
        have e1 : (", " : Str).length = 2 := by decide +kernel
        have lb := (ax.bare (ws := c.2.1)).l
        have lf : (Txt.partition x " ").1.length ≤ 500 := by
          have := (ax.sub 0 i).l
          rw [← e5] at this
          exact this
        refine ⟨_, rfl, .inl ⟨_, rfl, fitN (by omega), _, rfl, fitN ?_, _, rfl, fitN ?_, _, rfl, .inl ⟨_, rfl, fitN (by omega), _, rfl, fitN ?_, ?_⟩⟩⟩
        · rw [strLen_append, e0]; omega
        · rw [strLen_append, strLen_append, e0, e1]; omega
        · rw [strLen_append, strLen_append, strLen_append, e0, e1]; omega
        · show Q (V.str (Str.empty ++ bareT c.2.1 x ++ ", " ++ (Txt.partition x " ").1)) _
          rw [Str.empty_append]
          exact w2
theorem ok_read {f : Addr} {fd : FuncData} {e : Ex} {fP : Addr} {fdP : FuncData} (F : Fun K "read" "Custom.read" sCustomRead f fd) (T : Txt K mg C e) (mP : Mt P w K mg base C "passes" 1 fP fdP ["self", "word"] (spPsw K C)) : FnOk P w K mg base CX0 2 f fd ["self", "text"] (spRead K C) := by
  refine F.ok scCustomRead (fun vs H Q E h => ?_) (fun cdv A outer s H vs Q E hr h => ?_)
  · obtain ⟨a, c, y, rfl, at_, gc, yl, q⟩ := h
    rfl
  · obtain ⟨a, c, y, rfl, at_, gc, yl, q⟩ := h
    refine ⟨_, (pss_cons (ps_asg (pe_m1 PySem.F.slot_str_rpartition PySem.F.type_str_rpartition Xrp2.mt_rpt (pv 1) pe_str) (pg_tup (by rfl) (pgs_cons (pg_name (i := 2) scCustomRead.nd rfl (.inl rfl)) (pgs_cons (pg_name (i := 3) scCustomRead.nd rfl (.inl rfl)) (pgs_cons (pg_name (i := 4) scCustomRead.nd rfl (.inl rfl)) pgs_nil)))))
      (pss_cons (ps_if (PW.pt (pw_and (pt_val (pe_fld (pv 0) rfl)) (pw_and (pt_cmpR op_ne (pv 2) pe_str (nomark _)) (pw_and1 (pt_val (pe_meth (pv 0) T.cl mP.m mP.ok (hr.mono (by decide)) mP.bd .nil pass0 (pa_cons (pv 4) pa_nil))))))) (pss_one (ps_ret (pe_joined (.cons (pe_fmt (pv 4)) (.cons pe_str (.cons (pe_fmt (pv 2)) .nil)))))) pss_nil)
      (pss_one (ps_ret (pv 1))))), ?_⟩
    obtain ⟨l', p', ⟨dx, nd, ea, en⟩, dl', dp'⟩ := id at_
    have sz : y.length ≤ sizeLine := Nat.le_trans yl (by decide)
    refine ⟨_, rfl, ⟨_, rfl⟩, y, ", ", rfl, rfl, (by decide +kernel), sz, fun p np => ?_⟩
    obtain ⟨lr1, lr2, lr3⟩ := PyProof.Rows.fact_rpartition y ", "
    have sp := same_upd np (o := .tup [.str (Txt.rpartition y ", ").1, .str (Txt.rpartition y ", ").2.1, .str (Txt.rpartition y ", ").2.2])
    have w1 := q _ sp
    unfold readT at w1
    generalize Txt.rpartition y ", " = pr at sp w1 lr1 lr2 lr3 ⊢
    obtain ⟨r, b, wd⟩ := pr
    dsimp only at sp w1 lr1 lr2 lr3 ⊢
    have ep : (upd H p (.tup [.str r, .str b, .str wd])) p = some (.tup [.str r, .str b, .str wd]) := upd_same
    generalize upd H p (.tup [.str r, .str b, .str wd]) = H1 at sp ep w1 ⊢
    refine ⟨p, _, rfl, SqT.of ep, rfl, _, _, rfl, _, _, rfl, _, _, rfl, rfl, ?_⟩
    refine ⟨_, rfl, a, C, dx, _, _, rfl, sp _ _ ea, T.cl, T.n3, f_3 _ _ _ _, _, rfl, ?_⟩
    cases c1 : c.2.2 with
    | false =>
      rw [c1, if_neg (fun z => Bool.noConfusion z.1)] at w1
      exact iteF ⟨_, rfl, w1⟩
    | true =>
      refine iteT ⟨_, rfl, rfl, _, rfl, ?_⟩
      by_cases c2 : r = ""
      · rw [show (!decide (V.str r = V.str "")) = false by rw [c2]; decide +kernel]
        rw [if_neg (fun z => z.2.1 c2)] at w1
        exact iteF ⟨_, rfl, w1⟩
      · rw [show (!decide (V.str r = V.str "")) = true by rw [decide_eq_false (fun z => c2 (by injection z))]; rfl]
        refine iteT ⟨_, rfl, a, dx, _, rfl, sp _ _ ea, fn_passes _ _ _ _, _, rfl, a, c, wd, rfl, at_.same sp, gc, by omega, _, rfl, ?_⟩
        by_cases c3 : Txt.lower wd ∈ c.2.1
        · rw [decide_eq_true c3]
          rw [if_pos ⟨c1, c2, c3⟩] at w1
          have e0 : Str.empty.length = 0 := rfl
          have e1 : (" " : Str).length = 1 := by decide +kernel
          refine iteT ⟨_, rfl, .inl ⟨_, rfl, fitN (by omega), _, rfl, fitN ?_, _, rfl, fitN ?_, _, rfl, .inl ⟨_, rfl, fitN (by omega), _, rfl, fitN ?_, ?_⟩⟩⟩
          · rw [strLen_append, e0]; omega
          · rw [strLen_append, strLen_append, e0, e1]; omega
          · rw [strLen_append, strLen_append, strLen_append, e0, e1]; omega
          · show Q (V.str (Str.empty ++ wd ++ " " ++ r)) _
            rw [Str.empty_append]
            exact w1
        · rw [decide_eq_false c3]
          rw [if_neg (fun z => c3 z.2.2)] at w1
          exact iteF ⟨_, rfl, w1⟩
end
end K79
set_option Elab.async false
set_option linter.all false
set_option maxRecDepth 100000
set_option maxHeartbeats 4000000
set_option pp.maxSteps 400
set_option pp.deepTerms false
namespace K79
open PySem PySem.Spec PyProof.Rows L2
open Xk Az
section
variable {P : Program} {w : World} {K : PySem.W.Frag} {mg : Str → Option Value} {base : Heap} {C : Addr}
theorem nice_all {k n : Nat} : ∀ ds : List PyData, (∀ d ∈ ds, Nice d k n) → PyData.showableAll ds = true ∧ PyData.depthAll ds ≤ k ∧ piled (PyData.shownAll ds) ≤ ds.length * (n + 2)
  | [], _ => ⟨by simp [PyData.showableAll], by simp [PyData.depthAll], by simp [PyData.shownAll, piled_nil]⟩
  | d :: r, h => by
    obtain ⟨h1, h2, h3⟩ := nice_all r fun x hx => h x (List.mem_cons_of_mem _ hx)
    have hd := h d List.mem_cons_self
    refine ⟨by simp [PyData.showableAll, hd.sh, h1], ?_, ?_⟩
    · simp only [PyData.depthAll]
      have := hd.dp
      omega
    · simp only [PyData.shownAll, piled_cons, List.length_cons, Nat.succ_mul]
      have := hd.sz
      omega
theorem nice_tups {k n : Nat} (ds : List PyData) (h : ∀ d ∈ ds, Nice d k n) : Nice (.tuple ds) (k + 1) (ds.length * (n + 2) + 4) := by
  obtain ⟨h1, h2, h3⟩ := nice_all ds h
  refine ⟨by simp [PyData.showable, h1], ?_, ?_⟩
  · simp only [PyData.depth]
    omega
  · simp only [PyData.shown]
    have a := fmt_text (PyData.shownAll ds)
    omega
def nT (ns : List Nat) : PyData := .tuple (ns.map fun n => PyData.int (n : Nat))
theorem dz_nums {H : Hp} {t : Addr} {ns : List Nat} (e : H t = some (nums ns)) : Dz K H (.ref t) (nT ns) := by
  have r : ∀ ns : List Nat, DzAll K H (ns.map fun n => V.int (n : Nat)) (ns.map fun n => PyData.int (n : Nat)) := fun ns => by
    induction ns with
    | nil => exact .nil
    | cons n r ih => exact .cons (.int _) ih
  exact .tup e (r ns)
theorem nice_nT {ns : List Nat} (h : ∀ k ∈ ns, k < 40) (l : ns.length ≤ 500) : Nice (nT ns) 1 30000 := by
  have w := nice_tups (k := 0) (n := 40) (ns.map fun n => PyData.int (n : Nat)) fun d hd => by
    obtain ⟨i, hi, rfl⟩ := List.mem_map.mp hd
    have := h i hi
    exact nice_int (lg (by omega) (by omega)) (tx_le (by omega) (by omega))
  rw [List.length_map] at w
  exact w.mono (by omega) (by omega)
def dRk (c : Cg) (x : Str) : PyData := .tuple [nT (lets c.1 (bareT c.2.1 x)), nT (lets c.1 x), .str x]
theorem nice_rk {c : Cg} {x : Str} (g : Lv c.1) (a : As x 500) : Nice (dRk c x) 2 100000 := by
  refine (nice_tups (k := 1) (n := 30000) _ fun d hd => ?_).mono (Nat.le_refl _) (by show 3 * 30002 + 4 ≤ 100000; decide)
  simp only [List.mem_cons, List.not_mem_nil, or_false] at hd
  have o1 := lets_ok g a
  have o2 := lets_ok g (a.bare (ws := c.2.1))
  rcases hd with z | z | z
  · rw [z]; exact nice_nT o2.1 o2.2
  · rw [z]; exact nice_nT o1.1 o1.2
  · rw [z]
    have := a.l
    exact (nice_str (n := 30000) (Nat.le_trans (W08.repr_le' a.a) (by omega))).mono (by decide) (Nat.le_refl _)
theorem RkAt.dz {H : Hp} {v : V} {c : Cg} {x : Str} (h : RkAt H v c x) : Dz K H v (dRk c x) := by
  obtain ⟨t, t1, t2, rfl, e, e1, e2⟩ := h
  exact .tup e (.cons (dz_nums e1) (.cons (dz_nums e2) (.cons (.str x) .nil)))
theorem cu_ins {H : Hp} {a : Addr} {c : Cg} (x : CuAt K C H a c) : ∃ dx fs, H a = some (.ins C dx fs) ∧ fs.lookup ("letters_in" : Str) = none ∧ fs.lookup ("bare" : Str) = none ∧ fs.lookup ("rank" : Str) = none := by
  obtain ⟨l, p, ⟨dx, nd, e, e2⟩, d1, d2⟩ := x
  exact ⟨dx, _, e, fn_lin _ _ _ _, fn_bare _ _ _ _, fn_rank _ _ _ _⟩
theorem line30 {d : PyData} {k n : Nat} (h : Nice d k n) (hn : n ≤ 100000) : d.shown.length ≤ sizeLine := Nat.le_trans (Nat.le_trans h.sz hn) (by decide)
theorem ne_self (s : Str) : (!decide (V.str s = V.str s)) = false := by rw [decide_eq_true rfl]; rfl
/-- a method that is called by the name of its argument -/
abbrev KT (K : PySem.W.Frag) (fd : FuncData) : Prop := KBn K fd ["self", "text"] 1 ["text"] (fun us ws => us ++ ws) (fun vs zs => vs ++ zs)
theorem nums_dp {H : Hp} {t : Addr} {ns : List Nat} (e : H t = some (nums ns)) : Dp K H (.ref t) (nT ns) := by
  have r : ∀ ns : List Nat, DpAll K H (ns.map fun n => V.int (n : Nat)) (ns.map fun n => PyData.int (n : Nat)) := fun ns => by
    induction ns with
    | nil => exact .nil
    | cons n r ih => exact .cons (.int _) ih
  exact .tup (SqT.of e) (r ns)
theorem RkAt.dp {H : Hp} {v : V} {c : Cg} {x : Str} (h : RkAt H v c x) : Dp K H v (dRk c x) := by
  obtain ⟨t, t1, t2, rfl, e, e1, e2⟩ := h
  exact .tup (SqT.of e) (.cons (nums_dp e1) (.cons (nums_dp e2) (.cons (.str x) .nil)))
theorem alike_ints : ∀ xs ys : List Nat, PySem.W.alikeAll (xs.map fun n => PyData.int (n : Nat)) (ys.map fun n => PyData.int (n : Nat)) = true
  | [], _ => by simp [PySem.W.alikeAll]
  | _ :: _, [] => by simp [PySem.W.alikeAll]
  | x :: xs, y :: ys => by simp [PySem.W.alikeAll, PySem.W.alike, alike_ints xs ys]
theorem alike_rk (c : Cg) (x y : Str) : PySem.W.alike (dRk c x) (dRk c y) = true := by
  unfold dRk nT
  simp only [PySem.W.alike, PySem.W.alikeAll, alike_ints, Bool.and_true]
/-- the order of a custom -/
abbrev leC (c : Cg) : Str → Str → Bool := PySem.W.dataLe false (dRk c)
def srt (c : Cg) (ts : List Str) : List Str := ts.mergeSort (leC c)
theorem leC_total (c : Cg) : PySem.W.TotalLe (leC c) := PySem.W.sortLe_total (PyProof.Rows.listOrd PyProof.Rows.itemOrd) false fun x : Str => PySem.W.keyToks (dRk c x)
def kdV (c : Cg) : V → PyData
  | .str x => dRk c x
  | _ => .none
theorem srt_map (c : Cg) (ts : List Str) : (ts.map V.str).mergeSort (PySem.W.dataLe false (kdV c)) = (srt c ts).map V.str :=
  (PySem.W.sort_maps (r := leC c) (s := PySem.W.dataLe false (kdV c)) V.str fun _ _ _ _ => rfl).symm
def spOrd (K : PySem.W.Frag) (C : Addr) : Sp := fun vs H Q _ => ∃ (a l : Addr) (down : Bool) (c : Cg) (ts : List Str), vs = [.ref a, .ref l, .bl down] ∧ (SqL K H l (ts.map V.str) ∨ SqT K H l (ts.map V.str)) ∧ (∀ t ∈ ts, As t 500) ∧ CuAt K C H a c ∧ GoodC c ∧
  ∀ r H', H r = none → L2.Same H H' → H' r = some (.lst ((if down = true then (srt c ts).reverse else srt c ts).map V.str)) → Q (.ref r) H'
theorem ok_ord {f : Addr} {fd : FuncData} {e : Ex} {fK : Addr} {fdK : FuncData} (F : FunD K "in_order" "Custom.in_order" (defArgs sCustomInOrder) (defBody sCustomInOrder) (defScope sCustomInOrder) [.bl false] [] f fd) (T : Txt K mg C e) (mK : Mt P w K mg base C "rank" 3 fK fdK ["self", "text"] (spRank K C)) (bK : BMeth K C "rank" fK) : FnOk P w K mg base CX0 6 f fd ["self", "texts", "down"] (spOrd K C) := by
  refine F.ok (CX := CX0) scCustomInOrder (fun vs H Q E h => ?_) (fun cdv A outer s H vs Q E hr h => ?_)
  · obtain ⟨a, l, down, c, ts, rfl, hq, al, at_, gc, q⟩ := h
    rfl
  · obtain ⟨a, l, down, c, ts, rfl, hq, al, at_, gc, q⟩ := h
    refine ⟨_, PSs.nox (pss_cons (ps_set (i := 3) scCustomInOrder.nd rfl (.inl rfl) (pe_callBK (Xsm.cr_sortM (hr.mono (by decide)) mK.ok mK.bd) (by rfl) T.sorted (by decide +kernel) (pa_cons (pv 1) pa_nil) (pk_cons (Xsm.pe_bound (pv 0) T.cl bK rfl) pk_nil)))
      (pss_one (ps_ret (pe_ifExp (pt_val (pv 2)) (L2.pe_revL (pv 3)) (pv 3))))), ?_⟩
    obtain ⟨dx, fs, ei, f1, f2, f3⟩ := cu_ins at_
    refine ⟨_, rfl, _, rfl, a, dx, fs, rfl, ei, f3, fun qq nq => ?_⟩
    have sq := same_upd nq (o := .met fK a)
    refine ⟨l, qq, a, ts.map V.str, kdV c, rfl, rfl, upd_same, ?_, fun H' Q' sm x hx k => ?_, fun d hd e he => ?_, .inl fun d hd => ?_, fun x hx => ?_, fun H' r sm nr => ?_⟩
    · rcases hq with hq | hq
      · exact .inl (sq.seq hq)
      · exact .inr (Xsm.sqT_same sq hq)
    · obtain ⟨t, ht, rfl⟩ := List.mem_map.mp hx
      exact ⟨a, c, t, rfl, at_.same (sq.trans sm), gc, al t ht, fun v H2 rk s => k v H2 s rk.dp⟩
    · obtain ⟨v, hv, rfl⟩ := List.mem_map.mp hd
      obtain ⟨t, _, rfl⟩ := List.mem_map.mp hv
      obtain ⟨u, hu, rfl⟩ := List.mem_map.mp he
      obtain ⟨t2, _, rfl⟩ := List.mem_map.mp hu
      exact alike_rk c t t2
    · obtain ⟨v, hv, rfl⟩ := List.mem_map.mp hd
      obtain ⟨t, _, rfl⟩ := List.mem_map.mp hv
      exact ⟨_, _, rfl⟩
    · obtain ⟨t, ht, rfl⟩ := List.mem_map.mp hx
      exact Nat.le_trans (nice_rk gc.lv (al t ht)).dp (by decide)
    · rw [srt_map]
      have s1 := (sq.trans sm).trans (same_upd nr (o := .lst ((srt c ts).map V.str)))
      refine ⟨_, rfl, _, rfl, ?_⟩
      cases down with
      | false => exact iteF ⟨_, rfl, q r _ (same_none (sq.trans sm) nr) s1 upd_same⟩
      | true =>
        refine iteT ⟨_, rfl, r, _, rfl, SqL.of upd_same, fun r2 nr2 => ?_⟩
        exact q r2 _ (same_none s1 nr2) (s1.trans (same_upd nr2)) (by rw [upd_same, if_pos rfl, List.map_reverse])
end
end K79
set_option Elab.async false
set_option linter.all false
set_option maxRecDepth 100000
set_option maxHeartbeats 4000000
set_option pp.maxSteps 400
set_option pp.deepTerms false
namespace K79
open PySem PySem.Spec PyProof.Rows L2
open Xk Az
section
variable {P : Program} {w : World} {K : PySem.W.Frag} {mg : Str → Option Value} {base : Heap} {C : Addr}
theorem GPs.get {H : Hp} : ∀ {xs : List V} {gs : List (List Str)} {i : Nat} (hi : i < gs.length), GPs H xs gs → ∃ a, xs[i]? = some (.ref a) ∧ H a = some (.tup (gs[i].map V.str))
  | _ :: _, _ :: _, 0, _, h => let ⟨a, e, e2⟩ := h.1; ⟨a, by rw [e]; rfl, e2⟩
  | _ :: _, _ :: _, i + 1, hi, h => GPs.get (Nat.lt_of_succ_lt_succ hi) h.2
  | [], _ :: _, _, _, h => h.elim
  | _, [], _, hi, _ => absurd hi (Nat.not_lt_zero _)
section
variable {X : Cx}
theorem op_neT0 (hu : X.A.units + 64 < cLine) : OpR X (compareOp .NotEq) (fun x y H Q => ∃ a b xs, x = .ref a ∧ y = .ref b ∧ H a = some (.tup xs) ∧ H b = some (.tup []) ∧ Q (.bl (!xs.isEmpty)) H) := by
  intro pins s σ H x y v u Q I rx ry h
  obtain ⟨a, b, xs, rfl, rfl, ea, eb, q⟩ := h
  cases rx; cases ry
  obtain ⟨its, r1, ⟨o1, g1, c1, n1, d1⟩, _⟩ := I.tuple (SqT.of ea)
  obtain ⟨its2, r2, ⟨o2, g2, c2, n2, d2⟩, _⟩ := I.tuple (SqT.of eb)
  cases r2
  have l := r1.length
  have k : (!((List.range (min its.toArray.size ([] : List Value).toArray.size)).all (fun _ => true) && its.toArray.size == ([] : List Value).toArray.size)) = !xs.isEmpty := by
    cases xs with
    | nil =>
      cases r1
      rfl
    | cons z zs =>
      cases r1 with
      | cons _ _ => simp
  have w := PySem.SeqAt.RcNeAt.tuples (A := X.A) (s := s) (l := a) (b := b) (items := its.toArray) (items2 := ([] : List Value).toArray) (e := fun _ => true) ⟨o1, g1, c1, n1, d1⟩ ⟨o2, g2, c2, n2, d2⟩ (Nat.lt_of_le_of_lt (Nat.le_add_right _ 64) hu) (fun j h1 h2 => absurd h2 (by simp))
  rw [k] at w
  exact w X.prog X.w _ _ ⟨.bl _, H, I, rfl, q⟩
end
theorem app_k {x y : Str} (h1 : ∀ c ∈ x.cps.toList, c ≠ 44) (h2 : ∀ c ∈ y.cps.toList, c ≠ 44) : ∀ c ∈ (x ++ y).cps.toList, c ≠ 44 := fun c hc => by
  rw [Str.cps_append, Array.toList_append, List.mem_append] at hc
  exact hc.elim (h1 c) (h2 c)
theorem As.app {x y : Str} {n m : Nat} (h : As x n) (k : As y m) : As (x ++ y) (n + m) := ⟨asc_app h.a k.a, app_k h.k k.k, by rw [strLen_append]; exact Nat.add_le_add h.l k.l⟩
theorem As.up {x : Str} {n : Nat} (h : As x n) : As (Txt.upper x) n := by
  refine ⟨(up_asc h.a).1, fun c hc => ?_, Nat.le_trans (up_asc h.a).2 h.l⟩
  rw [PyProof.Rows.upper_ascii h.a] at hc
  have m : c ∈ (x.cps.map PyProof.Rows.up1).toList := hc
  rw [Array.toList_map] at m
  obtain ⟨b, hb, rfl⟩ := List.mem_map.mp m
  have := h.k b hb
  unfold PyProof.Rows.up1
  split <;> omega
theorem As.cut {x : Str} {n : Nat} (h : As x n) (lo hi : Option Int) : As (cutS x lo hi) n := ⟨fun c hc => h.a c (cutS_in c hc), fun c hc => h.k c (cutS_in c hc), Nat.le_trans (cutS_len x lo hi) h.l⟩
theorem k_small : ∀ c ∈ small.cps.toList, c ≠ 44 := by decide +kernel
theorem as_of {x : Str} {a b : Int} {m : Nat} (h : ofT (.str x) small a b = true) (hb : b = m) : As x m := by
  obtain ⟨_, l, s⟩ := of_get h
  exact ⟨fun c hc => asc_small c (s c hc), fun c hc => k_small c (s c hc), by omega⟩
theorem as_one {c : Nat} (h : c < 128 ∧ c ≠ 44) : As ⟨#[c]⟩ 1 := by
  refine ⟨fun d hd => ?_, fun d hd => ?_, Nat.le_refl _⟩
  · have e : d = c := by simpa using hd
    rw [e]
    exact h.1
  · have e : d = c := by simpa using hd
    rw [e]
    exact h.2
def AsV (v : V) (n : Nat) : Prop := ∃ x, v = .str x ∧ As x n
def sgs : Str := "abcdefghijklmnopqrstuvwxyz0189 '-.!_~"
theorem sgs_a : ∀ c ∈ sgs.cps.toList, c < 128 ∧ c ≠ 44 := by decide +kernel
theorem as_sz {x : Str} {n : Nat} (h : As x n) (l : n ≤ 1000) : x.length ≤ sizeLine := Nat.le_trans (Nat.le_trans h.l l) (by decide)
theorem as_sz2 {x y : Str} {n m : Nat} (h : As x n) (k : As y m) (l : n + m ≤ 1000) : x.length + y.length ≤ sizeLine := Nat.le_trans (Nat.le_trans (Nat.add_le_add h.l k.l) l) (by decide)
theorem as_low {x : Str} {n : Nat} (h : As x n) (l : n ≤ 1000) : x.length ≤ 5592405 := Nat.le_trans (Nat.le_trans h.l l) (by decide)
theorem Lt.lv {gs : List (List Str)} (h : Lt gs) : Lv gs := lv_of h.ok (Nat.le_trans h.sz (by decide))
theorem Lt.ne {gs : List (List Str)} (h : Lt gs) : gs.flatten.map V.str ≠ [] := fun z => by
  have e := List.map_eq_nil_iff.mp z
  have l := h.lv
  have h1 := l.h1
  match gs, h1, l with
  | [], h1, _ => exact absurd h1 (by decide)
  | g :: r, _, l =>
    rw [List.flatten_cons] at e
    exact l.ne g List.mem_cons_self (List.append_eq_nil_iff.mp e).1
theorem Lt.as {gs : List (List Str)} (h : Lt gs) {v : V} (m : v ∈ gs.flatten.map V.str) : AsV v 2 := by
  obtain ⟨t, ht, rfl⟩ := List.mem_map.mp m
  exact ⟨t, rfl, as_of (h.lv.sm t ht) rfl⟩
def spTx : Sp := fun vs H Q _ => ∃ (h : Addr) (n : Int) (G S : V) (gs : List (List Str)) (ws : List Str), vs = [.ref h, G, S] ∧ LP H G gs ∧ Lt gs ∧ GP H S ws ∧ psD (gP ws) = true ∧ Hand n H h ∧ n + 300 ≤ far ∧ ∀ x H', As x 60 → Hand (n + 100) H' h → But h H H' → Q (.str x) H'
theorem ok_tx {f : Addr} {fd : FuncData} {e : Ex} (D : Df K mg "_law_text" ["_law_hand_here", "_law_letters_here", "_law_passed_here"] sText f fd) (T : Txt K mg C e) (cT : Ca P w K mg base 1 "_law_take" ["_law_hand_here", "_law_many"] spTake) (cP : Ca P w K mg base 2 "_law_pick" ["_law_hand_here", "_law_some"] spPick) : FnOk P w K mg base CX0 3 f fd ["_law_hand_here", "_law_letters_here", "_law_passed_here"] spTx := by
  refine D.fn.ok scText (fun vs H Q E h => ?_) (fun cdv A outer s H vs Q E hr h => ?_)
  · obtain ⟨h, n, G, S, gs, ws, rfl, lG, lt, lS, ps, hd, hn, q⟩ := h
    rfl
  · obtain ⟨h, n, G, S, gs, ws, rfl, lG, lt, lS, ps, hd, hn, q⟩ := h
    refine ⟨_, (pss_cons (ps_set (i := 3) scText.nd rfl (.inl rfl) (pe_lst pa_nil))
      (C8.pss_cut (ps_for PassesOwn.never rfl (pi_tup (pv 1)) (pg_name (i := 4) scText.nd rfl (.inl rfl)) (pss_one (ps_expr (pe_bm PySem.F.plainAttrs_list PySem.F.slot_list_extend PySem.F.type_list_extend Xex.mt_extT (pv 3) (pa_cons (pv 4) pa_nil)))))
      (pss_cons (ps_set (i := 5) scText.nd rfl (.inl rfl) pe_str)
      (C8.pss_cut (ps_if (PW.pt (pw_and (pt_cmpR (op_neT0 hr.units) (pv 2) (pe_tup pa_nil) (nomark _)) (pw_and1 (pt_cmpR op_eq (pe_ca cT hr (by decide) (by rfl) (pa_cons (pv 0) (pa_cons pe_int pa_nil))) pe_int (nomark _))))) (pss_cons (ps_set (i := 6) scText.nd rfl (.inl rfl) (pe_ca cP hr (by decide) (by rfl) (pa_cons (pv 0) (pa_cons (pv 2) pa_nil))))
      (pss_cons (ps_set (i := 5) scText.nd rfl (.inl rfl) (pe_ix ix_list (pe_lst (pa_cons (pv 6) (pa_cons (pe_upper (pv 6)) (pa_cons (pe_op op_add_str (pe_upper (pe_slice sl_str (pv 6) po_none (po_some pe_int))) (pe_slice sl_str (pv 6) (po_some pe_int) po_none)) (pa_cons (pe_op op_add_str (pv 6) pe_str) (pa_cons (pe_slice sl_str (pv 6) (po_some pe_int) po_none) pa_nil)))))) (pe_ca cT hr (by decide) (by rfl) (pa_cons (pv 0) (pa_cons pe_int pa_nil))) (fun _ _ => rfl)))
      (pss_one (ps_set (i := 5) scText.nd rfl (.inl rfl) (pe_op op_add_str (pv 5) (pe_ca cP hr (by decide) (by rfl) (pa_cons (pv 0) (pa_cons (pe_lst (pa_cons pe_str (pa_cons pe_str (pa_cons pe_str (pa_cons pe_str (pa_cons pe_str pa_nil)))))) pa_nil)))))))) pss_nil)
      (pss_cons (ps_for PassesOwn.never rfl (pi_range1 (by rfl) T.range (pa_cons (pe_ca cP hr (by decide) (by rfl) (pa_cons (pv 0) (pa_cons (pe_lst (pa_cons pe_int (pa_cons pe_int (pa_cons pe_int (pa_cons pe_int (pa_cons pe_int pa_nil)))))) pa_nil))) pa_nil)) (pg_name (i := 7) scText.nd rfl (.inl rfl)) (pss_cons (ps_set (i := 8) scText.nd rfl (.inl rfl) (pe_ca cP hr (by decide) (by rfl) (pa_cons (pv 0) (pa_cons pe_str pa_nil))))
      (pss_cons (ps_set (i := 8) scText.nd rfl (.inl rfl) (pe_ca cP hr (by decide) (by rfl) (pa_cons (pv 0) (pa_cons (pe_lst (pa_cons (pv 8) (pa_cons (pe_ca cP hr (by decide) (by rfl) (pa_cons (pv 0) (pa_cons (pv 3) pa_nil))) (pa_cons (pe_ca cP hr (by decide) (by rfl) (pa_cons (pv 0) (pa_cons (pv 3) pa_nil))) (pa_cons pe_str pa_nil))))) pa_nil))))
      (pss_one (ps_set (i := 5) scText.nd rfl (.inl rfl) (pe_op op_add_str (pv 5) (pe_ix ix_list (pe_lst (pa_cons (pv 8) (pa_cons (pe_upper (pv 8)) (pa_cons (pv 8) pa_nil)))) (pe_ca cT hr (by decide) (by rfl) (pa_cons (pv 0) (pa_cons pe_int pa_nil))) (fun _ _ => rfl))))))))
      (pss_one (ps_ret (pv 5)))))))), ?_⟩
    have fr : n + 300 ≤ 1000000 := hn
    obtain ⟨aG, gx, rfl, eG, gg⟩ := lG
    obtain ⟨aS, rfl, eS⟩ := lS
    have lx := gg.length
    refine ⟨(by show 0 ≤ sizeLine; decide), fun D nD => ?_⟩
    have sD := same_upd nD (o := .lst [])
    have eD : (upd H D (.lst [])) D = some (.lst (([] : List Str).map V.str)) := upd_same
    have Dh := hd.fresh nD
    generalize upd H D (.lst []) = H1 at sD eD ⊢
    refine ⟨fun σ Hx => ∃ c4, σ = [some (.ref h), some (.ref aG), some (.ref aS), some (.ref D), c4, none, none, none, none] ∧ Hx D = some (.lst (gs.flatten.map V.str)) ∧ L2.Same H Hx, ?_, ?_⟩
    · refine ⟨_, rfl, aG, rfl, ⟨_, SqT.of (sD _ _ eG)⟩, ?_⟩
      refine for_tup (K := K) (a := aG) (xs := gx) (fun i σ Hi => ∃ c4, σ = [some (.ref h), some (.ref aG), some (.ref aS), some (.ref D), c4, none, none, none, none] ∧ Hi D = some (.lst ((gs.take i).flatten.map V.str)) ∧ L2.Same H Hi) ⟨none, rfl, eD, sD⟩ (fun i σ Hi _ z => by obtain ⟨_, _, _, s⟩ := z; exact SqT.of (s _ _ eG)) ?_ ?_
      · rintro i v σ Hi hv ⟨c4, rfl, eDi, sm⟩
        have il := (List.getElem?_eq_some_iff.mp hv).1
        obtain ⟨a, ea, e1⟩ := GPs.get (i := i) (by omega) gg
        obtain rfl : v = .ref a := Option.some.inj (hv.symm.trans ea)
        have tk : gs.take (i + 1) = gs.take i ++ [gs[i]] := by rw [List.take_add_one, List.getElem?_eq_getElem (by omega)]; rfl
        have fle : (gs.take i).flatten.length + gs[i].length ≤ 160 := by
          have e := congrArg (fun q => (List.flatten q).length) (List.take_append_drop (i + 1) gs)
          rw [List.flatten_append, List.length_append, tk, List.flatten_append, List.length_append, show [gs[i]].flatten = gs[i] by simp] at e
          have := lt.sz
          omega
        refine ⟨_, rfl, .inl ⟨rfl, _, SqL.of eDi⟩, _, rfl, D, a, _, _, rfl, rfl, eDi, sm _ _ e1, by rw [List.length_map, List.length_map]; exact Nat.le_trans fle (by decide), ?_⟩
        refine ⟨_, rfl, by rw [upd_same, tk, List.flatten_append, List.map_append]; simp, fun b o e => ?_⟩
        rw [upd_ne (ne_of_none e nD)]
        exact sm _ _ e
      · rintro σ He ⟨c4, rfl, e, s⟩
        rw [List.take_of_length_le (show gs.length ≤ gx.length by omega)] at e
        exact ⟨c4, rfl, e, s⟩
    clear eD sD H1
    rintro σ H1 ⟨c4, rfl, eD, sD⟩
    have fewK : (gs.flatten.map V.str).length < 1000 := by rw [List.length_map]; have := lt.sz; omega
    have ps8 := psD_all ps
    have w20 : ws.length ≤ 20 := by
      have h := ps
      unfold psD gP at h
      simp only [Bool.and_eq_true, decide_eq_true_eq, List.length_map] at h
      omega
    -- ahead
    refine ⟨fun σ Hx => ∃ (x : Str) (c6 : Option V), σ = [some (.ref h), some (.ref aG), some (.ref aS), some (.ref D), c4, some (.str x), c6, none, none] ∧ As x 18 ∧ Hx D = some (.lst (gs.flatten.map V.str)) ∧ Hand (n + 4) Hx h ∧ But h H Hx, ?_, ?_⟩
    · refine ⟨_, rfl, (by show 0 ≤ sizeLine; decide), fun z nz => ?_⟩
      have sz := same_upd nz (o := .tup [])
      have ez : (upd H1 z (.tup [])) z = some (.tup []) := upd_same
      have eD1 := sz _ _ eD
      have s1 := sD.trans sz
      generalize upd H1 z (.tup []) = H2 at ez eD1 s1 ⊢
      have h2 := hd.same s1
      have b2 : But h H H2 := Same.but s1 h
      have as0 : As ("" : Str) 18 := ⟨by decide +kernel, by decide +kernel, by decide +kernel⟩
      refine ⟨aS, z, _, rfl, rfl, s1 _ _ eS, ez, _, rfl, ite2 (fun e => ?_) (fun e => ?_)⟩
      · have wne : ws.map V.str ≠ [] := by
          cases w0 : ws.map V.str with
          | nil => rw [w0] at e; cases e
          | cons a r => simp
        refine ⟨_, rfl, h, 2, n, rfl, by decide, by decide, h2, by show n ≤ 1000000; omega, fun d H3 d0 d1 h3 b3 => ⟨rfl, _, rfl, ite2 (fun _ => ?_) (fun _ => ?_)⟩⟩
        · have b03 := b2.trans b3
          have eS3 := b03 _ _ (hd.nt eS) eS
          refine ⟨_, rfl, _, rfl, h, n + 1, _, rfl, h3, by show n + 1 ≤ 1000000; omega, .inr (.inr ⟨aS, _, rfl, eS3, wne, by rw [List.length_map]; omega, fun v H4 mv h4 b4 => ?_⟩)⟩
          obtain ⟨y, my, rfl⟩ := List.mem_map.mp mv
          have ay : As y 8 := as_of (ps8 y my) rfl
          have szy := as_sz ay (by decide)
          have b04 := b03.trans b4
          have eD4 := b4 _ _ Dh (b3 _ _ Dh eD1)
          refine ⟨_, rfl, _, rfl, ⟨_, rfl⟩, y, rfl, rfl, as_low ay (by decide), _, rfl, 1, rfl, y, rfl, szy, ⟨_, rfl⟩, _, rfl, rfl, as_low (ay.cut _ _) (by decide), _, rfl, 1, rfl, y, rfl, szy, _, _, rfl, rfl, as_sz2 (ay.cut none (some 1)).up (ay.cut (some 1) none) (by decide), _, rfl, _, _, rfl, rfl, as_sz2 ay (show As ("a" : Str) 1 from ⟨by decide +kernel, by decide +kernel, by decide +kernel⟩) (by decide), _, rfl, 1, rfl, y, rfl, szy, (by show 5 ≤ sizeLine; decide), fun L nL => ?_⟩
          have all5 : ∀ v ∈ [V.str y, .str (Txt.upper y), .str (Txt.upper (cutS y none (some 1)) ++ cutS y (some 1) none), .str (y ++ "a"), .str (cutS y (some 1) none)], AsV v 16 := fun v hv => by
            simp only [List.mem_cons, List.not_mem_nil, or_false] at hv
            rcases hv with e | e | e | e | e
            · exact ⟨_, e, ay.mono (by decide)⟩
            · exact ⟨_, e, ay.up.mono (by decide)⟩
            · exact ⟨_, e, (ay.cut none (some 1)).up.app (ay.cut (some 1) none)⟩
            · exact ⟨_, e, (ay.app (show As ("a" : Str) 1 from ⟨by decide +kernel, by decide +kernel, by decide +kernel⟩)).mono (by decide)⟩
            · exact ⟨_, e, (ay.cut _ _).mono (by decide)⟩
          have l5 : [V.str y, .str (Txt.upper y), .str (Txt.upper (cutS y none (some 1)) ++ cutS y (some 1) none), .str (y ++ "a"), .str (cutS y (some 1) none)].length = 5 := rfl
          generalize [V.str y, .str (Txt.upper y), .str (Txt.upper (cutS y none (some 1)) ++ cutS y (some 1) none), .str (y ++ "a"), .str (cutS y (some 1) none)] = xs5 at all5 l5 ⊢
          have sL := same_upd nL (o := .lst xs5)
          have eL : (upd H4 L (.lst xs5)) L = some (.lst xs5) := upd_same
          have Lh := h4.fresh nL
          have h5 := h4.same sL
          have b45 : But h H4 (upd H4 L (.lst xs5)) := Same.but sL h
          generalize upd H4 L (.lst xs5) = H5 at eL h5 b45 ⊢
          refine ⟨_, rfl, h, 5, _, rfl, by decide, by decide, h5, by show n + 1 + 1 ≤ 1000000; omega, fun d5 H6 d50 d51 h6 b6 => ?_⟩
          obtain ⟨j, rfl⟩ : ∃ j : Nat, d5 = (j : Int) := ⟨d5.toNat, by omega⟩
          have hj : j < xs5.length := by omega
          refine ⟨L, xs5, _, xs5[j], rfl, rfl, SqL.of (b6 _ _ Lh eL), atI_nat (List.getElem?_eq_getElem hj), ?_⟩
          obtain ⟨y', e', a'⟩ := all5 xs5[j] (List.getElem_mem hj)
          rw [e']
          have b46 := b45.trans b6
          refine ⟨_, rfl, _, rfl, (by show 5 ≤ sizeLine; decide), fun L2' nL2 => ?_⟩
          have sL2 := same_upd nL2 (o := .lst [.str " ", .str " ", .str "  ", .str "", .str "-"])
          refine ⟨h, n + 1 + 1 + 1, _, rfl, h6.same sL2, by show n + 1 + 1 + 1 ≤ 1000000; omega, .inl ⟨L2', _, rfl, upd_same, h6.fresh nL2, by simp, by show 5 < 1000; decide, fun v H7 mv h7 b7 => ?_⟩⟩
          obtain ⟨s', rfl, as'⟩ : AsV v 2 := by
            simp only [List.mem_cons, List.not_mem_nil, or_false] at mv
            rcases mv with z | z | z | z | z <;> exact ⟨_, z, by decide +kernel, by decide +kernel, by decide +kernel⟩
          have b67 := (Same.but sL2 h).trans b7
          refine ⟨_, _, rfl, rfl, as_sz2 a' as' (by decide), y' ++ s', _, rfl, a'.app as', b67 _ _ Dh (b46 _ _ Dh eD4), h7.mono (by omega), b04.trans (b46.trans b67)⟩
        · exact ⟨"", _, rfl, as0, b3 _ _ Dh eD1, h3.mono (by omega), b2.trans b3⟩
      · exact ⟨"", _, rfl, as0, eD1, h2.mono (by omega), b2⟩
    clear eD sD H1
    rintro σ H2 ⟨x0, c6, rfl, ax0, eD2, h2, b2⟩
    refine ⟨_, rfl, (by show 5 ≤ sizeLine; decide), fun L nL => ?_⟩
    have sL := same_upd nL (o := .lst [.int 0, .int 1, .int 3, .int 6, .int 12])
    refine ⟨h, n + 4, _, rfl, h2.same sL, by show n + 4 ≤ 1000000; omega, .inl ⟨L, _, rfl, upd_same, h2.fresh nL, by simp, by show 5 < 1000; decide, fun v H3 mv h3 b3 => ?_⟩⟩
    obtain ⟨m, rfl, m0, m12⟩ : ∃ m : Int, v = .int m ∧ 0 ≤ m ∧ m ≤ 12 := by
      simp only [List.mem_cons, List.not_mem_nil, or_false] at mv
      rcases mv with z | z | z | z | z <;> exact ⟨_, z, by decide, by decide⟩
    have b23 : But h H2 H3 := (Same.but sL h).trans b3
    have eD3 := b23 _ _ Dh eD2
    refine ⟨m, rfl, by omega, by omega, for_range (lo := 0) (n := m.toNat) (fun k σ Hi => ∃ (x : Str) (c7 c8 : Option V), σ = [some (.ref h), some (.ref aG), some (.ref aS), some (.ref D), c4, some (.str x), c6, c7, c8] ∧ As x (18 + 2 * k) ∧ Hi D = some (.lst (gs.flatten.map V.str)) ∧ Hand (n + 5 + 5 * (k : Int)) Hi h ∧ But h H Hi) ?_ ?_ ?_⟩
    · exact ⟨x0, _, _, rfl, ax0, eD3, h3.mono (by omega), b2.trans b23⟩
    · rintro k σ Hi hk ⟨x, c7, c8, rfl, ax, eDi, hdi, bi⟩
      have km : (k : Int) < m := by omega
      have kb : n + 5 + 5 * (k : Int) + 5 ≤ 1000000 := by omega
      refine ⟨_, rfl, h, _, _, rfl, hdi, by show n + 5 + 5 * (k : Int) ≤ 1000000; omega, .inr (.inl ⟨sgs, rfl, by decide +kernel, by decide +kernel, fun c H4 mc h4 b4 => ?_⟩)⟩
      have eD4 := b4 _ _ Dh eDi
      have a1 := as_one (sgs_a c mc)
      refine ⟨_, rfl, _, rfl, _, rfl, _, rfl, h, _, _, rfl, h4, by show n + 5 + 5 * (k : Int) + 1 ≤ 1000000; omega, .inl ⟨D, _, rfl, eD4, Dh, lt.ne, fewK, fun v1 H5 m1 h5 b5 => ?_⟩⟩
      refine ⟨_, rfl, _, rfl, h, _, _, rfl, h5, by show n + 5 + 5 * (k : Int) + 1 + 1 ≤ 1000000; omega, .inl ⟨D, _, rfl, b5 _ _ Dh eD4, Dh, lt.ne, fewK, fun v2 H6 m2 h6 b6 => ?_⟩⟩
      refine ⟨(by show 4 ≤ sizeLine; decide), fun L1 nL1 => ?_⟩
      have eD6 := b6 _ _ Dh (b5 _ _ Dh eD4)
      have all4 : ∀ v ∈ [V.str ⟨#[c]⟩, v1, v2, .str " "], AsV v 2 := fun v hv => by
        simp only [List.mem_cons, List.not_mem_nil, or_false] at hv
        rcases hv with e | e | e | e
        · exact ⟨_, e, a1.mono (by decide)⟩
        · rw [e]; exact lt.as m1
        · rw [e]; exact lt.as m2
        · exact ⟨_, e, by decide +kernel, by decide +kernel, by decide +kernel⟩
      have s1 := same_upd nL1 (o := .lst [V.str ⟨#[c]⟩, v1, v2, .str " "])
      refine ⟨h, _, _, rfl, h6.same s1, by show n + 5 + 5 * (k : Int) + 1 + 1 + 1 ≤ 1000000; omega, .inl ⟨L1, _, rfl, upd_same, h6.fresh nL1, by simp, by show 4 < 1000; decide, fun v H7 mv h7 b7 => ?_⟩⟩
      obtain ⟨y, rfl, ay⟩ := all4 v mv
      have b67 := (Same.but s1 h).trans b7
      have b37 := b4.trans (b5.trans (b6.trans b67))
      refine ⟨_, rfl, _, rfl, _, rfl, ⟨_, rfl⟩, y, rfl, rfl, as_low ay (by decide), _, rfl, (by show 3 ≤ sizeLine; decide), fun L2' nL2 => ?_⟩
      have s2 := same_upd nL2 (o := .lst [V.str y, .str (Txt.upper y), .str y])
      have eL2 : (upd H7 L2' (.lst [V.str y, .str (Txt.upper y), .str y])) L2' = some (.lst [V.str y, .str (Txt.upper y), .str y]) := upd_same
      refine ⟨_, rfl, h, 3, _, rfl, by decide, by decide, h7.same s2, by show n + 5 + 5 * (k : Int) + 1 + 1 + 1 + 1 ≤ 1000000; omega, fun d H8 d0 d1 h8 b8 => ?_⟩
      obtain ⟨j, rfl⟩ : ∃ j : Nat, d = (j : Int) := ⟨d.toNat, by omega⟩
      have all3 : ∀ v ∈ [V.str y, .str (Txt.upper y), .str y], AsV v 2 := fun v hv => by
        simp only [List.mem_cons, List.not_mem_nil, or_false] at hv
        rcases hv with e | e | e
        · exact ⟨_, e, ay⟩
        · exact ⟨_, e, ay.up⟩
        · exact ⟨_, e, ay⟩
      have hj : j < [V.str y, .str (Txt.upper y), .str y].length := by show j < 3; omega
      refine ⟨L2', _, _, [V.str y, .str (Txt.upper y), .str y][j], rfl, rfl, SqL.of (b8 _ _ (h7.fresh nL2) eL2), atI_nat (List.getElem?_eq_getElem hj), ?_⟩
      obtain ⟨y', e', a'⟩ := all3 _ (List.getElem_mem hj)
      rw [e']
      have b38 := b37.trans ((Same.but s2 h).trans b8)
      exact ⟨_, _, rfl, rfl, as_sz2 ax a' (by omega), x ++ y', _, _, rfl, (ax.app a').mono (by omega), b38 _ _ Dh eDi, h8.mono (by push_cast; omega), bi.trans b38⟩
    · rintro σ He ⟨x, c7, c8, rfl, ax, eDe, hde, be⟩
      have mn : (m.toNat : Int) = m := by omega
      exact ⟨_, rfl, q x He (ax.mono (by omega)) (hde.mono (by omega)) be⟩
end
end K79
set_option Elab.async false
set_option linter.all false
set_option maxRecDepth 100000
set_option maxHeartbeats 4000000
set_option pp.maxSteps 400
set_option pp.deepTerms false
namespace K79
open PySem PySem.Spec PyProof.Rows L2
open Xk Az
section
variable {P : Program} {w : World} {K : PySem.W.Frag} {mg : Str → Option Value} {base : Heap} {C : Addr}
theorem cutV_take (xs : List V) (k : Nat) : cutV xs none (some (k : Int)) = xs.take k := by
  unfold cutV
  have e1 : HT.sIx xs.length 0 none = 0 := rfl
  have e2 : HT.sIx xs.length xs.length (some (k : Int)) = min k xs.length := by rw [HT.sIx_nat]
  rw [e1, e2, List.drop_zero, Nat.sub_zero]
  by_cases h : k ≤ xs.length
  · rw [Nat.min_eq_left h]
  · rw [Nat.min_eq_right (by omega), List.take_of_length_le (Nat.le_refl _), List.take_of_length_le (by omega)]
theorem cutV_drop (xs : List V) (k : Nat) (h : k ≤ xs.length) : cutV xs (some (k : Int)) none = xs.drop k := by
  unfold cutV
  have e1 : HT.sIx xs.length 0 (some (k : Int)) = min k xs.length := by rw [HT.sIx_nat]
  have e2 : HT.sIx xs.length xs.length none = xs.length := rfl
  rw [e1, e2, Nat.min_eq_left h, List.take_of_length_le (by rw [List.length_drop]; omega)]
theorem RkAt.tk {H H' : Hp} {v : V} {c : Cg} {x : Str} (h : RkAt H v c x) (s : Tk H H') : RkAt H' v c x := by
  obtain ⟨t, t1, t2, rfl, e, e1, e2⟩ := h
  exact ⟨t, t1, t2, rfl, s _ _ e, s _ _ e1, s _ _ e2⟩
theorem leC_anti {c : Cg} {x y : Str} (h1 : leC c x y = true) (h2 : leC c y x = true) : x = y := by
  have a : PyProof.Rows.lexLt PyProof.Rows.itemOrd (PySem.W.keyToks (dRk c y)) (PySem.W.keyToks (dRk c x)) = false := by
    have z : (!PySem.W.dataLt (dRk c y) (dRk c x)) = true := h1
    have z2 : PySem.W.dataLt (dRk c y) (dRk c x) = false := by simpa using z
    exact z2
  have b : PyProof.Rows.lexLt PyProof.Rows.itemOrd (PySem.W.keyToks (dRk c x)) (PySem.W.keyToks (dRk c y)) = false := by
    have z : (!PySem.W.dataLt (dRk c x) (dRk c y)) = true := h2
    have z2 : PySem.W.dataLt (dRk c x) (dRk c y) = false := by simpa using z
    exact z2
  have e := (PyProof.Rows.listOrd PyProof.Rows.itemOrd).total _ _ b a
  unfold dRk at e
  simp only [PySem.W.keyToks, PySem.W.keyToksAll] at e
  have e2 := congrArg (fun l : List (Int ⊕ List Nat) => l.reverse[1]?) e
  simp only [← List.cons_append, ← List.append_assoc] at e2
  simp at e2
  exact str_eq (by rw [e2])
theorem txt_dp {H : Hp} {l : Addr} {ts : List Str} (e : H l = some (.lst (ts.map V.str))) : Dp K H (.ref l) (.list (ts.map PyData.str)) := .lst (SqL.of e) (tx_dp (dz_txts ts))
theorem strOk_as {t : Str} {n : Nat} (h : As t n) : PyData.strOk t = true := by
  unfold PyData.strOk
  rw [← Array.all_toList, List.all_eq_true]
  exact fun c hc => decide_eq_true (Nat.lt_of_lt_of_le (h.a c hc) (by decide))
theorem lay_as : ∀ {ys : List Str}, (∀ y ∈ ys, As y 500) → PyData.canLayAll0 (ys.map PyData.str) = true ∧ PyData.depthAll (ys.map PyData.str) ≤ 2
  | [], _ => ⟨by simp [PyData.canLayAll0], by simp [PyData.depthAll]⟩
  | y :: ys, h => by
    obtain ⟨a, b⟩ := lay_as (ys := ys) fun z hz => h z (List.mem_cons_of_mem _ hz)
    have w := strOk_as (h y List.mem_cons_self)
    constructor
    · simp [PyData.canLayAll0, PyData.canLay0, w, a]
    · simp only [List.map_cons, PyData.depthAll, PyData.depth]
      omega
theorem sh1 {ts : List Str} (h : ∀ t ∈ ts, As t 500) : SeqAt.shaped (.list (ts.map PyData.str)) = true := by
  obtain ⟨a, b⟩ := lay_as h
  unfold SeqAt.shaped
  have h1 : (PyData.list (ts.map PyData.str)).canLay0 = true := by simp only [PyData.canLay0]; exact a
  have h2 : (PyData.list (ts.map PyData.str)).depth ≤ 64 := by simp only [PyData.depth]; omega
  rw [h1, decide_eq_true h2]
  rfl
theorem eqv_self (ts : List Str) : PyData.eqv (.list (ts.map PyData.str)) (.list (ts.map PyData.str)) = true := by
  simp only [PyData.eqv]
  rw [eqv_strs]
  exact decide_eq_true rfl
theorem cu_all {H : Hp} {a : Addr} {c : Cg} (x : CuAt K C H a c) : ∃ dx fs, H a = some (.ins C dx fs) ∧ fs.lookup ("rank" : Str) = none ∧ fs.lookup ("bare" : Str) = none ∧ fs.lookup ("in_order" : Str) = none ∧ fs.lookup ("shown" : Str) = none ∧ fs.lookup ("read" : Str) = none := by
  obtain ⟨l, p, ⟨dx, nd, e, e2⟩, d1, d2⟩ := x
  exact ⟨dx, _, e, fn_rank _ _ _ _, fn_bare _ _ _ _, fn_ord _ _ _ _, fn_shown _ _ _ _, fn_read _ _ _ _⟩
/-- a key: the letters of the bare text, those of the text -/
def KyAt (H : Hp) (v : V) (c : Cg) (x : Str) : Prop := ∃ t t1 t2, v = .ref t ∧ H t = some (.tup [.ref t1, .ref t2]) ∧ H t1 = some (nums (lets c.1 (bareT c.2.1 x))) ∧ H t2 = some (nums (lets c.1 x))
def dKy (c : Cg) (x : Str) : PyData := .tuple [nT (lets c.1 (bareT c.2.1 x)), nT (lets c.1 x)]
theorem KyAt.dp {H : Hp} {v : V} {c : Cg} {x : Str} (h : KyAt H v c x) : Dp K H v (dKy c x) := by
  obtain ⟨t, t1, t2, rfl, e, e1, e2⟩ := h
  exact .tup (SqT.of e) (.cons (nums_dp e1) (.cons (nums_dp e2) .nil))
theorem KyAt.same {H H' : Hp} {v : V} {c : Cg} {x : Str} (h : KyAt H v c x) (s : L2.Same H H') : KyAt H' v c x := by
  obtain ⟨t, t1, t2, rfl, e, e1, e2⟩ := h
  exact ⟨t, t1, t2, rfl, s _ _ e, s _ _ e1, s _ _ e2⟩
theorem lay_ints : ∀ ns : List Nat, PyData.canLayAll0 (ns.map fun n => PyData.int (n : Nat)) = true ∧ PyData.depthAll (ns.map fun n => PyData.int (n : Nat)) ≤ 2
  | [] => ⟨by simp [PyData.canLayAll0], by simp [PyData.depthAll]⟩
  | n :: r => by
    obtain ⟨a, b⟩ := lay_ints r
    constructor
    · simp [PyData.canLayAll0, PyData.canLay0, a]
    · simp only [List.map_cons, PyData.depthAll, PyData.depth]
      omega
theorem sh_ky (c : Cg) (x : Str) : SeqAt.shaped (dKy c x) = true := by
  obtain ⟨a1, b1⟩ := lay_ints (lets c.1 (bareT c.2.1 x))
  obtain ⟨a2, b2⟩ := lay_ints (lets c.1 x)
  unfold SeqAt.shaped dKy nT
  have h1 : (PyData.tuple [PyData.tuple ((lets c.1 (bareT c.2.1 x)).map fun n => PyData.int (n : Nat)), PyData.tuple ((lets c.1 x).map fun n => PyData.int (n : Nat))]).canLay0 = true := by simp only [PyData.canLay0, PyData.canLayAll0, a1, a2, Bool.and_true]
  have h2 : (PyData.tuple [PyData.tuple ((lets c.1 (bareT c.2.1 x)).map fun n => PyData.int (n : Nat)), PyData.tuple ((lets c.1 x).map fun n => PyData.int (n : Nat))]).depth ≤ 64 := by
    simp only [PyData.depth, PyData.depthAll]
    omega
  rw [h1, decide_eq_true h2]
  rfl
theorem eqv_ints : ∀ xs ys : List Nat, PyData.eqvAll (xs.map fun n => PyData.int (n : Nat)) (ys.map fun n => PyData.int (n : Nat)) = decide (xs = ys)
  | [], [] => by simp [PyData.eqvAll]
  | [], _ :: _ => by simp [PyData.eqvAll]
  | _ :: _, [] => by simp [PyData.eqvAll]
  | x :: xs, y :: ys => by
    simp only [List.map_cons, PyData.eqvAll, PyData.eqv, eqv_ints xs ys]
    by_cases h1 : x = y
    · by_cases h2 : xs = ys
      · subst h1 h2; simp
      · simp [h2]
    · have h3 : ¬ ((x : Int) = (y : Int)) := by omega
      simp [h1, h3]
theorem eqv_ky (c : Cg) (x y : Str) : PyData.eqv (dKy c x) (dKy c y) = decide (lets c.1 (bareT c.2.1 x) = lets c.1 (bareT c.2.1 y) ∧ lets c.1 x = lets c.1 y) := by
  unfold dKy nT
  simp only [PyData.eqv, PyData.eqvAll, eqv_ints, Bool.and_true]
  rw [← Bool.decide_and]
theorem rk_key {H : Hp} {v : V} {c : Cg} {x : Str} (h : RkAt H v c x) : ∃ t t1 t2, v = .ref t ∧ H t = some (.tup [.ref t1, .ref t2, .str x]) ∧ ∀ p H', L2.Same H H' → H' p = some (.tup [.ref t1, .ref t2]) → KyAt H' (.ref p) c x := by
  obtain ⟨t, t1, t2, rfl, e, e1, e2⟩ := h
  exact ⟨t, t1, t2, rfl, e, fun p H' s ep => ⟨p, t1, t2, rfl, ep, s _ _ e1, s _ _ e2⟩⟩
def spKy (K : PySem.W.Frag) (C : Addr) : Sp := fun vs H Q _ => ∃ (a : Addr) (c : Cg) (x : Str), vs = [.ref a, .str x] ∧ CuAt K C H a c ∧ GoodC c ∧ As x 500 ∧ ∀ v H', KyAt H' v c x → L2.Same H H' → Q v H'
def spTu : Sp := fun vs H Q _ => ∃ (h l : Addr) (n : Int) (ts : List Str), vs = [.ref h, .ref l] ∧ H l = some (.lst (ts.map V.str)) ∧ l ≠ h ∧ ts.length ≤ 20 ∧ (∀ t ∈ ts, As t 500) ∧ Hand n H h ∧ n + 100 ≤ far ∧ ∀ r (us : List Str) H', H' r = some (.lst (us.map V.str)) → r ≠ h → us.Perm ts → Hand (n + 20) H' h → But h H H' → Q (.ref r) H'
/-- two sorted rows are put into one -/
structure Mg (c : Cg) (all xs ys zs : List Str) : Prop where
  pm : (zs ++ (xs ++ ys)).Perm all
  px : xs.Pairwise (fun a b => leC c a b = true)
  py : ys.Pairwise (fun a b => leC c a b = true)
  pz : zs.Pairwise (fun a b => leC c a b = true)
  zx : ∀ z ∈ zs, ∀ x ∈ xs, leC c z x = true
  zy : ∀ z ∈ zs, ∀ y ∈ ys, leC c z y = true
theorem Mg.left {c : Cg} {all xs ys zs : List Str} {x : Str} (m : Mg c all (x :: xs) ys zs) (h : ∀ y ∈ ys, leC c x y = true) : Mg c all xs ys (zs ++ [x]) := by
  obtain ⟨pm, px, py, pz, zx, zy⟩ := m
  obtain ⟨p1, p2⟩ := List.pairwise_cons.mp px
  refine ⟨?_, p2, py, ?_, fun z hz y hy => ?_, fun z hz y hy => ?_⟩
  · rw [List.append_assoc]
    exact pm
  · rw [List.pairwise_append]
    refine ⟨pz, List.pairwise_singleton _ _, fun a ha b hb => ?_⟩
    rw [List.mem_singleton.mp hb]
    exact zx a ha x List.mem_cons_self
  · rcases List.mem_append.mp hz with w | w
    · exact zx z w y (List.mem_cons_of_mem _ hy)
    · rw [List.mem_singleton.mp w]; exact p1 y hy
  · rcases List.mem_append.mp hz with w | w
    · exact zy z w y hy
    · rw [List.mem_singleton.mp w]; exact h y hy
theorem Mg.right {c : Cg} {all xs ys zs : List Str} {y : Str} (m : Mg c all xs (y :: ys) zs) (h : ∀ x ∈ xs, leC c y x = true) : Mg c all xs ys (zs ++ [y]) := by
  obtain ⟨pm, px, py, pz, zx, zy⟩ := m
  obtain ⟨p1, p2⟩ := List.pairwise_cons.mp py
  refine ⟨?_, px, p2, ?_, fun z hz x hx => ?_, fun z hz x hx => ?_⟩
  · rw [List.append_assoc]
    refine List.Perm.trans (List.Perm.append_left _ ?_) pm
    exact (List.perm_middle (l₁ := xs) (a := y) (l₂ := ys)).symm
  · rw [List.pairwise_append]
    refine ⟨pz, List.pairwise_singleton _ _, fun a ha b hb => ?_⟩
    rw [List.mem_singleton.mp hb]
    exact zy a ha y List.mem_cons_self
  · rcases List.mem_append.mp hz with w | w
    · exact zx z w x hx
    · rw [List.mem_singleton.mp w]; exact h x hx
  · rcases List.mem_append.mp hz with w | w
    · exact zy z w x (List.mem_cons_of_mem _ hx)
    · rw [List.mem_singleton.mp w]; exact p1 x hx
theorem sorted_is {c : Cg} {ts us : List Str} (pm : us.Perm ts) (pw : us.Pairwise (fun a b => leC c a b = true)) : us = srt c ts :=
  PySem.W.Srt.the_of_perm _ (fun a b d => (leC_total c).trans a b d) (fun a b => Bool.or_eq_true_iff.mpr ((leC_total c).total a b)) (fun a b => leC_anti) pm pw
theorem srt_pw (c : Cg) (ts : List Str) : (srt c ts).Pairwise (fun a b => leC c a b = true) := PySem.W.sort_pairwise (leC_total c) ts
theorem srt_pm (c : Cg) (ts : List Str) : (srt c ts).Perm ts := List.mergeSort_perm ts (leC c)
theorem srt_perm {c : Cg} {ts us : List Str} (pm : us.Perm ts) : srt c us = srt c ts := sorted_is ((srt_pm c us).trans pm) (srt_pw c us)
def spMg (K : PySem.W.Frag) (C : Addr) : Sp := fun vs H Q _ => ∃ (a l1 l2 : Addr) (c : Cg) (ts xs ys : List Str), vs = [.ref a, .ref l1, .ref l2] ∧ CuAt K C H a c ∧ GoodC c ∧ H l1 = some (.lst (xs.map V.str)) ∧ H l2 = some (.lst (ys.map V.str)) ∧ (∀ t ∈ ts, As t 500) ∧ ts.length ≤ 100 ∧ Mg c ts xs ys [] ∧
  ∀ r H', H' r = some (.lst ((srt c ts).map V.str)) → L2.Same H H' → Q (.ref r) H'
theorem erase_pm {α : Type} : ∀ (xs : List α) (k : Nat) (y : α), xs[k]? = some y → (y :: xs.eraseIdx k).Perm xs
  | [], _, _, h => by cases h
  | x :: r, 0, y, h => by cases h; exact List.Perm.refl _
  | x :: r, k + 1, y, h => by
    have w := erase_pm r k y h
    exact (List.Perm.swap x y _).trans (w.cons x)
theorem erase_map {α β : Type} (f : α → β) : ∀ (xs : List α) (k : Nat), (xs.map f).eraseIdx k = (xs.eraseIdx k).map f
  | [], _ => rfl
  | _ :: _, 0 => rfl
  | x :: r, k + 1 => by
    have w := erase_map f r k
    simp only [List.map_cons, List.eraseIdx_cons_succ, w]
theorem ix_nat {i n : Nat} (h : i < n) : seqIndex? (i : Int) n = some i := by
  unfold seqIndex?
  have h1 : ¬ ((i : Int) < 0) := by omega
  simp only [h1, if_false]
  rw [if_pos (by rw [Bool.and_eq_true]; exact ⟨decide_eq_true (by omega), decide_eq_true (by omega)⟩), Int.toNat_natCast]
theorem ok_ky {f : Addr} {fd : FuncData} {e : Ex} {fK : Addr} {fdK : FuncData} (D : Df K mg "_law_key" ["_law_custom", "_law_text_here"] sKey f fd) (T : Txt K mg C e) (mK : Mt P w K mg base C "rank" 3 fK fdK ["self", "text"] (spRank K C)) : FnOk P w K mg base CX0 4 f fd ["_law_custom", "_law_text_here"] (spKy K C) := by
  refine D.fn.ok scKey (fun vs H Q E h => ?_) (fun cdv A outer s H vs Q E hr h => ?_)
  · obtain ⟨a, c, x, rfl, at_, gc, ax, q⟩ := h
    rfl
  · obtain ⟨a, c, x, rfl, at_, gc, ax, q⟩ := h
    refine ⟨_, (pss_one (ps_ret (pe_slice Xtu.sl_tupU (pe_meth (pv 0) T.cl mK.m mK.ok (hr.mono (by decide)) mK.bd .nil pass0 (pa_cons (pv 1) pa_nil)) po_none (po_some pe_int)))), ?_⟩
    obtain ⟨dx, fs, ei, f1, _⟩ := cu_all at_
    refine ⟨_, rfl, a, dx, fs, rfl, ei, f1, _, rfl, a, c, x, rfl, at_, gc, ax, fun v H1 rk s1 => ?_⟩
    obtain ⟨t, t1, t2, rfl, et, ky⟩ := rk_key rk
    refine ⟨2, rfl, t, _, rfl, et, fun p H2 s2 e2 => ?_⟩
    exact q _ _ (ky p H2 s2 e2) (s1.trans s2)
theorem ok_tu {f : Addr} {fd : FuncData} {e : Ex} (D : Df K mg "_law_turned" ["_law_hand_here", "_law_texts"] sTurned f fd) (T : Txt K mg C e) (cT : Ca P w K mg base 1 "_law_take" ["_law_hand_here", "_law_many"] spTake) : FnOk P w K mg base CX0 2 f fd ["_law_hand_here", "_law_texts"] spTu := by
  refine D.fn.ok scTurned (fun vs H Q E h => ?_) (fun cdv A outer s H vs Q E hr h => ?_)
  · obtain ⟨h, l, n, ts, rfl, el, lh, l20, al, hd, hn, q⟩ := h
    rfl
  · obtain ⟨h, l, n, ts, rfl, el, lh, l20, al, hd, hn, q⟩ := h
    refine ⟨_, (pss_cons (ps_par (i := 2) (j := 3) (by rfl) scTurned.nd rfl rfl (by decide) rfl rfl (pa_cons (pe_callTy call_list_of (by rfl) T.list (by decide +kernel) (pa_cons (pv 1) pa_nil)) (pa_cons (pe_lst pa_nil) pa_nil)) (by rfl))
      (pss_cons (ps_while PassesOwn.never (pt_cmpR (op_neD hr.units) (pv 2) (pe_lst pa_nil) (nomark _)) (pss_one (ps_expr (pe_bm PySem.F.plainAttrs_list PySem.F.slot_list_append PySem.F.type_list_append mt_append (pv 3) (pa_cons (pe_bm PySem.F.plainAttrs_list PySem.F.slot_list_pop PySem.F.type_list_pop mt_popAt (pv 2) (pa_cons (pe_ca cT hr (by decide) (by rfl) (pa_cons (pv 0) (pa_cons (pe_callB call_len_seq (by rfl) T.len PySem.boot_len (pa_cons (pv 2) pa_nil)) pa_nil))) pa_nil)) pa_nil)))))
      (pss_one (ps_ret (pv 3))))), ?_⟩
    have fr : n + 100 ≤ 1000000 := hn
    refine ⟨_, rfl, l, _, rfl, .inl (SqL.of el), fun L nL => ⟨(by show 0 ≤ sizeLine; decide), fun F nF => ⟨_, _, rfl, ?_⟩⟩⟩
    have sL := same_upd nL (o := .lst (ts.map V.str))
    have eL : (upd H L (.lst (ts.map V.str))) L = some (.lst (ts.map V.str)) := upd_same
    have Lh := hd.fresh nL
    have hd1 := hd.same sL
    generalize upd H L (.lst (ts.map V.str)) = H1 at sL eL nF hd1 ⊢
    have FL : L ≠ F := fun z => by rw [← z, eL] at nF; cases nF
    have sF := same_upd nF (o := .lst [])
    have eF : (upd H1 F (.lst [])) F = some (.lst (([] : List Str).map V.str)) := upd_same
    have Fh := hd1.fresh nF
    have HF : H F = none := same_none sL nF
    have eL2 := sF _ _ eL
    have hd2 := hd1.same sF
    have s2 := sL.trans sF
    generalize upd H1 F (.lst []) = H2 at s2 eF eL2 hd2 ⊢
    clear sL sF eL nF hd1 H1
    refine ⟨fun m σ Hi => ∃ (xs ys : List Str), σ = [some (.ref h), some (.ref l), some (.ref L), some (.ref F)] ∧ m = xs.length ∧ xs.length ≤ 20 ∧ Hi L = some (.lst (xs.map V.str)) ∧ Hi F = some (.lst (ys.map V.str)) ∧ (ys ++ xs).Perm ts ∧ Hand (n + 20 - (xs.length : Int)) Hi h ∧ But h H Hi, ⟨_, ts, [], rfl, rfl, l20, eL2, eF, List.Perm.refl _, hd2.mono (by omega), Same.but s2 h⟩, ?_⟩
    rintro m σ Hi ⟨xs, ys, rfl, rfl, x20, eLi, eFi, pm, hdi, bi⟩
    have lp := pm.length_eq
    rw [List.length_append] at lp
    have alx : ∀ t ∈ xs, As t 500 := fun t ht => al t (pm.mem_iff.mp (List.mem_append_right _ ht))
    refine ⟨_, rfl, (by show 0 ≤ sizeLine; decide), fun z nz => ?_⟩
    have sz := same_upd nz (o := .lst [])
    refine ⟨_, _, txt_dp (sz _ _ eLi), txt_dp (ts := []) upd_same, sh1 alx, sh1 (fun t ht => by cases ht), _, rfl, ?_⟩
    have ez : PyData.eqv (.list (xs.map PyData.str)) (.list (([] : List Str).map PyData.str)) = xs.isEmpty := by
      cases xs with
      | nil => simp [PyData.eqv, PyData.eqvAll]
      | cons a r => simp [PyData.eqv, PyData.eqvAll]
    rw [ez]
    have eLz := sz _ _ eLi
    have eFz := sz _ _ eFi
    have hdz := hdi.same sz
    have bz := bi.trans (Same.but sz h)
    generalize upd Hi z (.lst []) = H3 at eLz eFz hdz bz ⊢
    clear sz nz eLi eFi hdi bi
    refine ite2 (fun e => ?_) (fun e => ?_)
    · have pos : 0 < xs.length := by
        cases xs with
        | nil => cases e
        | cons a r => exact Nat.succ_pos _
      refine ⟨fun σ' H' => ∃ m', m' < xs.length ∧ ∃ (xs' ys : List Str), σ' = [some (.ref h), some (.ref l), some (.ref L), some (.ref F)] ∧ m' = xs'.length ∧ xs'.length ≤ 20 ∧ H' L = some (.lst (xs'.map V.str)) ∧ H' F = some (.lst (ys.map V.str)) ∧ (ys ++ xs').Perm ts ∧ Hand (n + 20 - (xs'.length : Int)) H' h ∧ But h H H', fun σ' H' z => z, ?_⟩
      refine ⟨_, rfl, .inl ⟨rfl, _, SqL.of eFz⟩, _, rfl, .inl ⟨rfl, _, SqL.of eLz⟩, _, rfl, _, rfl, L, _, rfl, .inl (SqL.of eLz), h, ((xs.map V.str).length : Int), _, rfl, by rw [List.length_map]; omega, ?_, hdz, by show _ ≤ 1000000; omega, fun d H4 d0 d1 h4 b4 => ?_⟩
      · rw [List.length_map]
        exact Int.lt_of_le_of_lt (show (xs.length : Int) ≤ 20 by omega) (by decide)
      · rw [List.length_map] at d1
        obtain ⟨j, rfl⟩ : ∃ j : Nat, d = (j : Int) := ⟨d.toNat, by omega⟩
        have hj : j < xs.length := by omega
        have eL4 := b4 _ _ Lh eLz
        have eF4 := b4 _ _ Fh eFz
        refine ⟨L, xs.map V.str, (j : Int), j, .str xs[j], rfl, rfl, eL4, Int.le_trans (by decide) (Int.natCast_nonneg j), ?_, by rw [List.length_map]; exact ix_nat hj, by rw [List.getElem?_map, List.getElem?_eq_getElem hj]; rfl, ?_⟩
        · exact Int.lt_of_le_of_lt (show (j : Int) ≤ 20 by omega) (by decide)
        · refine ⟨F, _, _, rfl, rfl, (by rw [upd_ne FL.symm]; exact eF4), by rw [List.length_map]; exact Nat.lt_of_le_of_lt (show ys.length ≤ 100 by omega) (by decide), ?_⟩
          have le1 : (xs.eraseIdx j).length = xs.length - 1 := List.length_eraseIdx_of_lt hj
          refine ⟨_, by omega, xs.eraseIdx j, ys ++ [xs[j]], rfl, le1.symm, by omega, ?_, ?_, ?_, ?_, ?_⟩
          · rw [upd_ne FL, upd_same, erase_map]
          · rw [upd_same, List.map_append]; rfl
          · rw [List.append_assoc]
            exact ((erase_pm xs j _ (List.getElem?_eq_getElem hj)).append_left ys).trans pm
          · rw [le1]
            exact ((h4.upd Lh.symm).upd Fh.symm).mono (by omega)
          · refine fun b o nb eb => ?_
            have bL : b ≠ L := fun z => by rw [z, nL] at eb; cases eb
            have bF : b ≠ F := fun z => by rw [z, HF] at eb; cases eb
            rw [upd_ne bF, upd_ne bL]
            exact b4 _ _ nb (bz _ _ nb eb)
    · have x0 : xs = [] := by
        cases xs with
        | nil => rfl
        | cons a r => exact absurd rfl e
      subst x0
      rw [List.append_nil] at pm
      exact ⟨_, rfl, q F ys H3 eFz Fh pm (hdz.mono (by simp)) bz⟩
end
end K79
set_option Elab.async false
set_option linter.all false
set_option maxRecDepth 100000
set_option maxHeartbeats 4000000
set_option pp.maxSteps 400
set_option pp.deepTerms false
namespace K79
open PySem PySem.Spec PyProof.Rows L2
open Xk Az
section
variable {P : Program} {w : World} {K : PySem.W.Frag} {mg : Str → Option Value} {base : Heap} {C : Addr}
theorem eqv_nil (xs : List Str) : PyData.eqv (.list (xs.map PyData.str)) (.list (([] : List Str).map PyData.str)) = xs.isEmpty := by
  cases xs with
  | nil => simp [PyData.eqv, PyData.eqvAll]
  | cons a r => simp [PyData.eqv, PyData.eqvAll]
theorem neL {H : Hp} {L : Addr} {xs : List Str} {Q : V → Hp → Prop} (al : ∀ t ∈ xs, As t 500) (e : H L = some (.lst (xs.map V.str))) (h : ∀ H', L2.Same H H' → Q (.bl (!xs.isEmpty)) H') : 0 ≤ sizeLine ∧ ∀ z, H z = none → rNeD K (.ref L) (.ref z) (upd H z (.lst [])) Q := by
  refine ⟨by decide, fun z nz => ?_⟩
  have sz := same_upd nz (o := .lst [])
  refine ⟨_, _, txt_dp (sz _ _ e), txt_dp (ts := []) upd_same, sh1 al, sh1 (fun t ht => by cases ht), ?_⟩
  rw [eqv_nil]
  exact h _ sz
theorem eqL {H : Hp} {L : Addr} {xs : List Str} {Q : V → Hp → Prop} (al : ∀ t ∈ xs, As t 500) (e : H L = some (.lst (xs.map V.str))) (h : ∀ H', L2.Same H H' → Q (.bl xs.isEmpty) H') : 0 ≤ sizeLine ∧ ∀ z, H z = none → rEqD K (.ref L) (.ref z) (upd H z (.lst [])) Q := by
  refine ⟨by decide, fun z nz => ?_⟩
  have sz := same_upd nz (o := .lst [])
  refine ⟨_, _, txt_dp (sz _ _ e), txt_dp (ts := []) upd_same, sh1 al, sh1 (fun t ht => by cases ht), ?_⟩
  rw [eqv_nil]
  exact h _ sz
/-- the three lists, where they lie -/
structure MS (H H' : Hp) (F L M : Addr) (xs ys zs : List Str) : Prop where
  eF : H' F = some (.lst (zs.map V.str))
  eL : H' L = some (.lst (xs.map V.str))
  eM : H' M = some (.lst (ys.map V.str))
  nF : H F = none
  nL : H L = none
  nM : H M = none
  FL : F ≠ L
  FM : F ≠ M
  LM : L ≠ M
  sm : L2.Same H H'
theorem MS.same {H H' H2 : Hp} {F L M : Addr} {xs ys zs : List Str} (m : MS H H' F L M xs ys zs) (s : L2.Same H' H2) : MS H H2 F L M xs ys zs :=
  ⟨s _ _ m.eF, s _ _ m.eL, s _ _ m.eM, m.nF, m.nL, m.nM, m.FL, m.FM, m.LM, m.sm.trans s⟩
theorem MS.popL {H H' : Hp} {F L M : Addr} {x : Str} {xs ys zs : List Str} (m : MS H H' F L M (x :: xs) ys zs) : MS H (upd (upd H' L (.lst (xs.map V.str))) F (.lst (zs.map V.str ++ [V.str x]))) F L M xs ys (zs ++ [x]) := by
  refine ⟨by rw [upd_same, List.map_append]; rfl, by rw [upd_ne m.FL.symm, upd_same], by rw [upd_ne m.FM.symm, upd_ne m.LM.symm]; exact m.eM, m.nF, m.nL, m.nM, m.FL, m.FM, m.LM, fun b o e => ?_⟩
  have bL : b ≠ L := fun z => by rw [z, m.nL] at e; cases e
  have bF : b ≠ F := fun z => by rw [z, m.nF] at e; cases e
  rw [upd_ne bF, upd_ne bL]
  exact m.sm _ _ e
theorem MS.popM {H H' : Hp} {F L M : Addr} {y : Str} {xs ys zs : List Str} (m : MS H H' F L M xs (y :: ys) zs) : MS H (upd (upd H' M (.lst (ys.map V.str))) F (.lst (zs.map V.str ++ [V.str y]))) F L M xs ys (zs ++ [y]) := by
  refine ⟨by rw [upd_same, List.map_append]; rfl, by rw [upd_ne m.FL.symm, upd_ne m.LM]; exact m.eL, by rw [upd_ne m.FM.symm, upd_same], m.nF, m.nL, m.nM, m.FL, m.FM, m.LM, fun b o e => ?_⟩
  have bM : b ≠ M := fun z => by rw [z, m.nM] at e; cases e
  have bF : b ≠ F := fun z => by rw [z, m.nF] at e; cases e
  rw [upd_ne bF, upd_ne bM]
  exact m.sm _ _ e
/-- two rows being put into one -/
def MgI (c : Cg) (ts : List Str) (H : Hp) (a F L M : Addr) (m : Nat) (σ : L2.St) (Hi : Hp) : Prop := ∃ (xs ys zs : List Str), σ = [some (.ref a), some (.ref L), some (.ref M), some (.ref F)] ∧ m = xs.length + ys.length ∧ MS H Hi F L M xs ys zs ∧ Mg c ts xs ys zs
theorem leC_head {c : Cg} {x y : Str} {ys : List Str} (py : (y :: ys).Pairwise (fun a b => leC c a b = true)) (h : leC c x y = true) : ∀ z ∈ y :: ys, leC c x z = true := fun z hz => by
  rcases List.mem_cons.mp hz with e | m
  · rw [e]; exact h
  · exact (leC_total c).trans x y z h ((List.pairwise_cons.mp py).1 z m)
theorem ok_mg {f : Addr} {fd : FuncData} {e : Ex} {fK : Addr} {fdK : FuncData} (D : Df K mg "_law_merged" ["_law_custom", "_law_one", "_law_other"] sMerged f fd) (T : Txt K mg C e) (mK : Mt P w K mg base C "rank" 3 fK fdK ["self", "text"] (spRank K C)) : FnOk P w K mg base CX0 4 f fd ["_law_custom", "_law_one", "_law_other"] (spMg K C) := by
  refine D.fn.ok scMerged (fun vs H Q E h => ?_) (fun cdv A outer s H vs Q E hr h => ?_)
  · obtain ⟨a, l1, l2, c, ts, xs, ys, rfl, at_, gc, e1, e2, al, tl, mg0, q⟩ := h
    rfl
  · obtain ⟨a, l1, l2, c, ts, xs, ys, rfl, at_, gc, e1, e2, al, tl, mg0, q⟩ := h
    refine ⟨_, (pss_cons (ps_par3 (i := 3) (j := 1) (l := 2) (by rfl) scMerged.nd rfl rfl rfl (by decide) (by decide) (by decide) rfl rfl rfl (pa_cons (pe_lst pa_nil) (pa_cons (pe_callTy call_list_of (by rfl) T.list (by decide +kernel) (pa_cons (pv 1) pa_nil)) (pa_cons (pe_callTy call_list_of (by rfl) T.list (by decide +kernel) (pa_cons (pv 2) pa_nil)) pa_nil))) (by rfl))
      (pss_cons (ps_while PassesOwn.never (PW.pt (pw_or (pt_cmpR (op_neD hr.units) (pv 1) (pe_lst pa_nil) (nomark _)) (pw_or1 (pt_cmpR (op_neD hr.units) (pv 2) (pe_lst pa_nil) (nomark _))))) (pss_one (ps_if (PW.pt (pw_or (pt_cmpR (op_eqD hr.units) (pv 2) (pe_lst pa_nil) (nomark _)) (pw_or1 (PW.pt (pw_and (pt_cmpR (op_neD hr.units) (pv 1) (pe_lst pa_nil) (nomark _)) (pw_and1 (pt_cmpR (Xmk.op_leD hr.units) (pe_meth (pv 0) T.cl mK.m mK.ok (hr.mono (by decide)) mK.bd .nil pass0 (pa_cons (pe_ix ix_list (pv 1) pe_int (fun _ _ => rfl)) pa_nil)) (pe_meth (pv 0) T.cl mK.m mK.ok (hr.mono (by decide)) mK.bd .nil pass0 (pa_cons (pe_ix ix_list (pv 2) pe_int (fun _ _ => rfl)) pa_nil)) (nomark _)))))))) (pss_one (ps_expr (pe_bm PySem.F.plainAttrs_list PySem.F.slot_list_append PySem.F.type_list_append mt_append (pv 3) (pa_cons (pe_bm PySem.F.plainAttrs_list PySem.F.slot_list_pop PySem.F.type_list_pop mt_popAt (pv 1) (pa_cons pe_int pa_nil)) pa_nil)))) (pss_one (ps_expr (pe_bm PySem.F.plainAttrs_list PySem.F.slot_list_append PySem.F.type_list_append mt_append (pv 3) (pa_cons (pe_bm PySem.F.plainAttrs_list PySem.F.slot_list_pop PySem.F.type_list_pop mt_popAt (pv 2) (pa_cons pe_int pa_nil)) pa_nil)))))))
      (pss_one (ps_ret (pv 3))))), ?_⟩
    refine ⟨(by show 0 ≤ sizeLine; decide), fun F nF => ⟨_, rfl, l1, _, rfl, .inl (SqL.of (same_upd nF _ _ e1)), fun L nL => ⟨_, rfl, l2, _, rfl, .inl (SqL.of (same_upd nL _ _ (same_upd nF _ _ e2))), fun M nM => ⟨_, _, _, rfl, ?_⟩⟩⟩⟩
    have s1 := same_upd nF (o := .lst [])
    have s2 := same_upd nL (o := .lst (xs.map V.str))
    have s3 := same_upd nM (o := .lst (ys.map V.str))
    have eF : (upd H F (.lst [])) F = some (.lst (([] : List Str).map V.str)) := upd_same
    have eL := upd_same (H := upd H F (.lst [])) (a := L) (o := .lst (xs.map V.str))
    have FL : F ≠ L := fun z => by rw [← z, eF] at nL; cases nL
    have FM : F ≠ M := fun z => by rw [← z, s2 _ _ eF] at nM; cases nM
    have LM : L ≠ M := fun z => by rw [← z, eL] at nM; cases nM
    have ms0 : MS H (upd (upd (upd H F (.lst [])) L (.lst (xs.map V.str))) M (.lst (ys.map V.str))) F L M xs ys [] := ⟨s3 _ _ (s2 _ _ eF), s3 _ _ eL, upd_same, nF, same_none s1 nL, same_none (s1.trans s2) nM, FL, FM, LM, (s1.trans s2).trans s3⟩
    generalize upd (upd (upd H F (.lst [])) L (.lst (xs.map V.str))) M (.lst (ys.map V.str)) = H1 at ms0 ⊢
    clear eF eL s1 s2 s3
    refine ⟨MgI c ts H a F L M, ⟨_, xs, ys, [], rfl, rfl, ms0, mg0⟩, ?_⟩
    clear nF nL nM FL FM LM ms0 H1 mg0 e1 e2 xs ys
    rintro m σ Hi ⟨xs, ys, zs, rfl, rfl, ms, mg⟩
    have ln := mg.pm.length_eq
    rw [List.length_append, List.length_append] at ln
    have alx : ∀ t ∈ xs, As t 500 := fun t ht => al t (mg.pm.mem_iff.mp (List.mem_append_right _ (List.mem_append_left _ ht)))
    have aly : ∀ t ∈ ys, As t 500 := fun t ht => al t (mg.pm.mem_iff.mp (List.mem_append_right _ (List.mem_append_right _ ht)))
    have zs1 : (zs.map V.str).length < sizeLine := by rw [List.length_map]; exact Nat.lt_of_le_of_lt (show zs.length ≤ 100 by omega) (by decide)
    have nx : ∀ {m' : Nat} {xs' ys' zs' : List Str} {H' : Hp}, m' = xs'.length + ys'.length → m' < xs.length + ys.length → MS H H' F L M xs' ys' zs' → Mg c ts xs' ys' zs' → ∃ m', m' < xs.length + ys.length ∧ MgI c ts H a F L M m' [some (.ref a), some (.ref L), some (.ref M), some (.ref F)] H' := fun e l ms mg => ⟨_, l, _, _, _, rfl, e, ms, mg⟩
    refine ⟨_, rfl, neL alx ms.eL fun H3 s3 => ⟨_, rfl, ?_⟩⟩
    replace ms := ms.same s3
    clear s3
    cases xs with
    | nil =>
      refine iteF ⟨_, rfl, neL aly ms.eM fun H4 s4 => ⟨_, rfl, ?_⟩⟩
      replace ms := ms.same s4
      cases ys with
      | nil =>
        refine iteF ⟨_, rfl, ?_⟩
        have pm := mg.pm
        rw [List.append_nil, List.append_nil] at pm
        have es := sorted_is pm mg.pz
        refine q F H4 ?_ ms.sm
        rw [← es]
        exact ms.eF
      | cons y ys =>
        refine iteT ⟨fun σ' H' => ∃ m', m' < ([] : List Str).length + (y :: ys).length ∧ MgI c ts H a F L M m' σ' H', fun σ' H' z => z, ?_⟩
        refine ⟨_, rfl, eqL aly ms.eM fun H5 s5 => ⟨_, rfl, iteF ?_⟩⟩
        replace ms := ms.same s5
        refine ⟨_, rfl, neL alx ms.eL fun H6 s6 => ⟨_, rfl, iteF ?_⟩⟩
        replace ms := ms.same s6
        refine ⟨_, rfl, .inl ⟨rfl, _, SqL.of ms.eF⟩, _, rfl, .inl ⟨rfl, _, SqL.of ms.eM⟩, M, (y :: ys).map V.str, 0, 0, .str y, rfl, rfl, ms.eM, by decide, by decide, ix_nat (i := 0) (Nat.succ_pos _), rfl, ?_⟩
        exact ⟨F, _, _, rfl, rfl, by rw [upd_ne ms.FM]; exact ms.eF, zs1, nx rfl (by simp) ms.popM (mg.right fun x hx => by cases hx)⟩
    | cons x xs =>
      refine iteT ⟨fun σ' H' => ∃ m', m' < (x :: xs).length + ys.length ∧ MgI c ts H a F L M m' σ' H', fun σ' H' z => z, ?_⟩
      refine ⟨_, rfl, eqL aly ms.eM fun H5 s5 => ⟨_, rfl, ?_⟩⟩
      replace ms := ms.same s5
      cases ys with
      | nil =>
        refine iteT ⟨_, rfl, .inl ⟨rfl, _, SqL.of ms.eF⟩, _, rfl, .inl ⟨rfl, _, SqL.of ms.eL⟩, L, (x :: xs).map V.str, 0, 0, .str x, rfl, rfl, ms.eL, by decide, by decide, ix_nat (i := 0) (Nat.succ_pos _), rfl, ?_⟩
        exact ⟨F, _, _, rfl, rfl, by rw [upd_ne ms.FL]; exact ms.eF, zs1, nx rfl (by simp) ms.popL (mg.left fun y hy => by cases hy)⟩
      | cons y ys =>
        refine iteF ⟨_, rfl, neL alx ms.eL fun H6 s6 => ⟨_, rfl, iteT ?_⟩⟩
        replace ms := ms.same s6
        have ax := alx x List.mem_cons_self
        have ay := aly y List.mem_cons_self
        obtain ⟨dx, fs, ei, f1, _⟩ := cu_all at_
        refine ⟨_, rfl, a, dx, fs, rfl, ms.sm _ _ ei, f1, _, rfl, L, _, ((0 : Nat) : Int), .str x, rfl, rfl, SqL.of ms.eL, atI_nat rfl, a, c, x, rfl, at_.same ms.sm, gc, ax, fun v1 H7 rk1 s7 => ?_⟩
        replace ms := ms.same s7
        refine ⟨_, rfl, a, dx, fs, rfl, ms.sm _ _ ei, f1, _, rfl, M, _, ((0 : Nat) : Int), .str y, rfl, rfl, SqL.of ms.eM, atI_nat rfl, a, c, y, rfl, at_.same ms.sm, gc, ay, fun v2 H8 rk2 s8 => ?_⟩
        replace ms := ms.same s8
        refine ⟨dRk c x, dRk c y, (rk1.tk s8.tk).dp, rk2.dp, alike_rk c x y, (by intro z; cases z), Nat.le_trans (nice_rk gc.lv ax).dp (by decide), _, rfl, ?_⟩
        have eb : (!PySem.W.dataLt (dRk c y) (dRk c x)) = leC c x y := rfl
        rw [eb]
        cases e : leC c x y with
        | true =>
          refine iteT ⟨_, rfl, .inl ⟨rfl, _, SqL.of ms.eF⟩, _, rfl, .inl ⟨rfl, _, SqL.of ms.eL⟩, L, (x :: xs).map V.str, 0, 0, .str x, rfl, rfl, ms.eL, by decide, by decide, ix_nat (i := 0) (Nat.succ_pos _), rfl, ?_⟩
          exact ⟨F, _, _, rfl, rfl, by rw [upd_ne ms.FL]; exact ms.eF, zs1, nx rfl (by simp) ms.popL (mg.left (leC_head mg.py e))⟩
        | false =>
          have e2 : leC c y x = true := by
            rcases (leC_total c).total x y with z | z
            · rw [z] at e; cases e
            · exact z
          refine iteF ⟨_, rfl, .inl ⟨rfl, _, SqL.of ms.eF⟩, _, rfl, .inl ⟨rfl, _, SqL.of ms.eM⟩, M, (y :: ys).map V.str, 0, 0, .str y, rfl, rfl, ms.eM, by decide, by decide, ix_nat (i := 0) (Nat.succ_pos _), rfl, ?_⟩
          exact ⟨F, _, _, rfl, rfl, by rw [upd_ne ms.FM]; exact ms.eF, zs1, nx rfl (by simp) ms.popM (mg.right (leC_head mg.px e2))⟩
end
end K79
set_option Elab.async false
set_option linter.all false
set_option maxRecDepth 100000
set_option maxHeartbeats 4000000
set_option pp.maxSteps 400
set_option pp.deepTerms false
namespace K79
open PySem PySem.Spec PyProof.Rows L2
open Xk Az
section
variable {P : Program} {w : World} {K : PySem.W.Frag} {mg : Str → Option Value} {base : Heap} {C : Addr}
abbrev psO : List Str := ["self", "texts", "down"]
/-- the method that puts in order: by places, by names -/
structure Om (P : Program) (w : World) (K : PySem.W.Frag) (mg : Str → Option Value) (base : Heap) (C : Addr) (f : Addr) (fd : FuncData) : Prop where
  m : Meth K C "in_order" f
  ok : FnOk P w K mg base CX0 6 f fd psO (spOrd K C)
  b3 : Binds K fd psO []
  b2 : ∃ ds, Vals [.bl false] ds ∧ Binds K fd psO ds
  k2 : ∃ its, KBn K fd psO 1 ["texts", "down"] (fun us ws => g1 us its ws) (fun vs zs => g1 vs [.bl false] zs)
  k1 : ∃ its, KBn K fd psO 2 ["down"] (fun us ws => g1 us its ws) (fun vs zs => g1 vs [.bl false] zs)
theorem om_mk {f : Addr} {fd : FuncData} (F : FunD K "in_order" "Custom.in_order" (defArgs sCustomInOrder) (defBody sCustomInOrder) (defScope sCustomInOrder) [.bl false] [] f fd) (m : Meth K C "in_order" f)
    (ok : FnOk P w K mg base CX0 6 f fd psO (spOrd K C)) : Om P w K mg base C f fd := by
  refine ⟨m, ok, ?_, ?_, ?_, ?_⟩
  · obtain ⟨ds, r, b⟩ := F.binds1 (ps := psO) 3 1 (by simp) rfl fun T kV doc pm an cdv ct us its h1 h2 => by
      match us, its, h1, h2 with
      | [_, _, _], [_], _, _ => exact ⟨_, rfl, rfl⟩
    cases r
    exact b
  · exact F.binds1 (ps := psO) 2 0 (by simp) rfl fun T kV doc pm an cdv ct us its h1 h2 => by
      match us, its, h1, h2 with
      | [_, _], [_], _, _ => exact ⟨_, rfl, rfl⟩
  · exact F.kbindsD (ps := psO) 1 ["texts", "down"] (fun us ds ws => g1 us ds ws) (by simp) (fun r _ t => Vals.append r t) fun T kV doc pm an cdv ct us its ws h1 h2 h3 => by
      match us, its, ws, h1, h2, h3 with
      | [_], [_], [_, _], _, _, _ => exact ⟨_, rfl, rfl⟩
  · exact F.kbindsD (ps := psO) 2 ["down"] (fun us ds ws => g1 us ds ws) (by simp) (fun r _ t => Vals.append r t) fun T kV doc pm an cdv ct us its ws h1 h2 h3 => by
      match us, its, ws, h1, h2, h3 with
      | [_, _], [_], [_], _, _, _ => exact ⟨_, rfl, rfl⟩
/-- what stands while a custom is looked at -/
structure Fc (K : PySem.W.Frag) (C h : Addr) (n : Int) (vG vS : V) (one : Addr) (c : Cg) (H Hx : Hp) : Prop where
  lG : LP Hx vG c.1
  lS : GP Hx vS c.2.1
  at_ : CuAt K C Hx one c
  hd : Hand n Hx h
  bt : But h H Hx
theorem Fc.same {h one : Addr} {n : Int} {vG vS : V} {c : Cg} {H Hx Hy : Hp} (x : Fc K C h n vG vS one c H Hx) (s : L2.Same Hx Hy) : Fc K C h n vG vS one c H Hy :=
  ⟨x.lG.tk s.tk, x.lS.tk s.tk, x.at_.same s, x.hd.same s, x.bt.trans (Same.but s h)⟩
theorem Fc.but {h one : Addr} {n n' : Int} {vG vS : V} {c : Cg} {H Hx Hy : Hp} (x : Fc K C h n vG vS one c H Hx) (b : But h Hx Hy) (hd : Hand n' Hy h) : Fc K C h n' vG vS one c H Hy :=
  ⟨x.lG.tk (tk_but x.hd b), x.lS.tk (tk_but x.hd b), x.at_.but x.hd b, hd, x.bt.trans b⟩
theorem srt_as {c : Cg} {ts : List Str} {n : Nat} (h : ∀ t ∈ ts, As t n) : ∀ t ∈ srt c ts, As t n := fun t ht => h t ((List.mergeSort_perm ts (leC c)).mem_iff.mp ht)
theorem rev_as {ts : List Str} {n : Nat} (h : ∀ t ∈ ts, As t n) : ∀ t ∈ ts.reverse, As t n := fun t ht => h t (List.mem_reverse.mp ht)
def RkL (c : Cg) (H : Hp) : List V → List Str → Prop
  | [], [] => True
  | v :: xs, y :: ys => RkAt H v c y ∧ RkL c H xs ys
  | _, _ => False
theorem RkL.tk {c : Cg} {H H' : Hp} (s : Tk H H') : ∀ {xs : List V} {gs : List Str}, RkL c H xs gs → RkL c H' xs gs
  | [], [], h => h
  | _ :: _, _ :: _, h => ⟨h.1.tk s, RkL.tk s h.2⟩
  | [], _ :: _, h => h.elim
  | _ :: _, [], h => h.elim
theorem RkL.length {c : Cg} {H : Hp} : ∀ {xs : List V} {gs : List Str}, RkL c H xs gs → xs.length = gs.length
  | [], [], _ => rfl
  | _ :: _, _ :: _, h => congrArg Nat.succ (RkL.length h.2)
  | [], _ :: _, h => h.elim
  | _ :: _, [], h => h.elim
theorem RkL.get {c : Cg} {H : Hp} : ∀ {xs : List V} {gs : List Str} {i : Nat} {v : V}, RkL c H xs gs → xs[i]? = some v → ∃ y, gs[i]? = some y ∧ RkAt H v c y
  | _ :: _, y :: _, 0, _, h, e => ⟨y, rfl, by cases e; exact h.1⟩
  | _ :: _, _ :: _, i + 1, _, h, e => RkL.get (i := i) h.2 e
  | [], [], _, _, _, e => by cases e
  | [], _ :: _, _, _, h, _ => h.elim
  | _ :: _, [], _, _, h, _ => h.elim
theorem RkL.app {c : Cg} {H : Hp} {ys : List V} {hs : List Str} : ∀ {xs : List V} {gs : List Str}, RkL c H xs gs → RkL c H ys hs → RkL c H (xs ++ ys) (gs ++ hs)
  | [], [], _, h2 => h2
  | _ :: _, _ :: _, h, h2 => by
    rw [List.cons_append, List.cons_append]
    exact ⟨h.1, RkL.app h.2 h2⟩
  | [], _ :: _, h, _ => h.elim
  | _ :: _, [], h, _ => h.elim
theorem RkL.take {c : Cg} {H : Hp} : ∀ (k : Nat) {xs : List V} {gs : List Str}, RkL c H xs gs → RkL c H (xs.take k) (gs.take k)
  | 0, _, _, _ => by rw [List.take_zero, List.take_zero]; trivial
  | _ + 1, [], [], _ => trivial
  | k + 1, _ :: _, _ :: _, h => ⟨h.1, RkL.take k h.2⟩
  | _ + 1, [], _ :: _, h => h.elim
  | _ + 1, _ :: _, [], h => h.elim
theorem RkL.drop {c : Cg} {H : Hp} : ∀ (k : Nat) {xs : List V} {gs : List Str}, RkL c H xs gs → RkL c H (xs.drop k) (gs.drop k)
  | 0, _, _, h => h
  | _ + 1, [], [], _ => trivial
  | k + 1, _ :: _, _ :: _, h => RkL.drop k h.2
  | _ + 1, [], _ :: _, h => h.elim
  | _ + 1, _ :: _, [], h => h.elim
theorem sh_rk {c : Cg} {x : Str} (ax : As x 500) : SeqAt.shaped (dRk c x) = true := by
  obtain ⟨a1, b1⟩ := lay_ints (lets c.1 (bareT c.2.1 x))
  obtain ⟨a2, b2⟩ := lay_ints (lets c.1 x)
  have a3 := strOk_as ax
  unfold SeqAt.shaped dRk nT
  have h1 : (PyData.tuple [PyData.tuple ((lets c.1 (bareT c.2.1 x)).map fun n => PyData.int (n : Nat)), PyData.tuple ((lets c.1 x).map fun n => PyData.int (n : Nat)), .str x]).canLay0 = true := by simp only [PyData.canLay0, PyData.canLayAll0, a1, a2, a3, Bool.and_true]
  have h2 : (PyData.tuple [PyData.tuple ((lets c.1 (bareT c.2.1 x)).map fun n => PyData.int (n : Nat)), PyData.tuple ((lets c.1 x).map fun n => PyData.int (n : Nat)), .str x]).depth ≤ 64 := by
    simp only [PyData.depth, PyData.depthAll]
    omega
  rw [h1, decide_eq_true h2]
  rfl
theorem eqv_rk (c : Cg) (x y : Str) : PyData.eqv (dRk c x) (dRk c y) = decide (x = y) := by
  unfold dRk nT
  simp only [PyData.eqv, PyData.eqvAll, eqv_ints, Bool.and_true]
  by_cases h : x = y
  · subst h; simp
  · simp [h]
theorem same_one (x y : Str) : (!decide (V.bl (decide (x = y)) = V.bl (decide (V.str x = V.str y)))) = false := by
  by_cases h : x = y
  · subst h; simp
  · have h2 : V.str x ≠ V.str y := fun z => h (by injection z)
    rw [decide_eq_false h, decide_eq_false h2]
    decide
def leS (x y : Str) : Bool := !PyProof.Rows.strKind.blt y.cps.toList x.cps.toList
theorem leS_trans (x y z : Str) (h1 : leS x y = true) (h2 : leS y z = true) : leS x z = true := by
  unfold leS at *
  cases e : PyProof.Rows.strKind.blt z.cps.toList x.cps.toList with
  | false => rfl
  | true =>
    rcases PyProof.Rows.strKind.negTrans _ y.cps.toList _ e with w | w
    · rw [w] at h2; cases h2
    · rw [w] at h1; cases h1
theorem leS_total (x y : Str) : (leS x y || leS y x) = true := by
  unfold leS
  cases e : PyProof.Rows.strKind.blt y.cps.toList x.cps.toList with
  | false => rfl
  | true =>
    cases e2 : PyProof.Rows.strKind.blt x.cps.toList y.cps.toList with
    | false => rfl
    | true =>
      have w := PyProof.Rows.strKind.trans _ _ _ e e2
      rw [PyProof.Rows.strKind.irrefl] at w
      cases w
theorem leS_anti (x y : Str) (h1 : leS x y = true) (h2 : leS y x = true) : x = y := by
  unfold leS at *
  refine str_eq (PyProof.Rows.strKind.total _ _ ?_ ?_)
  · simpa using h2
  · simpa using h1
theorem rising_pw : ∀ (l : List Str) (p : Str), PyProof.Rows.risingS p l = true → (p :: l).Pairwise (fun a b => leS a b = true)
  | [], p, _ => List.pairwise_singleton _ _
  | x :: r, p, h => by
    have h' : (!ltCps x.cps.toList p.cps.toList && PyProof.Rows.risingS x r) = true := h
    rw [Bool.and_eq_true] at h'
    obtain ⟨h1, h2⟩ := h'
    have px : leS p x = true := by
      unfold leS
      rw [PyProof.Rows.ltCps_eq] at h1
      exact h1
    have w := rising_pw r x h2
    refine List.pairwise_cons.mpr ⟨fun z hz => ?_, w⟩
    rcases List.mem_cons.mp hz with e | m
    · rw [e]; exact px
    · exact leS_trans p x z px ((List.pairwise_cons.mp w).1 z m)
theorem sorted_pw {l : List Str} (h : PyProof.Rows.sortedS l = true) : l.Pairwise (fun a b => leS a b = true) := by
  cases l with
  | nil => exact .nil
  | cons x r => exact rising_pw r x h
theorem sorted_one {ys zs : List Str} (pm : ys.Perm zs) (h1 : PyProof.Rows.sortedS ys = true) (h2 : PyProof.Rows.sortedS zs = true) : ys = zs :=
  (PySem.W.Srt.the_of_perm leS leS_trans leS_total leS_anti pm (sorted_pw h1)).trans (PySem.W.Srt.the_of_perm leS leS_trans leS_total leS_anti (List.Perm.refl zs) (sorted_pw h2)).symm
theorem ne_row (us : List Str) : (!PyData.eqv (.list (us.map PyData.str)) (.list (us.map PyData.str))) = false := by rw [eqv_self]; rfl
/-- what is asked of a row in order -/
def spSR (K : PySem.W.Frag) (C : Addr) : Sp := fun vs H Q _ => ∃ (h a l : Addr) (n : Int) (c : Cg) (ts : List Str), vs = [.ref h, .ref a, .ref l] ∧ CuAt K C H a c ∧ GoodC c ∧ H l = some (.lst (ts.map V.str)) ∧ l ≠ h ∧ ts.length ≤ 20 ∧ (∀ t ∈ ts, As t 500) ∧ Hand n H h ∧ n + 200 ≤ far ∧ ∀ H', Hand (n + 30) H' h → But h H H' → Q (.bl true) H'
theorem ok_sr {f : Addr} {fd : FuncData} {e : Ex} {fK fO fS fR : Addr} {fdK fdO fdS fdR : FuncData} (D : Df K mg "_law_sorted_right" ["_law_hand_here", "_law_custom", "_law_texts"] sSortedRight f fd) (T : Txt K mg C e) (mK : Mt P w K mg base C "rank" 3 fK fdK ["self", "text"] (spRank K C)) (O : Om P w K mg base C fO fdO) (mS : Mt P w K mg base C "shown" 3 fS fdS ["self", "text"] (spShown K C)) (mR : Mt P w K mg base C "read" 2 fR fdR ["self", "text"] (spRead K C)) (cT : Ca P w K mg base 1 "_law_take" ["_law_hand_here", "_law_many"] spTake) (cTu : Ca P w K mg base 2 "_law_turned" ["_law_hand_here", "_law_texts"] spTu) (cMg : Ca P w K mg base 4 "_law_merged" ["_law_custom", "_law_one", "_law_other"] (spMg K C)) : FnOk P w K mg base CX0 7 f fd ["_law_hand_here", "_law_custom", "_law_texts"] (spSR K C) := by
  obtain ⟨_, ro, bo⟩ := O.b2
  obtain ⟨_, k1⟩ := O.k1
  refine D.fn.ok scSortedRight (fun vs H Q E h => ?_) (fun cdv A outer s H vs Q E hr h => ?_)
  · obtain ⟨h, a, l, n, c, ts, rfl, at_, gc, el, lh, l20, al, hd, hn, q⟩ := h
    rfl
  · obtain ⟨h, a, l, n, c, ts, rfl, at_, gc, el, lh, l20, al, hd, hn, q⟩ := h
    refine ⟨_, (pss_cons (ps_set (i := 3) scSortedRight.nd rfl (.inl rfl) (pe_meth (pv 1) T.cl O.m O.ok (hr.mono (by decide)) bo ro pass0 (pa_cons (pv 2) pa_nil)))
      (pss_cons (ps_if (PW.pt (pw_or (pt_cmpR (op_neD hr.units) (pe_meth (pv 1) T.cl O.m O.ok (hr.mono (by decide)) bo ro pass0 (pa_cons (pe_ca cTu hr (by decide) (by rfl) (pa_cons (pv 0) (pa_cons (pv 2) pa_nil))) pa_nil)) (pv 3) (nomark _)) (pw_or1 (pt_cmpR (op_neD hr.units) (Xmk.pe_methN (pv 1) T.cl O.m O.ok (hr.mono (by decide)) k1 pass0 (pa_cons (pv 2) pa_nil) (pk_cons pe_bl pk_nil)) (L2.pe_revL (pv 3)) (nomark _))))) (pss_one (ps_ret pe_bl)) pss_nil)
      (pss_cons (ps_set (i := 4) scSortedRight.nd rfl (.inl rfl) (pe_ca cT hr (by decide) (by rfl) (pa_cons (pv 0) (pa_cons (pe_op op_add (pe_callB call_len_seq (by rfl) T.len PySem.boot_len (pa_cons (pv 2) pa_nil)) pe_int) pa_nil))))
      (pss_cons (ps_if (pt_cmpR (op_neD hr.units) (pe_ca cMg hr (by decide) (by rfl) (pa_cons (pv 1) (pa_cons (pe_meth (pv 1) T.cl O.m O.ok (hr.mono (by decide)) bo ro pass0 (pa_cons (pe_slice sl_list (pv 2) po_none (po_some (pv 4))) pa_nil)) (pa_cons (pe_meth (pv 1) T.cl O.m O.ok (hr.mono (by decide)) bo ro pass0 (pa_cons (pe_slice sl_list (pv 2) (po_some (pv 4)) po_none) pa_nil)) pa_nil)))) (pv 3) (nomark _)) (pss_one (ps_ret pe_bl)) pss_nil)
      (C8.pss_cut (ps_setLc (i := 5) (own := [("_law_text_here", 7)]) (g := gName 7) (tt := tYes) (by rfl) scSortedRight.nd rfl rfl (sw_true rfl rfl rfl (by decide +kernel)) (pi_list (pv 3)) (blkOk_by (own := [("_law_text_here", 7)]) (N := ["_law_hand_here", "_law_custom", "_law_texts", "_law_due", "_law_cut", "_law_ranks", "_law_k", "_law_text_here"]) (sc := defScope sSortedRight) (by decide +kernel)) (fun _ _ _ _ _ => pg_name (i := 7) scSortedRight.nd rfl (.inl rfl)) (fun _ _ _ _ _ => pts_nil) (fun _ _ _ _ _ => pe_meth (pv 1) T.cl mK.m mK.ok (hr.mono (by decide)) mK.bd .nil pass0 (pa_cons (pv 7) pa_nil)))
      (C8.pss_cut (ps_for PassesOwn.never rfl (pi_range1 (by rfl) T.range (pa_cons (pe_op op_sub (pe_callB call_len_seq (by rfl) T.len PySem.boot_len (pa_cons (pv 5) pa_nil)) pe_int) pa_nil)) (pg_name (i := 6) scSortedRight.nd rfl (.inl rfl)) (pss_one (ps_if (PW.pt (pw_or (pt_not (pt_cmpR (Xmk.op_leD hr.units) (pe_ix ix_list (pv 5) (pv 6) (fun _ _ => rfl)) (pe_ix ix_list (pv 5) (pe_op op_add (pv 6) pe_int) (fun _ _ => rfl)) (nomark _))) (pw_or1 (pt_cmpR op_ne (pe_cmpR (op_eqD hr.units) (pe_ix ix_list (pv 5) (pv 6) (fun _ _ => rfl)) (pe_ix ix_list (pv 5) (pe_op op_add (pv 6) pe_int) (fun _ _ => rfl)) (nomark _)) (pe_cmpR op_eq (pe_ix ix_list (pv 3) (pv 6) (fun _ _ => rfl)) (pe_ix ix_list (pv 3) (pe_op op_add (pv 6) pe_int) (fun _ _ => rfl)) (nomark _)) (nomark _))))) (pss_one (ps_ret pe_bl)) pss_nil)))
      (pss_one (ps_ret (pe_and (pe_cmpR (op_eqD hr.units) (pe_lc (own := [("_law_text_here", 7)]) (g := gName 7) (tt := tYes) (by rfl) scSortedRight.nd (pi_list (pv 3)) (blkOk_by (own := [("_law_text_here", 7)]) (N := ["_law_hand_here", "_law_custom", "_law_texts", "_law_due", "_law_cut", "_law_ranks", "_law_k", "_law_text_here"]) (sc := defScope sSortedRight) (by decide +kernel)) (fun _ _ _ _ _ => pg_name (i := 7) scSortedRight.nd rfl (.inl rfl)) (fun _ _ _ _ _ => pts_nil) (fun _ _ _ _ _ => pe_meth (pv 1) T.cl mR.m mR.ok (hr.mono (by decide)) mR.bd .nil pass0 (pa_cons (pe_meth (pv 1) T.cl mS.m mS.ok (hr.mono (by decide)) mS.bd .nil pass0 (pa_cons (pv 7) pa_nil)) pa_nil))) (pv 3) (nomark _)) (pe_one (pe_cmpR (op_eqD hr.units) (pe_callB cr_sortedS (by rfl) T.sorted (by decide +kernel) (pa_cons (pv 3) pa_nil)) (pe_callB cr_sortedS (by rfl) T.sorted (by decide +kernel) (pa_cons (pv 2) pa_nil)) (nomark _)))))))))))), ?_⟩
    have fr : n + 200 ≤ 1000000 := hn
    obtain ⟨dx, fs, ei, f1, f2, fo, f4, f5⟩ := cu_all at_
    have as1 : ∀ t ∈ srt c ts, As t 500 := srt_as al
    refine ⟨_, rfl, a, dx, fs, rfl, ei, fo, _, rfl, a, l, false, c, ts, rfl, .inl (SqL.of el), al, at_, gc, fun D H1 nD s1 eD => ?_⟩
    rw [if_neg Bool.false_ne_true] at eD
    have Dh := hd.fresh nD
    have hd1 := hd.same s1
    have b1 : But h H H1 := Same.but s1 h
    have at1 := at_.same s1
    -- turned
    refine ⟨_, rfl, a, dx, fs, rfl, s1 _ _ ei, fo, _, rfl, _, rfl, h, l, n, ts, rfl, s1 _ _ el, lh, l20, al, hd1, by show n + 100 ≤ 1000000; omega, fun r us H2 er rh pm h2 b2 => ?_⟩
    have alu : ∀ t ∈ us, As t 500 := fun t ht => al t (pm.mem_iff.mp ht)
    have at2 := at1.but hd1 b2
    obtain ⟨dx2, fs2, ei2, g1, g2, go, g4, g5⟩ := cu_all at2
    have eD2 := b2 _ _ Dh eD
    have el2 := b2 _ _ lh (s1 _ _ el)
    have b02 := b1.trans b2
    clear f1 f2 f4 f5 fo ei dx fs hd1 b1 at1 b2 s1 eD
    refine ⟨a, r, false, c, us, rfl, .inl (SqL.of er), alu, at2, gc, fun r2 H3 n3 s3 e3 => ⟨_, rfl, ?_⟩⟩
    rw [if_neg Bool.false_ne_true, srt_perm pm] at e3
    refine ⟨_, _, txt_dp e3, txt_dp (s3 _ _ eD2), sh1 as1, sh1 as1, _, rfl, ?_⟩
    rw [ne_row]
    refine iteF ?_
    -- down
    refine ⟨_, rfl, a, dx2, fs2, rfl, s3 _ _ ei2, go, _, rfl, rfl, rfl, a, l, true, c, ts, rfl, .inl (SqL.of (s3 _ _ el2)), al, at2.same s3, gc, fun r3 H4 n4 s4 e4 => ?_⟩
    have s24 := s3.trans s4
    rw [if_pos rfl] at e4
    refine ⟨_, rfl, D, _, rfl, SqL.of (s24 _ _ eD2), fun p np => ?_⟩
    have sp := same_upd np (o := .lst ((srt c ts).map V.str).reverse)
    have ep : (upd H4 p (.lst ((srt c ts).map V.str).reverse)) p = some (.lst (((srt c ts).reverse).map V.str)) := by rw [upd_same, List.map_reverse]
    refine ⟨_, _, txt_dp (sp _ _ e4), txt_dp ep, sh1 (rev_as as1), sh1 (rev_as as1), _, rfl, ?_⟩
    rw [ne_row]
    have s25 := s24.trans sp
    generalize upd H4 p (.lst ((srt c ts).map V.str).reverse) = H5 at s25 ⊢
    clear sp ep s24 e4 s4 n4 e3 s3 n3 np
    refine iteF ?_
    -- cut
    have h5 := h2.same s25
    have el5 := s25 _ _ el2
    have eD5 := s25 _ _ eD2
    have b05 := b02.trans (Same.but s25 h)
    have at5 := at2.same s25
    clear s25 at2 eD2 el2 b02 h2 er
    refine ⟨_, rfl, _, rfl, l, _, rfl, .inl (SqL.of el5), _, _, rfl, rfl, h, ((ts.map V.str).length : Int) + 1, n + 20, rfl, by omega, ?_, h5, by show n + 20 ≤ 1000000; omega, fun d H6 d0 d1 h6 b6 => ?_⟩
    · rw [List.length_map]
      exact Int.lt_of_le_of_lt (show (ts.length : Int) + 1 ≤ 30 by omega) (by decide)
    rw [List.length_map] at d1
    obtain ⟨k, rfl⟩ : ∃ k : Nat, d = (k : Int) := ⟨d.toNat, by omega⟩
    have kl : k ≤ ts.length := by omega
    have at6 := at5.but h5 b6
    have el6 := b6 _ _ lh el5
    have eD6 := b6 _ _ Dh eD5
    have b06 := b05.trans b6
    clear b6 at5 eD5 el5 b05 h5
    obtain ⟨dx3, fs3, ei3, k1', k2', ko, k4, k5⟩ := cu_all at6
    have alt : ∀ t ∈ ts.take k, As t 500 := fun t ht => al t (List.mem_of_mem_take ht)
    have ald : ∀ t ∈ ts.drop k, As t 500 := fun t ht => al t (List.mem_of_mem_drop ht)
    refine ⟨_, rfl, _, rfl, a, dx3, fs3, rfl, ei3, ko, _, rfl, _, rfl, (k : Int), rfl, l, _, rfl, SqL.of el6, fun p1 np1 => ?_⟩
    have sp1 := same_upd np1 (o := .lst (cutV (ts.map V.str) none (some (k : Int))))
    have ep1 : (upd H6 p1 (.lst (cutV (ts.map V.str) none (some (k : Int))))) p1 = some (.lst ((ts.take k).map V.str)) := by rw [upd_same, cutV_take, List.map_take]
    generalize upd H6 p1 (.lst (cutV (ts.map V.str) none (some (k : Int)))) = H7 at sp1 ep1 ⊢
    refine ⟨a, p1, false, c, ts.take k, rfl, .inl (SqL.of ep1), alt, at6.same sp1, gc, fun r1 H8 n8 s8 e8 => ?_⟩
    rw [if_neg Bool.false_ne_true] at e8
    have s68 := sp1.trans s8
    refine ⟨_, rfl, a, dx3, fs3, rfl, s68 _ _ ei3, ko, _, rfl, _, rfl, (k : Int), rfl, l, _, rfl, SqL.of (s68 _ _ el6), fun p2 np2 => ?_⟩
    have sp2 := same_upd np2 (o := .lst (cutV (ts.map V.str) (some (k : Int)) none))
    have ep2 : (upd H8 p2 (.lst (cutV (ts.map V.str) (some (k : Int)) none))) p2 = some (.lst ((ts.drop k).map V.str)) := by rw [upd_same, cutV_drop _ k (by rw [List.length_map]; exact kl), List.map_drop]
    generalize upd H8 p2 (.lst (cutV (ts.map V.str) (some (k : Int)) none)) = H9 at sp2 ep2 ⊢
    have s69 := s68.trans sp2
    refine ⟨a, p2, false, c, ts.drop k, rfl, .inl (SqL.of ep2), ald, at6.same s69, gc, fun r4 HA nA sA eA => ?_⟩
    rw [if_neg Bool.false_ne_true] at eA
    have s6A := s69.trans sA
    refine ⟨a, r1, r4, c, ts, srt c (ts.take k), srt c (ts.drop k), rfl, at6.same s6A, gc, sA _ _ (sp2 _ _ e8), eA, al, by omega, ⟨?_, srt_pw c _, srt_pw c _, .nil, (fun z hz => by cases hz), (fun z hz => by cases hz)⟩, fun r5 HB eB sB => ?_⟩
    · rw [List.nil_append]
      have w := ((srt_pm c (ts.take k)).append (srt_pm c (ts.drop k)))
      rw [List.take_append_drop] at w
      exact w
    have s6B := s6A.trans sB
    refine ⟨_, rfl, _, _, txt_dp eB, txt_dp (s6B _ _ eD6), sh1 as1, sh1 as1, _, rfl, ?_⟩
    rw [ne_row]
    refine iteF ?_
    have hB := h6.same s6B
    have elB := s6B _ _ el6
    have eDB := s6B _ _ eD6
    have b0B := b06.trans (Same.but s6B h)
    have atB := at6.same s6B
    clear s6B eB sB s6A eA sA nA s69 sp2 ep2 np2 s68 e8 s8 n8 sp1 ep1 np1 at6 el6 eD6 b06 h6 H6 H7 H8 H9 HA ei3
    -- the ranks
    have lsr : (srt c ts).length = ts.length := (srt_pm c ts).length_eq
    obtain ⟨dx4, fs4, ei4, m1, m2, mo, m4, m5⟩ := cu_all atB
    refine ⟨fun σ Hx => ∃ (R : Addr) (vs : List V), σ = [some (.ref h), some (.ref a), some (.ref l), some (.ref D), some (.int (k : Int)), some (.ref R), none, none] ∧ L2.Same HB Hx ∧ Hx R = some (.lst vs) ∧ RkL c Hx vs (srt c ts), ?_, ?_⟩
    · refine ⟨_, rfl, D, rfl, ⟨_, SqL.of eDB⟩, fun R nR => ?_⟩
      refine lc_list (K := K) (a := D) (xs := (srt c ts).map V.str) (fun i Hi => L2.Same HB Hi ∧ ∃ vs, Hi R = some (.lst vs) ∧ RkL c Hi vs ((srt c ts).take i)) ⟨same_upd nR, [], upd_same, trivial⟩ (fun i Hi _ z => SqL.of (z.1 _ _ eDB)) ?_ ?_
      · rintro i v Hi hv ⟨sm, vs, eR, rk⟩
        rw [List.getElem?_map] at hv
        obtain ⟨y, hy, rfl⟩ := Option.map_eq_some_iff.mp hv
        have il := (List.getElem?_eq_some_iff.mp hy).1
        have ay := as1 y (List.mem_of_getElem? hy)
        have lv := rk.length
        rw [List.length_take] at lv
        have tk : (srt c ts).take (i + 1) = (srt c ts).take i ++ [y] := by rw [List.take_add_one, hy]; rfl
        refine ⟨rfl, ?_⟩
        unfold tYes
        refine iteT ⟨_, rfl, a, dx4, fs4, rfl, sm _ _ ei4, m1, _, rfl, a, c, y, rfl, atB.same sm, gc, ay, fun v H2 rv s2 => ⟨vs, s2 _ _ eR, ?_, fun b o e => ?_, vs ++ [v], upd_same, ?_⟩⟩
        · exact Nat.lt_of_le_of_lt (show vs.length ≤ 1000 by omega) (by decide)
        · rw [upd_ne (ne_of_none e nR)]
          exact s2 _ _ (sm _ _ e)
        · rw [tk]
          have t2 := tk_lst (o := .lst (vs ++ [v])) (s2 _ _ eR)
          exact ((rk.tk s2.tk).tk t2).app ⟨rv.tk t2, trivial⟩
      · rintro Hx ⟨sm, vs, eR, rk⟩
        rw [List.take_of_length_le (by rw [List.length_map]; exact Nat.le_refl _)] at rk
        exact ⟨R, vs, rfl, sm, eR, rk⟩
    rintro σ HC ⟨R, vs, rfl, sC, eR, rk⟩
    have hC := hB.same sC
    have elC := sC _ _ elB
    have eDC := sC _ _ eDB
    have b0C := b0B.trans (Same.but sC h)
    have atC := atB.same sC
    have eiC := sC _ _ ei4
    have lvs := rk.length
    clear sC hB elB eDB b0B atB ei4 HB
    -- neighbours
    refine ⟨fun σ Hx => ∃ c6, σ = [some (.ref h), some (.ref a), some (.ref l), some (.ref D), some (.int (k : Int)), some (.ref R), c6, none] ∧ Hx = HC, ?_, ?_⟩
    · refine ⟨_, rfl, R, _, rfl, .inl (SqL.of eR), _, _, rfl, rfl, (vs.length : Int) - 1, rfl, by omega, by omega, for_range (lo := 0) (n := ((vs.length : Int) - 1).toNat) (fun i σ Hx => ∃ c6, σ = [some (.ref h), some (.ref a), some (.ref l), some (.ref D), some (.int (k : Int)), some (.ref R), c6, none] ∧ Hx = HC) ⟨_, rfl, rfl⟩ ?_ (fun σ He z => z)⟩
      rintro i σ Hx hi ⟨c6, rfl, rfl⟩
      have i1 : i < vs.length := by omega
      have i2 : i + 1 < vs.length := by omega
      have e0 : (0 + (i : Int)) = (i : Int) := Int.zero_add _
      have e1 : (0 + (i : Int) + 1) = ((i + 1 : Nat) : Int) := by omega
      obtain ⟨y1, q1, r1⟩ := rk.get (List.getElem?_eq_getElem i1)
      obtain ⟨y2, q2, r2⟩ := rk.get (List.getElem?_eq_getElem i2)
      have le12 : leC c y1 y2 = true := by
        obtain ⟨j1, z1⟩ := List.getElem?_eq_some_iff.mp q1
        obtain ⟨j2, z2⟩ := List.getElem?_eq_some_iff.mp q2
        have w := (List.pairwise_iff_getElem.mp (srt_pw c ts)) i (i + 1) j1 j2 (Nat.lt_succ_self i)
        rw [z1, z2] at w
        exact w
      have a1 := as1 y1 (List.mem_of_getElem? q1)
      have a2 := as1 y2 (List.mem_of_getElem? q2)
      have d1' : ((srt c ts).map V.str)[i]? = some (.str y1) := by rw [List.getElem?_map, q1]; rfl
      have d2' : ((srt c ts).map V.str)[i + 1]? = some (.str y2) := by rw [List.getElem?_map, q2]; rfl
      refine ⟨_, rfl, _, rfl, R, vs, _, vs[i], rfl, rfl, SqL.of eR, by rw [e0]; exact atI_nat (List.getElem?_eq_getElem i1), _, rfl, _, rfl, _, _, rfl, rfl, R, vs, _, vs[i + 1], rfl, rfl, SqL.of eR, by rw [e1]; exact atI_nat (List.getElem?_eq_getElem i2), dRk c y1, dRk c y2, r1.dp, r2.dp, alike_rk c y1 y2, (by intro z; cases z), Nat.le_trans (nice_rk gc.lv a1).dp (by decide), _, rfl, ?_⟩
      rw [show (!PySem.W.dataLt (dRk c y2) (dRk c y1)) = leC c y1 y2 from rfl, le12]
      refine iteF ⟨_, rfl, _, rfl, R, vs, _, vs[i], rfl, rfl, SqL.of eR, by rw [e0]; exact atI_nat (List.getElem?_eq_getElem i1), _, rfl, _, rfl, _, _, rfl, rfl, R, vs, _, vs[i + 1], rfl, rfl, SqL.of eR, by rw [e1]; exact atI_nat (List.getElem?_eq_getElem i2), dRk c y1, dRk c y2, r1.dp, r2.dp, sh_rk a1, sh_rk a2, ?_⟩
      refine ⟨_, rfl, _, rfl, D, _, _, .str y1, rfl, rfl, SqL.of eDC, by rw [e0]; exact atI_nat d1', _, rfl, _, rfl, _, _, rfl, rfl, D, _, _, .str y2, rfl, rfl, SqL.of eDC, by rw [e1]; exact atI_nat d2', rfl, rfl, _, rfl, ?_⟩
      rw [eqv_rk, same_one]
      exact iteF ⟨_, rfl, rfl⟩
    rintro σ HC' ⟨c6, rfl, rfl⟩
    refine ⟨_, rfl, D, rfl, ⟨_, SqL.of eDC⟩, fun W nW => ?_⟩
    refine lc_list (K := K) (a := D) (xs := (srt c ts).map V.str) (fun i Hi => L2.Same HC' Hi ∧ Hi W = some (.lst (((srt c ts).take i).map V.str))) ⟨same_upd nW, upd_same⟩ (fun i Hi _ z => SqL.of (z.1 _ _ eDC)) ?_ ?_
    · rintro i v Hi hv ⟨sm, eW⟩
      rw [List.getElem?_map] at hv
      obtain ⟨y, hy, rfl⟩ := Option.map_eq_some_iff.mp hv
      have il := (List.getElem?_eq_some_iff.mp hy).1
      have ay := as1 y (List.mem_of_getElem? hy)
      have tk : (srt c ts).take (i + 1) = (srt c ts).take i ++ [y] := by rw [List.take_add_one, hy]; rfl
      refine ⟨rfl, ?_⟩
      unfold tYes
      refine iteT ⟨_, rfl, a, dx4, fs4, rfl, sm _ _ eiC, m5, _, rfl, a, dx4, fs4, rfl, sm _ _ eiC, m4, _, rfl, a, c, y, rfl, atC.same sm, gc, ay, fun H2 s2 => ?_⟩
      refine ⟨a, c, shownT c y, rfl, (atC.same sm).same s2, gc, Nat.le_trans (shown_le ay) (by decide), fun H3 s3 => ?_⟩
      rw [read_shown ay]
      refine ⟨_, s3 _ _ (s2 _ _ eW), ?_, fun b o e => ?_, ?_⟩
      · rw [List.length_map, List.length_take]
        exact Nat.lt_of_le_of_lt (show min i (srt c ts).length ≤ 1000 by omega) (by decide)
      · rw [upd_ne (ne_of_none e nW)]
        exact s3 _ _ (s2 _ _ (sm _ _ e))
      · rw [upd_same, tk, List.map_append]; rfl
    rintro HD ⟨sD, eW⟩
    rw [List.take_of_length_le (by rw [List.length_map]; exact Nat.le_refl _)] at eW
    refine ⟨_, rfl, _, _, txt_dp eW, txt_dp (sD _ _ eDC), sh1 as1, sh1 as1, _, rfl, ?_⟩
    rw [eqv_self]
    refine iteT ⟨_, rfl, D, srt c ts, rfl, SqL.of (sD _ _ eDC), by omega, fun ys p pm1 so1 np => ?_⟩
    have sp := same_upd np (o := .lst (ys.map V.str))
    refine ⟨_, rfl, l, ts, rfl, SqL.of (sp _ _ (sD _ _ elC)), by omega, fun zs p2 pm2 so2 np2 => ?_⟩
    have sp2 := same_upd np2 (o := .lst (zs.map V.str))
    have yz : ys = zs := sorted_one (pm1.trans ((srt_pm c ts).trans pm2.symm)) so1 so2
    subst yz
    have asy : ∀ t ∈ ys, As t 500 := fun t ht => al t (pm2.mem_iff.mp ht)
    refine ⟨_, _, txt_dp (sp2 _ _ upd_same), txt_dp upd_same, sh1 asy, sh1 asy, ?_⟩
    rw [eqv_self]
    exact q _ (((hC.same sD).same sp).same sp2 |>.mono (by omega)) (b0C.trans (Same.but ((sD.trans sp).trans sp2) h))
end
end K79
set_option Elab.async false
set_option linter.all false
set_option maxRecDepth 100000
set_option maxHeartbeats 4000000
set_option pp.maxSteps 400
set_option pp.deepTerms false
namespace K79
open PySem PySem.Spec PyProof.Rows L2
open Xk Az
section
variable {P : Program} {w : World} {K : PySem.W.Frag} {mg : Str → Option Value} {base : Heap} {C : Addr}
theorem nG_other (n : Nat) (t : Str) : ∀ (g : List Str) (kvs : List (Key × V)), t ∉ g → valV (numG n g kvs) (.inr t) = valV kvs (.inr t)
  | [], _, _ => rfl
  | x :: r, kvs, h => by
    show valV (numG n r (putK kvs (.inr x) (.int (n : Nat)))) (.inr t) = _
    rw [nG_other n t r _ (fun z => h (List.mem_cons_of_mem _ z)), valV_put, if_neg]
    intro z
    injection z with z
    exact h (z ▸ List.mem_cons_self)
theorem nG_in (n : Nat) (t : Str) : ∀ (g : List Str) (kvs : List (Key × V)), t ∈ g → valV (numG n g kvs) (.inr t) = some (.int (n : Nat))
  | [], _, h => by cases h
  | x :: r, kvs, h => by
    show valV (numG n r (putK kvs (.inr x) (.int (n : Nat)))) (.inr t) = _
    by_cases m : t ∈ r
    · exact nG_in n t r _ m
    · rw [nG_other n t r _ m, valV_put, if_pos]
      rcases List.mem_cons.mp h with e | e
      · rw [e]
      · exact absurd e m
theorem nF_other (t : Str) : ∀ (gs : List (List Str)) (n : Nat) (kvs : List (Key × V)), t ∉ gs.flatten → valV (numF n gs kvs) (.inr t) = valV kvs (.inr t)
  | [], _, _, _ => rfl
  | g :: r, n, kvs, h => by
    rw [List.flatten_cons, List.mem_append, not_or] at h
    show valV (numF (n + 1) r (numG n g kvs)) (.inr t) = _
    rw [nF_other t r _ _ h.2, nG_other n t g _ h.1]
theorem nF_in (t : Str) : ∀ (gs : List (List Str)) (n : Nat) (kvs : List (Key × V)) (i : Nat) (g : List Str), gs.flatten.Nodup → gs[i]? = some g → t ∈ g → valV (numF n gs kvs) (.inr t) = some (.int ((n + i : Nat)))
  | [], _, _, _, _, _, e, _ => by cases e
  | g' :: r, n, kvs, 0, g, nd, e, m => by
    cases e
    rw [List.flatten_cons, List.nodup_append] at nd
    show valV (numF (n + 1) r (numG n g' kvs)) (.inr t) = _
    rw [nF_other t r _ _ (fun z => nd.2.2 t m t z rfl), nG_in n t g' _ m]
    rfl
  | g' :: r, n, kvs, i + 1, g, nd, e, m => by
    rw [List.flatten_cons, List.nodup_append] at nd
    show valV (numF (n + 1) r (numG n g' kvs)) (.inr t) = _
    rw [nF_in t r (n + 1) _ i g nd.2.1 e m]
    congr 2
    omega
theorem look_in {gs : List (List Str)} (lv : Lv gs) {i : Nat} {g : List Str} {t : Str} (e : gs[i]? = some g) (m : t ∈ g) : look (kvL gs) t = some i := by
  unfold look kvL
  rw [nF_in t gs 0 [] i g lv.nd e m]
  show some ((0 + i : Nat) : Int).toNat = _
  congr 1
  omega
theorem look_out {gs : List (List Str)} {t : Str} (h : t ∉ gs.flatten) : look (kvL gs) t = none := by
  unfold look kvL
  rw [nF_other t gs 0 [] h]
  rfl
theorem look_some {gs : List (List Str)} (lv : Lv gs) {t : Str} {k : Nat} (h : look (kvL gs) t = some k) : ∃ g, gs[k]? = some g ∧ t ∈ g := by
  by_cases m : t ∈ gs.flatten
  · obtain ⟨g, hg, mt⟩ := List.mem_flatten.mp m
    obtain ⟨i, e⟩ := List.mem_iff_getElem?.mp hg
    rw [look_in lv e mt] at h
    cases h
    exact ⟨g, e, mt⟩
  · rw [look_out m] at h; cases h
/-- letters of one sign -/
def One (gs : List (List Str)) : Prop := ∀ t ∈ gs.flatten, t.length = 1
theorem rd_one {gs : List (List Str)} (o : One gs) : ∀ l : List Nat, rd (kvL gs) l = l.flatMap (one (kvL gs))
  | [] => rfl
  | [a] => by simp [rd]
  | a :: b :: r => by
    have e : look (kvL gs) ⟨#[a, b]⟩ = none := look_out fun m => by
      have := o _ m
      exact absurd this (show ¬ (2 = 1) by decide)
    rw [rd, e, List.flatMap_cons, rd_one o (b :: r)]
abbrev lo1 := PyProof.Rows.lo1
/-- what a sign is read as -/
def sg (gs : List (List Str)) (c : Nat) : List Nat := one (kvL gs) (lo1 c)
theorem lets_one {gs : List (List Str)} (o : One gs) {x : Str} {n : Nat} (ax : As x n) : lets gs x = x.cps.toList.flatMap (sg gs) := by
  unfold lets
  rw [rd_one o, PyProof.Rows.lower_ascii ax.a]
  show (x.cps.map PyProof.Rows.lo1).toList.flatMap _ = _
  rw [Array.toList_map, List.flatMap_map]
  rfl
theorem small_rng : ∀ c ∈ small.cps.toList, 97 ≤ c ∧ c ≤ 122 := by decide +kernel
theorem one_sign {gs : List (List Str)} (lv : Lv gs) {u : Str} (m : u ∈ gs.flatten) (l1 : u.length = 1) : ∃ d, u = ⟨#[d]⟩ ∧ 97 ≤ d ∧ d ≤ 122 := by
  obtain ⟨_, _, s⟩ := of_get (lv.sm u m)
  obtain ⟨cs⟩ := u
  have l : cs.toList.length = 1 := l1
  obtain ⟨d, e⟩ : ∃ d, cs.toList = [d] := by
    cases h : cs.toList with
    | nil => rw [h] at l; cases l
    | cons d r =>
      cases r with
      | nil => exact ⟨d, rfl⟩
      | cons b r => rw [h] at l; simp at l
  refine ⟨d, str_eq e, small_rng d (s d ?_)⟩
  rw [e]
  exact List.mem_cons_self
theorem sg_none {gs : List (List Str)} (lv : Lv gs) {c : Nat} (h : lo1 c < 97 ∨ 122 < lo1 c) : sg gs c = [] := by
  unfold sg one
  rw [look_out]
  · rfl
  · intro m
    obtain ⟨d, e, h1, h2⟩ := one_sign lv m rfl
    have : lo1 c = d := by
      have := congrArg (fun s : Str => s.cps.toList) e
      simpa using this
    omega
/-- mates are read alike -/
theorem sg_mate {gs : List (List Str)} (lv : Lv gs) {g : List Str} (hg : g ∈ gs) {c d : Nat} (m1 : (⟨#[lo1 c]⟩ : Str) ∈ g) (m2 : (⟨#[d]⟩ : Str) ∈ g) (d1 : 97 ≤ d) (d2 : d ≤ 122) : sg gs d = sg gs c ∧ sg gs (PyProof.Rows.up1 d) = sg gs c := by
  obtain ⟨i, e⟩ := List.mem_iff_getElem?.mp hg
  have ld : lo1 d = d := by
    show PyProof.Rows.lo1 d = d
    unfold PyProof.Rows.lo1
    rw [if_neg (by omega)]
  have lu : lo1 (PyProof.Rows.up1 d) = d := by
    show PyProof.Rows.lo1 (PyProof.Rows.up1 d) = d
    have e1 : PyProof.Rows.up1 d = d - 32 := by
      unfold PyProof.Rows.up1
      rw [if_pos ⟨d1, d2⟩]
    rw [e1]
    unfold PyProof.Rows.lo1
    rw [if_pos (by omega)]
    omega
  unfold sg one
  rw [ld, lu, look_in lv e m1, look_in lv e m2]
  exact ⟨rfl, rfl⟩
theorem up_one {d : Nat} (h : d < 128) : Txt.upper ⟨#[d]⟩ = ⟨#[PyProof.Rows.up1 d]⟩ := by
  rw [PyProof.Rows.upper_ascii (x := ⟨#[d]⟩) (fun c hc => by
    have e : c = d := by simpa using hc
    rw [e]; exact h)]
  exact str_eq (by simp)
theorem lo_one {d : Nat} (h : d < 128) : Txt.lower ⟨#[d]⟩ = ⟨#[lo1 d]⟩ := by
  rw [PyProof.Rows.lower_ascii (x := ⟨#[d]⟩) (fun c hc => by
    have e : c = d := by simpa using hc
    rw [e]; exact h)]
  exact str_eq (by simp)
def mts (g : List Str) : List Str := g.filter fun o => decide (o.length = 1)
/-- the mates of the letters so far -/
structure MT (Hx : Hp) (gs : List (List Str)) (ts : List Str) (kvs : List (Key × V)) : Prop where
  ks : kvs.map Prod.fst = ts.map Sum.inr
  vs : ∀ t v, valV kvs (.inr t) = some v → ∃ g ∈ gs, t ∈ g ∧ ∃ a, v = .ref a ∧ Hx a = some (.lst ((mts g).map V.str))
theorem valV_key {kvs : List (Key × V)} {ts : List Str} {t : Str} (h : kvs.map Prod.fst = ts.map Sum.inr) {v : V} (e : valV kvs (.inr t) = some v) : t ∈ ts := by
  unfold valV at e
  obtain ⟨kv, e1, e2⟩ := Option.map_eq_some_iff.mp e
  have m := List.mem_of_find?_eq_some e1
  have k : kv.1 = .inr t := by
    have w := List.find?_some e1
    exact of_decide_eq_true w
  have m2 : kv.1 ∈ kvs.map Prod.fst := List.mem_map_of_mem m
  rw [h, k] at m2
  obtain ⟨u, hu, eu⟩ := List.mem_map.mp m2
  cases eu
  exact hu
theorem MT.put {Hx : Hp} {gs : List (List Str)} {ts : List Str} {kvs : List (Key × V)} (m : MT Hx gs ts kvs) {t : Str} {g : List Str} {a : Addr} (nt : t ∉ ts) (hg : g ∈ gs) (tg : t ∈ g) (ea : Hx a = some (.lst ((mts g).map V.str))) : MT Hx gs (ts ++ [t]) (putK kvs (.inr t) (.ref a)) := by
  have n0 : valV kvs (.inr t) = none := by
    cases e : valV kvs (.inr t) with
    | none => rfl
    | some v => exact absurd (valV_key m.ks e) nt
  refine ⟨?_, fun u v e => ?_⟩
  · rw [putK_new _ n0, List.map_append, List.map_append, m.ks]; rfl
  · rw [valV_put] at e
    split at e
    · rename_i h
      injection h with h
      cases e
      exact ⟨g, hg, by rw [h]; exact tg, a, rfl, ea⟩
    · exact m.vs u v e
theorem MT.mono {Hx Hy : Hp} {gs : List (List Str)} {ts : List Str} {kvs : List (Key × V)} (m : MT Hx gs ts kvs) (s : ∀ b xs, Hx b = some (.lst xs) → Hy b = some (.lst xs) ∨ False) : MT Hy gs ts kvs :=
  ⟨m.ks, fun t v e => by
    obtain ⟨g, hg, tg, a, e1, e2⟩ := m.vs t v e
    exact ⟨g, hg, tg, a, e1, (s _ _ e2).elim id False.elim⟩⟩
end
end K79
set_option Elab.async false
set_option linter.all false
set_option maxRecDepth 100000
set_option maxHeartbeats 4000000
set_option pp.maxSteps 400
set_option pp.deepTerms false
namespace K79
open PySem PySem.Spec PyProof.Rows L2
open Xk Az
section
variable {P : Program} {w : World} {K : PySem.W.Frag} {mg : Str → Option Value} {base : Heap} {C : Addr}
section
variable {X : Cx}
theorem op_x01 : OpR X (binaryOp .Mult) (fun x y H Q => ∃ (s : Str) (b : Bool), x = .str s ∧ y = .int (if b = true then 1 else 0) ∧ s.length ≤ 10 ∧ Q (.str (if b = true then s else Str.empty)) H) := by
  intro pins s σ H x y v u Q I rx ry h
  obtain ⟨z, b, rfl, rfl, l, q⟩ := h
  obtain ⟨t, rfl⟩ := rx
  obtain ⟨t2, rfl⟩ := ry
  cases b with
  | false =>
    refine PySem.P.mul_str (by decide) (fun c => absurd c (by decide)) (fun c => absurd c (by decide)) ?_
    exact ⟨by decide +kernel, .str Str.empty, H, I.tok _, ⟨_, rfl⟩, q⟩
  | true =>
    refine PySem.P.mul_str (by decide) (fun _ c => absurd c (by simp)) (fun _ c => absurd c (by simp)) ?_
    exact ⟨.str z, H, I, ⟨_, rfl⟩, q⟩
end
theorem hand_ne {n : Int} {H : Hp} {h a : Addr} {us : List Str} (hd : Hand n H h) (e : H a = some (.lst (us.map V.str))) : a ≠ h := by
  obtain ⟨g, m, c, e2, _⟩ := hd
  intro z
  rw [z, e2] at e
  cases us with
  | nil => cases e
  | cons u r => cases e
theorem MT.same {Hx Hy : Hp} {gs : List (List Str)} {ts : List Str} {kvs : List (Key × V)} (m : MT Hx gs ts kvs) (s : L2.Same Hx Hy) : MT Hy gs ts kvs :=
  ⟨m.ks, fun t v e => by
    obtain ⟨g, hg, tg, a, e1, e2⟩ := m.vs t v e
    exact ⟨g, hg, tg, a, e1, s _ _ e2⟩⟩
theorem MT.but {Hx Hy : Hp} {h : Addr} {n : Int} {gs : List (List Str)} {ts : List Str} {kvs : List (Key × V)} (m : MT Hx gs ts kvs) (hd : Hand n Hx h) (s : But h Hx Hy) : MT Hy gs ts kvs :=
  ⟨m.ks, fun t v e => by
    obtain ⟨g, hg, tg, a, e1, e2⟩ := m.vs t v e
    exact ⟨g, hg, tg, a, e1, s _ _ (hand_ne hd e2) e2⟩⟩
theorem pre_new {gs : List (List Str)} (nd : gs.flatten.Nodup) {i j : Nat} {g : List Str} {t : Str} (e : gs[i]? = some g) (e2 : g[j]? = some t) : t ∉ (gs.take i).flatten ++ g.take j := by
  obtain ⟨hi, ei⟩ := List.getElem?_eq_some_iff.mp e
  obtain ⟨hj, ej⟩ := List.getElem?_eq_some_iff.mp e2
  have e3 : gs.flatten = (gs.take i).flatten ++ (g ++ (gs.drop (i + 1)).flatten) := by
    conv => lhs; rw [← List.take_append_drop i gs, List.flatten_append, List.drop_eq_getElem_cons hi, List.flatten_cons, ei]
  have e4 : g = g.take j ++ t :: g.drop (j + 1) := by
    conv => lhs; rw [← List.take_append_drop j g, List.drop_eq_getElem_cons hj, ej]
  rw [e3, List.nodup_append] at nd
  obtain ⟨_, n2, n3⟩ := nd
  rw [List.nodup_append] at n2
  obtain ⟨n4, _, _⟩ := n2
  intro m
  rcases List.mem_append.mp m with m | m
  · exact n3 t m t (List.mem_append_left _ (List.mem_of_getElem? e2)) rfl
  · rw [e4, List.nodup_append] at n4
    exact n4.2.2 t m t List.mem_cons_self rfl
theorem mts_take {g : List Str} {k : Nat} {t : Str} (e : g[k]? = some t) : mts (g.take (k + 1)) = if t.length = 1 then mts (g.take k) ++ [t] else mts (g.take k) := by
  unfold mts
  rw [List.take_add_one, e, List.filter_append]
  show _ ++ List.filter _ [t] = _
  by_cases h : t.length = 1
  · rw [if_pos h, List.filter_cons, if_pos (decide_eq_true h)]; rfl
  · rw [if_neg h, List.filter_cons, if_neg (by rw [decide_eq_false h]; decide)]
    exact List.append_nil _
theorem MT.get {Hx : Hp} {gs : List (List Str)} {ts : List Str} {kvs : List (Key × V)} (m : MT Hx gs ts kvs) {i : Nat} {k : Key} {v : V} (e : kvs[i]? = some (k, v)) : ∃ t, ts[i]? = some t ∧ k = .inr t := by
  have w := congrArg (fun l => l[i]?) m.ks
  simp only [List.getElem?_map, e, Option.map_some] at w
  obtain ⟨t, e1, e2⟩ := Option.map_eq_some_iff.mp w.symm
  exact ⟨t, e1, e2.symm⟩
theorem MT.len {Hx : Hp} {gs : List (List Str)} {ts : List Str} {kvs : List (Key × V)} (m : MT Hx gs ts kvs) : kvs.length = ts.length := by
  have w := congrArg List.length m.ks
  rwa [List.length_map, List.length_map] at w
theorem let_as {gs : List (List Str)} (lv : Lv gs) {t : Str} (h : t ∈ gs.flatten) : As t 2 := as_of (lv.sm t h) rfl
/-- the tables that stand while the text is gone through -/
structure XT (H : Hp) (h M W : Addr) (gs : List (List Str)) (ws : List Str) (kvs : List (Key × V)) (Hx : Hp) : Prop where
  eM : Hx M = some (.dK kvs)
  eW : Hx W = some (.lst (ws.map V.str))
  mt : MT Hx gs gs.flatten kvs
  wl : ∀ t ∈ ws, t ∈ gs.flatten
  wo : ws = [] → One gs
  bt : But h H Hx
theorem XT.same {H Hx Hy : Hp} {h M W : Addr} {gs : List (List Str)} {ws : List Str} {kvs : List (Key × V)} (x : XT H h M W gs ws kvs Hx) (s : L2.Same Hx Hy) : XT H h M W gs ws kvs Hy :=
  ⟨s _ _ x.eM, s _ _ x.eW, x.mt.same s, x.wl, x.wo, x.bt.trans (Same.but s h)⟩
theorem XT.but {H Hx Hy : Hp} {h M W : Addr} {n : Int} {gs : List (List Str)} {ws : List Str} {kvs : List (Key × V)} (x : XT H h M W gs ws kvs Hx) (hd : Hand n Hx h) (b : But h Hx Hy) : XT H h M W gs ws kvs Hy := by
  refine ⟨b _ _ ?_ x.eM, b _ _ (hand_ne hd x.eW) x.eW, x.mt.but hd b, x.wl, x.wo, x.bt.trans b⟩
  obtain ⟨g, m, c, e2, _⟩ := hd
  exact ne_of x.eM e2 (by intro z; cases z)
def spEx : Sp := fun vs H Q _ => ∃ (h : Addr) (n : Int) (G : V) (gs : List (List Str)) (x : Str), vs = [.ref h, G, .str x] ∧ LP H G gs ∧ Lv gs ∧ gs.flatten.length ≤ 900 ∧ As x 60 ∧ Hand n H h ∧ n + 400 ≤ far ∧
  ∀ y H', As y 120 → lets gs y = lets gs x → Hand (n + 300) H' h → But h H H' → Q (.str y) H'
theorem ok_ex {f : Addr} {fd : FuncData} {e : Ex} (D : Df K mg "_law_exchanged" ["_law_hand_here", "_law_letters_here", "_law_text_here"] sExchanged f fd) (T : Txt K mg C e) (cT : Ca P w K mg base 1 "_law_take" ["_law_hand_here", "_law_many"] spTake) (cP : Ca P w K mg base 2 "_law_pick" ["_law_hand_here", "_law_some"] spPick) : FnOk P w K mg base CX0 3 f fd ["_law_hand_here", "_law_letters_here", "_law_text_here"] spEx := by
  refine D.fn.ok scExchanged (fun vs H Q E h => ?_) (fun cdv A outer s H vs Q E hr h => ?_)
  · obtain ⟨h, n, G, gs, x, rfl, lG, lv, g9, ax, hd, hn, q⟩ := h
    rfl
  · obtain ⟨h, n, G, gs, x, rfl, lG, lv, g9, ax, hd, hn, q⟩ := h
    refine ⟨_, (C8.pss_cut (ps_set (i := 3) scExchanged.nd rfl (.inl rfl) pe_dnewK)
      (C8.pss_cut (ps_for PassesOwn.never rfl (pi_tup (pv 1)) (pg_name (i := 4) scExchanged.nd rfl (.inl rfl)) (pss_one (ps_for PassesOwn.never rfl (pi_tup (pv 4)) (pg_name (i := 5) scExchanged.nd rfl (.inl rfl)) (pss_one (ps_dput (hu_of hr) (pv 3) (pv 5) (pe_lc (own := [("_law_other", 12)]) (g := gName 12) (by rfl) scExchanged.nd (pi_tup (pv 4)) (blkOk_by (own := [("_law_other", 12)]) (N := ["_law_hand_here", "_law_letters_here", "_law_text_here", "_law_mates", "_law_group", "_law_one", "_law_twos", "_law_found", "_law_at", "_law_sign", "_law_near", "_law_some", "_law_other"]) (sc := defScope sExchanged) (by decide +kernel)) (fun _ _ _ _ _ => pg_name (i := 12) scExchanged.nd rfl (.inl rfl)) (fun _ _ _ _ _ => (pts_one (pt_cmpR op_eq (pe_callB call_len_str (by rfl) T.len PySem.boot_len (pa_cons (pv 12) pa_nil)) pe_int (nomark _)))) (fun _ _ _ _ _ => pv 12)) rfl)))))
      (C8.pss_cut (ps_lock (ps_setLc (i := 6) (own := [("_law_one", 5)]) (g := gName 5) (by rfl) scExchanged.nd rfl rfl (sw_true rfl rfl rfl (by decide +kernel)) (pi_keys (pv 3)) (blkOk_by (own := [("_law_one", 5)]) (N := ["_law_hand_here", "_law_letters_here", "_law_text_here", "_law_mates", "_law_group", "_law_one", "_law_twos", "_law_found", "_law_at", "_law_sign", "_law_near", "_law_some", "_law_other"]) (sc := defScope sExchanged) (by decide +kernel)) (fun _ _ _ _ _ => pg_name (i := 5) scExchanged.nd rfl (.inl rfl)) (fun _ _ _ _ _ => (pts_one (pt_cmpR op_eq (pe_callB call_len_str (by rfl) T.len PySem.boot_len (pa_cons (pv 5) pa_nil)) pe_int (nomark _)))) (fun _ _ _ _ _ => pv 5)))
      (C8.pss_cut (ps_set (i := 7) scExchanged.nd rfl (.inl rfl) pe_str)
      (C8.pss_cut (ps_for PassesOwn.never rfl (Xen.pi_enumS (by rfl) T.enumerate (pa_cons (pv 2) pa_nil)) (pg_tup (by rfl) (pgs_cons (pg_name (i := 8) scExchanged.nd rfl (.inl rfl)) (pgs_cons (pg_name (i := 9) scExchanged.nd rfl (.inl rfl)) pgs_nil))) (pss_cons (ps_set (i := 10) scExchanged.nd rfl (.inl rfl) (pe_lower (pe_slice sl_str (pv 2) (po_some (pe_callB (call_max2 (by rfl)) (by rfl) T.max (by decide +kernel) (pa_cons pe_int (pa_cons (pe_op op_sub (pv 8) pe_int) pa_nil)))) (po_some (pe_op op_add (pv 8) pe_int)))))
      (C8.pss_cut (ps_set (i := 11) scExchanged.nd rfl (.inl rfl) (pe_dget2 (hu_of hr) (pv 3) (pe_lower (pv 9)) (pe_lst pa_nil) ⟨rfl, rfl, rfl, rfl⟩))
      (C8.pss_cut (ps_if (PW.pt (pw_and (pt_cmpR (op_eqD hr.units) (pv 6) (pe_lst pa_nil) (nomark _)) (pw_and (pt_cmpR (op_neD hr.units) (pv 11) (pe_lst pa_nil) (nomark _)) (pw_and1 (pt_cmpR op_eq (pe_ca cT hr (by decide) (by rfl) (pa_cons (pv 0) (pa_cons pe_int pa_nil))) pe_int (nomark _)))))) (pss_one (ps_set (i := 9) scExchanged.nd rfl (.inl rfl) (pe_ca cP hr (by decide) (by rfl) (pa_cons (pv 0) (pa_cons (pe_lst (pa_cons (pe_ca cP hr (by decide) (by rfl) (pa_cons (pv 0) (pa_cons (pv 11) pa_nil))) (pa_cons (pe_upper (pe_ca cP hr (by decide) (by rfl) (pa_cons (pv 0) (pa_cons (pv 11) pa_nil)))) pa_nil))) pa_nil))))) pss_nil)
      (pss_one (ps_set (i := 7) scExchanged.nd rfl (.inl rfl) (pe_op op_add_str (pe_op op_add_str (pv 7) (pv 9)) (pe_op op_x01 (pe_ca cP hr (by decide) (by rfl) (pa_cons (pv 0) (pa_cons (pe_lst (pa_cons pe_str (pa_cons pe_str (pa_cons pe_str (pa_cons pe_str (pa_cons pe_str pa_nil)))))) pa_nil))) (pe_callTy call_int1 (by rfl) T.int (by decide +kernel) (pa_cons (pe_and (pe_cmpR op_notin_str pe_str (pv 10) (by rfl)) (pe_one (pe_cmpR (op_eqD hr.units) (pv 6) (pe_lst pa_nil) (nomark _)))) pa_nil))))))))))
      (pss_one (ps_ret (pv 7)))))))), ?_⟩
    have fr : n + 400 ≤ 1000000 := hn
    obtain ⟨aG, gx, rfl, eG, gg⟩ := lG
    have lx := gg.length
    -- no mates
    refine ⟨fun σ Hx => ∃ M, σ = [some (.ref h), some (.ref aG), some (.str x), some (.ref M), none, none, none, none, none, none, none, none, none] ∧ H M = none ∧ Hx M = some (.dK []) ∧ L2.Same H Hx, fun M nM => ⟨M, rfl, nM, upd_same, same_upd nM⟩, ?_⟩
    rintro σ H1 ⟨M, rfl, nM, eM, s1⟩
    -- all mates
    refine ⟨fun σ Hx => ∃ c4 c5 kvs, σ = [some (.ref h), some (.ref aG), some (.str x), some (.ref M), c4, c5, none, none, none, none, none, none, none] ∧ Hx M = some (.dK kvs) ∧ L2.Same H Hx ∧ MT Hx gs gs.flatten kvs, ?_, ?_⟩
    · refine ⟨_, rfl, aG, rfl, ⟨_, SqT.of (s1 _ _ eG)⟩, ?_⟩
      refine for_tup (K := K) (a := aG) (xs := gx) (fun i σ Hi => ∃ c4 c5 kvs, σ = [some (.ref h), some (.ref aG), some (.str x), some (.ref M), c4, c5, none, none, none, none, none, none, none] ∧ Hi M = some (.dK kvs) ∧ L2.Same H Hi ∧ MT Hi gs (gs.take i).flatten kvs) ⟨none, none, [], rfl, eM, s1, ⟨rfl, fun t v e => by cases e⟩⟩ (fun i σ Hi _ z => by obtain ⟨_, _, _, _, _, s, _⟩ := z; exact SqT.of (s _ _ eG)) ?_ ?_
      · rintro i v σ Hi hv ⟨c4, c5, kvs, rfl, eMi, si, mt⟩
        have il := (List.getElem?_eq_some_iff.mp hv).1
        have ig : i < gs.length := by omega
        obtain ⟨a, ea, e1⟩ := GPs.get ig gg
        obtain rfl : v = .ref a := Option.some.inj (hv.symm.trans ea)
        have eg : gs[i]? = some gs[i] := List.getElem?_eq_getElem ig
        have mg : gs[i] ∈ gs := List.getElem_mem ig
        have tkf : (gs.take (i + 1)).flatten = (gs.take i).flatten ++ gs[i] := by
          rw [List.take_add_one, eg, List.flatten_append]; simp
        refine ⟨_, rfl, a, rfl, ⟨_, SqT.of (si _ _ e1)⟩, ?_⟩
        refine for_tup (K := K) (a := a) (xs := gs[i].map V.str) (fun j σ Hj => ∃ c5 kvs, σ = [some (.ref h), some (.ref aG), some (.str x), some (.ref M), some (.ref a), c5, none, none, none, none, none, none, none] ∧ Hj M = some (.dK kvs) ∧ L2.Same H Hj ∧ MT Hj gs ((gs.take i).flatten ++ gs[i].take j) kvs) ⟨c5, kvs, rfl, eMi, si, by rw [List.take_zero, List.append_nil]; exact mt⟩ (fun j σ Hj _ z => by obtain ⟨_, _, _, _, s, _⟩ := z; exact SqT.of (s _ _ e1)) ?_ ?_
        · rintro j v σ Hj hv ⟨c5, kvs, rfl, eMj, sj, mtj⟩
          rw [List.getElem?_map] at hv
          obtain ⟨t, ht, rfl⟩ := Option.map_eq_some_iff.mp hv
          have tf : t ∈ gs[i] := List.mem_of_getElem? ht
          refine ⟨_, rfl, a, rfl, ⟨_, SqT.of (sj _ _ e1)⟩, fun D nD => ?_⟩
          refine lc_tup (K := K) (a := a) (xs := gs[i].map V.str) (fun k Hk => L2.Same Hj Hk ∧ Hk D = some (.lst ((mts (gs[i].take k)).map V.str))) ⟨same_upd nD, upd_same⟩ (fun k Hk _ z => SqT.of (z.1 _ _ (sj _ _ e1))) ?_ ?_
          · rintro k v Hk hv ⟨sk, eD⟩
            rw [List.getElem?_map] at hv
            obtain ⟨u, hu, rfl⟩ := Option.map_eq_some_iff.mp hv
            have au := let_as lv (List.mem_flatten.mpr ⟨_, mg, List.mem_of_getElem? hu⟩)
            have mk := mts_take hu
            refine ⟨rfl, _, rfl, u, rfl, as_sz au (by decide), rfl, _, rfl, ite2 (fun e => ?_) (fun e => ?_)⟩
            · have l1 : u.length = 1 := by
                have := of_decide_eq_true e
                injection this with this
                omega
              rw [if_pos l1] at mk
              refine ⟨_, rfl, _, eD, ?_, fun b o eb => ?_, by rw [upd_same, mk, List.map_append]; rfl⟩
              · have : (mts (gs[i].take k)).length ≤ gs[i].length := Nat.le_trans (List.length_filter_le _ _) (by rw [List.length_take]; omega)
                have := flat_part mg
                have := lv.sz
                rw [List.length_map]
                exact Nat.lt_of_le_of_lt (show _ ≤ 1000 by omega) (by decide)
              · rw [upd_ne (ne_of_none eb nD)]
                exact sk _ _ eb
            · have l1 : ¬ u.length = 1 := fun z => e (decide_eq_true (by rw [z]; rfl))
              rw [if_neg l1] at mk
              exact ⟨sk, by rw [mk]; exact eD⟩
          · rintro H3 ⟨s3, eD⟩
            rw [List.take_of_length_le (by rw [List.length_map]; exact Nat.le_refl _)] at eD
            have lt : kvs.length < sizeLine := by
              rw [mtj.len, List.length_append, List.length_take]
              have e5 := congrArg (fun q => (List.flatten q).length) (List.take_append_drop (i + 1) gs)
              simp only [List.flatten_append, List.length_append, tkf] at e5
              have := lv.sz
              exact Nat.lt_of_le_of_lt (show _ ≤ 1000 by omega) (by decide)
            have nM3 : ∀ b xs, H3 b = some (.lst xs) → b ≠ M := fun b xs e z => by rw [z, s3 _ _ eMj] at e; cases e
            refine ⟨_, rfl, _, rfl, M, _, rfl, DPut.k (k := .inr t) (s3 _ _ eMj) lt, _, _, rfl, upd_same, fun b o e => ?_, ?_⟩
            · rw [upd_ne (ne_of_none e nM)]
              exact s3 _ _ (sj _ _ e)
            · have m4 : MT (upd H3 M (.dK (putK kvs (.inr t) (.ref D)))) gs ((gs.take i).flatten ++ gs[i].take j) kvs := (mtj.same s3).mono fun b xs e => .inl (by rw [upd_ne (nM3 _ _ e)]; exact e)
              have w := m4.put (t := t) (g := gs[i]) (a := D) (pre_new lv.nd eg ht) mg tf (by rw [upd_ne (nM3 _ _ eD)]; exact eD)
              have e6 : gs[i].take (j + 1) = gs[i].take j ++ [t] := by rw [List.take_add_one, ht]; rfl
              rw [e6, ← List.append_assoc]
              exact w
        · rintro σ He ⟨c5, kvs, rfl, e, s, m⟩
          rw [List.length_map, List.take_length, ← tkf] at m
          exact ⟨_, c5, kvs, rfl, e, s, m⟩
      · rintro σ He ⟨c4, c5, kvs, rfl, e, s, m⟩
        rw [List.take_of_length_le (show gs.length ≤ gx.length by omega)] at m
        exact ⟨c4, c5, kvs, rfl, e, s, m⟩
    clear eM s1 H1
    rintro σ H1 ⟨c4, c5, kvs, rfl, eM, s1, mt⟩
    -- letters of two signs
    refine ⟨fun σ Hx => ∃ c5 W ws, σ = [some (.ref h), some (.ref aG), some (.str x), some (.ref M), c4, c5, some (.ref W), none, none, none, none, none, none] ∧ XT H h M W gs ws kvs Hx ∧ Hand n Hx h, ?_, ?_⟩
    · refine ⟨M, _, eM, trivial, fun od => ?_⟩
      refine ⟨_, rfl, M, od, rfl, .inl ⟨kvs, upd_same, fun W nW => ?_⟩⟩
      have WM : M ≠ W := fun z => by rw [← z, upd_same] at nW; cases nW
      refine lc_it (walk_keys (d := M) (o := od) (kvs := kvs)) (fun i Hi => Hi M = some (.frz od (.dK kvs)) ∧ (∀ b o, b ≠ M → H1 b = some o → Hi b = some o) ∧ ∃ ws : List Str, Hi W = some (.lst (ws.map V.str)) ∧ ws.length ≤ i ∧ (∀ t ∈ ws, t ∈ gs.flatten) ∧ (ws = [] → ∀ j t, j < i → gs.flatten[j]? = some t → t.length ≠ 2)) ?_ (fun i Hi _ z => z.1) ?_ ?_
      · refine ⟨by rw [upd_ne WM, upd_same], fun b o nb e => ?_, [], upd_same, Nat.le_refl _, (fun t ht => by cases ht), fun _ j t hj => absurd hj (Nat.not_lt_zero j)⟩
        have bW : b ≠ W := fun z => by rw [z] at e nb; rw [upd_ne nb, e] at nW; cases nW
        rw [upd_ne bW, upd_ne nb]
        exact e
      · rintro i v Hi Hi' il ⟨eMi, si, ws, eW, wl, wm, wn⟩ ⟨rfl, k, v', hk, rfl⟩
        obtain ⟨t, et, rfl⟩ := mt.get hk
        have tm := List.mem_of_getElem? et
        have at_ := let_as lv tm
        have i1000 : i < 1000 := by have := mt.len; have := lv.sz; omega
        refine ⟨rfl, _, rfl, t, rfl, as_sz at_ (by decide), rfl, _, rfl, ite2 (fun e => ?_) (fun e => ?_)⟩
        · refine ⟨_, rfl, _, eW, ?_, by rw [upd_ne WM]; exact eMi, fun b o nb eb => ?_, ws ++ [t], by rw [upd_same, List.map_append]; rfl, by rw [List.length_append]; show ws.length + 1 ≤ _; omega, fun u hu => ?_, fun z => ?_⟩
          · rw [List.length_map]
            exact Nat.lt_of_le_of_lt (show _ ≤ 1000 by omega) (by decide)
          · have bW : b ≠ W := fun z => by rw [z] at eb nb; rw [upd_ne nb, eb] at nW; cases nW
            rw [upd_ne bW]
            exact si _ _ nb eb
          · rcases List.mem_append.mp hu with z | z
            · exact wm u z
            · rw [List.mem_singleton.mp z]; exact tm
          · exact absurd z (by simp)
        · refine ⟨eMi, si, ws, eW, by omega, wm, fun z j u hj hu => ?_⟩
          rcases Nat.lt_or_ge j i with c | c
          · exact wn z j u c hu
          · obtain rfl : j = i := by omega
            rw [et] at hu
            cases hu
            exact fun l2 => e (decide_eq_true (by rw [l2]; rfl))
      · rintro H2 ⟨eM2, s2, ws, eW, wl, wm, wn⟩
        have s3 : L2.Same H1 (upd H2 M (.dK kvs)) := fun b o e => by
          by_cases c : b = M
          · rw [c] at e ⊢
            rw [eM] at e
            rw [upd_same]; exact e
          · rw [upd_ne c]; exact s2 _ _ c e
        refine ⟨eM2, _, W, ws, rfl, ⟨upd_same, by rw [upd_ne WM.symm]; exact eW, mt.same s3, wm, fun z t ht => ?_, Same.but (s1.trans s3) h⟩, hd.same (s1.trans s3)⟩
        obtain ⟨j, hj⟩ := List.mem_iff_getElem?.mp ht
        have n2 := wn z j t (by have := (List.getElem?_eq_some_iff.mp hj).1; have := mt.len; omega) hj
        obtain ⟨b1, b2, _⟩ := of_get (lv.sm t ht)
        omega
    clear eM s1 mt H1
    rintro σ H1 ⟨c5', W, ws, rfl, xt, h1⟩
    clear nM eG gg lx
    have wAs : ∀ t ∈ ws, As t 500 := fun t ht => (let_as lv (xt.wl t ht)).mono (by decide)
    have Mh : M ≠ h := by
      obtain ⟨g, m, c, e2, _⟩ := h1
      exact ne_of xt.eM e2 (by intro z; cases z)
    -- nothing found yet
    refine ⟨fun σ Hx => σ = [some (.ref h), some (.ref aG), some (.str x), some (.ref M), c4, c5', some (.ref W), some (.str ""), none, none, none, none, none] ∧ Hx = H1, ⟨rfl, rfl⟩, ?_⟩
    rintro σ Hx ⟨rfl, rfl⟩
    -- sign by sign
    have lx : x.cps.size ≤ 60 := ax.l
    refine ⟨fun σ Hx => ∃ y c8 c9 c10 c11, σ = [some (.ref h), some (.ref aG), some (.str x), some (.ref M), c4, c5', some (.ref W), some (.str y), c8, c9, c10, c11, none] ∧ As y 120 ∧ lets gs y = lets gs x ∧ Hand (n + 300) Hx h ∧ But h H Hx, ?_, ?_⟩
    · refine ⟨_, rfl, x, rfl, ?_⟩
      refine for_it (Xen.walk_enumS (x := x)) (fun i σ Hi => ∃ y c8 c9 c10 c11, σ = [some (.ref h), some (.ref aG), some (.str x), some (.ref M), c4, c5', some (.ref W), some (.str y), c8, c9, c10, c11, none] ∧ As y (2 * i) ∧ (ws = [] → y.cps.toList.flatMap (sg gs) = (x.cps.toList.take i).flatMap (sg gs)) ∧ (ws ≠ [] → y.cps.toList = x.cps.toList.take i) ∧ Hand (n + 5 * (i : Int)) Hi h ∧ XT H h M W gs ws kvs Hi) ⟨"", none, none, none, none, rfl, ⟨by decide +kernel, by decide +kernel, by decide +kernel⟩, fun _ => by rw [List.take_zero, show ("" : Str).cps.toList = [] by decide +kernel], fun _ => by rw [List.take_zero]; decide +kernel, h1.mono (by omega), xt⟩ (fun i σ Hi _ z => trivial) ?_ ?_
      · rintro i v σ Hi Hi' il ⟨y, c8, c9, c10, c11, rfl, ay, y1, y2, hi, xi⟩ ⟨T', x1, x2, rfl, nT, rfl, ex1, ex2⟩
        obtain rfl : V.int (i : Nat) = x1 := Option.some.inj ex1
        obtain ⟨c, hc, rfl⟩ := Option.map_eq_some_iff.mp ex2
        have hcl : x.cps.toList[i]? = some c := by rw [Array.getElem?_toList]; exact hc
        have cm : c ∈ x.cps.toList := List.mem_of_getElem? hcl
        have ac : As ⟨#[c]⟩ 1 := as_one ⟨ax.a c cm, ax.k c cm⟩
        have tk1 : x.cps.toList.take (i + 1) = x.cps.toList.take i ++ [c] := by rw [List.take_add_one, hcl]; rfl
        have sT := same_upd nT (o := .tup [.int (i : Nat), .str ⟨#[c]⟩])
        refine ⟨T', _, rfl, SqT.of upd_same, rfl, _, _, rfl, _, _, rfl, rfl, ?_⟩
        replace xi := xi.same sT
        replace hi := hi.same sT
        generalize upd Hi T' (.tup [.int (i : Nat), .str ⟨#[c]⟩]) = Hj at xi hi ⊢
        clear sT nT Hi
        refine ⟨_, rfl, _, rfl, _, _, rfl, rfl, _, _, rfl, _, rfl, _, rfl, _, _, rfl, rfl, _, rfl, x, rfl, as_sz ax (by decide), ⟨_, rfl⟩, _, rfl, rfl, as_low (ax.cut _ _) (by decide), ?_⟩
        generalize Txt.lower (cutS x _ _) = nr
        -- its mates
        refine ⟨fun σ Hx => ∃ (b : Addr) (us : List Str), σ = [some (.ref h), some (.ref aG), some (.str x), some (.ref M), c4, c5', some (.ref W), some (.str y), some (.int (i : Nat)), some (.str ⟨#[c]⟩), some (.str nr), some (.ref b), none] ∧ Hx b = some (.lst (us.map V.str)) ∧ us.length ≤ 900 ∧ (∀ u ∈ us, ∃ g ∈ gs, (⟨#[lo1 c]⟩ : Str) ∈ g ∧ u ∈ g ∧ u.length = 1) ∧ XT H h M W gs ws kvs Hx ∧ Hand (n + 5 * (i : Int)) Hx h, ?_, ?_⟩
        · refine ⟨_, rfl, M, rfl, .inl ⟨kvs, .inl xi.eM⟩, _, rfl, ⟨_, rfl⟩, _, rfl, rfl, as_low ac (by decide), (by show 0 ≤ sizeLine; decide), fun z nz => ⟨_, DGet.k (k := .inr (Txt.lower ⟨#[c]⟩)) (same_upd nz _ _ xi.eM), ?_⟩⟩
          have sz := same_upd nz (o := .lst [])
          cases e : valV kvs (.inr (Txt.lower ⟨#[c]⟩)) with
          | none => exact ⟨z, [], rfl, upd_same, Nat.zero_le _, (fun u hu => by cases hu), xi.same sz, hi.same sz⟩
          | some v =>
            obtain ⟨g, hg, tg, a, rfl, ea⟩ := xi.mt.vs _ _ e
            rw [lo_one (ax.a c cm)] at tg
            refine ⟨a, mts g, rfl, sz _ _ ea, ?_, fun u hu => ?_, xi.same sz, hi.same sz⟩
            · have l1 : (mts g).length ≤ g.length := List.length_filter_le _ _
              have := flat_part hg
              omega
            · obtain ⟨m1, m2⟩ := List.mem_filter.mp hu
              exact ⟨g, hg, tg, m1, of_decide_eq_true m2⟩
        clear xi hi Hj
        rintro σ Hj ⟨b, us, rfl, eb, ul, um, xi, hi⟩
        have uAs : ∀ u ∈ us, As u 1 := fun u hu => by
          obtain ⟨g, hg, _, m2, l1⟩ := um u hu
          have w := let_as lv (List.mem_flatten.mpr ⟨g, hg, m2⟩)
          exact ⟨w.a, w.k, Nat.le_of_eq l1⟩
        have plain1 : ws = [] → (⟨#[c]⟩ : Str).cps.toList.flatMap (sg gs) = sg gs c := fun _ => by simp
        have bound : n + 5 * (i : Int) + 5 ≤ 1000000 := by omega
        -- another in its place
        refine ⟨fun σ Hx => ∃ s', σ = [some (.ref h), some (.ref aG), some (.str x), some (.ref M), c4, c5', some (.ref W), some (.str y), some (.int (i : Nat)), some (.str s'), some (.str nr), some (.ref b), none] ∧ As s' 1 ∧ (ws = [] → s'.cps.toList.flatMap (sg gs) = sg gs c) ∧ (ws ≠ [] → s'.cps.toList = [c]) ∧ XT H h M W gs ws kvs Hx ∧ Hand (n + 5 * (i : Int) + 4) Hx h, ?_, ?_⟩
        · refine ⟨_, rfl, eqL wAs xi.eW fun H2 s2 => ⟨_, rfl, ?_⟩⟩
          replace xi := xi.same s2
          replace hi := hi.same s2
          replace eb := s2 _ _ eb
          cases hw : ws.isEmpty with
          | false => exact iteF ⟨_, rfl, ac, plain1, fun _ => rfl, xi, hi.mono (by omega)⟩
          | true =>
            refine iteT ⟨_, rfl, neL (fun u hu => (uAs u hu).mono (by decide)) eb fun H3 s3 => ⟨_, rfl, ?_⟩⟩
            replace xi := xi.same s3
            replace hi := hi.same s3
            replace eb := s3 _ _ eb
            cases hu : us.isEmpty with
            | true => exact iteF ⟨_, rfl, ac, plain1, fun _ => rfl, xi, hi.mono (by omega)⟩
            | false =>
              have une : us.map V.str ≠ [] := by
                cases us with
                | nil => cases hu
                | cons u r => simp
              have few : (us.map V.str).length < 1000 := by rw [List.length_map]; omega
              refine iteT ⟨_, rfl, h, 2, _, rfl, by decide, by decide, hi, by show n + 5 * (i : Int) ≤ 1000000; omega, fun d H4 d0 d1 h4 b4 => ⟨rfl, _, rfl, ite2 (fun _ => ?_) (fun _ => ?_)⟩⟩
              · have bh := hand_ne hi eb
                have eb4 := b4 _ _ bh eb
                have xi4 := xi.but hi b4
                refine ⟨_, rfl, _, rfl, _, rfl, h, _, _, rfl, h4, by show n + 5 * (i : Int) + 1 ≤ 1000000; omega, .inl ⟨b, _, rfl, eb4, bh, une, few, fun v1 H5 m1 h5 b5 => ?_⟩⟩
                obtain ⟨u1, k1, rfl⟩ := List.mem_map.mp m1
                refine ⟨_, rfl, _, rfl, h, _, _, rfl, h5, by show n + 5 * (i : Int) + 1 + 1 ≤ 1000000; omega, .inl ⟨b, _, rfl, b5 _ _ bh eb4, bh, une, few, fun v2 H6 m2 h6 b6 => ?_⟩⟩
                obtain ⟨u2, k2, rfl⟩ := List.mem_map.mp m2
                have b46 := b5.trans b6
                refine ⟨⟨_, rfl⟩, u2, rfl, rfl, as_low (uAs u2 k2) (by decide), (by show 2 ≤ sizeLine; decide), fun L nL => ?_⟩
                have sL := same_upd nL (o := .lst [.str u1, .str (Txt.upper u2)])
                refine ⟨h, _, _, rfl, h6.same sL, by show n + 5 * (i : Int) + 1 + 1 + 1 ≤ 1000000; omega, .inl ⟨L, _, rfl, upd_same, h6.fresh nL, by simp, by show 2 < 1000; decide, fun v H7 mv h7 b7 => ?_⟩⟩
                have b47 := b46.trans ((Same.but sL h).trans b7)
                have xi7 := xi4.but h4 b47
                obtain ⟨s', rfl, as', r'⟩ : ∃ s', v = .str s' ∧ As s' 1 ∧ s'.cps.toList.flatMap (sg gs) = sg gs c := by
                  simp only [List.mem_cons, List.not_mem_nil, or_false] at mv
                  rcases mv with e | e
                  · obtain ⟨g, hg, q1, q2, l1⟩ := um u1 k1
                    obtain ⟨d, rfl, d1, d2⟩ := one_sign lv (List.mem_flatten.mpr ⟨g, hg, q2⟩) l1
                    exact ⟨_, e, uAs _ k1, by rw [← (sg_mate lv hg q1 q2 d1 d2).1]; simp⟩
                  · obtain ⟨g, hg, q1, q2, l1⟩ := um u2 k2
                    obtain ⟨d, rfl, d1, d2⟩ := one_sign lv (List.mem_flatten.mpr ⟨g, hg, q2⟩) l1
                    rw [up_one (by omega)] at e
                    refine ⟨_, e, ?_, by rw [← (sg_mate lv hg q1 q2 d1 d2).2]; simp⟩
                    have w := (uAs _ k2).up
                    rw [up_one (by omega)] at w
                    exact w
                exact ⟨s', rfl, as', fun _ => r', fun z => absurd (List.isEmpty_iff.mp hw) z, xi7, h7.mono (by omega)⟩
              · exact ⟨_, rfl, ac, plain1, fun _ => rfl, xi.but hi b4, h4.mono (by omega)⟩
        clear xi hi eb Hj
        rintro σ Hj ⟨s', rfl, as', r1, r2, xi, hi⟩
        have tk1 : x.cps.toList.take (i + 1) = x.cps.toList.take i ++ [c] := by rw [List.take_add_one, hcl]; rfl
        refine ⟨_, rfl, _, rfl, _, _, rfl, rfl, as_sz2 ay as' (by omega), _, rfl, (by show 5 ≤ sizeLine; decide), fun L nL => ?_⟩
        have sL := same_upd nL (o := .lst [.str "", .str "", .str "", .str "!", .str "_"])
        refine ⟨h, _, _, rfl, hi.same sL, by show n + 5 * (i : Int) + 4 ≤ 1000000; omega, .inl ⟨L, _, rfl, upd_same, hi.fresh nL, by simp, by show 5 < 1000; decide, fun v H2 mv h2 b2 => ?_⟩⟩
        obtain ⟨o, rfl, ao, ro⟩ : ∃ o, v = .str o ∧ As o 1 ∧ o.cps.toList.flatMap (sg gs) = [] := by
          have e0 : ("" : Str).cps.toList = [] := by decide +kernel
          have e1 : ("!" : Str).cps.toList = [33] := by decide +kernel
          have e2 : ("_" : Str).cps.toList = [95] := by decide +kernel
          simp only [List.mem_cons, List.not_mem_nil, or_false] at mv
          rcases mv with z | z | z | z | z
          · exact ⟨_, z, ⟨by decide +kernel, by decide +kernel, by decide +kernel⟩, by rw [e0]; rfl⟩
          · exact ⟨_, z, ⟨by decide +kernel, by decide +kernel, by decide +kernel⟩, by rw [e0]; rfl⟩
          · exact ⟨_, z, ⟨by decide +kernel, by decide +kernel, by decide +kernel⟩, by rw [e0]; rfl⟩
          · exact ⟨_, z, ⟨by decide +kernel, by decide +kernel, by decide +kernel⟩, by rw [e1]; simp [sg_none lv (c := 33) (.inl (by decide))]⟩
          · exact ⟨_, z, ⟨by decide +kernel, by decide +kernel, by decide +kernel⟩, by rw [e2]; simp [sg_none lv (c := 95) (.inl (by decide))]⟩
        have xi2 := (xi.same sL).but (hi.same sL) b2
        have fin : ∀ b : Bool, (ws ≠ [] → b = false) → As (if b = true then o else Str.empty) 1 ∧ (ws = [] → (y ++ s' ++ (if b = true then o else Str.empty)).cps.toList.flatMap (sg gs) = (x.cps.toList.take (i + 1)).flatMap (sg gs)) ∧ (ws ≠ [] → (y ++ s' ++ (if b = true then o else Str.empty)).cps.toList = x.cps.toList.take (i + 1)) := fun b hb => by
          have e0 : Str.empty.cps.toList = [] := rfl
          have ro' : (if b = true then o else Str.empty).cps.toList.flatMap (sg gs) = [] := by
            cases b with
            | false => rfl
            | true => exact ro
          refine ⟨?_, fun w => ?_, fun w => ?_⟩
          · cases b with
            | false => exact ⟨(fun d hd => by cases hd), (fun d hd => by cases hd), Nat.zero_le _⟩
            | true => exact ao
          · rw [Str.cps_append, Array.toList_append, Str.cps_append, Array.toList_append, List.flatMap_append, List.flatMap_append, ro', List.append_nil, y1 w, r1 w, tk1, List.flatMap_append]
            simp
          · have e1 : (if b = true then o else Str.empty).cps.toList = [] := by rw [hb w]; rfl
            rw [Str.cps_append, Array.toList_append, Str.cps_append, Array.toList_append, e1, List.append_nil, y2 w, r2 w, tk1]
        have ays := ay.app as'
        refine ⟨_, rfl, " ", nr, rfl, rfl, _, rfl, ite2 (fun _ => ?_) (fun _ => ?_)⟩
        · refine ⟨_, rfl, eqL wAs xi2.eW fun H3 s3 => .inr ⟨_, rfl, o, ws.isEmpty, rfl, rfl, Nat.le_trans ao.l (by decide), ?_⟩⟩
          obtain ⟨a1, a2, a3⟩ := fin ws.isEmpty (fun w => by cases ws with | nil => exact absurd rfl w | cons _ _ => rfl)
          exact ⟨_, _, rfl, rfl, as_sz2 ays a1 (by omega), _, _, _, _, _, rfl, (ays.app a1).mono (by omega), a2, a3, (h2.same s3).mono (by push_cast; omega), xi2.same s3⟩
        · refine .inr ⟨_, rfl, o, false, rfl, rfl, Nat.le_trans ao.l (by decide), ?_⟩
          obtain ⟨a1, a2, a3⟩ := fin false (fun _ => rfl)
          exact ⟨_, _, rfl, rfl, as_sz2 ays a1 (by omega), _, _, _, _, _, rfl, (ays.app a1).mono (by omega), a2, a3, h2.mono (by push_cast; omega), xi2⟩
      · rintro σ He ⟨y, c8, c9, c10, c11, rfl, ay, y1, y2, he, xe⟩
        have ex : x.cps.toList.take x.cps.size = x.cps.toList := List.take_of_length_le (by simp)
        rw [ex] at y1 y2
        refine ⟨y, _, _, _, _, rfl, ay.mono (by omega), ?_, he.mono (by omega), xe.bt⟩
        by_cases w : ws = []
        · have o := xe.wo w
          rw [lets_one o ay, lets_one o ax, y1 w]
        · rw [str_eq (y2 w)]
    rintro σ He ⟨y, c8, c9, c10, c11, rfl, ay, ly, he, be⟩
    exact ⟨_, rfl, q y He ay ly he be⟩
end
end K79
set_option Elab.async false
set_option linter.all false
set_option maxRecDepth 100000
set_option maxHeartbeats 4000000
set_option pp.maxSteps 400
set_option pp.deepTerms false
namespace K79
open PySem PySem.Spec PyProof.Rows L2
open Xk Az
section
variable {P : Program} {w : World} {K : PySem.W.Frag} {mg : Str → Option Value} {base : Heap} {C : Addr}
theorem lex_same {O : PyProof.Rows.KeyOrd} (x : O.α) (r t : List O.α) : PyProof.Rows.lexLt O (x :: r) (x :: t) = PyProof.Rows.lexLt O r t := by
  rw [PyProof.Rows.lex_cons, O.irrefl]
  simp
theorem lex_app {O : PyProof.Rows.KeyOrd} (r t : List O.α) : ∀ p : List O.α, PyProof.Rows.lexLt O (p ++ r) (p ++ t) = PyProof.Rows.lexLt O r t
  | [] => rfl
  | x :: p => by
    rw [List.cons_append, List.cons_append, lex_same, lex_app r t p]
abbrev TkL := List (Int ⊕ List Nat)
/-- the tokens of a row of numbers -/
def tk (ns : List Nat) : TkL := PySem.W.keyToksAll (ns.map fun n => PyData.int (n : Nat))
theorem tk_nil : tk [] = [.inl 0] := rfl
theorem tk_cons (n : Nat) (ns : List Nat) : tk (n :: ns) = .inl 1 :: .inl ((n : Nat) : Int) :: tk ns := by
  unfold tk
  simp [PySem.W.keyToksAll, PySem.W.keyToks]
theorem tk_inj : ∀ (xs ys : List Nat) (l m : TkL), tk xs ++ l = tk ys ++ m → xs = ys ∧ l = m
  | [], [], l, m, h => ⟨rfl, by rw [tk_nil] at h; exact (List.cons.inj h).2⟩
  | [], y :: ys, l, m, h => by
    rw [tk_nil, tk_cons] at h
    have := (List.cons.inj h).1
    cases this
  | x :: xs, [], l, m, h => by
    rw [tk_nil, tk_cons] at h
    have := (List.cons.inj h).1
    cases this
  | x :: xs, y :: ys, l, m, h => by
    rw [tk_cons, tk_cons] at h
    have h1 := (List.cons.inj h).2
    have h2 := (List.cons.inj h1).1
    have h3 := (List.cons.inj h1).2
    obtain ⟨e1, e2⟩ := tk_inj xs ys l m h3
    have : x = y := by
      injection h2 with h2
      omega
    exact ⟨by rw [this, e1], e2⟩
theorem tk_ind {xs ys : List Nat} (h : xs ≠ ys) (l m : TkL) : PyProof.Rows.lexLt PyProof.Rows.itemOrd (tk xs ++ l) (tk ys ++ m) = PyProof.Rows.lexLt PyProof.Rows.itemOrd (tk xs) (tk ys) := by
  have al : PySem.W.alike (nT xs) (nT ys) = true := by
    unfold nT
    simp only [PySem.W.alike, alike_ints]
  have e : PyData.eqv (nT xs) (nT ys) = false := by
    unfold nT
    simp only [PyData.eqv, eqv_ints]
    exact decide_eq_false h
  have w := (PySem.W.toks_eqv (nT xs) (nT ys) al).2 e l m
  unfold nT at w
  rw [PySem.W.keyToks, PySem.W.keyToks] at w
  exact w
def kA (c : Cg) (x : Str) : List Nat := lets c.1 (bareT c.2.1 x)
def kB (c : Cg) (x : Str) : List Nat := lets c.1 x
/-- a rank's tokens, and what comes behind -/
def KTs (c : Cg) (x : Str) (l : TkL) : TkL := .inl 1 :: (tk (kA c x) ++ (.inl 1 :: (tk (kB c x) ++ l)))
theorem rk_toks (c : Cg) (x : Str) : PySem.W.keyToks (dRk c x) = KTs c x (.inl 1 :: (PySem.W.keyToks (.str x) ++ [.inl 0])) := by
  unfold dRk KTs nT kA kB tk
  simp [PySem.W.keyToksAll, PySem.W.keyToks]
def KE (c : Cg) (x y : Str) : Prop := kA c x = kA c y ∧ kB c x = kB c y
theorem KTs_eq {c : Cg} {x y : Str} (h : KE c x y) (l : TkL) : KTs c x l = KTs c y l := by
  unfold KTs
  rw [h.1, h.2]
theorem KTs_ind {c : Cg} {x y : Str} (h : ¬ KE c x y) (l m : TkL) : PyProof.Rows.lexLt PyProof.Rows.itemOrd (KTs c x l) (KTs c y m) = PyProof.Rows.lexLt PyProof.Rows.itemOrd (KTs c x []) (KTs c y []) := by
  unfold KTs
  rw [lex_same, lex_same]
  by_cases a : kA c x = kA c y
  · have b : kB c x ≠ kB c y := fun z => h ⟨a, z⟩
    rw [a, lex_app, lex_app, lex_same, lex_same, tk_ind b, tk_ind b]
  · rw [tk_ind a, tk_ind a]
theorem KTs_inj {c : Cg} {x y : Str} (h : KTs c x [] = KTs c y []) : KE c x y := by
  unfold KTs at h
  have h1 := (List.cons.inj h).2
  obtain ⟨e1, e2⟩ := tk_inj _ _ _ _ h1
  have h3 := (List.cons.inj e2).2
  exact ⟨e1, (tk_inj _ _ _ _ h3).1⟩
theorem le_lex {c : Cg} {x y : Str} (h : leC c x y = true) : PyProof.Rows.lexLt PyProof.Rows.itemOrd (PySem.W.keyToks (dRk c y)) (PySem.W.keyToks (dRk c x)) = false := by
  have z : (!PySem.W.dataLt (dRk c y) (dRk c x)) = true := h
  have z2 : PySem.W.dataLt (dRk c y) (dRk c x) = false := by simpa using z
  exact z2
/-- what lies between two of one key has it too -/
theorem between {c : Cg} {x y z : Str} (h1 : leC c x y = true) (h2 : leC c y z = true) (e : KE c x z) : KE c y x := by
  by_cases d : KE c y x
  · exact d
  · have a := le_lex h1
    have b := le_lex h2
    rw [rk_toks, rk_toks, KTs_ind d] at a
    rw [rk_toks, rk_toks] at b
    have d2 : ¬ KE c z y := fun w => d ⟨(e.1.trans w.1).symm, (e.2.trans w.2).symm⟩
    rw [KTs_ind d2, ← KTs_eq e []] at b
    exact KTs_inj (PyProof.Rows.itemOrd |> PyProof.Rows.listOrd |>.total _ _ a b)
theorem ke_dec (c : Cg) (x y : Str) : PyData.eqv (dKy c x) (dKy c y) = true ↔ KE c x y := by
  rw [eqv_ky, decide_eq_true_iff]
  exact Iff.rfl
theorem ke_ne {c : Cg} {x y : Str} (h : KE c x y) : (!PyData.eqv (dKy c x) (dKy c y)) = false := by
  rw [(ke_dec c x y).mpr h]; rfl
/-- in a row, from one to the other -/
theorem row_between {c : Cg} {ts : List Str} {i j k : Nat} {x y z : Str} (hx : (srt c ts)[i]? = some x) (hy : (srt c ts)[j]? = some y) (hz : (srt c ts)[k]? = some z) (e : KE c x y) (b1 : i ≤ k) (b2 : k ≤ j) : KE c z x := by
  have le : ∀ {a b : Nat} {u v : Str}, (srt c ts)[a]? = some u → (srt c ts)[b]? = some v → a ≤ b → leC c u v = true := fun {a b u v} h1 h2 ab => by
    rcases Nat.lt_or_eq_of_le ab with l | l
    · obtain ⟨j1, z1⟩ := List.getElem?_eq_some_iff.mp h1
      obtain ⟨j2, z2⟩ := List.getElem?_eq_some_iff.mp h2
      have w := (List.pairwise_iff_getElem.mp (srt_pw c ts)) a b j1 j2 l
      rw [z1, z2] at w
      exact w
    · rw [l] at h1
      rw [h1] at h2
      cases h2
      rcases (leC_total c).total u u with w | w <;> exact w
  exact between (le hx hz b1) (le hz hy b2) e
/-! turned about -/
/-- unlike at some place that both have -/
def Unl (a b : List Nat) : Prop := ∃ p u v r s, a = p ++ u :: r ∧ b = p ++ v :: s ∧ u ≠ v
theorem tk_app (p : List Nat) (u : Nat) (r : List Nat) : ∃ q : TkL, ∀ v s, tk (p ++ v :: s) = q ++ (.inl 1 :: .inl ((v : Nat) : Int) :: tk s) := by
  induction p with
  | nil => exact ⟨[], fun v s => by rw [List.nil_append, tk_cons]; rfl⟩
  | cons n p ih =>
    obtain ⟨q, hq⟩ := ih
    exact ⟨.inl 1 :: .inl ((n : Nat) : Int) :: q, fun v s => by rw [List.cons_append, tk_cons, hq]; rfl⟩
theorem unl_lt {c : Cg} {x y : Str} {p r s : List Nat} {u v : Nat} (e1 : kA c x = p ++ u :: r) (e2 : kA c y = p ++ v :: s) (lt : u < v) : leC c x y = true := by
  have w : PyProof.Rows.lexLt PyProof.Rows.itemOrd (PySem.W.keyToks (dRk c y)) (PySem.W.keyToks (dRk c x)) = false := by
    rw [rk_toks, rk_toks]
    unfold KTs
    rw [lex_same, e1, e2]
    obtain ⟨q, hq⟩ := tk_app p u r
    rw [hq u r, hq v s, List.append_assoc, List.append_assoc, lex_app, List.cons_append, List.cons_append, List.cons_append, List.cons_append, lex_same, PyProof.Rows.lex_cons]
    have a1 : PyProof.Rows.itemOrd.blt (.inl ((v : Nat) : Int)) (.inl ((u : Nat) : Int)) = false := decide_eq_false (by omega)
    have a2 : PyProof.Rows.itemOrd.blt (.inl ((u : Nat) : Int)) (.inl ((v : Nat) : Int)) = true := decide_eq_true (by omega)
    rw [a1, a2]
    rfl
  show (!PySem.W.dataLt (dRk c y) (dRk c x)) = true
  have w2 : PySem.W.dataLt (dRk c y) (dRk c x) = false := w
  rw [w2]; rfl
theorem srt_two {c : Cg} {x y : Str} (h : leC c x y = true) : srt c [x, y] = [x, y] ∧ srt c [y, x] = [x, y] := by
  have pw : [x, y].Pairwise (fun a b => leC c a b = true) := List.pairwise_cons.mpr ⟨fun z hz => by rw [List.mem_singleton.mp hz]; exact h, List.pairwise_singleton _ _⟩
  exact ⟨(sorted_is (List.Perm.refl _) pw).symm, (sorted_is (List.Perm.swap y x []) pw).symm⟩
theorem look_rev {gs : List (List Str)} (lv : Lv gs) (lv' : Lv gs.reverse) (t : Str) : look (kvL gs.reverse) t = (look (kvL gs) t).map fun n => gs.length - 1 - n := by
  by_cases m : t ∈ gs.flatten
  · obtain ⟨g, hg, mt⟩ := List.mem_flatten.mp m
    obtain ⟨i, e⟩ := List.mem_iff_getElem?.mp hg
    have il := (List.getElem?_eq_some_iff.mp e).1
    rw [look_in lv e mt]
    show _ = some (gs.length - 1 - i)
    refine look_in lv' ?_ mt
    rw [List.getElem?_reverse (by omega)]
    rw [show gs.length - 1 - (gs.length - 1 - i) = i by omega]
    exact e
  · rw [look_out m, look_out]
    · rfl
    · intro w
      obtain ⟨g, hg, mt⟩ := List.mem_flatten.mp w
      exact m (List.mem_flatten.mpr ⟨g, List.mem_reverse.mp hg, mt⟩)
theorem rd_rev {k1 k2 : List (Key × V)} {f : Nat → Nat} (h : ∀ t, look k2 t = (look k1 t).map f) : ∀ l : List Nat, rd k2 l = (rd k1 l).map f
  | [] => rfl
  | [a] => by
    show one k2 a = (one k1 a).map f
    unfold one
    rw [h]
    cases look k1 ⟨#[a]⟩ <;> rfl
  | a :: b :: r => by
    rw [rd, rd, h]
    cases e : look k1 ⟨#[a, b]⟩ with
    | some n =>
      show f n :: rd k2 r = (n :: rd k1 r).map f
      rw [List.map_cons, rd_rev h r]
    | none =>
      show one k2 a ++ rd k2 (b :: r) = (one k1 a ++ rd k1 (b :: r)).map f
      rw [List.map_append, rd_rev h (b :: r)]
      congr 1
      unfold one
      rw [h]
      cases look k1 ⟨#[a]⟩ <;> rfl
theorem rd_gs {gs : List (List Str)} (lv : Lv gs) : ∀ (l : List Nat), ∀ n ∈ rd (kvL gs) l, n < gs.length := fun l => by
  have lt : ∀ t n, look (kvL gs) t = some n → n < gs.length := fun t n e => by
    obtain ⟨g, e1, _⟩ := look_some lv e
    exact (List.getElem?_eq_some_iff.mp e1).1
  have o : ∀ a, ∀ n ∈ one (kvL gs) a, n < gs.length := fun a n hn => by
    unfold one at hn
    cases e : look (kvL gs) ⟨#[a]⟩ with
    | none => rw [e] at hn; cases hn
    | some k => rw [e] at hn; rw [List.mem_singleton.mp hn]; exact lt _ _ e
  have main : ∀ (k : Nat) (l : List Nat), l.length ≤ k → ∀ n ∈ rd (kvL gs) l, n < gs.length := fun k => by
    induction k with
    | zero =>
      intro l hl n hn
      have e0 : l = [] := List.eq_nil_of_length_eq_zero (by omega)
      rw [e0] at hn
      cases hn
    | succ k ih =>
      intro l hl n hn
      match l, hl, hn with
      | [], _, hn => cases hn
      | [a], _, hn => exact o a n hn
      | a :: b :: r, hl, hn =>
        rw [rd] at hn
        simp only [List.length_cons] at hl
        split at hn
        · rename_i z e
          rcases List.mem_cons.mp hn with w | w
          · rw [w]; exact lt _ _ e
          · exact ih r (by omega) n w
        · rcases List.mem_append.mp hn with w | w
          · exact o a n w
          · exact ih (b :: r) (by simp only [List.length_cons]; omega) n w
  exact main l.length l (Nat.le_refl _)
/-- with the letters turned about, what is unlike at some place stands the other way about -/
theorem about {gs : List (List Str)} {ws : List Str} {cm : Bool} {x y : Str} (lv : Lv gs) (lv' : Lv gs.reverse) (h : Unl (kA (gs, ws, cm) x) (kA (gs, ws, cm) y)) : srt (gs, ws, cm) [x, y] = (srt (gs.reverse, ws, cm) [x, y]).reverse := by
  obtain ⟨p, u, v, r, s, e1, e2, ne⟩ := h
  have ul : u < gs.length := rd_gs lv _ u (by
    have : u ∈ kA (gs, ws, cm) x := by rw [e1]; simp
    exact this)
  have vl : v < gs.length := rd_gs lv _ v (by
    have : v ∈ kA (gs, ws, cm) y := by rw [e2]; simp
    exact this)
  have f1 : kA (gs.reverse, ws, cm) x = (kA (gs, ws, cm) x).map fun n => gs.length - 1 - n := rd_rev (look_rev lv lv') _
  have f2 : kA (gs.reverse, ws, cm) y = (kA (gs, ws, cm) y).map fun n => gs.length - 1 - n := rd_rev (look_rev lv lv') _
  rw [e1, List.map_append, List.map_cons] at f1
  rw [e2, List.map_append, List.map_cons] at f2
  rcases Nat.lt_or_gt_of_ne ne with lt | gt
  · rw [(srt_two (unl_lt e1 e2 lt)).1, (srt_two (unl_lt f2 f1 (by omega))).2]; rfl
  · rw [(srt_two (unl_lt e2 e1 gt)).2, (srt_two (unl_lt f1 f2 (by omega))).1]; rfl
end
end K79
set_option Elab.async false
set_option linter.all false
set_option maxRecDepth 100000
set_option maxHeartbeats 4000000
set_option pp.maxSteps 400
set_option pp.deepTerms false
namespace K79
open PySem PySem.Spec PyProof.Rows L2
open Xk Az
section
variable {P : Program} {w : World} {K : PySem.W.Frag} {mg : Str → Option Value} {base : Heap} {C : Addr}
theorem first_at {us : List Str} {y : Str} (h : y ∈ us) : ∃ i : Nat, us[i]? = some y ∧ ∀ (m : Nat) (u : Str), m < i → us[m]? = some u → u ≠ y := by
  induction us with
  | nil => cases h
  | cons u r ih =>
    by_cases e : u = y
    · exact ⟨0, by rw [e]; rfl, fun m u hm => absurd hm (Nat.not_lt_zero m)⟩
    · rcases List.mem_cons.mp h with z | z
      · exact absurd z.symm e
      · obtain ⟨i, e1, e2⟩ := ih z
        refine ⟨i + 1, e1, fun m w hm hw => ?_⟩
        cases m with
        | zero => cases hw; exact e
        | succ m => exact e2 m w (by omega) hw
theorem first_no {us : List Str} {y : Str} {i : Nat} (e2 : ∀ (m : Nat) (u : Str), m < i → us[m]? = some u → u ≠ y) : ∀ (m : Nat) (z' : V), m < i → (us.map V.str)[m]? = some z' → eqV z' (.str y) = false := fun m z' hm hz => by
  rw [List.getElem?_map] at hz
  obtain ⟨u, hu, rfl⟩ := Option.map_eq_some_iff.mp hz
  show (u == y) = false
  exact beq_eq_false_iff_ne.mpr (e2 m u hm hu)
theorem eqv_str (y : Str) : eqV (.str y) (.str y) = true := beq_self_eq_true y
theorem map_at {us : List Str} {y : Str} {i : Nat} (e : us[i]? = some y) : (us.map V.str)[i]? = some (.str y) := by rw [List.getElem?_map, e]; rfl
theorem two_sorted {ns : List Int} {a b : Int} (pm : ns.Perm [a, b]) (pw : ns.Pairwise (· ≤ ·)) : ∃ lo hi, ns = [lo, hi] ∧ lo ≤ hi ∧ ((lo = a ∧ hi = b) ∨ (lo = b ∧ hi = a)) := by
  have l := pm.length_eq
  match ns, l, pm, pw with
  | [p, q], _, pm, pw =>
    have le : p ≤ q := (List.pairwise_cons.mp pw).1 q List.mem_cons_self
    refine ⟨p, q, rfl, le, ?_⟩
    have mp : p ∈ [a, b] := pm.mem_iff.mp List.mem_cons_self
    by_cases e : p = a
    · rw [e] at pm
      have w := (List.perm_cons a).mp pm
      exact .inl ⟨e, (List.singleton_perm_singleton.mp w)⟩
    · have e2 : p = b := by
        simp only [List.mem_cons, List.not_mem_nil, or_false] at mp
        exact mp.resolve_left e
      rw [e2] at pm
      have w := (List.perm_cons b).mp (pm.trans (List.Perm.swap b a []))
      exact .inr ⟨e2, List.singleton_perm_singleton.mp w⟩
theorem cut_in {xs : List V} {a b : Nat} {v : V} (h : v ∈ cutV xs (some (a : Int)) (some (b : Int))) : ∃ k, a ≤ k ∧ k < b ∧ xs[k]? = some v := by
  unfold cutV at h
  rw [HT.sIx_nat, HT.sIx_nat] at h
  obtain ⟨j, e⟩ := List.mem_iff_getElem?.mp h
  rw [List.getElem?_take] at e
  split at e
  · rename_i lt
    rw [List.getElem?_drop] at e
    have hl := (List.getElem?_eq_some_iff.mp e).1
    by_cases c : a ≤ xs.length
    · rw [Nat.min_eq_left c] at e lt hl
      exact ⟨a + j, by omega, by omega, e⟩
    · omega
  · cases e
def spNR (K : PySem.W.Frag) (C : Addr) : Sp := fun vs H Q _ => ∃ (h a : Addr) (G : V) (l : Addr) (n : Int) (c : Cg) (ts : List Str), vs = [.ref h, .ref a, G, .ref l] ∧ CuAt K C H a c ∧ GoodC c ∧ LP H G c.1 ∧ c.1.flatten.length ≤ 900 ∧ H l = some (.lst (ts.map V.str)) ∧ l ≠ h ∧ ts.length ≤ 20 ∧ (∀ t ∈ ts, As t 60) ∧ Hand n H h ∧ n + 10000 ≤ far ∧ ∀ H', Hand (n + 6000) H' h → But h H H' → Q (.bl true) H'
theorem ok_nr {f : Addr} {fd : FuncData} {e : Ex} {fB fO : Addr} {fdB fdO : FuncData} (D : Df K mg "_law_near_right" ["_law_hand_here", "_law_custom", "_law_letters_here", "_law_texts"] sNearRight f fd) (T : Txt K mg C e) (mB : Mt P w K mg base C "bare" 2 fB fdB ["self", "text"] (spBare K C)) (O : Om P w K mg base C fO fdO) (cKy : Ca P w K mg base 4 "_law_key" ["_law_custom", "_law_text_here"] (spKy K C)) (cEx : Ca P w K mg base 3 "_law_exchanged" ["_law_hand_here", "_law_letters_here", "_law_text_here"] spEx) : FnOk P w K mg base CX0 7 f fd ["_law_hand_here", "_law_custom", "_law_letters_here", "_law_texts"] (spNR K C) := by
  obtain ⟨_, ro, bo⟩ := O.b2
  refine D.fn.ok scNearRight (fun vs H Q E h => ?_) (fun cdv A outer s H vs Q E hr h => ?_)
  · obtain ⟨h, a, G, l, n, c, ts, rfl, at_, gc, lG, g9, el, lh, l20, al, hd, hn, q⟩ := h
    rfl
  · obtain ⟨h, a, G, l, n, c, ts, rfl, at_, gc, lG, g9, el, lh, l20, al, hd, hn, q⟩ := h
    refine ⟨_, (pss_cons (ps_for PassesOwn.never rfl (pi_list (pv 3)) (pg_name (i := 4) scNearRight.nd rfl (.inr rfl)) (C8.pss_cut (ps_set (i := 5) scNearRight.nd rfl (.inl rfl) (pe_ca cEx hr (by decide) (by rfl) (pa_cons (pv 0) (pa_cons (pv 2) (pa_cons (pv 4) pa_nil)))))
      (C8.pss_cut (ps_if (PW.pt (pw_or (pt_cmpR op_ne (pe_meth (pv 1) T.cl mB.m mB.ok (hr.mono (by decide)) mB.bd .nil pass0 (pa_cons (pv 4) pa_nil)) (pv 4) (nomark _)) (pw_or1 (pt_cmpR op_ne (pe_meth (pv 1) T.cl mB.m mB.ok (hr.mono (by decide)) mB.bd .nil pass0 (pa_cons (pv 5) pa_nil)) (pv 5) (nomark _))))) (pss_one (ps_set (i := 5) scNearRight.nd rfl (.inl rfl) (pv 4))) pss_nil)
      (C8.pss_cut (ps_if (pt_cmpR (op_neD hr.units) (pe_ca cKy hr (by decide) (by rfl) (pa_cons (pv 1) (pa_cons (pv 5) pa_nil))) (pe_ca cKy hr (by decide) (by rfl) (pa_cons (pv 1) (pa_cons (pv 4) pa_nil))) (nomark _)) (pss_one (ps_ret pe_bl)) pss_nil)
      (C8.pss_cut (ps_set (i := 6) scNearRight.nd rfl (.inl rfl) (pe_meth (pv 1) T.cl O.m O.ok (hr.mono (by decide)) bo ro pass0 (pa_cons (pe_op op_cat (pv 3) (pe_lst (pa_cons (pv 5) pa_nil))) pa_nil)))
      (C8.pss_cut (ps_set (i := 7) scNearRight.nd rfl (.inl rfl) (pe_callB cr_sorted (by rfl) T.sorted (by decide +kernel) (pa_cons (pe_lst (pa_cons (pe_bm PySem.F.plainAttrs_list PySem.F.slot_list_index PySem.F.type_list_index mt_index (pv 6) (pa_cons (pv 5) pa_nil)) (pa_cons (pe_bm PySem.F.plainAttrs_list PySem.F.slot_list_index PySem.F.type_list_index mt_index (pv 6) (pa_cons (pv 4) pa_nil)) pa_nil))) pa_nil)))
      (pss_one (ps_if (pt_val (pe_callB (cr_any (by rfl)) (by rfl) T.any (by decide +kernel) (pa_cons (pe_lc (own := [("_law_one", 8)]) (g := gName 8) (tt := tYes) (te := tOp (rNeD K) (tCall (spKy K C) [] E0 (tCons (tVar 1) (tCons (tVar 8) tNil))) (tCall (spKy K C) [] E0 (tCons (tVar 1) (tCons (tVar 4) tNil)))) (by rfl) scNearRight.nd (pi_list (pe_slice sl_list (pv 6) (po_some (pe_ix ix_list (pv 7) pe_int (fun _ _ => rfl))) (po_some (pe_op op_add (pe_ix ix_list (pv 7) pe_int (fun _ _ => rfl)) pe_int)))) (blkOk_by (own := [("_law_one", 8)]) (N := ["_law_hand_here", "_law_custom", "_law_letters_here", "_law_texts", "_law_text_here", "_law_near", "_law_row", "_law_ends", "_law_one"]) (sc := defScope sNearRight) (by decide +kernel)) (fun _ _ _ _ _ => pg_name (i := 8) scNearRight.nd rfl (.inl rfl)) (fun _ _ _ _ _ => pts_nil) (fun _ _ _ _ _ => pe_cmpR (op_neD hr.units) (pe_ca cKy hr (by decide) (by rfl) (pa_cons (pv 1) (pa_cons (pv 8) pa_nil))) (pe_ca cKy hr (by decide) (by rfl) (pa_cons (pv 1) (pa_cons (pv 4) pa_nil))) (nomark _))) pa_nil))) (pss_one (ps_ret pe_bl)) pss_nil))))))))
      (pss_one (ps_ret pe_bl))), ?_⟩
    have fr : n + 10000 ≤ 1000000 := hn
    have al5 : ∀ t ∈ ts, As t 500 := fun t ht => (al t ht).mono (by decide)
    refine ⟨_, rfl, l, rfl, ⟨_, SqL.of el⟩, ?_⟩
    refine for_list (K := K) (a := l) (xs := ts.map V.str) (fun i σ Hi => ∃ c4 c5 c6 c7, σ = [some (.ref h), some (.ref a), some G, some (.ref l), c4, c5, c6, c7, none] ∧ Hand (n + 300 * (i : Int)) Hi h ∧ But h H Hi) ⟨none, none, none, none, rfl, hd.mono (by omega), But.refl h H⟩ (fun i σ Hi _ z => by obtain ⟨_, _, _, _, _, _, b⟩ := z; exact SqL.of (b _ _ lh el)) ?_ ?_
    · rintro i v σ Hi hv ⟨c4, c5, c6, c7, rfl, hi, bi⟩
      rw [List.getElem?_map] at hv
      obtain ⟨t, ht, rfl⟩ := Option.map_eq_some_iff.mp hv
      have il := (List.getElem?_eq_some_iff.mp ht).1
      have tm := List.mem_of_getElem? ht
      have a5 := al5 t tm
      -- one near it
      refine ⟨fun σ Hx => ∃ y, σ = [some (.ref h), some (.ref a), some G, some (.ref l), some (.str t), some (.str y), c6, c7, none] ∧ As y 120 ∧ lets c.1 y = lets c.1 t ∧ Hand (n + 300 * ((i + 1 : Nat) : Int)) Hx h ∧ But h H Hx, ?_, ?_⟩
      · refine ⟨_, rfl, _, rfl, _, rfl, h, _, G, c.1, t, rfl, lG.tk (tk_but hd bi), gc.lv, g9, al t tm, hi, by show n + 300 * (i : Int) + 400 ≤ 1000000; omega, fun y H2 ay ly h2 b2 => ⟨y, rfl, ay, ly, h2.mono (by push_cast; omega), bi.trans b2⟩⟩
      clear hi bi Hi c4 c5
      rintro σ Hi ⟨y, rfl, ay, ly, hi, bi⟩
      have ati := at_.but hd bi
      obtain ⟨dx, fs, ei, f1, f2, fo, f4, f5⟩ := cu_all ati
      refine ⟨fun σ Hx => ∃ y, σ = [some (.ref h), some (.ref a), some G, some (.ref l), some (.str t), some (.str y), c6, c7, none] ∧ As y 120 ∧ KE c y t ∧ L2.Same Hi Hx, ?_, ?_⟩
      · have at1 : As t 120 := (al t tm).mono (by decide)
        refine ⟨_, rfl, a, dx, fs, rfl, ei, f2, _, rfl, a, c, t, rfl, ati, gc, a5, fun H3 s3 => ⟨_, rfl, rfl, _, rfl, ite2 (fun e => ?_) (fun e => ?_)⟩⟩
        · exact ⟨_, rfl, t, rfl, at1, ⟨rfl, rfl⟩, s3⟩
        · have e1 : bareT c.2.1 t = t := by
            by_cases z : bareT c.2.1 t = t
            · exact z
            · exact absurd (by rw [decide_eq_false (fun w => z (by injection w))]; rfl) e
          refine ⟨_, rfl, a, dx, fs, rfl, s3 _ _ ei, f2, _, rfl, a, c, y, rfl, ati.same s3, gc, ay.mono (by decide), fun H4 s4 => ⟨_, rfl, rfl, _, rfl, ite2 (fun e => ?_) (fun e => ?_)⟩⟩
          · exact ⟨_, rfl, t, rfl, at1, ⟨rfl, rfl⟩, s3.trans s4⟩
          · have e2 : bareT c.2.1 y = y := by
              by_cases z : bareT c.2.1 y = y
              · exact z
              · exact absurd (by rw [decide_eq_false (fun w => z (by injection w))]; rfl) e
            exact ⟨y, rfl, ay, ⟨by unfold kA; rw [e1, e2]; exact ly, ly⟩, s3.trans s4⟩
      clear ay ly y
      rintro σ Hj ⟨y, rfl, ay, ke, sj⟩
      have ay5 : As y 500 := ay.mono (by decide)
      -- their keys
      refine ⟨fun σ Hx => σ = [some (.ref h), some (.ref a), some G, some (.ref l), some (.str t), some (.str y), c6, c7, none] ∧ L2.Same Hi Hx, ?_, ?_⟩
      · refine ⟨_, rfl, _, rfl, a, c, y, rfl, ati.same sj, gc, ay5, fun v1 H3 k1 s3 => ⟨_, rfl, _, rfl, a, c, t, rfl, ati.same (sj.trans s3), gc, a5, fun v2 H4 k2 s4 => ⟨_, _, (k1.same s4).dp, k2.dp, sh_ky c y, sh_ky c t, _, rfl, ?_⟩⟩⟩
        rw [ke_ne ke]
        exact iteF ⟨rfl, (sj.trans s3).trans s4⟩
      clear sj Hj
      rintro σ Hj ⟨rfl, sj⟩
      -- the row
      have aly : ∀ u ∈ ts ++ [y], As u 500 := fun u hu => by
        rcases List.mem_append.mp hu with z | z
        · exact al5 u z
        · rw [List.mem_singleton.mp z]; exact ay5
      refine ⟨fun σ Hx => ∃ R, σ = [some (.ref h), some (.ref a), some G, some (.ref l), some (.str t), some (.str y), some (.ref R), c7, none] ∧ Hx R = some (.lst ((srt c (ts ++ [y])).map V.str)) ∧ L2.Same Hi Hx, ?_, ?_⟩
      · have elj := sj _ _ (bi _ _ lh el)
        refine ⟨_, rfl, a, dx, fs, rfl, sj _ _ ei, fo, _, rfl, _, rfl, (by show 1 ≤ sizeLine; decide), fun L nL => ?_⟩
        have sL := same_upd nL (o := .lst [.str y])
        refine ⟨l, L, _, _, rfl, rfl, sL _ _ elj, upd_same, ?_, fun p np => ?_⟩
        · rw [List.length_map]
          exact Nat.le_trans (show ts.length + 1 ≤ 1000 by omega) (by decide)
        · have sp := same_upd np (o := .lst (ts.map V.str ++ [V.str y]))
          refine ⟨a, p, false, c, ts ++ [y], rfl, .inl (SqL.of (by rw [upd_same, List.map_append]; rfl)), aly, ati.same ((sj.trans sL).trans sp), gc, fun R H5 nR s5 eR => ?_⟩
          rw [if_neg Bool.false_ne_true] at eR
          exact ⟨R, rfl, eR, ((sj.trans sL).trans sp).trans s5⟩
      clear sj Hj
      rintro σ Hj ⟨R, rfl, eR, sj⟩
      -- its ends
      have my : y ∈ srt c (ts ++ [y]) := (srt_pm c _).mem_iff.mpr (List.mem_append_right _ List.mem_cons_self)
      have mt : t ∈ srt c (ts ++ [y]) := (srt_pm c _).mem_iff.mpr (List.mem_append_left _ tm)
      refine ⟨fun σ Hx => ∃ (Ed : Addr) (lo hi : Nat) (z1 z2 : Str), σ = [some (.ref h), some (.ref a), some G, some (.ref l), some (.str t), some (.str y), some (.ref R), some (.ref Ed), none] ∧ Hx Ed = some (.lst [.int (lo : Nat), .int (hi : Nat)]) ∧ (srt c (ts ++ [y]))[lo]? = some z1 ∧ (srt c (ts ++ [y]))[hi]? = some z2 ∧ KE c z1 z2 ∧ KE c z1 t ∧ L2.Same Hj Hx, ?_, ?_⟩
      · obtain ⟨i1, q1, n1⟩ := first_at my
        obtain ⟨i2, q2, n2⟩ := first_at mt
        refine ⟨_, rfl, .inl ⟨rfl, _, SqL.of eR⟩, _, rfl, R, _, .str y, i1, .str y, rfl, rfl, SqL.of eR, rfl, flat_strs _, map_at q1, eqv_str y, first_no n1, ?_⟩
        refine ⟨_, rfl, .inl ⟨rfl, _, SqL.of eR⟩, _, rfl, R, _, .str t, i2, .str t, rfl, rfl, SqL.of eR, rfl, flat_strs _, map_at q2, eqv_str t, first_no n2, ?_⟩
        refine ⟨(by show 2 ≤ sizeLine; decide), fun L nL => ?_⟩
        have sL := same_upd nL (o := .lst [.int (i1 : Nat), .int (i2 : Nat)])
        refine ⟨L, [(i1 : Int), (i2 : Int)], rfl, SqL.of upd_same, by show 2 < 64; decide, fun ns p pm pw np => ?_⟩
        obtain ⟨lo, hi', rfl, le, c1⟩ := two_sorted pm pw
        have sp := same_upd np (o := .lst ([lo, hi'].map V.int))
        rcases c1 with ⟨rfl, rfl⟩ | ⟨rfl, rfl⟩
        · exact ⟨p, i1, i2, y, t, rfl, upd_same, q1, q2, ke, ke, sL.trans sp⟩
        · exact ⟨p, i2, i1, t, y, rfl, upd_same, q2, q1, ⟨ke.1.symm, ke.2.symm⟩, ⟨rfl, rfl⟩, sL.trans sp⟩
      rintro σ Hk ⟨Ed, lo, hi', z1, z2, rfl, eE, q1, q2, k12, k1t, sk⟩
      have sjk := sj.trans sk
      have atk := ati.same sjk
      have eRk := sk _ _ eR
      have len : (srt c (ts ++ [y])).length ≤ 100 := by
        rw [(srt_pm c _).length_eq, List.length_append]
        show ts.length + 1 ≤ 100
        omega
      refine ⟨_, rfl, _, rfl, Ed, _, ((0 : Nat) : Int), .int (lo : Nat), rfl, rfl, SqL.of eE, atI_nat rfl, _, rfl, _, rfl, Ed, _, ((1 : Nat) : Int), .int (hi' : Nat), rfl, rfl, SqL.of eE, atI_nat rfl, _, _, rfl, rfl, _, rfl, R, _, rfl, SqL.of eRk, fun p np => ?_⟩
      have sp := same_upd np (o := .lst (cutV ((srt c (ts ++ [y])).map V.str) (some (lo : Int)) (some ((hi' : Int) + 1))))
      have ep : (upd Hk p (.lst (cutV ((srt c (ts ++ [y])).map V.str) (some (lo : Int)) (some ((hi' : Int) + 1))))) p = some (.lst (cutV ((srt c (ts ++ [y])).map V.str) (some (lo : Int)) (some ((hi' : Int) + 1)))) := upd_same
      have all : ∀ v ∈ cutV ((srt c (ts ++ [y])).map V.str) (some (lo : Int)) (some ((hi' : Int) + 1)), ∃ z, v = .str z ∧ As z 500 ∧ KE c z t := fun v hv => by
        rw [show ((hi' : Int) + 1) = ((hi' + 1 : Nat) : Int) by omega] at hv
        obtain ⟨k, b1, b2, e⟩ := cut_in hv
        rw [List.getElem?_map] at e
        obtain ⟨z, ez, rfl⟩ := Option.map_eq_some_iff.mp e
        have w := row_between q1 q2 ez k12 b1 (by omega)
        exact ⟨z, rfl, srt_as aly z (List.mem_of_getElem? ez), ⟨w.1.trans k1t.1, w.2.trans k1t.2⟩⟩
      have lc1 : (cutV ((srt c (ts ++ [y])).map V.str) (some (lo : Int)) (some ((hi' : Int) + 1))).length ≤ 100 := Nat.le_trans (cutV_length _ _ _) (by rw [List.length_map]; exact len)
      generalize cutV ((srt c (ts ++ [y])).map V.str) (some (lo : Int)) (some ((hi' : Int) + 1)) = cs at sp ep all lc1 ⊢
      generalize upd Hk p (.lst cs) = Hl at sp ep ⊢
      have atl := atk.same sp
      refine ⟨p, rfl, ⟨_, SqL.of ep⟩, fun W nW => ?_⟩
      refine lc_list (K := K) (a := p) (xs := cs) (fun k Hx => L2.Same Hl Hx ∧ Hx W = some (.lst ((List.replicate k false).map V.bl))) ⟨same_upd nW, upd_same⟩ (fun k Hx _ z => SqL.of (z.1 _ _ ep)) ?_ ?_
      · rintro k v Hx hv ⟨sx, eW⟩
        obtain ⟨z, rfl, az, kz⟩ := all v (List.mem_of_getElem? hv)
        have kl := (List.getElem?_eq_some_iff.mp hv).1
        refine ⟨rfl, ?_⟩
        unfold tYes
        refine iteT ⟨_, rfl, _, rfl, a, c, z, rfl, atl.same sx, gc, az, fun v1 H3 k1 s3 => ⟨_, rfl, _, rfl, a, c, t, rfl, atl.same (sx.trans s3), gc, a5, fun v2 H4 k2 s4 => ⟨_, _, (k1.same s4).dp, k2.dp, sh_ky c z, sh_ky c t, ?_⟩⟩⟩
        rw [ke_ne kz]
        refine ⟨_, s4 _ _ (s3 _ _ eW), ?_, fun b o e => ?_, ?_⟩
        · rw [List.length_map, List.length_replicate]
          exact Nat.lt_of_le_of_lt (show k ≤ 100 by omega) (by decide)
        · rw [upd_ne (ne_of_none e nW)]
          exact s4 _ _ (s3 _ _ (sx _ _ e))
        · rw [upd_same, List.replicate_succ', List.map_append]; rfl
      rintro Hx ⟨sx, eW⟩
      refine ⟨W, _, rfl, SqL.of eW, _, rfl, ?_⟩
      have ea : (List.replicate cs.length false).any id = false := by
        rw [List.any_eq_false]
        intro b hb
        rw [(List.mem_replicate.mp hb).2]
        decide
      rw [ea]
      have sall := (sjk.trans sp).trans sx
      exact iteF ⟨_, _, _, _, rfl, hi.same sall, bi.trans (Same.but sall h)⟩
    · rintro σ He ⟨c4, c5, c6, c7, rfl, he, be⟩
      have lt : (ts.map V.str).length = ts.length := List.length_map _
      exact q He (he.mono (by rw [lt]; omega)) be
end
end K79
set_option Elab.async false
set_option linter.all false
set_option maxRecDepth 100000
set_option maxHeartbeats 4000000
set_option pp.maxSteps 400
set_option pp.deepTerms false
namespace K79
open PySem PySem.Spec PyProof.Rows L2
open Xk Az
section
variable {P : Program} {w : World} {K : PySem.W.Frag} {mg : Str → Option Value} {base : Heap} {C : Addr}
theorem unl_of : ∀ (xs ys : List Nat), (∃ (i a b : Nat), xs[i]? = some a ∧ ys[i]? = some b ∧ a ≠ b) → Unl xs ys
  | [], _, ⟨_, _, _, e, _, _⟩ => by cases e
  | _ :: _, [], ⟨_, _, _, _, e, _⟩ => by cases e
  | x :: xs, y :: ys, ⟨i, a, b, e1, e2, ne⟩ => by
    by_cases h : x = y
    · match i, e1, e2 with
      | 0, e1, e2 =>
        cases e1; cases e2
        exact absurd h ne
      | i + 1, e1, e2 =>
        obtain ⟨p, u, v, r, s, h1, h2, h3⟩ := unl_of xs ys ⟨i, a, b, e1, e2, ne⟩
        exact ⟨x :: p, u, v, r, s, by rw [h1]; rfl, by rw [h2, h]; rfl, h3⟩
    · exact ⟨[], x, y, xs, ys, rfl, rfl, h⟩
theorem walk_zipT {a b : Addr} {xs ys : List V} {n : Nat} (hn : n = min xs.length ys.length) : Walk (RZ.ItzT K a b) n (fun H => SqT K H a xs ∧ SqT K H b ys) (YPair (fun i => xs[i]?) (fun i => ys[i]?)) := by
  refine ⟨fun i H hi s => ?_, fun H s => ⟨xs, ys, s.1, s.2, by omega⟩, fun i H v H' hi s y => ?_⟩
  · exact ⟨xs, ys, xs[i]'(by omega), ys[i]'(by omega), s.1, s.2, List.getElem?_eq_getElem (by omega), List.getElem?_eq_getElem (by omega)⟩
  · obtain ⟨T, x, z, h1, h2, h3, h4, h5⟩ := y
    exact ⟨T, x, z, h1, h2, h3, h4 xs s.1, h5 ys s.2⟩
def spFU (K : PySem.W.Frag) : Sp := fun vs H Q _ => ∃ (p q : Addr) (xs ys : List Nat), vs = [.ref p, .ref q] ∧ H p = some (nums xs) ∧ H q = some (nums ys) ∧ xs.length ≤ 500 ∧ ∀ b H', L2.Same H H' → (b = true → Unl xs ys) → Q (.bl b) H'
def spAR (K : PySem.W.Frag) (C : Addr) : Sp := fun vs H Q _ => ∃ (a b l : Addr) (gs : List (List Str)) (ws : List Str) (cm : Bool) (ts : List Str), vs = [.ref a, .ref b, .ref l] ∧ CuAt K C H a (gs, ws, cm) ∧ CuAt K C H b (gs.reverse, ws, cm) ∧ GoodC (gs, ws, cm) ∧ GoodC (gs.reverse, ws, cm) ∧ H l = some (.lst (ts.map V.str)) ∧ ts.length ≤ 20 ∧ (∀ t ∈ ts, As t 500) ∧ ∀ H', L2.Same H H' → Q (.bl true) H'
theorem ok_fu {f : Addr} {fd : FuncData} {e : Ex} (D : Df K mg "_law_first_unlike" ["_law_one", "_law_other"] sFirstUnlike f fd) (T : Txt K mg C e) : FnOk P w K mg base CX0 1 f fd ["_law_one", "_law_other"] (spFU K) := by
  refine D.fn.ok scFirstUnlike (fun vs H Q E h => ?_) (fun cdv A outer s H vs Q E hr h => ?_)
  · obtain ⟨p, r, xs, ys, rfl, ep, er, l5, q⟩ := h
    rfl
  · obtain ⟨p, r, xs, ys, rfl, ep, er, l5, q⟩ := h
    refine ⟨_, (pss_one (ps_ret (pe_callB (cr_any (by rfl)) (by rfl) T.any (by decide +kernel) (pa_cons (pe_lc (own := [("_law_mine", 2), ("_law_its", 3)]) (g := (gTup K 2 (gCons (gName 2) (gCons (gName 3) gNil)))) (tt := tYes) (by rfl) scFirstUnlike.nd (RZ.pi_zipA (by rfl) T.zip (pa_cons (pv 0) (pa_cons (pv 1) pa_nil))) (blkOk_by (own := [("_law_mine", 2), ("_law_its", 3)]) (N := ["_law_one", "_law_other", "_law_mine", "_law_its"]) (sc := defScope sFirstUnlike) (by decide +kernel)) (fun _ _ _ _ _ => pg_tup (by rfl) (pgs_cons (pg_name (i := 2) scFirstUnlike.nd rfl (.inl rfl)) (pgs_cons (pg_name (i := 3) scFirstUnlike.nd rfl (.inl rfl)) pgs_nil))) (fun _ _ _ _ _ => pts_nil) (fun _ _ _ _ _ => pe_cmpR op_ne (pv 2) (pv 3) (nomark _))) pa_nil)))), ?_⟩
    refine ⟨_, rfl, _, rfl, p, r, _, _, rfl, .inr ⟨SqT.of ep, SqT.of er, fun W nW => ?_⟩⟩
    refine lc_it (walk_zipT (K := K) (a := p) (b := r) (xs := xs.map fun n => V.int (n : Nat)) (ys := ys.map fun n => V.int (n : Nat)) rfl) (fun i Hi => L2.Same H Hi ∧ ∃ bs : List Bool, Hi W = some (.lst (bs.map V.bl)) ∧ bs.length = i ∧ (bs.any id = true → ∃ (i a b : Nat), xs[i]? = some a ∧ ys[i]? = some b ∧ a ≠ b)) ⟨same_upd nW, [], upd_same, rfl, fun z => by cases z⟩ (fun i Hi _ z => ⟨SqT.of (z.1 _ _ ep), SqT.of (z.1 _ _ er)⟩) ?_ ?_
    · rintro i v Hi Hi' il ⟨sm, bs, eW, lb, un⟩ ⟨T', x1, x2, rfl, nT, rfl, ex1, ex2⟩
      replace ex1 : (xs.map fun n => V.int (n : Nat))[i]? = some x1 := ex1
      replace ex2 : (ys.map fun n => V.int (n : Nat))[i]? = some x2 := ex2
      rw [List.getElem?_map] at ex1 ex2
      obtain ⟨n1, h1, rfl⟩ := Option.map_eq_some_iff.mp ex1
      obtain ⟨n2, h2, rfl⟩ := Option.map_eq_some_iff.mp ex2
      have sT := same_upd nT (o := .tup [.int (n1 : Nat), .int (n2 : Nat)])
      have il2 := (List.getElem?_eq_some_iff.mp h1).1
      refine ⟨T', _, rfl, SqT.of upd_same, rfl, _, _, rfl, _, _, rfl, rfl, rfl, ?_⟩
      unfold tYes
      refine iteT ⟨_, rfl, _, rfl, rfl, _, sT _ _ eW, ?_, fun b o e => ?_, bs ++ [!decide (V.int (n1 : Nat) = V.int (n2 : Nat))], by rw [upd_same, List.map_append]; rfl, by rw [List.length_append, lb]; rfl, fun z => ?_⟩
      · rw [List.length_map, lb]
        exact Nat.lt_of_le_of_lt (show i ≤ 1000 by omega) (by decide)
      · rw [upd_ne (ne_of_none e nW)]
        exact sT _ _ (sm _ _ e)
      · rw [List.any_append, Bool.or_eq_true] at z
        rcases z with z | z
        · exact un z
        · have ne : n1 ≠ n2 := fun w => by
            rw [w] at z
            simp at z
          exact ⟨i, n1, n2, h1, h2, ne⟩
    rintro H2 ⟨s2, bs, eW, lb, un⟩
    exact ⟨W, bs, rfl, SqL.of eW, q _ H2 s2 fun z => unl_of xs ys (un z)⟩
theorem ok_ar {f : Addr} {fd : FuncData} {e : Ex} {fK fO : Addr} {fdK fdO : FuncData} (D : Df K mg "_law_about_right" ["_law_custom", "_law_about", "_law_texts"] sAboutRight f fd) (T : Txt K mg C e) (mK : Mt P w K mg base C "rank" 3 fK fdK ["self", "text"] (spRank K C)) (O : Om P w K mg base C fO fdO) (cFu : Ca P w K mg base 1 "_law_first_unlike" ["_law_one", "_law_other"] (spFU K)) : FnOk P w K mg base CX0 7 f fd ["_law_custom", "_law_about", "_law_texts"] (spAR K C) := by
  obtain ⟨_, ro, bo⟩ := O.b2
  refine D.fn.ok scAboutRight (fun vs H Q E h => ?_) (fun cdv A outer s H vs Q E hr h => ?_)
  · obtain ⟨a, b, l, gs, ws, cm, ts, rfl, at_, bt_, gc, gb, el, l20, al, q⟩ := h
    rfl
  · obtain ⟨a, b, l, gs, ws, cm, ts, rfl, at_, bt_, gc, gb, el, l20, al, q⟩ := h
    refine ⟨_, (pss_cons (ps_for PassesOwn.never rfl (pi_zip (by rfl) T.zip (pa_cons (pv 2) (pa_cons (pe_slice sl_list (pv 2) (po_some pe_int) po_none) pa_nil))) (pg_tup (by rfl) (pgs_cons (pg_name (i := 3) scAboutRight.nd rfl (.inl rfl)) (pgs_cons (pg_name (i := 4) scAboutRight.nd rfl (.inl rfl)) pgs_nil))) (pss_cons (ps_par (i := 5) (j := 6) (by rfl) scAboutRight.nd rfl rfl (by decide) rfl rfl (pa_cons (pe_ix ix_tup (pe_meth (pv 0) T.cl mK.m mK.ok (hr.mono (by decide)) mK.bd .nil pass0 (pa_cons (pv 3) pa_nil)) pe_int (fun _ _ => rfl)) (pa_cons (pe_ix ix_tup (pe_meth (pv 0) T.cl mK.m mK.ok (hr.mono (by decide)) mK.bd .nil pass0 (pa_cons (pv 4) pa_nil)) pe_int (fun _ _ => rfl)) pa_nil)) (by rfl))
      (pss_one (ps_if (pt_val (pe_ca cFu hr (by decide) (by rfl) (pa_cons (pv 5) (pa_cons (pv 6) pa_nil)))) (pss_one (ps_if (pt_cmpR (op_neD hr.units) (pe_meth (pv 0) T.cl O.m O.ok (hr.mono (by decide)) bo ro pass0 (pa_cons (pe_lst (pa_cons (pv 3) (pa_cons (pv 4) pa_nil))) pa_nil)) (L2.pe_revL (pe_meth (pv 1) T.cl O.m O.ok (hr.mono (by decide)) bo ro pass0 (pa_cons (pe_lst (pa_cons (pv 3) (pa_cons (pv 4) pa_nil))) pa_nil))) (nomark _)) (pss_one (ps_ret pe_bl)) pss_nil)) pss_nil))))
      (pss_one (ps_ret pe_bl))), ?_⟩
    refine ⟨_, rfl, _, rfl, 1, rfl, l, _, rfl, SqL.of el, fun p np => ?_⟩
    have sp := same_upd np (o := .lst (cutV (ts.map V.str) (some 1) none))
    have ep : (upd H p (.lst (cutV (ts.map V.str) (some 1) none))) p = some (.lst (cutV (ts.map V.str) (some 1) none)) := upd_same
    have inz : ∀ v ∈ cutV (ts.map V.str) (some 1) none, v ∈ ts.map V.str := fun v hv => by
      unfold cutV at hv
      exact List.mem_of_mem_drop (List.mem_of_mem_take hv)
    generalize cutV (ts.map V.str) (some 1) none = zs at sp ep inz ⊢
    generalize upd H p (.lst zs) = H1 at sp ep ⊢
    have el1 := sp _ _ el
    refine ⟨l, p, _, _, rfl, SqL.of el1, SqL.of ep, ?_⟩
    refine for_it (walk_zip (K := K) (a := l) (b := p) (xs := ts.map V.str) (ys := zs) rfl) (fun i σ Hi => ∃ c3 c4 c5 c6, σ = [some (.ref a), some (.ref b), some (.ref l), c3, c4, c5, c6] ∧ L2.Same H1 Hi) ⟨none, none, none, none, rfl, Same.refl H1⟩ (fun i σ Hi _ z => by obtain ⟨_, _, _, _, _, s⟩ := z; exact ⟨SqL.of (s _ _ el1), SqL.of (s _ _ ep)⟩) ?_ ?_
    · rintro i v σ Hi Hi' il ⟨c3, c4, c5, c6, rfl, sm⟩ ⟨T', x1, x2, rfl, nT, rfl, ex1, ex2⟩
      obtain ⟨y1, m1, rfl⟩ := List.mem_map.mp (List.mem_of_getElem? ex1)
      obtain ⟨y2, m2, rfl⟩ := List.mem_map.mp (inz _ (List.mem_of_getElem? ex2))
      have sT := same_upd nT (o := .tup [.str y1, .str y2])
      refine ⟨T', _, rfl, SqT.of upd_same, rfl, _, _, rfl, _, _, rfl, rfl, ?_⟩
      have sj := sm.trans sT
      generalize upd Hi T' (.tup [.str y1, .str y2]) = Hj at sj ⊢
      clear sT sm nT Hi ex1 ex2 il
      have s0 := sp.trans sj
      have a1 := al y1 m1
      have a2 := al y2 m2
      obtain ⟨dx, fs, ei, f1, f2, fo, f4, f5⟩ := cu_all at_
      obtain ⟨dx', fs', ei', g1, g2, go, g4, g5⟩ := cu_all bt_
      refine ⟨_, rfl, a, dx, fs, rfl, s0 _ _ ei, f1, _, rfl, a, _, y1, rfl, at_.same s0, gc, a1, fun v1 H3 rk1 s3 => ?_⟩
      obtain ⟨t, t1, t2, rfl, et, e1, e2⟩ := rk1
      refine ⟨t, _, ((0 : Nat) : Int), .ref t1, rfl, rfl, SqT.of et, atI_nat rfl, ?_⟩
      have s03 := s0.trans s3
      refine ⟨_, rfl, a, dx, fs, rfl, s03 _ _ ei, f1, _, rfl, a, _, y2, rfl, at_.same s03, gc, a2, fun v2 H4 rk2 s4 => ?_⟩
      obtain ⟨u, u1, u2, rfl, eu, w1, w2⟩ := rk2
      refine ⟨u, _, ((0 : Nat) : Int), .ref u1, rfl, rfl, SqT.of eu, atI_nat rfl, _, _, rfl, ?_⟩
      have s04 := s03.trans s4
      have sj4 := (sj.trans s3).trans s4
      have lk := (lets_ok gc.lv (a1.bare (ws := ws))).2
      refine ⟨_, rfl, _, rfl, t1, u1, _, _, rfl, s4 _ _ e1, w1, lk, fun bb H5 s5 ub => ⟨_, rfl, ?_⟩⟩
      have s05 := s04.trans s5
      cases bb with
      | false => exact iteF ⟨_, _, _, _, rfl, sj4.trans s5⟩
      | true =>
        have as2 : ∀ t ∈ [y1, y2], As t 500 := fun t ht => by
          simp only [List.mem_cons, List.not_mem_nil, or_false] at ht
          rcases ht with z | z <;> rw [z] <;> assumption
        refine iteT ⟨_, rfl, a, dx, fs, rfl, s05 _ _ ei, fo, _, rfl, _, rfl, (by show 2 ≤ sizeLine; decide), fun L nL => ?_⟩
        have sL := same_upd nL (o := .lst [.str y1, .str y2])
        have s06 := s05.trans sL
        refine ⟨a, L, false, _, [y1, y2], rfl, .inl (SqL.of upd_same), as2, at_.same s06, gc, fun R H7 nR s7 eR => ?_⟩
        rw [if_neg Bool.false_ne_true] at eR
        have s07 := s06.trans s7
        refine ⟨_, rfl, b, dx', fs', rfl, s07 _ _ ei', go, _, rfl, _, rfl, (by show 2 ≤ sizeLine; decide), fun L' nL' => ?_⟩
        have sL' := same_upd nL' (o := .lst [.str y1, .str y2])
        have s08 := s07.trans sL'
        refine ⟨b, L', false, _, [y1, y2], rfl, .inl (SqL.of upd_same), as2, bt_.same s08, gb, fun R' H9 nR' s9 eR' => ?_⟩
        rw [if_neg Bool.false_ne_true] at eR'
        refine ⟨R', _, rfl, SqL.of eR', fun p3 np3 => ?_⟩
        have s3p := same_upd np3 (o := .lst ((srt (gs.reverse, ws, cm) [y1, y2]).map V.str).reverse)
        have ab := about gc.lv gb.lv (ub rfl)
        refine ⟨_, _, txt_dp (s3p _ _ (s9 _ _ (sL' _ _ eR))), txt_dp (ts := srt (gs, ws, cm) [y1, y2]) (by rw [upd_same, ab, List.map_reverse]), sh1 (srt_as as2), sh1 (srt_as as2), _, rfl, ?_⟩
        rw [ne_row]
        exact iteF ⟨_, _, _, _, rfl, ((((((sj4.trans s5).trans sL).trans s7).trans sL').trans s9).trans s3p)⟩
    · rintro σ He ⟨c3, c4, c5, c6, rfl, se⟩
      exact q He (sp.trans se)
end
end K79
set_option Elab.async false
set_option linter.all false
set_option maxRecDepth 100000
set_option maxHeartbeats 4000000
set_option pp.maxSteps 400
set_option pp.deepTerms false
namespace K79
open PySem PySem.Spec PyProof.Rows L2
open Xk Az
section
variable {P : Program} {w : World} {K : PySem.W.Frag} {mg : Str → Option Value} {base : Heap} {C : Addr}
theorem Lv.perm {gs hs : List (List Str)} (h : Lv gs) (l : hs.length = gs.length) (p : hs.flatten.Perm gs.flatten) (ne : ∀ g ∈ hs, g ≠ []) : Lv hs :=
  ⟨by rw [l]; exact h.h1, by rw [l]; exact h.h40, ne, fun t ht => h.sm t (p.mem_iff.mp ht), p.nodup_iff.mpr h.nd, by rw [p.length_eq]; exact h.sz⟩
theorem Lv.rev {gs : List (List Str)} (h : Lv gs) : Lv gs.reverse := h.perm List.length_reverse (List.Perm.flatten (List.reverse_perm gs)) fun g hg => h.ne g (List.mem_reverse.mp hg)
theorem GPs.rev {H : Hp} : ∀ {xs : List V} {gs : List (List Str)}, GPs H xs gs → GPs H xs.reverse gs.reverse
  | [], [], _ => trivial
  | _ :: _, _ :: _, h => by
    rw [List.reverse_cons, List.reverse_cons]
    exact h.2.rev.snoc h.1
  | [], _ :: _, h => h.elim
  | _ :: _, [], h => h.elim
def spLaw (K : PySem.W.Frag) : Sp := fun vs H Q _ => ∃ (a : Addr) (ns : List Int), vs = [.ref a] ∧ SqL K H a (ns.map V.int) ∧ ns.length ≤ 63 ∧ ∀ H', Q (.bl true) H'
theorem ok_law {f : Addr} {fd : FuncData} {e : Ex} {fG : Addr} {fdG : FuncData} (D : Df K mg "law" ["_law_script"] sLaw f fd) (T : Txt K mg C e) (G : Dm P w K mg base C e fG fdG) (cH : Ca P w K mg base 1 "_law_hand" ["_law_script", "_law_k"] (spHand K)) (cT : Ca P w K mg base 1 "_law_take" ["_law_hand_here", "_law_many"] spTake) (cLt : Ca P w K mg base 3 "_law_letters" ["_law_hand_here"] spLts) (cPa : Ca P w K mg base 3 "_law_passed" ["_law_hand_here"] spPss) (cTx : Ca P w K mg base 3 "_law_text" ["_law_hand_here", "_law_letters_here", "_law_passed_here"] spTx) (cSr : Ca P w K mg base 7 "_law_sorted_right" ["_law_hand_here", "_law_custom", "_law_texts"] (spSR K C)) (cNr : Ca P w K mg base 7 "_law_near_right" ["_law_hand_here", "_law_custom", "_law_letters_here", "_law_texts"] (spNR K C)) (cAr : Ca P w K mg base 7 "_law_about_right" ["_law_custom", "_law_about", "_law_texts"] (spAR K C)) : FnOk P w K mg base CX0 8 f fd ["_law_script"] (spLaw K) := by
  refine D.fn.ok scLaw (fun vs H Q E h => ?_) (fun cdv A outer s H vs Q E hr h => ?_)
  · obtain ⟨a, ns, rfl, hS, hlen, q⟩ := h
    rfl
  · obtain ⟨a, ns, rfl, hS, hlen, q⟩ := h
    refine ⟨_, (pss_cons (ps_for PassesOwn.never rfl (pi_range1 (by rfl) T.range (pa_cons (pe_op op_add pe_int (pe_callB (call_min2 (by rfl)) (by rfl) T.min (by decide +kernel) (pa_cons pe_int (pa_cons (pe_callB call_len_seq (by rfl) T.len PySem.boot_len (pa_cons (pv 0) pa_nil)) pa_nil)))) pa_nil)) (pg_name (i := 1) scLaw.nd rfl (.inl rfl)) (pss_cons (ps_set (i := 2) scLaw.nd rfl (.inr rfl) (pe_ca cH hr (by decide) (by rfl) (pa_cons (pv 0) (pa_cons (pv 1) pa_nil))))
      (pss_cons (ps_asg (pe_tup (pa_cons (pe_ca cLt hr (by decide) (by rfl) (pa_cons (pv 2) pa_nil)) (pa_cons (pe_ca cPa hr (by decide) (by rfl) (pa_cons (pv 2) pa_nil)) pa_nil))) (pg_tup (by rfl) (pgs_cons (pg_name (i := 3) scLaw.nd rfl (.inr rfl)) (pgs_cons (pg_name (i := 4) scLaw.nd rfl (.inr rfl)) pgs_nil))))
      (pss_cons (ps_set (i := 5) scLaw.nd rfl (.inl rfl) (pe_cmpR op_eq (pe_ca cT hr (by decide) (by rfl) (pa_cons (pv 2) (pa_cons pe_int pa_nil))) pe_int (nomark _)))
      (pss_cons (ps_par (i := 6) (j := 7) (by rfl) scLaw.nd rfl rfl (by decide) rfl rfl (pa_cons (pe_make G.mm G.ok (hr.mono (by decide)) (by rfl) T.mgC G.b3 .nil passL (pa_cons (pv 3) (pa_cons (pv 4) (pa_cons (pv 5) pa_nil)))) (pa_cons (pe_make G.mm G.ok (hr.mono (by decide)) (by rfl) T.mgC G.b3 .nil passL (pa_cons (Xtu.pe_revN (pv 3)) (pa_cons (pv 4) (pa_cons (pv 5) pa_nil)))) pa_nil)) (by rfl))
      (C8.pss_cut (ps_setLc (i := 8) (own := [("_law_turn", 9)]) (g := gName 9) (tt := tYes) (by rfl) scLaw.nd rfl rfl (sw_true rfl rfl rfl (by decide +kernel)) (pi_range1 (by rfl) T.range (pa_cons (pe_op op_add pe_int (pe_ca cT hr (by decide) (by rfl) (pa_cons (pv 2) (pa_cons pe_int pa_nil)))) pa_nil)) (blkOk_by (own := [("_law_turn", 9)]) (N := ["_law_script", "_law_k", "_law_hand_here", "_law_letters_here", "_law_passed_here", "_law_comma", "_law_custom", "_law_about", "_law_texts", "_law_turn"]) (sc := defScope sLaw) (by decide +kernel)) (fun _ _ _ _ _ => pg_name (i := 9) scLaw.nd rfl (.inl rfl)) (fun _ _ _ _ _ => pts_nil) (fun _ _ _ _ _ => pe_ca cTx hr (by decide) (by rfl) (pa_cons (pv 2) (pa_cons (pv 3) (pa_cons (pv 4) pa_nil)))))
      (pss_cons (ps_if (PW.pt (pw_or (pt_not (pt_val (pe_ca cSr hr (by decide) (by rfl) (pa_cons (pv 2) (pa_cons (pv 6) (pa_cons (pv 8) pa_nil)))))) (pw_or1 (pt_not (pt_val (pe_ca cNr hr (by decide) (by rfl) (pa_cons (pv 2) (pa_cons (pv 6) (pa_cons (pv 3) (pa_cons (pv 8) pa_nil)))))))))) (pss_one (ps_ret pe_bl)) pss_nil)
      (pss_one (ps_if (pt_not (pt_val (pe_ca cAr hr (by decide) (by rfl) (pa_cons (pv 6) (pa_cons (pv 7) (pa_cons (pv 8) pa_nil)))))) (pss_one (ps_ret pe_bl)) pss_nil)))))))))
      (pss_one (ps_ret pe_bl))), ?_⟩
    refine ⟨_, rfl, a, _, rfl, .inl hS, 3, _, rfl, 1, _, rfl, rfl, _, rfl, ?_, ?_, for_range (lo := 0) (fun i σ Hi => ∃ c1 c2 c3 c4 c5 c6 c7 c8, σ = [some (.ref a), c1, c2, c3, c4, c5, c6, c7, c8, none] ∧ L2.Same H Hi) ⟨_, _, _, _, _, _, _, _, rfl, Same.refl H⟩ ?_ ?_⟩
    · rw [List.length_map]
      split <;> omega
    · rw [List.length_map]
      split <;> omega
    · rintro i σ Hi hi ⟨c1, c2, c3, c4, c5, c6, c7, c8, rfl, sm⟩
      refine ⟨_, rfl, _, rfl, a, 0 + (i : Int), ns, rfl, by omega, sm.seq hS, fun p g m np g0 m0 m1 => ?_⟩
      have h0 : Hand 0 (upd Hi p (.lst [.int g, .int m, .int 0])) p := ⟨g, m, 0, upd_same, g0, m0, m1, Int.le_refl _, Int.le_refl _⟩
      have b0 : But p Hi (upd Hi p (.lst [.int g, .int m, .int 0])) := Same.but (same_upd np) p
      generalize upd Hi p (.lst [.int g, .int m, .int 0]) = H1 at h0 b0 ⊢
      refine ⟨_, rfl, p, 0, rfl, h0, by show (0 : Int) + 2000 ≤ 1000000; decide, fun vG gs H2 lG lt h2 b2 => ⟨_, rfl, p, 0 + 1000, rfl, h2, by show (0 : Int) + 1000 + 2000 ≤ 1000000; decide, fun vS ws H3 lS ps h3 b3 => ⟨(by show 2 ≤ sizeLine; decide), fun t nt => ?_⟩⟩⟩
      have st := same_upd nt (o := .tup [vG, vS])
      refine ⟨t, _, rfl, SqT.of upd_same, rfl, _, _, rfl, _, _, rfl, rfl, ?_⟩
      have lG4 := (lG.tk (tk_but h2 b3)).tk st.tk
      have lS4 := lS.tk st.tk
      have h4 := h3.same st
      have b4 := ((b0.trans b2).trans b3).trans (Same.but st p)
      generalize upd H3 t (.tup [vG, vS]) = H4 at lG4 lS4 h4 b4 ⊢
      clear lG lS h2 h3 b2 b3 st nt h0 b0 H1 H2 H3
      refine ⟨_, rfl, p, 2, _, rfl, by decide, by decide, h4, by show (0 : Int) + 1000 + 400 ≤ 1000000; decide, fun d H5 d0 d1 h5 b5 => ⟨rfl, ?_⟩⟩
      generalize decide (V.int d = V.int 0) = cm
      have lG5 := lG4.tk (tk_but h4 b5)
      have lS5 := lS4.tk (tk_but h4 b5)
      have b05 := b4.trans b5
      clear lG4 lS4 h4 b5 b4 H4
      have lv : Lv gs := lt.lv
      have gd : GoodC (gs, ws, cm) := ⟨lt.ok, ps, Nat.le_trans lt.sz (by decide)⟩
      have gd' : GoodC (gs.reverse, ws, cm) := ⟨lv.rev.lt, ps, lv.rev.sz⟩
      refine ⟨_, rfl, _, rfl, _, rfl, fun x dx nx nd ne => made_of nx nd vG vS (gs, ws, cm) gd rfl lG5.dz lS5.dz rfl fun H6 s6 a6 => ⟨rfl, ?_⟩⟩
      obtain ⟨aG, gx, rfl, eG, gg⟩ := id lG5
      have lS6 := lS5.tk s6.tk
      refine ⟨_, rfl, aG, gx, rfl, s6 _ _ eG, fun pr H7 s7 e7 => ⟨_, rfl, _, rfl, fun x2 dx2 nx2 nd2 ne2 => ?_⟩⟩
      have s57 := s6.trans s7
      have lR : LP H7 (.ref pr) gs.reverse := ⟨pr, gx.reverse, rfl, e7, (gg.tk s57.tk).rev⟩
      refine made_of nx2 nd2 (.ref pr) vS (gs.reverse, ws, cm) gd' rfl lR.dz (lS6.tk s7.tk).dz rfl fun H8 s8 a8 => ⟨rfl, _, _, rfl, ?_⟩
      have s58 := s57.trans s8
      have lG8 := lG5.tk s58.tk
      have lS8 := lS5.tk s58.tk
      have h8 := h5.same s58
      have b8 := b05.trans (Same.but s58 p)
      have a68 := a6.same (s7.trans s8)
      clear lR lS6 e7 s7 s57 s8 s58 s6 gg eG lG5 lS5 h5 b05 a6 nx2 nd2 ne2 nx nd ne
      -- the texts
      refine ⟨fun σ Hx => ∃ (L : Addr) (ts : List Str), σ = [some (.ref a), some (.int (0 + (i : Int))), some (.ref p), some (.ref aG), some vS, some (.bl cm), some (.ref x), some (.ref x2), some (.ref L), none] ∧ Hx L = some (.lst (ts.map V.str)) ∧ L ≠ p ∧ ts.length ≤ 10 ∧ (∀ t ∈ ts, As t 60) ∧ Hand 3000 Hx p ∧ But p H8 Hx, ?_, ?_⟩
      · refine ⟨_, rfl, p, 5, _, rfl, by decide, by decide, h8, by show (0 : Int) + 1000 + 400 + 1 ≤ 1000000; decide, fun d2 H9 e0 e1 h9 b9 => ⟨6, _, rfl, rfl, 6 + d2, rfl, by omega, by omega, fun L nL => ?_⟩⟩
        have Lp := h9.fresh nL
        refine lc_range (lo := 0) (fun k Hk => ∃ ts : List Str, Hk L = some (.lst (ts.map V.str)) ∧ ts.length = k ∧ (∀ t ∈ ts, As t 60) ∧ Hand (1500 + 100 * (k : Int)) Hk p ∧ But p H9 Hk) ⟨[], upd_same, rfl, (fun t ht => by cases ht), (h9.same (same_upd nL)).mono (by omega), Same.but (same_upd nL) p⟩ ?_ ?_
        · rintro k Hk hk ⟨ts, eL, lk, al, hk', bk⟩
          have k10 : k ≤ 10 := by omega
          have b8k := b9.trans bk
          refine ⟨rfl, ?_⟩
          unfold tYes
          refine iteT ⟨_, rfl, _, rfl, _, rfl, p, _, _, vS, gs, ws, rfl, lG8.tk (tk_but h8 b8k), lt, lS8.tk (tk_but h8 b8k), ps, hk', by show 1500 + 100 * (k : Int) + 300 ≤ 1000000; omega, fun y Hy ay hy by' => ⟨_, by' _ _ Lp eL, ?_, ts ++ [y], by rw [upd_same, List.map_append]; rfl, by rw [List.length_append, lk]; rfl, fun u hu => ?_, ?_, fun b o nb eb => ?_⟩⟩
          · rw [List.length_map]
            exact Nat.lt_of_le_of_lt (show ts.length ≤ 1000 by omega) (by decide)
          · rcases List.mem_append.mp hu with z | z
            · exact al u z
            · rw [List.mem_singleton.mp z]; exact ay
          · exact (hy.upd Lp.symm).mono (by push_cast; omega)
          · rw [upd_ne (ne_of_none eb nL)]
            exact by' _ _ nb (bk _ _ nb eb)
        · rintro He ⟨ts, eL, lk, al, hk', bk⟩
          exact ⟨L, ts, rfl, eL, Lp, by omega, al, hk'.mono (by omega), b9.trans bk⟩
      rintro σ Hx ⟨L, ts, rfl, eL, Lp, l10, al, hx, bx⟩
      have al5 : ∀ t ∈ ts, As t 500 := fun t ht => (al t ht).mono (by decide)
      have lGx := lG8.tk (tk_but h8 bx)
      have a6x := a68.but h8 bx
      have a8x := a8.but h8 bx
      have b0x := b8.trans bx
      clear lG8 lS8 a68 a8 b8 bx h8 H8 H7 H6
      refine ⟨_, rfl, _, rfl, _, rfl, p, x, L, _, _, ts, rfl, a6x, gd, eL, Lp, by omega, al5, hx, by show (3000 : Int) + 200 ≤ 1000000; decide, fun Hy hy by' => ⟨_, rfl, iteF ?_⟩⟩
      have lGy := lGx.tk (tk_but hx by')
      have a6y := a6x.but hx by'
      have a8y := a8x.but hx by'
      have eLy := by' _ _ Lp eL
      have b0y := b0x.trans by'
      clear lGx a6x a8x eL b0x by' hx Hx
      refine ⟨_, rfl, _, rfl, _, rfl, _, rfl, p, x, _, L, _, _, ts, rfl, a6y, gd, lGy, Nat.le_trans lt.sz (by decide), eLy, Lp, by omega, al, hy, by show (3000 : Int) + 30 + 10000 ≤ 1000000; decide, fun Hz hz bz => ⟨_, rfl, iteF ?_⟩⟩
      refine ⟨_, rfl, _, rfl, _, rfl, x, x2, L, gs, ws, cm, ts, rfl, a6y.but hy bz, a8y.but hy bz, gd, gd', bz _ _ Lp eLy, by omega, al5, fun Hw sw => ⟨_, rfl, iteF ?_⟩⟩
      refine ⟨_, _, _, _, _, _, _, _, rfl, fun b o e => ?_⟩
      have e2 := sm _ _ e
      exact sw _ _ (bz _ _ (ne_of_none e2 np) (b0y _ _ (ne_of_none e2 np) e2))
    · rintro σ He ⟨c1, c2, c3, c4, c5, c6, c7, c8, rfl, sm⟩
      exact q He
end
end K79
set_option Elab.async false
set_option linter.all false
set_option maxRecDepth 100000
set_option maxHeartbeats 4000000
set_option pp.maxSteps 400
set_option pp.deepTerms false
namespace K79
open PySem PySem.Spec PyProof.Rows L2
open Xk Az
theorem kit_self {K : PySem.W.Frag} {C : Addr} : PySem.W.kitOne K (.ref C) (.ref C) = some true := by
  unfold PySem.W.kitOne
  simp
theorem kit_in {K : PySem.W.Frag} {t : Value} {c : Addr} {b : Bool} (ic : PySem.W.isClsIn K c = true) (ty : PySem.W.typeIn K (.ref c) = some (.type "type")) (sb : PySem.W.subIn K t (.ref c) = some b) : PySem.W.kitCls K t (.ref c) = some b := by
  have h : ((PySem.W.clsIn K c).isSome && PySem.W.typeIn K (.ref c) == some (.type "type")) = true := by
    rw [show (PySem.W.clsIn K c).isSome = true from ic, ty]
    rfl
  unfold PySem.W.kitCls
  simp only [h, if_true]
  exact sb
theorem kit_no {K : PySem.W.Frag} {a c : Addr} (ic : PySem.W.isClsIn K c = true) (ty : PySem.W.typeIn K (.ref c) = some (.type "type")) (sb : PySem.W.subIn K (.ref a) (.ref c) = some false) (me : PySem.W.subIn K (.ref a) (.ref a) = some true) :
    PySem.W.kitOne K (.ref a) (.ref c) = some false := by
  have ne : ((Value.ref a == Value.ref c) = true) = False := by
    refine propext ⟨fun z => ?_, False.elim⟩
    have z2 : a = c := Value.ref.inj (beq_iff_eq.mp z)
    rw [← z2, me] at sb
    cases sb
  unfold PySem.W.kitOne
  simp only [ne, if_false]
  exact kit_in ic ty sb
theorem kit_yes {K : PySem.W.Frag} {a c : Addr} (ic : PySem.W.isClsIn K c = true) (ty : PySem.W.typeIn K (.ref c) = some (.type "type")) (sb : PySem.W.subIn K (.ref a) (.ref c) = some true) : PySem.W.kitOne K (.ref a) (.ref c) = some true := by
  unfold PySem.W.kitOne
  split
  · rfl
  · exact kit_in ic ty sb
theorem kit_ve {K : PySem.W.Frag} {a : Addr} (sb : PySem.W.subIn K (.ref a) (.type "ValueError") = some true) : PySem.W.kitOne K (.ref a) (.type "ValueError") = some true := by
  have h : PySem.W.kitMeta "ValueError" = true := by decide +kernel
  unfold PySem.W.kitOne PySem.W.kitCls
  split
  · rfl
  · simp only [h, if_true]
    exact sb
theorem kit_skip {K : PySem.W.Frag} {t c : Value} {r : List Value} {b : Bool} (h : PySem.W.kitOne K t c = some false) (hr : PySem.W.kitAny K t r = some b) : PySem.W.kitAny K t (c :: r) = some b := by
  unfold PySem.W.kitAny
  rw [h]
  exact hr
theorem exm_is {K : PySem.W.Frag} {t : Value} {c : Addr} {b : Bool} (ic : PySem.W.isClsIn K c = true) (ty : PySem.W.typeIn K (.ref c) = some (.type "type")) (be : PySem.W.subIn K (.ref c) (.type "BaseException") = some true) (sb : PySem.W.subIn K t (.ref c) = some b) :
    PySem.W.exmOne K t (.ref c) = some b := by
  unfold PySem.W.exmOne
  rw [be, if_pos (by decide)]
  exact kit_in ic ty sb
theorem exm_3 {K : PySem.W.Frag} {t c1 c2 c3 : Value} {b2 b3 : Bool} (h1 : PySem.W.exmOne K t c1 = some true) (h2 : PySem.W.exmOne K t c2 = some b2) (h3 : PySem.W.exmOne K t c3 = some b3) : PySem.W.exmAny K t [c1, c2, c3] = some true := by
  unfold PySem.W.exmAny PySem.W.exmAny PySem.W.exmAny PySem.W.exmAny
  rw [h1, h2, h3]
  rfl
theorem all_mk {l : PySem.W.OpenLaw} {w : World} {K : PySem.W.Frag} {h : Heap} {mg : Str → Option Value} {fa cCustom cNoCustom f0 f1 f2 f3 f4 f5 f6 f7 t7 f8 f9 f10 f11 f12 f13 t13 f14 f15 f16 f17 f18 f19 f20 f21 f22 f23 f24 f25 f26 f27 f28 f29 f30 : Addr}
    {od0 an0 od1 an1 od2 an2 od3 an3 od4 an4 od5 an5 od6 an6 od7 an7 odT7 od8 an8 od9 an9 od10 an10 od11 an11 od12 an12 od13 an13 odT13 od14 an14 od15 an15 od16 an16 od17 an17 od18 an18 od19 an19 od20 an20 od21 an21 od22 an22 od23 an23 od24 an24 od25 an25 od26 an26 od27 an27 od28 an28 od29 an29 od30 an30 : Option Addr}
    {sl0 sl1 sl2 sl3 sl4 sl5 sl6 sl7 slT7 sl8 sl9 sl10 sl11 sl12 sl13 slT13 sl14 sl15 sl16 sl17 sl18 sl19 sl20 sl21 sl22 sl23 sl24 sl25 sl26 sl27 sl28 sl29 sl30 : Array (Option Value)}
    {oc0 kV0 dc0 pm0 cd0 ct0 oc1 kV1 dc1 pm1 cd1 ct1 oc2 kV2 dc2 pm2 cd2 ct2 oc3 kV3 dc3 pm3 cd3 ct3 oc4 kV4 dc4 pm4 cd4 ct4 oc5 kV5 dc5 pm5 cd5 ct5 oc6 kV6 dc6 pm6 cd6 ct6 oc7 kV7 dc7 pm7 cd7 ct7 ocT7 oc8 kV8 dc8 pm8 cd8 ct8 oc9 kV9 dc9 pm9 cd9 ct9 oc10 kV10 dc10 pm10 cd10 ct10 oc11 kV11 dc11 pm11 cd11 ct11 oc12 kV12 dc12 pm12 cd12 ct12 oc13 kV13 dc13 pm13 cd13 ct13 ocT13 oc14 kV14 dc14 pm14 cd14 ct14 oc15 kV15 dc15 pm15 cd15 ct15 oc16 kV16 dc16 pm16 cd16 ct16 oc17 kV17 dc17 pm17 cd17 ct17 oc18 kV18 dc18 pm18 cd18 ct18 oc19 kV19 dc19 pm19 cd19 ct19 oc20 kV20 dc20 pm20 cd20 ct20 oc21 kV21 dc21 pm21 cd21 ct21 oc22 kV22 dc22 pm22 cd22 ct22 oc23 kV23 dc23 pm23 cd23 ct23 oc24 kV24 dc24 pm24 cd24 ct24 oc25 kV25 dc25 pm25 cd25 ct25 oc26 kV26 dc26 pm26 cd26 ct26 oc27 kV27 dc27 pm27 cd27 ct27 oc28 kV28 dc28 pm28 cd28 ct28 oc29 kV29 dc29 pm29 cd29 ct29 oc30 kV30 dc30 pm30 cd30 ct30 : Value}
    {nT7 nT13 : Nat}
    {u_SMALL_LETTERS u_LONGEST_WORD u_MOST_GROUPS u_LONGEST_LETTER u_MOST_PASSED : Tok}
    (X : K.In h) (G : h.Ns mainGlobals mg) (hfa : mg "law" = some (.ref fa))
    (a_Custom : PySem.W.nsIn K mainGlobals "Custom" = some (some (.ref cCustom)))
    (a_NoCustom : PySem.W.nsIn K mainGlobals "NoCustom" = some (some (.ref cNoCustom)))
    (a0 : PySem.W.nsIn K mainGlobals "is_text_of" = some (some (.ref f0)))
    (l0 : K.lookup f0 = some ⟨oc0, od0, .func (PySem.W.fnOf "is_text_of" "is_text_of" (defArgs sIsTextOf) (defBody sIsTextOf) (defScope sIsTextOf) .none kV0 dc0 pm0 an0 cd0 ct0), sl0⟩)
    (c0 : PySem.W.codeIn K cd0 "is_text_of" = true)
    (k0 : PySem.W.keepIn K (.ref f0) = true)
    (a1 : PySem.W.nsIn K mainGlobals "is_small_text" = some (some (.ref f1)))
    (l1 : K.lookup f1 = some ⟨oc1, od1, .func (PySem.W.fnOf "is_small_text" "is_small_text" (defArgs sIsSmallText) (defBody sIsSmallText) (defScope sIsSmallText) .none kV1 dc1 pm1 an1 cd1 ct1), sl1⟩)
    (c1 : PySem.W.codeIn K cd1 "is_small_text" = true)
    (k1 : PySem.W.keepIn K (.ref f1) = true)
    (a2 : PySem.W.nsIn K mainGlobals "is_word" = some (some (.ref f2)))
    (l2 : K.lookup f2 = some ⟨oc2, od2, .func (PySem.W.fnOf "is_word" "is_word" (defArgs sIsWord) (defBody sIsWord) (defScope sIsWord) .none kV2 dc2 pm2 an2 cd2 ct2), sl2⟩)
    (c2 : PySem.W.codeIn K cd2 "is_word" = true)
    (k2 : PySem.W.keepIn K (.ref f2) = true)
    (a3 : PySem.W.nsIn K mainGlobals "is_group" = some (some (.ref f3)))
    (l3 : K.lookup f3 = some ⟨oc3, od3, .func (PySem.W.fnOf "is_group" "is_group" (defArgs sIsGroup) (defBody sIsGroup) (defScope sIsGroup) .none kV3 dc3 pm3 an3 cd3 ct3), sl3⟩)
    (c3 : PySem.W.codeIn K cd3 "is_group" = true)
    (k3 : PySem.W.keepIn K (.ref f3) = true)
    (a4 : PySem.W.nsIn K mainGlobals "are_letters" = some (some (.ref f4)))
    (l4 : K.lookup f4 = some ⟨oc4, od4, .func (PySem.W.fnOf "are_letters" "are_letters" (defArgs sAreLetters) (defBody sAreLetters) (defScope sAreLetters) .none kV4 dc4 pm4 an4 cd4 ct4), sl4⟩)
    (c4 : PySem.W.codeIn K cd4 "are_letters" = true)
    (k4 : PySem.W.keepIn K (.ref f4) = true)
    (a5 : PySem.W.nsIn K mainGlobals "are_passed" = some (some (.ref f5)))
    (l5 : K.lookup f5 = some ⟨oc5, od5, .func (PySem.W.fnOf "are_passed" "are_passed" (defArgs sArePassed) (defBody sArePassed) (defScope sArePassed) .none kV5 dc5 pm5 an5 cd5 ct5), sl5⟩)
    (c5 : PySem.W.codeIn K cd5 "are_passed" = true)
    (k5 : PySem.W.keepIn K (.ref f5) = true)
    (a6 : PySem.W.nsIn K mainGlobals "are_unlike" = some (some (.ref f6)))
    (l6 : K.lookup f6 = some ⟨oc6, od6, .func (PySem.W.fnOf "are_unlike" "are_unlike" (defArgs sAreUnlike) (defBody sAreUnlike) (defScope sAreUnlike) .none kV6 dc6 pm6 an6 cd6 ct6), sl6⟩)
    (c6 : PySem.W.codeIn K cd6 "are_unlike" = true)
    (k6 : PySem.W.keepIn K (.ref f6) = true)
    (a7 : PySem.W.findIn K (.ref cCustom) "__init__" = some (some (.ref f7)))
    (i7 : PySem.W.isFn K (.ref f7) = true)
    (l7 : K.lookup f7 = some ⟨oc7, od7, .func (PySem.W.fnOf "__init__" "Custom.__init__" (defArgs sCustomInit) (defBody sCustomInit) (defScope sCustomInit) (.ref t7) kV7 dc7 pm7 an7 cd7 ct7), sl7⟩)
    (c7 : PySem.W.codeIn K cd7 "Custom.__init__" = true)
    (k7 : PySem.W.keepIn K (.ref f7) = true)
    (d7 : K.lookup t7 = some ⟨ocT7, odT7, .seq #[Value.none, Value.bool true] nT7, slT7⟩)
    (a8 : PySem.W.nsIn K mainGlobals "letter_at" = some (some (.ref f8)))
    (l8 : K.lookup f8 = some ⟨oc8, od8, .func (PySem.W.fnOf "letter_at" "letter_at" (defArgs sLetterAt) (defBody sLetterAt) (defScope sLetterAt) .none kV8 dc8 pm8 an8 cd8 ct8), sl8⟩)
    (c8 : PySem.W.codeIn K cd8 "letter_at" = true)
    (k8 : PySem.W.keepIn K (.ref f8) = true)
    (a9 : PySem.W.findIn K (.ref cCustom) "letters_in" = some (some (.ref f9)))
    (i9 : PySem.W.isFn K (.ref f9) = true)
    (l9 : K.lookup f9 = some ⟨oc9, od9, .func (PySem.W.fnOf "letters_in" "Custom.letters_in" (defArgs sCustomLettersIn) (defBody sCustomLettersIn) (defScope sCustomLettersIn) .none kV9 dc9 pm9 an9 cd9 ct9), sl9⟩)
    (c9 : PySem.W.codeIn K cd9 "Custom.letters_in" = true)
    (k9 : PySem.W.keepIn K (.ref f9) = true)
    (a10 : PySem.W.findIn K (.ref cCustom) "passes" = some (some (.ref f10)))
    (i10 : PySem.W.isFn K (.ref f10) = true)
    (l10 : K.lookup f10 = some ⟨oc10, od10, .func (PySem.W.fnOf "passes" "Custom.passes" (defArgs sCustomPasses) (defBody sCustomPasses) (defScope sCustomPasses) .none kV10 dc10 pm10 an10 cd10 ct10), sl10⟩)
    (c10 : PySem.W.codeIn K cd10 "Custom.passes" = true)
    (k10 : PySem.W.keepIn K (.ref f10) = true)
    (a11 : PySem.W.findIn K (.ref cCustom) "bare" = some (some (.ref f11)))
    (i11 : PySem.W.isFn K (.ref f11) = true)
    (l11 : K.lookup f11 = some ⟨oc11, od11, .func (PySem.W.fnOf "bare" "Custom.bare" (defArgs sCustomBare) (defBody sCustomBare) (defScope sCustomBare) .none kV11 dc11 pm11 an11 cd11 ct11), sl11⟩)
    (c11 : PySem.W.codeIn K cd11 "Custom.bare" = true)
    (k11 : PySem.W.keepIn K (.ref f11) = true)
    (a12 : PySem.W.findIn K (.ref cCustom) "rank" = some (some (.ref f12)))
    (i12 : PySem.W.isFn K (.ref f12) = true)
    (l12 : K.lookup f12 = some ⟨oc12, od12, .func (PySem.W.fnOf "rank" "Custom.rank" (defArgs sCustomRank) (defBody sCustomRank) (defScope sCustomRank) .none kV12 dc12 pm12 an12 cd12 ct12), sl12⟩)
    (c12 : PySem.W.codeIn K cd12 "Custom.rank" = true)
    (k12 : PySem.W.keepIn K (.ref f12) = true)
    (a13 : PySem.W.findIn K (.ref cCustom) "in_order" = some (some (.ref f13)))
    (i13 : PySem.W.isFn K (.ref f13) = true)
    (l13 : K.lookup f13 = some ⟨oc13, od13, .func (PySem.W.fnOf "in_order" "Custom.in_order" (defArgs sCustomInOrder) (defBody sCustomInOrder) (defScope sCustomInOrder) (.ref t13) kV13 dc13 pm13 an13 cd13 ct13), sl13⟩)
    (c13 : PySem.W.codeIn K cd13 "Custom.in_order" = true)
    (k13 : PySem.W.keepIn K (.ref f13) = true)
    (d13 : K.lookup t13 = some ⟨ocT13, odT13, .seq #[Value.bool false] nT13, slT13⟩)
    (a14 : PySem.W.findIn K (.ref cCustom) "shown" = some (some (.ref f14)))
    (i14 : PySem.W.isFn K (.ref f14) = true)
    (l14 : K.lookup f14 = some ⟨oc14, od14, .func (PySem.W.fnOf "shown" "Custom.shown" (defArgs sCustomShown) (defBody sCustomShown) (defScope sCustomShown) .none kV14 dc14 pm14 an14 cd14 ct14), sl14⟩)
    (c14 : PySem.W.codeIn K cd14 "Custom.shown" = true)
    (k14 : PySem.W.keepIn K (.ref f14) = true)
    (a15 : PySem.W.findIn K (.ref cCustom) "read" = some (some (.ref f15)))
    (i15 : PySem.W.isFn K (.ref f15) = true)
    (l15 : K.lookup f15 = some ⟨oc15, od15, .func (PySem.W.fnOf "read" "Custom.read" (defArgs sCustomRead) (defBody sCustomRead) (defScope sCustomRead) .none kV15 dc15 pm15 an15 cd15 ct15), sl15⟩)
    (c15 : PySem.W.codeIn K cd15 "Custom.read" = true)
    (k15 : PySem.W.keepIn K (.ref f15) = true)
    (a16 : PySem.W.nsIn K mainGlobals "_law_hand" = some (some (.ref f16)))
    (l16 : K.lookup f16 = some ⟨oc16, od16, .func (PySem.W.fnOf "_law_hand" "_law_hand" (defArgs sHand) (defBody sHand) (defScope sHand) .none kV16 dc16 pm16 an16 cd16 ct16), sl16⟩)
    (c16 : PySem.W.codeIn K cd16 "_law_hand" = true)
    (k16 : PySem.W.keepIn K (.ref f16) = true)
    (a17 : PySem.W.nsIn K mainGlobals "_law_take" = some (some (.ref f17)))
    (l17 : K.lookup f17 = some ⟨oc17, od17, .func (PySem.W.fnOf "_law_take" "_law_take" (defArgs sTake) (defBody sTake) (defScope sTake) .none kV17 dc17 pm17 an17 cd17 ct17), sl17⟩)
    (c17 : PySem.W.codeIn K cd17 "_law_take" = true)
    (k17 : PySem.W.keepIn K (.ref f17) = true)
    (a18 : PySem.W.nsIn K mainGlobals "_law_pick" = some (some (.ref f18)))
    (l18 : K.lookup f18 = some ⟨oc18, od18, .func (PySem.W.fnOf "_law_pick" "_law_pick" (defArgs sPick) (defBody sPick) (defScope sPick) .none kV18 dc18 pm18 an18 cd18 ct18), sl18⟩)
    (c18 : PySem.W.codeIn K cd18 "_law_pick" = true)
    (k18 : PySem.W.keepIn K (.ref f18) = true)
    (a19 : PySem.W.nsIn K mainGlobals "_law_letters" = some (some (.ref f19)))
    (l19 : K.lookup f19 = some ⟨oc19, od19, .func (PySem.W.fnOf "_law_letters" "_law_letters" (defArgs sLetters) (defBody sLetters) (defScope sLetters) .none kV19 dc19 pm19 an19 cd19 ct19), sl19⟩)
    (c19 : PySem.W.codeIn K cd19 "_law_letters" = true)
    (k19 : PySem.W.keepIn K (.ref f19) = true)
    (a20 : PySem.W.nsIn K mainGlobals "_law_passed" = some (some (.ref f20)))
    (l20 : K.lookup f20 = some ⟨oc20, od20, .func (PySem.W.fnOf "_law_passed" "_law_passed" (defArgs sPassed) (defBody sPassed) (defScope sPassed) .none kV20 dc20 pm20 an20 cd20 ct20), sl20⟩)
    (c20 : PySem.W.codeIn K cd20 "_law_passed" = true)
    (k20 : PySem.W.keepIn K (.ref f20) = true)
    (a21 : PySem.W.nsIn K mainGlobals "_law_text" = some (some (.ref f21)))
    (l21 : K.lookup f21 = some ⟨oc21, od21, .func (PySem.W.fnOf "_law_text" "_law_text" (defArgs sText) (defBody sText) (defScope sText) .none kV21 dc21 pm21 an21 cd21 ct21), sl21⟩)
    (c21 : PySem.W.codeIn K cd21 "_law_text" = true)
    (k21 : PySem.W.keepIn K (.ref f21) = true)
    (a22 : PySem.W.nsIn K mainGlobals "_law_exchanged" = some (some (.ref f22)))
    (l22 : K.lookup f22 = some ⟨oc22, od22, .func (PySem.W.fnOf "_law_exchanged" "_law_exchanged" (defArgs sExchanged) (defBody sExchanged) (defScope sExchanged) .none kV22 dc22 pm22 an22 cd22 ct22), sl22⟩)
    (c22 : PySem.W.codeIn K cd22 "_law_exchanged" = true)
    (k22 : PySem.W.keepIn K (.ref f22) = true)
    (a23 : PySem.W.nsIn K mainGlobals "_law_key" = some (some (.ref f23)))
    (l23 : K.lookup f23 = some ⟨oc23, od23, .func (PySem.W.fnOf "_law_key" "_law_key" (defArgs sKey) (defBody sKey) (defScope sKey) .none kV23 dc23 pm23 an23 cd23 ct23), sl23⟩)
    (c23 : PySem.W.codeIn K cd23 "_law_key" = true)
    (k23 : PySem.W.keepIn K (.ref f23) = true)
    (a24 : PySem.W.nsIn K mainGlobals "_law_turned" = some (some (.ref f24)))
    (l24 : K.lookup f24 = some ⟨oc24, od24, .func (PySem.W.fnOf "_law_turned" "_law_turned" (defArgs sTurned) (defBody sTurned) (defScope sTurned) .none kV24 dc24 pm24 an24 cd24 ct24), sl24⟩)
    (c24 : PySem.W.codeIn K cd24 "_law_turned" = true)
    (k24 : PySem.W.keepIn K (.ref f24) = true)
    (a25 : PySem.W.nsIn K mainGlobals "_law_merged" = some (some (.ref f25)))
    (l25 : K.lookup f25 = some ⟨oc25, od25, .func (PySem.W.fnOf "_law_merged" "_law_merged" (defArgs sMerged) (defBody sMerged) (defScope sMerged) .none kV25 dc25 pm25 an25 cd25 ct25), sl25⟩)
    (c25 : PySem.W.codeIn K cd25 "_law_merged" = true)
    (k25 : PySem.W.keepIn K (.ref f25) = true)
    (a26 : PySem.W.nsIn K mainGlobals "_law_sorted_right" = some (some (.ref f26)))
    (l26 : K.lookup f26 = some ⟨oc26, od26, .func (PySem.W.fnOf "_law_sorted_right" "_law_sorted_right" (defArgs sSortedRight) (defBody sSortedRight) (defScope sSortedRight) .none kV26 dc26 pm26 an26 cd26 ct26), sl26⟩)
    (c26 : PySem.W.codeIn K cd26 "_law_sorted_right" = true)
    (k26 : PySem.W.keepIn K (.ref f26) = true)
    (a27 : PySem.W.nsIn K mainGlobals "_law_near_right" = some (some (.ref f27)))
    (l27 : K.lookup f27 = some ⟨oc27, od27, .func (PySem.W.fnOf "_law_near_right" "_law_near_right" (defArgs sNearRight) (defBody sNearRight) (defScope sNearRight) .none kV27 dc27 pm27 an27 cd27 ct27), sl27⟩)
    (c27 : PySem.W.codeIn K cd27 "_law_near_right" = true)
    (k27 : PySem.W.keepIn K (.ref f27) = true)
    (a28 : PySem.W.nsIn K mainGlobals "_law_first_unlike" = some (some (.ref f28)))
    (l28 : K.lookup f28 = some ⟨oc28, od28, .func (PySem.W.fnOf "_law_first_unlike" "_law_first_unlike" (defArgs sFirstUnlike) (defBody sFirstUnlike) (defScope sFirstUnlike) .none kV28 dc28 pm28 an28 cd28 ct28), sl28⟩)
    (c28 : PySem.W.codeIn K cd28 "_law_first_unlike" = true)
    (k28 : PySem.W.keepIn K (.ref f28) = true)
    (a29 : PySem.W.nsIn K mainGlobals "_law_about_right" = some (some (.ref f29)))
    (l29 : K.lookup f29 = some ⟨oc29, od29, .func (PySem.W.fnOf "_law_about_right" "_law_about_right" (defArgs sAboutRight) (defBody sAboutRight) (defScope sAboutRight) .none kV29 dc29 pm29 an29 cd29 ct29), sl29⟩)
    (c29 : PySem.W.codeIn K cd29 "_law_about_right" = true)
    (k29 : PySem.W.keepIn K (.ref f29) = true)
    (a30 : PySem.W.nsIn K mainGlobals "law" = some (some (.ref f30)))
    (l30 : K.lookup f30 = some ⟨oc30, od30, .func (PySem.W.fnOf "law" "law" (defArgs sLaw) (defBody sLaw) (defScope sLaw) .none kV30 dc30 pm30 an30 cd30 ct30), sl30⟩)
    (c30 : PySem.W.codeIn K cd30 "law" = true)
    (k30 : PySem.W.keepIn K (.ref f30) = true)
    (g_SMALL_LETTERS : PySem.W.nsIn K mainGlobals "SMALL_LETTERS" = some (some (.str "abcdefghijklmnopqrstuvwxyz" u_SMALL_LETTERS)))
    (g_LONGEST_WORD : PySem.W.nsIn K mainGlobals "LONGEST_WORD" = some (some (.int 8 u_LONGEST_WORD)))
    (g_MOST_GROUPS : PySem.W.nsIn K mainGlobals "MOST_GROUPS" = some (some (.int 40 u_MOST_GROUPS)))
    (g_LONGEST_LETTER : PySem.W.nsIn K mainGlobals "LONGEST_LETTER" = some (some (.int 2 u_LONGEST_LETTER)))
    (g_MOST_PASSED : PySem.W.nsIn K mainGlobals "MOST_PASSED" = some (some (.int 20 u_MOST_PASSED)))
    (xX : PySem.W.excIn K cNoCustom [.type "ValueError", .type "Exception", .type "BaseException", .type "object"] "ValueError.__new__" = true)
    (exX : PySem.W.subIn K (.ref cNoCustom) (.type "BaseException") = some true)
    (kX : PySem.W.keepIn K (.ref cNoCustom) = true)
    (ty_NoCustom : PySem.W.typeIn K (.ref cNoCustom) = some (.type "type"))
    (pg : PySem.W.plainGet K cCustom Str.empty = true)
    (hd : PySem.W.hasDictIn K cCustom = true)
    (po : PySem.W.plainOver K cCustom = true)
    (sa : PySem.W.findIn K (.ref cCustom) "__setattr__" = some (some (.builtin "object.__setattr__")))
    (mk : PySem.W.makesIn K cCustom = true)
    (kc : PySem.W.keepIn K (.ref cCustom) = true)
    (n1 : PySem.W.findIn K (.ref cCustom) "letters" = some none)
    (n2 : PySem.W.findIn K (.ref cCustom) "passed" = some none)
    (n3 : PySem.W.findIn K (.ref cCustom) "comma" = some none)
    (n4 : PySem.W.findIn K (.ref cCustom) "numbers" = some none)
    (ha : PySem.W.findIn K (.ref cCustom) "__class__" = some (some (.builtin "object.__class__")))
    (hn : PySem.W.specialIn K (.builtin "object.__class__") "__get__" = some (some (.builtin "getset_descriptor.__get__")))
    (ht : PySem.W.takesIn K (.builtin "object.__class__") = some true)
    (hm : PySem.W.mroIn K cCustom (.type "object") = some true)
    (gfR : PySem.W.specialIn K (.ref f12) "__get__" = some (some (.builtin "function.__get__")))
    (tkR : PySem.W.takesIn K (.ref f12) = some false)
    (fiR : PySem.W.fnIn K f12 = true)
    (z_isinstance : PySem.W.nsIn K mainGlobals "isinstance" = some none)
    (z_bool : PySem.W.nsIn K mainGlobals "bool" = some none)
    (z_str : PySem.W.nsIn K mainGlobals "str" = some none)
    (z_tuple : PySem.W.nsIn K mainGlobals "tuple" = some none)
    (z_list : PySem.W.nsIn K mainGlobals "list" = some none)
    (z_len : PySem.W.nsIn K mainGlobals "len" = some none)
    (z_set : PySem.W.nsIn K mainGlobals "set" = some none)
    (z_all : PySem.W.nsIn K mainGlobals "all" = some none)
    (z_any : PySem.W.nsIn K mainGlobals "any" = some none)
    (z_enumerate : PySem.W.nsIn K mainGlobals "enumerate" = some none)
    (z_range : PySem.W.nsIn K mainGlobals "range" = some none)
    (z_abs : PySem.W.nsIn K mainGlobals "abs" = some none)
    (z_min : PySem.W.nsIn K mainGlobals "min" = some none)
    (z_max : PySem.W.nsIn K mainGlobals "max" = some none)
    (z_int : PySem.W.nsIn K mainGlobals "int" = some none)
    (z_repr : PySem.W.nsIn K mainGlobals "repr" = some none)
    (z_sorted : PySem.W.nsIn K mainGlobals "sorted" = some none)
    (z_zip : PySem.W.nsIn K mainGlobals "zip" = some none)
    : ∃ fd : FuncData, (∀ (s : Shared) (v : Value), BindsTo s fd ⟨[v], []⟩ [("_law_script", v)]) ∧
      ∀ base : Heap, K.In base → base.Ns mainGlobals mg → FnOk l.prog w K mg base CX0 8 fa fd ["_law_script"] (spLaw K) := by
  have e := hfa.symm.trans (PySem.W.mg_of X G a30)
  cases e
  have F0 := fun_mk (st := sIsTextOf) l0 c0 k0
  have D0 : Df K mg "is_text_of" ["thing", "signs", "least", "most"] sIsTextOf f0 _ := ⟨F0, PySem.W.mg_of X G a0, F0.binds (ps := ["thing", "signs", "least", "most"]) fun _ _ _ _ _ _ us hl => match us, hl with | [_, _, _, _], _ => rfl⟩
  have F1 := fun_mk (st := sIsSmallText) l1 c1 k1
  have D1 : Df K mg "is_small_text" ["thing", "least", "most"] sIsSmallText f1 _ := ⟨F1, PySem.W.mg_of X G a1, F1.binds (ps := ["thing", "least", "most"]) fun _ _ _ _ _ _ us hl => match us, hl with | [_, _, _], _ => rfl⟩
  have F2 := fun_mk (st := sIsWord) l2 c2 k2
  have D2 : Df K mg "is_word" ["thing"] sIsWord f2 _ := ⟨F2, PySem.W.mg_of X G a2, F2.binds (ps := ["thing"]) fun _ _ _ _ _ _ us hl => match us, hl with | [_], _ => rfl⟩
  have F3 := fun_mk (st := sIsGroup) l3 c3 k3
  have D3 : Df K mg "is_group" ["thing"] sIsGroup f3 _ := ⟨F3, PySem.W.mg_of X G a3, F3.binds (ps := ["thing"]) fun _ _ _ _ _ _ us hl => match us, hl with | [_], _ => rfl⟩
  have F4 := fun_mk (st := sAreLetters) l4 c4 k4
  have D4 : Df K mg "are_letters" ["thing"] sAreLetters f4 _ := ⟨F4, PySem.W.mg_of X G a4, F4.binds (ps := ["thing"]) fun _ _ _ _ _ _ us hl => match us, hl with | [_], _ => rfl⟩
  have F5 := fun_mk (st := sArePassed) l5 c5 k5
  have D5 : Df K mg "are_passed" ["thing"] sArePassed f5 _ := ⟨F5, PySem.W.mg_of X G a5, F5.binds (ps := ["thing"]) fun _ _ _ _ _ _ us hl => match us, hl with | [_], _ => rfl⟩
  have F6 := fun_mk (st := sAreUnlike) l6 c6 k6
  have D6 : Df K mg "are_unlike" ["things"] sAreUnlike f6 _ := ⟨F6, PySem.W.mg_of X G a6, F6.binds (ps := ["things"]) fun _ _ _ _ _ _ us hl => match us, hl with | [_], _ => rfl⟩
  have F7 : FunD K "__init__" "Custom.__init__" (defArgs sCustomInit) (defBody sCustomInit) (defScope sCustomInit) [.non, .bl true] [] f7 _ :=
    ⟨⟨_, _, _, _, _, _, _, _, _, _, rfl, l7, c7, .inr ⟨by simp, t7, _, [Value.none, Value.bool true], _, rfl, d7, rfl, .cons rfl (.cons rfl .nil)⟩, .inl rfl⟩, k7⟩
  have F8 := fun_mk (st := sLetterAt) l8 c8 k8
  have D8 : Df K mg "letter_at" ["numbers", "text", "at"] sLetterAt f8 _ := ⟨F8, PySem.W.mg_of X G a8, F8.binds (ps := ["numbers", "text", "at"]) fun _ _ _ _ _ _ us hl => match us, hl with | [_, _, _], _ => rfl⟩
  have F9 := fun_mk (st := sCustomLettersIn) l9 c9 k9
  have B9 := F9.binds (ps := ["self", "text"]) fun _ _ _ _ _ _ us hl => match us, hl with | [_, _], _ => rfl
  have F10 := fun_mk (st := sCustomPasses) l10 c10 k10
  have B10 := F10.binds (ps := ["self", "word"]) fun _ _ _ _ _ _ us hl => match us, hl with | [_, _], _ => rfl
  have F11 := fun_mk (st := sCustomBare) l11 c11 k11
  have B11 := F11.binds (ps := ["self", "text"]) fun _ _ _ _ _ _ us hl => match us, hl with | [_, _], _ => rfl
  have F12 := fun_mk (st := sCustomRank) l12 c12 k12
  have B12 := F12.binds (ps := ["self", "text"]) fun _ _ _ _ _ _ us hl => match us, hl with | [_, _], _ => rfl
  have F13 : FunD K "in_order" "Custom.in_order" (defArgs sCustomInOrder) (defBody sCustomInOrder) (defScope sCustomInOrder) [.bl false] [] f13 _ :=
    ⟨⟨_, _, _, _, _, _, _, _, _, _, rfl, l13, c13, .inr ⟨by simp, t13, _, [Value.bool false], _, rfl, d13, rfl, .cons rfl .nil⟩, .inl rfl⟩, k13⟩
  have F14 := fun_mk (st := sCustomShown) l14 c14 k14
  have B14 := F14.binds (ps := ["self", "text"]) fun _ _ _ _ _ _ us hl => match us, hl with | [_, _], _ => rfl
  have F15 := fun_mk (st := sCustomRead) l15 c15 k15
  have B15 := F15.binds (ps := ["self", "text"]) fun _ _ _ _ _ _ us hl => match us, hl with | [_, _], _ => rfl
  have F16 := fun_mk (st := sHand) l16 c16 k16
  have D16 : Df K mg "_law_hand" ["_law_script", "_law_k"] sHand f16 _ := ⟨F16, PySem.W.mg_of X G a16, F16.binds (ps := ["_law_script", "_law_k"]) fun _ _ _ _ _ _ us hl => match us, hl with | [_, _], _ => rfl⟩
  have F17 := fun_mk (st := sTake) l17 c17 k17
  have D17 : Df K mg "_law_take" ["_law_hand_here", "_law_many"] sTake f17 _ := ⟨F17, PySem.W.mg_of X G a17, F17.binds (ps := ["_law_hand_here", "_law_many"]) fun _ _ _ _ _ _ us hl => match us, hl with | [_, _], _ => rfl⟩
  have F18 := fun_mk (st := sPick) l18 c18 k18
  have D18 : Df K mg "_law_pick" ["_law_hand_here", "_law_some"] sPick f18 _ := ⟨F18, PySem.W.mg_of X G a18, F18.binds (ps := ["_law_hand_here", "_law_some"]) fun _ _ _ _ _ _ us hl => match us, hl with | [_, _], _ => rfl⟩
  have F19 := fun_mk (st := sLetters) l19 c19 k19
  have D19 : Df K mg "_law_letters" ["_law_hand_here"] sLetters f19 _ := ⟨F19, PySem.W.mg_of X G a19, F19.binds (ps := ["_law_hand_here"]) fun _ _ _ _ _ _ us hl => match us, hl with | [_], _ => rfl⟩
  have F20 := fun_mk (st := sPassed) l20 c20 k20
  have D20 : Df K mg "_law_passed" ["_law_hand_here"] sPassed f20 _ := ⟨F20, PySem.W.mg_of X G a20, F20.binds (ps := ["_law_hand_here"]) fun _ _ _ _ _ _ us hl => match us, hl with | [_], _ => rfl⟩
  have F21 := fun_mk (st := sText) l21 c21 k21
  have D21 : Df K mg "_law_text" ["_law_hand_here", "_law_letters_here", "_law_passed_here"] sText f21 _ := ⟨F21, PySem.W.mg_of X G a21, F21.binds (ps := ["_law_hand_here", "_law_letters_here", "_law_passed_here"]) fun _ _ _ _ _ _ us hl => match us, hl with | [_, _, _], _ => rfl⟩
  have F22 := fun_mk (st := sExchanged) l22 c22 k22
  have D22 : Df K mg "_law_exchanged" ["_law_hand_here", "_law_letters_here", "_law_text_here"] sExchanged f22 _ := ⟨F22, PySem.W.mg_of X G a22, F22.binds (ps := ["_law_hand_here", "_law_letters_here", "_law_text_here"]) fun _ _ _ _ _ _ us hl => match us, hl with | [_, _, _], _ => rfl⟩
  have F23 := fun_mk (st := sKey) l23 c23 k23
  have D23 : Df K mg "_law_key" ["_law_custom", "_law_text_here"] sKey f23 _ := ⟨F23, PySem.W.mg_of X G a23, F23.binds (ps := ["_law_custom", "_law_text_here"]) fun _ _ _ _ _ _ us hl => match us, hl with | [_, _], _ => rfl⟩
  have F24 := fun_mk (st := sTurned) l24 c24 k24
  have D24 : Df K mg "_law_turned" ["_law_hand_here", "_law_texts"] sTurned f24 _ := ⟨F24, PySem.W.mg_of X G a24, F24.binds (ps := ["_law_hand_here", "_law_texts"]) fun _ _ _ _ _ _ us hl => match us, hl with | [_, _], _ => rfl⟩
  have F25 := fun_mk (st := sMerged) l25 c25 k25
  have D25 : Df K mg "_law_merged" ["_law_custom", "_law_one", "_law_other"] sMerged f25 _ := ⟨F25, PySem.W.mg_of X G a25, F25.binds (ps := ["_law_custom", "_law_one", "_law_other"]) fun _ _ _ _ _ _ us hl => match us, hl with | [_, _, _], _ => rfl⟩
  have F26 := fun_mk (st := sSortedRight) l26 c26 k26
  have D26 : Df K mg "_law_sorted_right" ["_law_hand_here", "_law_custom", "_law_texts"] sSortedRight f26 _ := ⟨F26, PySem.W.mg_of X G a26, F26.binds (ps := ["_law_hand_here", "_law_custom", "_law_texts"]) fun _ _ _ _ _ _ us hl => match us, hl with | [_, _, _], _ => rfl⟩
  have F27 := fun_mk (st := sNearRight) l27 c27 k27
  have D27 : Df K mg "_law_near_right" ["_law_hand_here", "_law_custom", "_law_letters_here", "_law_texts"] sNearRight f27 _ := ⟨F27, PySem.W.mg_of X G a27, F27.binds (ps := ["_law_hand_here", "_law_custom", "_law_letters_here", "_law_texts"]) fun _ _ _ _ _ _ us hl => match us, hl with | [_, _, _, _], _ => rfl⟩
  have F28 := fun_mk (st := sFirstUnlike) l28 c28 k28
  have D28 : Df K mg "_law_first_unlike" ["_law_one", "_law_other"] sFirstUnlike f28 _ := ⟨F28, PySem.W.mg_of X G a28, F28.binds (ps := ["_law_one", "_law_other"]) fun _ _ _ _ _ _ us hl => match us, hl with | [_, _], _ => rfl⟩
  have F29 := fun_mk (st := sAboutRight) l29 c29 k29
  have D29 : Df K mg "_law_about_right" ["_law_custom", "_law_about", "_law_texts"] sAboutRight f29 _ := ⟨F29, PySem.W.mg_of X G a29, F29.binds (ps := ["_law_custom", "_law_about", "_law_texts"]) fun _ _ _ _ _ _ us hl => match us, hl with | [_, _, _], _ => rfl⟩
  have F30 := fun_mk (st := sLaw) l30 c30 k30
  have D30 : Df K mg "law" ["_law_script"] sLaw fa _ := ⟨F30, PySem.W.mg_of X G a30, F30.binds (ps := ["_law_script"]) fun _ _ _ _ _ _ us hl => match us, hl with | [_], _ => rfl⟩
  let e : Ex := ⟨cNoCustom⟩
  have T : Txt K mg cCustom e := ⟨⟨pg, hd, po, sa⟩,
    n1,
    n2,
    n3,
    n4,
    PySem.W.mg_of X G a_Custom,
    ⟨⟨pg, hd, po, sa⟩, ha, hn, ht, hm, kit_self⟩,
    ⟨_, PySem.W.mg_of X G g_SMALL_LETTERS⟩,
    ⟨_, PySem.W.mg_of X G g_LONGEST_WORD⟩,
    ⟨_, PySem.W.mg_of X G g_MOST_GROUPS⟩,
    ⟨_, PySem.W.mg_of X G g_LONGEST_LETTER⟩,
    ⟨_, PySem.W.mg_of X G g_MOST_PASSED⟩,
    PySem.W.mg_of X G a_NoCustom,
    PySem.W.mg_none_of X G z_isinstance,
    PySem.W.mg_none_of X G z_bool,
    PySem.W.mg_none_of X G z_str,
    PySem.W.mg_none_of X G z_tuple,
    PySem.W.mg_none_of X G z_list,
    PySem.W.mg_none_of X G z_len,
    PySem.W.mg_none_of X G z_set,
    PySem.W.mg_none_of X G z_all,
    PySem.W.mg_none_of X G z_any,
    PySem.W.mg_none_of X G z_enumerate,
    PySem.W.mg_none_of X G z_range,
    PySem.W.mg_none_of X G z_abs,
    PySem.W.mg_none_of X G z_min,
    PySem.W.mg_none_of X G z_max,
    PySem.W.mg_none_of X G z_int,
    PySem.W.mg_none_of X G z_repr,
    PySem.W.mg_none_of X G z_sorted,
    PySem.W.mg_none_of X G z_zip,
    xX,
    kX,
    exX,
    ty_NoCustom⟩
  refine ⟨PySem.W.fnOf "law" "law" (defArgs sLaw) (defBody sLaw) (defScope sLaw) .none kV30 dc30 pm30 an30 cd30 ct30, fun s v => .of_eq rfl, fun base kb gb => ?g⟩
  case g =>
    have cO := D0.ca (ok_of (P := l.prog) (w := w) (base := base) D0 T)
    have cS := D1.ca (ok_small D1 T cO)
    have cWd := D2.ca (ok_word8 D2 T cS)
    have cU := D6.ca (ok_unlike (P := l.prog) (w := w) (base := base) D6 T)
    have cGr := D3.ca (ok_group D3 T cS)
    have cLe := D4.ca (ok_letters D4 T cGr cU)
    have cPs := D5.ca (ok_passed D5 T cWd cU)
    have G2 : Dm l.prog w K mg base cCustom e f7 _ := dm_mk F7 ⟨mk, a7, i7, kc⟩ (ok_init F7 T cLe cPs)
    have cH := D16.ca (ok_hand (P := l.prog) (w := w) (base := base) D16 T)
    have cT := D17.ca (ok_take (P := l.prog) (w := w) (base := base) D17)
    have cP := D18.ca (ok_pick D18 T cT)
    have cLt := D19.ca (ok_lts D19 T cT cP)
    have cPa := D20.ca (ok_pss D20 T cT cP)
    have cLA := D8.ca (ok_la (P := l.prog) (w := w) (base := base) D8 T)
    have mL : Mt l.prog w K mg base cCustom "letters_in" 2 f9 _ ["self", "text"] (spLI K cCustom) := ⟨⟨a9, i9, k9⟩, ok_li F9 T cLA, B9⟩
    have mP : Mt l.prog w K mg base cCustom "passes" 1 f10 _ ["self", "word"] (spPsw K cCustom) := ⟨⟨a10, i10, k10⟩, ok_psw F10 T, B10⟩
    have mB : Mt l.prog w K mg base cCustom "bare" 2 f11 _ ["self", "text"] (spBare K cCustom) := ⟨⟨a11, i11, k11⟩, ok_bare F11 T mP, B11⟩
    have mK : Mt l.prog w K mg base cCustom "rank" 3 f12 _ ["self", "text"] (spRank K cCustom) := ⟨⟨a12, i12, k12⟩, ok_rank F12 T mB mL, B12⟩
    have bK : BMeth K cCustom "rank" f12 := ⟨mK.m, gfR, tkR, by decide +kernel, fiR⟩
    have O : Om l.prog w K mg base cCustom f13 _ := om_mk F13 ⟨a13, i13, k13⟩ (ok_ord F13 T mK bK)
    have cTx := D21.ca (ok_tx D21 T cT cP)
    have mS : Mt l.prog w K mg base cCustom "shown" 3 f14 _ ["self", "text"] (spShown K cCustom) := ⟨⟨a14, i14, k14⟩, ok_shown F14 T mB, B14⟩
    have mR : Mt l.prog w K mg base cCustom "read" 2 f15 _ ["self", "text"] (spRead K cCustom) := ⟨⟨a15, i15, k15⟩, ok_read F15 T mP, B15⟩
    have cEx := D22.ca (ok_ex D22 T cT cP)
    have cKy := D23.ca (ok_ky D23 T mK)
    have cTu := D24.ca (ok_tu D24 T cT)
    have cMg := D25.ca (ok_mg D25 T mK)
    have cSr := D26.ca (ok_sr D26 T mK O mS mR cT cTu cMg)
    have cNr := D27.ca (ok_nr D27 T mB O cKy cEx)
    have cFu := D28.ca (ok_fu (P := l.prog) (w := w) (base := base) D28 T)
    have cAr := D29.ca (ok_ar D29 T mK O cFu)
    exact ok_law D30 T G2 cH cT cLt cPa cTx cSr cNr cAr
end K79
open PySem PySem.W PyProof.Rows L2
set_option maxRecDepth 100000 in
set_option maxHeartbeats 0 in
theorem PySem.Challenge.cw_takesworks_k79_whole_sorted_and_shown_holds : PySem.Challenge.rw_takesworks_k79_whole_sorted_and_shown.Holds := by
  w_on; o_law; k_head; (case hw => w_witness2)
  k_fill
  refine walk_of (l := PySem.Challenge.rw_takesworks_k79_whole_sorted_and_shown) (n := 63) (k := 8) (x := "_law_script") (CX := fun _ => CX0) (sp := fun w => K79.spLaw _) rfl (by decide) rfl ⟨rfl, by decide, by decide⟩ (fun w h Y => PySem.W.kIn_of Y) ?F
    (fun w H a ns hl _ hS => ⟨a, ns, rfl, hS, hl, fun _ => rfl⟩) (fun _ _ _ _ _ z => z)
  case F =>
    intro w mg fa h KX G hmg
    refine' K79.all_mk KX G hmg ?a_Custom ?a_NoCustom ?a0 ?l0 ?c0 ?k0 ?a1 ?l1 ?c1 ?k1 ?a2 ?l2 ?c2 ?k2 ?a3 ?l3 ?c3 ?k3 ?a4 ?l4 ?c4 ?k4 ?a5 ?l5 ?c5 ?k5 ?a6 ?l6 ?c6 ?k6 ?a7 ?i7 ?l7 ?c7 ?k7 ?d7 ?a8 ?l8 ?c8 ?k8 ?a9 ?i9 ?l9 ?c9 ?k9 ?a10 ?i10 ?l10 ?c10 ?k10 ?a11 ?i11 ?l11 ?c11 ?k11 ?a12 ?i12 ?l12 ?c12 ?k12 ?a13 ?i13 ?l13 ?c13 ?k13 ?d13 ?a14 ?i14 ?l14 ?c14 ?k14 ?a15 ?i15 ?l15 ?c15 ?k15 ?a16 ?l16 ?c16 ?k16 ?a17 ?l17 ?c17 ?k17 ?a18 ?l18 ?c18 ?k18 ?a19 ?l19 ?c19 ?k19 ?a20 ?l20 ?c20 ?k20 ?a21 ?l21 ?c21 ?k21 ?a22 ?l22 ?c22 ?k22 ?a23 ?l23 ?c23 ?k23 ?a24 ?l24 ?c24 ?k24 ?a25 ?l25 ?c25 ?k25 ?a26 ?l26 ?c26 ?k26 ?a27 ?l27 ?c27 ?k27 ?a28 ?l28 ?c28 ?k28 ?a29 ?l29 ?c29 ?k29 ?a30 ?l30 ?c30 ?k30 ?g_SMALL_LETTERS ?g_LONGEST_WORD ?g_MOST_GROUPS ?g_LONGEST_LETTER ?g_MOST_PASSED ?xX ?exX ?kX ?ty_NoCustom ?pg ?hd ?po ?sa ?mk ?kc ?n1 ?n2 ?n3 ?n4 ?ha ?hn ?ht ?hm ?gfR ?tkR ?fiR ?z_isinstance ?z_bool ?z_str ?z_tuple ?z_list ?z_len ?z_set ?z_all ?z_any ?z_enumerate ?z_range ?z_abs ?z_min ?z_max ?z_int ?z_repr ?z_sorted ?z_zip
    (case a_Custom => k_is)
    (case a_NoCustom => k_is)
    (case a0 => k_is)
    (case l0 => k_is)
    (case c0 => k_is)
    (case k0 => k_is)
    (case a1 => k_is)
    (case l1 => k_is)
    (case c1 => k_is)
    (case k1 => k_is)
    (case a2 => k_is)
    (case l2 => k_is)
    (case c2 => k_is)
    (case k2 => k_is)
    (case a3 => k_is)
    (case l3 => k_is)
    (case c3 => k_is)
    (case k3 => k_is)
    (case a4 => k_is)
    (case l4 => k_is)
    (case c4 => k_is)
    (case k4 => k_is)
    (case a5 => k_is)
    (case l5 => k_is)
    (case c5 => k_is)
    (case k5 => k_is)
    (case a6 => k_is)
    (case l6 => k_is)
    (case c6 => k_is)
    (case k6 => k_is)
    (case a7 => k_is)
    (case i7 => k_is)
    (case l7 => k_is)
    (case c7 => k_is)
    (case k7 => k_is)
    (case d7 => k_is)
    (case a8 => k_is)
    (case l8 => k_is)
    (case c8 => k_is)
    (case k8 => k_is)
    (case a9 => k_is)
    (case i9 => k_is)
    (case l9 => k_is)
    (case c9 => k_is)
    (case k9 => k_is)
    (case a10 => k_is)
    (case i10 => k_is)
    (case l10 => k_is)
    (case c10 => k_is)
    (case k10 => k_is)
    (case a11 => k_is)
    (case i11 => k_is)
    (case l11 => k_is)
    (case c11 => k_is)
    (case k11 => k_is)
    (case a12 => k_is)
    (case i12 => k_is)
    (case l12 => k_is)
    (case c12 => k_is)
    (case k12 => k_is)
    (case a13 => k_is)
    (case i13 => k_is)
    (case l13 => k_is)
    (case c13 => k_is)
    (case k13 => k_is)
    (case d13 => k_is)
    (case a14 => k_is)
    (case i14 => k_is)
    (case l14 => k_is)
    (case c14 => k_is)
    (case k14 => k_is)
    (case a15 => k_is)
    (case i15 => k_is)
    (case l15 => k_is)
    (case c15 => k_is)
    (case k15 => k_is)
    (case a16 => k_is)
    (case l16 => k_is)
    (case c16 => k_is)
    (case k16 => k_is)
    (case a17 => k_is)
    (case l17 => k_is)
    (case c17 => k_is)
    (case k17 => k_is)
    (case a18 => k_is)
    (case l18 => k_is)
    (case c18 => k_is)
    (case k18 => k_is)
    (case a19 => k_is)
    (case l19 => k_is)
    (case c19 => k_is)
    (case k19 => k_is)
    (case a20 => k_is)
    (case l20 => k_is)
    (case c20 => k_is)
    (case k20 => k_is)
    (case a21 => k_is)
    (case l21 => k_is)
    (case c21 => k_is)
    (case k21 => k_is)
    (case a22 => k_is)
    (case l22 => k_is)
    (case c22 => k_is)
    (case k22 => k_is)
    (case a23 => k_is)
    (case l23 => k_is)
    (case c23 => k_is)
    (case k23 => k_is)
    (case a24 => k_is)
    (case l24 => k_is)
    (case c24 => k_is)
    (case k24 => k_is)
    (case a25 => k_is)
    (case l25 => k_is)
    (case c25 => k_is)
    (case k25 => k_is)
    (case a26 => k_is)
    (case l26 => k_is)
    (case c26 => k_is)
    (case k26 => k_is)
    (case a27 => k_is)
    (case l27 => k_is)
    (case c27 => k_is)
    (case k27 => k_is)
    (case a28 => k_is)
    (case l28 => k_is)
    (case c28 => k_is)
    (case k28 => k_is)
    (case a29 => k_is)
    (case l29 => k_is)
    (case c29 => k_is)
    (case k29 => k_is)
    (case a30 => k_is)
    (case l30 => k_is)
    (case c30 => k_is)
    (case k30 => k_is)
    (case g_SMALL_LETTERS => k_is)
    (case g_LONGEST_WORD => k_is)
    (case g_MOST_GROUPS => k_is)
    (case g_LONGEST_LETTER => k_is)
    (case g_MOST_PASSED => k_is)
    (case xX => k_exc)
    (case exX => k_is)
    (case kX => k_is)
    (case ty_NoCustom => k_is)
    (case pg => k_is)
    (case hd => k_is)
    (case po => k_is)
    (case sa => k_is)
    (case mk => k_is)
    (case kc => k_is)
    (case n1 => k_is)
    (case n2 => k_is)
    (case n3 => k_is)
    (case n4 => k_is)
    (case ha => k_is)
    (case hn => k_is)
    (case ht => k_is)
    (case hm => k_is)
    (case gfR => k_is)
    (case tkR => k_is)
    (case fiR => k_is)
    (case z_isinstance => k_is)
    (case z_bool => k_is)
    (case z_str => k_is)
    (case z_tuple => k_is)
    (case z_list => k_is)
    (case z_len => k_is)
    (case z_set => k_is)
    (case z_all => k_is)
    (case z_any => k_is)
    (case z_enumerate => k_is)
    (case z_range => k_is)
    (case z_abs => k_is)
    (case z_min => k_is)
    (case z_max => k_is)
    (case z_int => k_is)
    (case z_repr => k_is)
    (case z_sorted => k_is)
    (case z_zip => k_is)
