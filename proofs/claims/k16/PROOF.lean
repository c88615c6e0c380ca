import PyProof.Rows.All
import Wide.All
import OpenK.AllK
import Wide.FinOn
import HandS.ForMost
import HandS.ForExc
import HandS.Wide
import HandS.Flow
import HandS.IsInst
import HandS.Codes
import HandS.ExcInit
import HandS.ExcField
import HandS.ExcIs
import HandS.CallSlots
import HandS.Defaults
import HandS.MakeKw
import HandS.MakeKwOnly
import KE.KExcIs
import KE.KTryMore
import HandS.RaiseMore
import HandS.FStrTup
import PyProof.ReprRoads
import PyProof.StrLawsRepr
import KE.SortData
import HandS.TupAny
import HandS.Style
import HandS.TupLe
import PyProof.StrOps2
import PyProof.NeKinds
import HandS.DictComp
import HandS.Walk
import PyProof.Rows.TupDisplay
import KE.GoesMore
import HandS.Iter
import HandS.More
import KE.DataMinMax
import KE.KStar
import HandS.EndTab
import KE.DataMinKey
import KE.KDictList
import KE.DatumOrd
import HandS.Star
import PyProof.AutoSeq1
import KE.SortKeyHeap
import HandS.SortKw
import HandS.Conv
import HandS.ExcValue
import HandS.Deep
import KE.KDictSum
import HandS.TupMul
import HandS.Zip
import HandS.Dict
import HandS.StrMore
import PyProof.StrLawsIn
import HandS.TryOnly
import PySem.Challenge.RW_takesworks_k16_rows_and_parts_shown
set_option Elab.async false
set_option linter.all false
set_option maxRecDepth 100000
set_option maxHeartbeats 4000000
set_option pp.maxSteps 400
set_option pp.deepTerms false
/-! A caught exception that is kept: tracked as an object of its own, with its class and its dict. -/
namespace Xk
open PySem PySem.Spec PyProof.Rows L2
/-- at a: an exception of the class cls, its dict at d (if it has one) -/
def ExK (cls : Value) (d : Option Addr) (a : Addr) : HO := .ext fun h => ∃ oe : Obj, h.get? a = some oe ∧ Zc cls d oe ∧ ∃ vs, oe.data = .fields vs
theorem exK_ok {P : Program} {w : World} {H : Hp} {h : Heap} {a : Addr} {cls : Value} {d : Option Addr} {oe : Obj} {vs : Array Value}
    (e : h.get? a = some oe) (z : Zc cls d oe) (hd : oe.data = .fields vs) : ObjOk P w H h a (ExK cls d a) :=
  ⟨⟨oe, e, z, vs, hd⟩, ⟨oe, e⟩, fun _ _ y k => by
    obtain ⟨o, q, r⟩ := y
    exact ⟨o, k o q, r⟩⟩
theorem exK_at {P : Program} {w : World} {H : Hp} {h : Heap} {a : Addr} {cls : Value} {d : Option Addr} (hok : HOk P w H h) (e : H a = some (ExK cls d a)) :
    ∃ oe : Obj, h.get? a = some oe ∧ Zc cls d oe ∧ ∃ vs, oe.data = .fields vs := by
  have z : ObjOk P w H h a (.ext fun h => ∃ oe : Obj, h.get? a = some oe ∧ Zc cls d oe ∧ ∃ vs, oe.data = .fields vs) := hok a _ e
  exact z.1
section
variable {X : Cx} {pins : List (Addr × Obj)} {σ : L2.St} {H : Hp} {s : Shared}
/-- an object that came during the call, untracked as yet, is tracked from here on -/
theorem track {a : Addr} {o : HO} (I : Inv X pins σ H s) (h0 : X.s_0.heap.get? a = none) (na : H a = none) (nL : a ≠ X.env.locals)
    (nC : ∀ x c, X.env.cells.lookup x = some c → c ≠ a) (nP : ∀ p ∈ X.pn ++ pins, p.1 ≠ a) (new : ObjOk X.prog X.w (upd H a o) s.heap a o) : Inv X pins σ (upd H a o) s := by
  have n0 : ∀ {b : Addr} {u : Obj}, X.s_0.heap.get? b = some u → b ≠ a := fun {b u} e z => by
    rw [z, h0] at e
    cases e
  refine ⟨I.ok, I.os, I.bare, ⟨I.base.keep, I.base.slot, fun b u e n hx => ?_, I.base.there, fun b xs e => ?_, fun b u v e => ?_, fun b ps e => ?_⟩, I.loc, I.cell, ?_, fun x c e => ?_, fun p hp => ?_, fun b u e => ?_, I.len⟩
  · rw [upd_ne (n0 e)]
    exact I.base.free b u e n hx
  · have q := I.base.tups b xs e
    rw [upd_ne (ne_of_none q na)]
    exact q
  · have q := I.base.frzs b u v e
    rw [upd_ne (ne_of_none q na)]
    exact q
  · obtain ⟨m, q⟩ := I.base.tbls b ps e
    exact ⟨m, by rw [upd_ne (ne_of_none q na)]; exact q⟩
  · rw [upd_ne (Ne.symm nL)]
    exact I.free
  · rw [upd_ne (nC x c e)]
    exact I.freeC x c e
  · obtain ⟨e1, e2, e3⟩ := I.pin p hp
    exact ⟨e1, by rw [upd_ne (nP p hp)]; exact e2, e3⟩
  · by_cases hb : b = a
    · subst hb
      rw [upd_same] at e
      cases e
      exact new
    · rw [upd_ne hb] at e
      refine (I.hok b u e).stay (fun _ _ _ q => q) (fun c q => ?_) fun c xs q => ?_
      · rw [upd_ne (ne_of_none q na)]
        exact q
      · rw [upd_ne (ne_of_none q na)]
        exact q
end
theorem flying_kept {B h h' : Heap} {l : List Env} {a : Addr} {Z : Obj → Prop} (f : HandSPX.FlyingZ B l a Z h) (k : ∀ b o, h.get? b = some o → h'.get? b = some o) : HandSPX.FlyingZ B l a Z h' := by
  obtain ⟨f1, f2, f3, oe, vs, T, oT, ts, t1, t2, t3, t4, t5, t6, t7, t8, t9⟩ := f
  exact ⟨fun b o e => k b o (f1 b o e), f2, f3.of_keeps fun b o e _ => ⟨o, k b o e, rfl⟩, oe, vs, T, oT, ts, k _ _ t1, t2, t3, t4, t5, t6, k _ _ t7, t8, t9⟩
/-- what the clause 'except (A, B, C) as n' wishes of an exception of the body: slot i is n's; the exception is tracked -/
def wKeep (K : PySem.W.Frag) (cs : List Value) (i : Nat) (ts : Addr → TS) (Wout : WX) (D : Ends) : WX := fun cls d σ H =>
  ∃ b, PySem.W.exmAny K cls cs = some b ∧
    (b = true → ∀ a, H a = none → ts a { nx := fun σ' H' => D.nx (σ'.set i none) H', rt := D.rt, bk := fun σ' H' => D.bk (σ'.set i none) H', ct := fun σ' H' => D.ct (σ'.set i none) H' } (σ.set i (some (.ref a))) (upd H a (ExK cls d a))) ∧
    (b = false → Wout cls d σ H)
/-- a module's own class by its name -/
structure Nm (X : Cx) (x : Str) (C : Addr) : Prop where
  gl : Gl X x
  db : (x == ("__debug__" : Str)) = false
  mg : X.mg x = some (.ref C)
section
variable {X : Cx} {x1 x2 x3 n : Str} {C1 C2 C3 : Addr} {i : Nat} {body suite : List Stmt} {b₀ : Stmt} {p1 p2 p3 tp pos pos' : Pos} {tb : WX → TS} {ts : Addr → TS} {Wout : WX} {cx}
theorem ps_try_keep (hs : X.stack = X.env :: X.outer) (hf : X.env.frame = some X.env.locals) (hex : X.ex = []) (hN : X.N.Nodup) (hi : X.N[i]? = some n) (hln : X.env.kindOf n = some .local)
    (n1 : Nm X x1 C1) (n2 : Nm X x2 C2) (n3 : Nm X x3 C3) (tk : Takes X Wout)
    (hb : ∀ (W : WX) (pn : List (Addr × Obj)) (xe : Value → Shared → Prop), Takes (X.tr pn xe) W → PassesOwn (model X.prog X.w) X.A X.env xe → PSs (X.tr pn xe) body (tb W))
    (hsu : ∀ (a : Addr) (pn : List (Addr × Obj)), PSs (X.suite a pn) (b₀ :: suite) (ts a)) :
    PS X (.Try body [.ExceptHandler (some (.Tuple [.Name x1 p1, .Name x2 p2, .Name x3 p3] cx tp)) (some n) (b₀ :: suite) pos'] [] [] pos) (fun D σ H => tb (wKeep X.K [.ref C1, .ref C2, .ref C3] i ts Wout D) D σ H) := by
  refine ⟨fun pins s σ H D I h => ?_⟩
  have ok := I.ok
  have frs2 : X.A.frames = some (X.env :: X.outer) := by rw [ok.frames, hs]
  refine wpAny_Try_except ?_
  refine wpAny_mono ((hb (wKeep X.K [.ref C1, .ref C2, .ref C3] i ts Wout D) (X.pn ++ pins)
    (fun e s₁ => wpAny (model X.prog X.w) X.A (noteFrame e X.env) (fun _ s₂ => wpAny (model X.prog X.w) X.A (setFlight e none) (fun _ s₃ => wpAny (model X.prog X.w) X.A
      (handleBy e X.env [.ExceptHandler (some (.Tuple [.Name x1 p1, .Name x2 p2, .Name x3 p3] cx tp)) (some n) (b₀ :: suite) pos']) (SP X pins D) X.xe s₃) X.xe s₂) X.xe s₁)
    (fun u s' air => ?_) PassesOwn.looking).run [] s σ H D (I.toTry _) h) (fun f s1 hsp => ?_) (fun e s1 he => he)
  · obtain ⟨a, B, sI, pins', σ', H', cls, d, rfl, J', nb, up, sky, na, os, ag, b, hb1, hyes, hno⟩ := air
    have J : Inv X pins σ' H' sI := J'.ofTry ok
    have sky2 : Sky B (X.env :: X.outer) a (Zc cls d) X.env.locals s'.heap := by
      rw [← hs]
      exact sky
    refine Sky.land Zc.steady frs2 hf sky2 fun h3 fl3 up3 => ?_
    obtain ⟨oe3, vs3, he3, hz3, hd3⟩ := fl3.there
    have nfr : a ∉ frs (X.env :: X.outer) := fun hm => by
      obtain ⟨_, o', e', hnf⟩ := fl3.2.2.1.mem hm
      rw [he3] at e'
      cases e'
      exact hnf _ hd3
    have nL : a ≠ X.env.locals := fun z => nfr (List.mem_filterMap.mpr ⟨X.env, List.mem_cons_self, by rw [hf, z]⟩)
    have nF : a ∉ X.fs := fun hm => by
      obtain ⟨e, he, q⟩ := List.mem_filterMap.mp hm
      exact nfr (List.mem_filterMap.mpr ⟨e, List.mem_cons_of_mem _ he, q⟩)
    -- it was not there when the call began
    have aI : sI.heap.get? a = none := by
      cases e : sI.heap.get? a with
      | none => rfl
      | some o =>
        have z := nb a o e (by rw [hs]; exact nfr)
        rw [fl3.2.1] at z
        cases z
    have a0 : X.s_0.heap.get? a = none := by
      cases e : X.s_0.heap.get? a with
      | none => rfl
      | some o =>
        obtain ⟨o', z⟩ := J.base.there a o e (by rw [hex]; exact fun z => nomatch z)
        rw [aI] at z
        cases z
    have nP : ∀ p ∈ X.pn ++ pins, p.1 ≠ a := fun p hp z => by
      have q := (J.pin p hp).1
      rw [z, aI] at q
      cases q
    have trk : ∀ {h4 : Heap} {s4 : Shared}, s4.heap = h4 → HandSPX.FlyingZ B (X.env :: X.outer) a (Zc cls d) h4 → Inv X pins σ' H' s4 → Inv X pins σ' (upd H' a (ExK cls d a)) s4 := fun {h4 s4} e4 fl4 J4 => by
      subst e4
      obtain ⟨oe4, vs4, he4, hz4, hd4⟩ := fl4.there
      refine track J4 a0 na nL (fun x c e z => ?_) nP (exK_ok he4 hz4 hd4)
      obtain ⟨v, o, eo, ed⟩ := J4.cell x c e
      rw [z, he4] at eo
      cases eo
      rw [hd4] at ed
      cases ed
    have J3 : Inv X pins σ' H' { s' with heap := h3 } := J.landed nb fl3.1 (up.trans up3) os ag
    have S3 : Inv (X.suite a (X.pn ++ pins)) [] σ' H' { s' with heap := h3 } :=
      ⟨J3.ok.suite _ _, J3.os, J3.bare, J3.base, J3.loc, J3.cell, J3.free, J3.freeC, fun p hp => J3.pin p (by rw [List.append_nil] at hp; exact hp), J3.hok, J3.len⟩
    refine wpAny_handleBy_cons (codeAny_handlers_test ?_) (by intro q; cases q)
    have own : ∀ {x : Str} {C : Addr} {p : Pos} {Q : Value → Shared → Prop} {E : Value → Shared → Prop}, Nm X x C → Q (.ref C) { s' with heap := h3 } →
        wpAny (model X.prog X.w) (X.A.mark (some (.ref a))) (eval (.Name x p) X.env) Q E { s' with heap := h3 } := fun {x C p Q E} z q => ld_glob (X := X.suite a (X.pn ++ pins)) S3 z.gl z.mg q z.db
    have tup : ∀ {Q : Value → Shared → Prop} {E : Value → Shared → Prop}, Q (.ref h3.objs.size) { s' with heap := h3.push { cls := .type "tuple", data := .seq [Value.ref C1, .ref C2, .ref C3].toArray } } →
        wpAny (model X.prog X.w) (X.A.mark (some (.ref a))) (eval (.Tuple [.Name x1 p1, .Name x2 p2, .Name x3 p3] cx tp) X.env) Q E { s' with heap := h3 } := fun {Q E} q => by
      refine wpAny_Tuple_spliced ?_
      show wpAny _ _ (spliced ((false, eval (.Name x1 p1) X.env) :: (false, eval (.Name x2 p2) X.env) :: (false, eval (.Name x3 p3) X.env) :: [])) _ _ _
      exact Calls.spliced_cons (own n1 (Calls.spliced_cons (own n2 (Calls.spliced_cons (own n3 (Calls.spliced_nil ⟨by show 3 ≤ sizeLine; decide, q⟩))))))
    refine tup ?_
    have k4 : ∀ b o, h3.get? b = some o → (h3.push { cls := .type "tuple", data := .seq [Value.ref C1, .ref C2, .ref C3].toArray }).get? b = some o := fun b o e => Heap.get?_push_of_some _ e
    have t4 := Heap.get?_push_size h3 (o := { cls := .type "tuple", data := .seq [Value.ref C1, .ref C2, .ref C3].toArray }) rfl
    generalize h3.push { cls := .type "tuple", data := .seq [Value.ref C1, .ref C2, .ref C3].toArray } = h4 at k4 t4 ⊢
    have fl4 := flying_kept fl3 k4
    have J4 : Inv X pins σ' H' { s' with heap := h4 } := J3.kept k4
    have LT : PySem.W.Looks (model X.prog X.w) h4 (typeOf (.ref a)) cls := fun A Q E s k q => wpAny_typeOf_ref (k _ _ (k4 _ _ he3)) (by rw [hz3.1]; exact q)
    refine (PySem.W.exm_tup3 (M := model X.prog X.w) J4.kIn LT t4 hb1).here ?_
    cases b with
    | true =>
      refine codeAny_handlers_suite_as ?_
      refine HandSPX.lands_againZ fl4 fun h5 fl5 up5 => ?_
      have J5 : Inv X pins σ' H' { s' with heap := h5 } := J.landed nb fl5.1 ((up.trans up3).trans ((Heap.UpToSlots.of_keeps k4).trans up5)) os ag
      have T5 := trk rfl fl5 J5
      have S5 : Inv (X.suite a (X.pn ++ pins)) [] σ' (upd H' a (ExK cls d a)) { s' with heap := h5 } :=
        ⟨T5.ok.suite _ _, T5.os, T5.bare, T5.base, T5.loc, T5.cell, T5.free, T5.freeC, fun p hp => T5.pin p (by rw [List.append_nil] at hp; exact hp), T5.hok, T5.len⟩
      refine store_ok (X := X.suite a (X.pn ++ pins)) (v := .ref a) S5 hN hi (.inl hln) rfl (fun s6 S6 => ?_) (.inr hln)
      refine wpAny_mono ((hsu a (X.pn ++ pins)).run [] s6 _ _ _ S6 (hyes rfl a na)) (fun f s7 hsp => ?_) (fun _ _ z => False.elim z)
      have back : ∀ {σ7 : L2.St} {H7 : Hp}, Inv (X.suite a (X.pn ++ pins)) [] σ7 H7 s7 → Inv X pins σ7 H7 s7 := fun {σ7 H7} S7 =>
        ⟨ok, S7.os, S7.bare, S7.base, S7.loc, S7.cell, S7.free, S7.freeC, fun p hp => S7.pin p (by rw [List.append_nil]; exact hp), S7.hok, S7.len⟩
      cases f with
      | next =>
        obtain ⟨σ7, H7, S7, q7⟩ := hsp
        exact gone_ok (back S7) hN hi hln fun s8 J8 => ⟨_, _, J8, q7⟩
      | brk =>
        obtain ⟨σ7, H7, S7, q7⟩ := hsp
        exact gone_ok (back S7) hN hi hln fun s8 J8 => ⟨_, _, J8, q7⟩
      | cont =>
        obtain ⟨σ7, H7, S7, q7⟩ := hsp
        exact gone_ok (back S7) hN hi hln fun s8 J8 => ⟨_, _, J8, q7⟩
      | ret u =>
        obtain ⟨v7, σ7, H7, S7, r7, q7⟩ := hsp
        exact gone_ok (back S7) hN hi hln fun s8 J8 => ⟨_, _, _, J8, r7, q7⟩
    | false =>
      refine wpAny_handleBy_nil ?_
      obtain ⟨k1, k2, k3, oe, vs, T, oT, ts', he, hz, hd, h1, hr⟩ := id fl4
      unfold PySem.passOn
      refine wpAny_bind (wpAny_field he hd h1 ?_)
      rw [if_neg (by simp : ¬ ((Value.ref T == Value.none) = true))]
      have fin : wpAny (model X.prog X.w) X.A (setFlight (.ref a) X.env.frame) (fun _ s5 => wpAny (model X.prog X.w) X.A (throw (.ref a) : Sem Flow) (SP X pins D) X.xe s5) X.xe { s' with heap := h4 } := by
        rw [hf]
        refine HandSPX.setFlight_upZ fl4 fun h5 hh5 up5 => wpAny_throw (tk _ _ ?_)
        exact ⟨a, B, sI, pins, σ', H', cls, d, rfl, J, nb, (up.trans up3).trans ((Heap.UpToSlots.of_keeps k4).trans up5), .inr (.inr (by rw [hs]; exact hh5)), na, os, ag, hno rfl⟩
      first
        | exact wpAny_bind (wpAny_pure (wpAny_bind fin))
        | exact wpAny_bind fin
  · cases f with
    | next =>
      obtain ⟨σ', H', J', q⟩ := hsp
      exact wpAny_execs_nil ⟨σ', H', J'.ofTry ok, q⟩
    | brk =>
      obtain ⟨σ', H', J', q⟩ := hsp
      exact ⟨σ', H', J'.ofTry ok, q⟩
    | cont =>
      obtain ⟨σ', H', J', q⟩ := hsp
      exact ⟨σ', H', J'.ofTry ok, q⟩
    | ret u =>
      obtain ⟨v, σ', H', J', r, q⟩ := hsp
      exact ⟨v, σ', H', J'.ofTry ok, r, q⟩
end
end Xk
set_option Elab.async false
set_option linter.all false
set_option maxRecDepth 100000
set_option maxHeartbeats 4000000
set_option pp.maxSteps 400
set_option pp.deepTerms false
namespace Xk
open PySem PySem.Spec PyProof.Rows L2
/-- what an own exception class says, so that its kept instances are read and asked -/
structure XcC (K : PySem.W.Frag) (C : Addr) : Prop where
  cl : (PySem.W.clsIn K C).isSome = true
  ga : PySem.W.findIn K (.ref C) "__getattribute__" = some (some (.builtin "BaseException.__getattribute__"))
  gg : PySem.W.findIn K (.ref C) "__getattr__" = some none
  sb : PySem.W.subIn K (.ref C) (.type "BaseException") = some true
  hd : PySem.W.hasDictIn K C = true
  ha : PySem.W.findIn K (.ref C) "__class__" = some (some (.builtin "object.__class__"))
  hn : PySem.W.specialIn K (.builtin "object.__class__") "__get__" = some (some (.builtin "getset_descriptor.__get__"))
  ht : PySem.W.takesIn K (.builtin "object.__class__") = some true
  hm : PySem.W.mroIn K C (.type "object") = some true
/-- a kept exception of the class at C with the fields fs -/
def Kept (H : Hp) (a C : Addr) (fs : List (Str × V)) : Prop := ∃ d, H a = some (ExK (.ref C) (some d) a) ∧ H d = some (.xd fs)
theorem Kept.same {H H' : Hp} {a C : Addr} {fs : List (Str × V)} (k : Kept H a C fs) (s : L2.Same H H') : Kept H' a C fs := by
  obtain ⟨d, e1, e2⟩ := k
  exact ⟨d, s _ _ e1, s _ _ e2⟩
section
variable {X : Cx} {pins : List (Addr × Obj)} {σ : L2.St} {H : Hp} {s : Shared}
theorem Kept.inst {a C : Addr} {fs : List (Str × V)} (I : Inv X pins σ H s) (k : Kept H a C fs) :
    ∃ (oe od : Obj) (mA : Str → Option Value), PySem.W.InstAt s.heap a oe C (some od) ∧ (∀ n, PySem.W.lookIn n od = some (mA n)) ∧ ∀ f, RelO (fs.lookup f) (mA f) := by
  obtain ⟨d, e1, e2⟩ := k
  obtain ⟨oe, he, hz, vs, hv⟩ := exK_at I.hok e1
  have hx : ObjOk X.prog X.w H s.heap d (.xd fs) := I.hok d _ e2
  obtain ⟨mA, hns, hr⟩ := hx
  obtain ⟨od, ho, hl⟩ := lookIn_ns hns
  refine ⟨oe, od, mA, ⟨he, hz.1, by unfold PySem.W.notCls; rw [hv] <;> rfl, by rw [hz.2]; exact ho⟩, hl, hr⟩
end
/-- e.f of a kept exception -/
def tKf (C : Addr) (f : Str) (te : TE) : TE := fun σ H Q => te σ H fun x H1 => ∃ (a : Addr) (fs : List (Str × V)) (v : V), x = .ref a ∧ Kept H1 a C fs ∧ fs.lookup f = some v ∧ Q v H1
theorem pe_kf {X : Cx} {C : Addr} {e : Expr} {te : TE} {pos : Pos} {n : Str} (T : XcC X.K C) (hno : PySem.W.findIn X.K (.ref C) n = some none) (he : PE X e te)
    (hb : attributeBase e n X.env (eval e X.env) = eval e X.env := by rfl) : PE X (.Attribute e n pos) (tKf C n te) := by
  refine ⟨fun pins s σ H Q I h => attr_of hb (thn (he.run pins s σ H _ I h) fun u s1 z => ?_)⟩
  obtain ⟨x, H1, I1, rx, a, fs, v, ex, k, l, q⟩ := z
  subst ex
  obtain rfl : u = Value.ref a := rx
  obtain ⟨oe, od, mA, J, hl, hr⟩ := k.inst I1
  obtain ⟨y, hy, ry⟩ := RelO.some_of (v := v) (o := mA n) (by rw [← l]; exact hr n)
  exact HandSPX.exc_get I1.kIn J T.ga T.gg T.sb (PySem.W.findObj_own T.hd hno rfl (by rw [hl, hy])) (handed_of ry) ⟨v, H1, I1.tok _, ry, q⟩
/-- isinstance(e, c), isinstance(e, (c1, ..)) of a kept exception -/
def rIsK (K : PySem.W.Frag) (C : Addr) : List V → Hp → VK → Prop := fun xs H Q => ∃ (a : Addr) (fs : List (Str × V)) (c : V) (u : Value) (b : Bool), xs = [.ref a, c] ∧ Kept H a C fs ∧ ClsV c u ∧ PySem.W.kitOne K (.ref C) u = some b ∧ Q (.bl b) H
def rIsKT (K : PySem.W.Frag) (C : Addr) : List V → Hp → VK → Prop := fun xs H Q => ∃ (a tp : Addr) (fs : List (Str × V)) (cs : List V) (us : List Value) (b : Bool), xs = [.ref a, .ref tp] ∧ Kept H a C fs ∧
  H tp = some (.tup cs) ∧ Paired ClsV cs us ∧ PySem.W.kitAny K (.ref C) us = some b ∧ Q (.bl b) H
theorem call_isK {X : Cx} {C : Addr} (T : XcC X.K C) : CallR X (.builtin "isinstance") (rIsK X.K C) := by
  intro pins s σ H xs us Q I r h
  obtain ⟨a, fs, c, u, b, rfl, k, hc, e, q⟩ := h
  obtain ⟨u1, u2, rfl, r1, r2⟩ := vals2 r
  have e2 := hc.eq r2
  subst e2
  cases (show u1 = Value.ref a from r1)
  obtain ⟨oe, od, mA, J, _, _⟩ := k.inst I
  exact PySem.W.kia_one (PySem.W.kitx_exc (ox := oe) (od := some od) T.cl T.ga T.gg T.sb T.ha T.hn T.ht T.hm) I.kIn J e (fun z => nomatch z) fun tk => ⟨.bl b, H, I.tok tk, rfl, q⟩
theorem call_isKT {X : Cx} {C : Addr} (T : XcC X.K C) : CallR X (.builtin "isinstance") (rIsKT X.K C) := by
  intro pins s σ H xs us Q I r h
  obtain ⟨a, tp, fs, cs, ws, b, rfl, k, hT, hc, e, q⟩ := h
  obtain ⟨u1, u2, rfl, r1, r2⟩ := vals2 r
  cases (show u1 = Value.ref a from r1)
  cases (show u2 = Value.ref tp from r2)
  obtain ⟨oe, od, mA, J, _, _⟩ := k.inst I
  have ht : ObjOk X.prog X.w H s.heap tp (.tup cs) := I.hok tp _ hT
  obtain ⟨_, its, rv, o, h1, h2, n, h3⟩ := ht
  have e3 := ClsV.all hc rv
  subst e3
  obtain ⟨oc, od2, dt, sl⟩ := o
  simp only at h2 h3
  subst h2 h3
  exact PySem.W.kia_tup (PySem.W.kitx_exc (ox := oe) (od := some od) T.cl T.ga T.gg T.sb T.ha T.hn T.ht T.hm) I.kIn J h1 e (fun z => nomatch z) fun tk => ⟨.bl b, H, I.tok tk, rfl, q⟩
/-! ### B.__init__(self, ..), B an own class over ValueError without own __init__ -/
structure BiC (K : PySem.W.Frag) (B : Addr) : Prop where
  rd : PySem.W.readsIn K B (.type "type") = true
  sp : PySem.W.specialIn K (.ref B) "__getattribute__" = some (some (.builtin "type.__getattribute__"))
  fi : PySem.W.findCls K (.ref B) (.type "type") "__init__" = some (.val (.builtin "ValueError.__init__"))
theorem pe_binit {X : Cx} {B : Addr} {x : Str} {e : Expr} {es : List Expr} {ta : TA} {p1 p2 pos : Pos} {pl : Sem Bool} (T : BiC X.K B) (gl : Gl X x) (mg : X.mg x = some (.ref B)) (ha : PA X (e :: es) ta) (hdb : (x == ("__debug__" : Str)) = false := by decide)
    (hc : eval (.Call (.Attribute (.Name x p1) "__init__" p2) (e :: es) [] pos) X.env = (do
      let ov ← eval (.Name x p1) X.env
      standAt p2.atName
      let (f, first) ← holding [ov] (getMethod ov "__init__" pl)
      callWith pos f first (backTo pos (starEach (e :: es) X.env)) (backToKw pos (keywordEach [] X.env))) := by rfl)
    (he : starEach (e :: es) X.env = (false, eval e X.env) :: starEach es X.env := by rfl) (hpl : (backTo pos (starEach es X.env)).any (·.1) = false := by rfl) :
    PE X (.Call (.Attribute (.Name x p1) "__init__" p2) (e :: es) [] pos) (tVeI X.K ta) := by
  refine ⟨fun pins s σ H Q I h => PySem.W.methodCall_KW (ld_glob I gl mg ?_ hdb) hc⟩
  refine PySem.W.method_cls I.kIn T.sp (PySem.W.cls_value I.kIn T.rd T.fi (by decide +kernel) ?_)
  show wpAny _ _ (callWith pos (Value.builtin "ValueError.__init__") [] (backTo pos (starEach (e :: es) X.env)) []) _ _ _
  refine PyProof.Rows.callWith_method1 (thn (ha.run pos pins _ σ H _ (I.tok _) h) fun us s1 z => ?_) he hpl
  obtain ⟨vs, H1, I1, r1, a, C, ws, ev, hl, Tx, ea, q⟩ := z
  subst ev
  cases r1 with
  | @cons _ u0 _ ur ra rw' =>
    obtain rfl : u0 = Value.ref a := ra
    refine oinit_ok Tx I1 ea ?_ fun s' J => ⟨.non, H1, J, rfl, q⟩
    rw [← Paired.length rw', sizeLine_eq]
    omega
/-! ### calls in a try's body: what is raised is wished for at the slots -/
section
variable {X : Cx} {CX : CXT} {k n : Nat} {f C : Addr} {fd : FuncData} {ps ks : List Str} {sp : Sp} {dvs : List V} {ds : List Value} {E : L2.St → XK} {x : Str} {p pos : Pos} {e : Expr} {es : List Expr} {kws : List Keyword} {t tk : TA}
  {g : List Value → List Value → List Value} {gV : List V → List V → List V}
def tMakeS (C : Addr) (sp : Sp) (dvs : List V) (E : L2.St → XK) (t : TA) : TE := fun σ H Q => t σ H fun vs H1 => ∀ x dx, H1 x = none → H1 dx = none → dx ≠ x →
  sp (.ref x :: (vs ++ dvs)) (upd (upd H1 dx (.own x)) x (.ins C dx [])) (fun v H2 => v = .non ∧ Q (.ref x) H2) (E σ)
theorem pe_makeS (M : Mk X.K C f) (F : FnOk X.prog X.w X.K X.mg X.base CX k f fd ps sp) (room : Room (k + 1) X.A) (gl : Gl X x) (mg : X.mg x = some (.ref C)) (bd : Binds X.K fd ps ds) (rd : Vals dvs ds) (px : ∀ σ, PassesAt CX X σ (E σ))
    (ha : PA X (e :: es) t) (hdb : (x == ("__debug__" : Str)) = false := by decide) (he : starEach (e :: es) X.env = (false, eval e X.env) :: starEach es X.env := by rfl) (hpl : (backTo pos (starEach es X.env)).any (·.1) = false := by rfl) :
    PE X (.Call (.Name x p) (e :: es) [] pos) (tMakeS C sp dvs E t) := by
  refine ⟨fun pins s σ H Q I h => wpAny_Call_Name_kw (ld_glob I gl mg ?_ hdb)⟩
  refine PySem.W.callWith_K (h₀ := X.base) I.ok.mod.kin M.kp (thn (ha.run pos pins s σ H _ I h) fun us s1 z => ?_) he hpl
  obtain ⟨vs, H1, I1, r, q⟩ := z
  refine ⟨I1.kIn, ?_⟩
  have q1 := q (s1.heap.objs.size + 1) s1.heap.objs.size (I1.hok.fresh (Nat.le_succ _)) (I1.hok.fresh (Nat.le_refl _)) (Nat.ne_of_lt (Nat.lt_succ_self _))
  have I2 := Inv.made (C := C) I1
  have r2 : Vals (V.ref (s1.heap.objs.size + 1) :: (vs ++ dvs)) (Value.ref (s1.heap.objs.size + 1) :: (us ++ ds)) := .cons rfl (r.append rd)
  have many : (Value.ref (s1.heap.objs.size + 1) :: us ++ ds).length = ps.length := (r2.length.symm.trans (F.len _ _ _ _ q1))
  refine wpAny_call (make_map (f := f) I1.kIn M.makes M.init (beq_iff_eq.mp M.fn) (codeAny_mono (F.run _ X.stack _ _ ⟨Value.ref (s1.heap.objs.size + 1) :: us, []⟩ (Value.ref (s1.heap.objs.size + 1) :: (us ++ ds)) _ _ (E σ)
    (room.make C us []) (I2.env0.make C us []) (bd _ (Value.ref (s1.heap.objs.size + 1) :: us) I2.kIn many) r2 q1) fun r s' z => ?_))
  cases r with
  | error e => exact px σ pins _ _ e s' I2 z
  | ok fl =>
    cases fl with
    | ret u =>
      obtain ⟨v, H', I3, rv, ev, q3⟩ := I2.after z
      subst ev
      exact ⟨rv, ⟨V.ref (s1.heap.objs.size + 1), H', I3, rfl, q3⟩⟩
    | next => exact False.elim z
    | brk => exact False.elim z
    | cont => exact False.elim z
def tMakeKS (C : Addr) (m : Nat) (sp : Sp) (gV : List V → List V → List V) (E : L2.St → XK) (tk : TA) : TE := fun σ H Q => tk σ H fun zs H2 => zs.length = m ∧
  ∀ x dx, H2 x = none → H2 dx = none → dx ≠ x → sp (gV [.ref x] zs) (upd (upd H2 dx (.own x)) x (.ins C dx [])) (fun v H3 => v = .non ∧ Q (.ref x) H3) (E σ)
theorem pe_makeKS (M : Mk X.K C f) (F : FnOk X.prog X.w X.K X.mg X.base CX k f fd ps sp) (room : Room (k + 1) X.A) (gl : Gl X x) (mg : X.mg x = some (.ref C)) (kb : KBn X.K fd ps 1 ks g gV) (px : ∀ σ, PassesAt CX X σ (E σ)) (pk : PK X kws tk)
    (hall : (backToKw pos (keywordEach kws X.env)).all (·.1.isSome) = true := by rfl) (hks : (backToKw pos (keywordEach kws X.env)).filterMap (·.1) = ks := by rfl) (hdb : (x == ("__debug__" : Str)) = false := by decide)
    (hpl : ((backTo pos (starEach [] X.env)).any (·.1) || (backToKw pos (keywordEach kws X.env)).any (·.1.isNone)) = false := by rfl) :
    PE X (.Call (.Name x p) [] kws pos) (tMakeKS C ks.length sp gV E tk) := by
  refine ⟨fun pins s σ H Q I h => wpAny_Call_Name_kw (ld_glob I gl mg ?_ hdb)⟩
  refine PySem.W.callWith_KW0 (h₀ := X.base) I.ok.mod.kin M.kp hall (thn (pk.run pos pins s σ H _ I h) fun ws s1 z => ?_) hpl
  obtain ⟨zs, H1, I1, rz, l2, q⟩ := z
  refine ⟨I1.kIn, ?_⟩
  rw [hks]
  have q1 := q (s1.heap.objs.size + 1) s1.heap.objs.size (I1.hok.fresh (Nat.le_succ _)) (I1.hok.fresh (Nat.le_refl _)) (Nat.ne_of_lt (Nat.lt_succ_self _))
  have I2 := Inv.made (C := C) I1
  have r1 : Vals [V.ref (s1.heap.objs.size + 1)] [Value.ref (s1.heap.objs.size + 1)] := .cons rfl .nil
  have r2 := kb.rel r1 rz
  refine wpAny_call (make_map (f := f) I1.kIn M.makes M.init (beq_iff_eq.mp M.fn) (codeAny_mono (F.run _ X.stack _ _ ⟨[Value.ref (s1.heap.objs.size + 1)], ks.zip ws⟩ (g [Value.ref (s1.heap.objs.size + 1)] ws) _ _ (E σ)
    (room.make C [] (ks.zip ws)) (I2.env0.make C [] (ks.zip ws)) (kb.to _ [Value.ref (s1.heap.objs.size + 1)] ws I2.kIn rfl (rz.length.symm.trans l2)) r2 q1) fun r s' z => ?_))
  cases r with
  | error e => exact px σ pins _ _ e s' I2 z
  | ok fl =>
    cases fl with
    | ret u =>
      obtain ⟨v, H', I3, rv, ev, q3⟩ := I2.after z
      subst ev
      exact ⟨rv, ⟨V.ref (s1.heap.objs.size + 1), H', I3, rfl, q3⟩⟩
    | next => exact False.elim z
    | brk => exact False.elim z
    | cont => exact False.elim z
def tCallKS (m : Nat) (sp : Sp) (gV : List V → List V → List V) (E : L2.St → XK) (tk : TA) : TE := fun σ H Q => tk σ H fun zs H2 => zs.length = m ∧ sp (gV [] zs) H2 Q (E σ)
theorem pe_callKS (F : FnOk X.prog X.w X.K X.mg X.base CX k f fd ps sp) (room : Room k X.A) (gl : Gl X x) (mg : X.mg x = some (.ref f)) (kp : PySem.W.keepIn X.K (.ref f) = true) (kb : KBn X.K fd ps 0 ks g gV) (px : ∀ σ, PassesAt CX X σ (E σ)) (pk : PK X kws tk)
    (hall : (backToKw pos (keywordEach kws X.env)).all (·.1.isSome) = true := by rfl) (hks : (backToKw pos (keywordEach kws X.env)).filterMap (·.1) = ks := by rfl) (hdb : (x == ("__debug__" : Str)) = false := by decide)
    (hpl : ((backTo pos (starEach [] X.env)).any (·.1) || (backToKw pos (keywordEach kws X.env)).any (·.1.isNone)) = false := by rfl) :
    PE X (.Call (.Name x p) [] kws pos) (tCallKS ks.length sp gV E tk) := by
  refine ⟨fun pins s σ H Q I h => wpAny_Call_Name_kw (ld_glob I gl mg ?_ hdb)⟩
  refine PySem.W.callWith_KW0 (h₀ := X.base) I.ok.mod.kin kp hall (thn (pk.run pos pins s σ H _ I h) fun ws s1 z => ?_) hpl
  obtain ⟨zs, H1, I1, rz, l2, q⟩ := z
  refine ⟨I1.kIn, ?_⟩
  rw [hks]
  have rn : Vals [] [] := .nil
  have r2 := kb.rel rn rz
  refine wpAny_call (codeAny_mono (F.run X.A X.stack s1 H1 ⟨[], ks.zip ws⟩ (g [] ws) (gV [] zs) Q (E σ) room I1.env0 (kb.to s1 [] ws I1.kIn rfl (rz.length.symm.trans l2)) r2 q) fun r s' z => ?_)
  cases r with
  | error e => exact px σ pins _ _ e s' I1 z
  | ok fl =>
    cases fl with
    | ret u => exact I1.after z
    | next => exact False.elim z
    | brk => exact False.elim z
    | cont => exact False.elim z
end
end Xk
set_option Elab.async false
set_option linter.all false
set_option maxRecDepth 100000
set_option maxHeartbeats 4000000
set_option pp.maxSteps 400
set_option pp.deepTerms false
/-! Things of any kind: texts, numbers, truths, None, and lists, tuples, dicts of these, at any depth. -/
namespace Az
open PySem PySem.Spec PyProof.Rows L2
def keyD : Key → PyData
  | .inl i => .int i
  | .inr x => .str x
mutual
inductive Dz (K : PySem.W.Frag) (H : Hp) : V → PyData → Prop
  | non : Dz K H .non .none
  | bl (b : Bool) : Dz K H (.bl b) (.bool b)
  | int (i : Int) : Dz K H (.int i) (.int i)
  | str (x : Str) : Dz K H (.str x) (.str x)
  | lst {a : Addr} {xs : List V} {ds : List PyData} : H a = some (.lst xs) → a ≠ sysModules → DzAll K H xs ds → Dz K H (.ref a) (.list ds)
  | tup {a : Addr} {xs : List V} {ds : List PyData} : H a = some (.tup xs) → DzAll K H xs ds → Dz K H (.ref a) (.tuple ds)
  | dct {a : Addr} {kvs : List (Key × V)} {ds : List (PyData × PyData)} : H a = some (.dK kvs) → DzKv K H kvs ds → Dz K H (.ref a) (.dict ds)
inductive DzAll (K : PySem.W.Frag) (H : Hp) : List V → List PyData → Prop
  | nil : DzAll K H [] []
  | cons {v : V} {vs : List V} {d : PyData} {ds : List PyData} : Dz K H v d → DzAll K H vs ds → DzAll K H (v :: vs) (d :: ds)
inductive DzKv (K : PySem.W.Frag) (H : Hp) : List (Key × V) → List (PyData × PyData) → Prop
  | nil : DzKv K H [] []
  | cons {k : Key} {v : V} {kvs : List (Key × V)} {d : PyData} {ds : List (PyData × PyData)} : Dz K H v d → DzKv K H kvs ds → DzKv K H ((k, v) :: kvs) ((keyD k, d) :: ds)
end
section
variable {K : PySem.W.Frag} {H H' : Hp}
mutual
/-- what is read of a thing stays while its objects do -/
theorem Dz.keep (s : ∀ b o, H b = some o → (∀ x, o ≠ .own x) → H' b = some o) : ∀ {v : V} {d : PyData}, Dz K H v d → Dz K H' v d
  | _, _, .non => .non
  | _, _, .bl b => .bl b
  | _, _, .int i => .int i
  | _, _, .str x => .str x
  | _, _, .lst e n r => .lst (s _ _ e (fun _ z => by cases z)) n (DzAll.keep s r)
  | _, _, .tup e r => .tup (s _ _ e (fun _ z => by cases z)) (DzAll.keep s r)
  | _, _, .dct e r => .dct (s _ _ e (fun _ z => by cases z)) (DzKv.keep s r)
theorem DzAll.keep (s : ∀ b o, H b = some o → (∀ x, o ≠ .own x) → H' b = some o) : ∀ {v : List V} {d : List PyData}, DzAll K H v d → DzAll K H' v d
  | _, _, .nil => .nil
  | _, _, .cons h r => .cons (Dz.keep s h) (DzAll.keep s r)
theorem DzKv.keep (s : ∀ b o, H b = some o → (∀ x, o ≠ .own x) → H' b = some o) : ∀ {v : List (Key × V)} {d : List (PyData × PyData)}, DzKv K H v d → DzKv K H' v d
  | _, _, .nil => .nil
  | _, _, .cons h r => .cons (Dz.keep s h) (DzKv.keep s r)
end
theorem Dz.same {v : V} {d : PyData} (h : Dz K H v d) (s : L2.Same H H') : Dz K H' v d := h.keep fun b o e _ => s b o e
theorem DzAll.same {v : List V} {d : List PyData} (h : DzAll K H v d) (s : L2.Same H H') : DzAll K H' v d := h.keep fun b o e _ => s b o e
/-- the kind of a thing -/
def kindD : PyData → String
  | .none => "NoneType"
  | .bool _ => "bool"
  | .int _ => "int"
  | .str _ => "str"
  | .list _ => "list"
  | .tuple _ => "tuple"
  | .dict _ => "dict"
theorem Dz.ty {v : V} {d : PyData} (h : Dz K H v d) : TyX K H v (.type (kindD d)) := by
  cases h with
  | non => exact .base .non
  | bl b => exact .base (.bl b)
  | int i => exact .base (.int i)
  | str x => exact .base (.str x)
  | lst e _ _ => exact .base (.lst e)
  | tup e _ => exact .base (.tup e)
  | dct e _ => exact .base (.dK e)
end
section
variable {X : Cx} {pins : List (Addr × Obj)} {σ : L2.St} {H : Hp} {s : Shared}
theorem pairs_keys {P : Program} {w : World} : ∀ {es : List DictEntry} {vs : List (Key × Value)}, PySem.Pairs (mixKind P w) es vs → ∃ as, ReadsAll s.heap (es.map (·.key)) (vs.map fun p => keyD p.1) as ∧ as = []
  | _, _, .nil => ⟨[], .nil, rfl⟩
  | e :: es, (k, u) :: vs, .cons h1 h2 r => by
    obtain ⟨as, q, rfl⟩ := pairs_keys r
    rcases keyIs_shape (show keyIs k e.key = true from h1) with ⟨i, t, rfl, ek⟩ | ⟨x, t, rfl, ek⟩
    · refine ⟨[] ++ [], .cons ?_ q, rfl⟩
      show Reads s.heap e.key (.int i) []
      rw [ek]
      exact .int i t
    · refine ⟨[] ++ [], .cons ?_ q, rfl⟩
      show Reads s.heap e.key (.str x) []
      rw [ek]
      exact .str x t
theorem pairs_vals {P : Program} {w : World} : ∀ {es : List DictEntry} {vs : List (Key × Value)}, PySem.Pairs (mixKind P w) es vs → es.map (·.val) = vs.map (·.2)
  | _, _, .nil => rfl
  | e :: es, (k, u) :: vs, .cons h1 h2 r => by
    rw [List.map_cons, List.map_cons, pairs_vals r, h2]
mutual
theorem Dz.reads (I : Inv X pins σ H s) : ∀ (d : PyData) (v : V) (u : Value), Dz X.K H v d → RelV v u → ∃ as, Reads s.heap u d as ∧ sysModules ∉ as
  | .none, _, _, h, r => by
    cases h
    cases r
    exact ⟨[], .none, by simp⟩
  | .bool b, _, _, h, r => by
    cases h
    cases r
    exact ⟨[], .bool b, by simp⟩
  | .int i, _, _, h, r => by
    cases h
    obtain ⟨t, rfl⟩ := r
    exact ⟨[], .int i t, by simp⟩
  | .str x, _, _, h, r => by
    cases h
    obtain ⟨t, rfl⟩ := r
    exact ⟨[], .str x t, by simp⟩
  | .list ds, _, _, h, r => by
    cases h with
    | @lst a xs _ e ne ha =>
      cases r
      have ok : ObjOk X.prog X.w H s.heap a (.lst xs) := I.hok a _ e
      obtain ⟨_, its, n, rv, eh⟩ := ok
      obtain ⟨as, q, na⟩ := DzAll.reads I ds xs its ha rv
      refine ⟨a :: as, .list eh rfl rfl (by simpa using q), fun m => ?_⟩
      rcases List.mem_cons.mp m with z | z
      · exact ne z.symm
      · exact na z
  | .tuple ds, _, _, h, r => by
    cases h with
    | @tup a xs _ e ha =>
      cases r
      have ok : ObjOk X.prog X.w H s.heap a (.tup xs) := I.hok a _ e
      obtain ⟨_, its, rv, o, eh, ec, n, ed⟩ := ok
      obtain ⟨as, q, na⟩ := DzAll.reads I ds xs its ha rv
      exact ⟨as, .tuple eh ec ed (by simpa using q), na⟩
  | .dict ds, _, _, h, r => by
    cases h with
    | @dct a kvs _ e ha =>
      cases r
      obtain ⟨_, ne, vs, rel, o, es, ep, eh, ex, ed, _, pr, _⟩ := dk_of I.hok e
      obtain ⟨as, q1, rfl⟩ := pairs_keys (s := s) pr
      obtain ⟨bs, q2, nb⟩ := DzKv.reads I ds kvs vs ha rel
      have hk : (vs.map fun p => keyD p.1) = ds.map (·.1) := DzKv.keys ha rel
      rw [hk] at q1
      refine ⟨a :: [] ++ bs, .dict eh ex.1 ed q1 (by rw [pairs_vals pr]; exact q2), fun m => ?_⟩
      rcases List.mem_cons.mp m with z | z
      · rw [← z] at ne
        simp at ne
      · exact nb z
theorem DzAll.reads (I : Inv X pins σ H s) : ∀ (ds : List PyData) (vs : List V) (us : List Value), DzAll X.K H vs ds → Vals vs us → ∃ as, ReadsAll s.heap us ds as ∧ sysModules ∉ as
  | [], _, _, h, r => by
    cases h
    cases r
    exact ⟨[], .nil, by simp⟩
  | d :: ds, _, _, h, r => by
    cases h with
    | cons h1 h2 =>
      cases r with
      | cons r1 r2 =>
        obtain ⟨as, q1, n1⟩ := Dz.reads I d _ _ h1 r1
        obtain ⟨bs, q2, n2⟩ := DzAll.reads I ds _ _ h2 r2
        exact ⟨as ++ bs, .cons q1 q2, fun m => (List.mem_append.mp m).elim n1 n2⟩
theorem DzKv.reads (I : Inv X pins σ H s) : ∀ (ds : List (PyData × PyData)) (kvs : List (Key × V)) (vs : List (Key × Value)), DzKv X.K H kvs ds → KV kvs vs → ∃ as, ReadsAll s.heap (vs.map (·.2)) (ds.map (·.2)) as ∧ sysModules ∉ as
  | [], _, _, h, r => by
    cases h
    cases r
    exact ⟨[], .nil, by simp⟩
  | (_, d) :: ds, _, _, h, r => by
    cases h with
    | cons h1 h2 =>
      cases r with
      | cons r1 r2 =>
        obtain ⟨as, q1, n1⟩ := Dz.reads I d _ _ h1 r1.2
        obtain ⟨bs, q2, n2⟩ := DzKv.reads I ds _ _ h2 r2
        exact ⟨as ++ bs, .cons q1 q2, fun m => (List.mem_append.mp m).elim n1 n2⟩
theorem DzKv.keys {K : PySem.W.Frag} : ∀ {ds : List (PyData × PyData)} {kvs : List (Key × V)} {vs : List (Key × Value)}, DzKv K H kvs ds → KV kvs vs → (vs.map fun p => keyD p.1) = ds.map (·.1)
  | [], _, _, h, r => by
    cases h
    cases r
    rfl
  | (_, d) :: ds, _, _, h, r => by
    cases h with
    | cons h1 h2 =>
      cases r with
      | cons r1 r2 =>
        rw [List.map_cons, List.map_cons, DzKv.keys h2 r2, ← r1.1]
end
/-- repr of a thing -/
def rReprZ (K : PySem.W.Frag) : List V → Hp → VK → Prop := fun xs H Q => ∃ (v : V) (d : PyData), xs = [v] ∧ Dz K H v d ∧ d.showable = true ∧ d.depth ≤ 60 ∧ d.shown.length ≤ sizeLine ∧ Q (.str d.shown) H
theorem cr_reprZ {k : Nat} (quiet : X.A.guards = some []) (room : Room k X.A) : CallR X (.builtin "repr") (rReprZ X.K) := by
  intro pins s σ H xs us Q I r h
  obtain ⟨v, d, rfl, hd, hs, hp, hz, q⟩ := h
  obtain ⟨u, rfl, rx⟩ := vals1 r
  have hu := room.units
  cases hd with
  | non =>
    cases rx
    exact PySem.P.repr_of_none ⟨.str _, H, I.tok _, ⟨_, rfl⟩, q⟩
  | bl b =>
    cases rx
    exact PySem.P.repr_of_bool ⟨.str _, H, I.tok _, ⟨_, rfl⟩, q⟩
  | int i =>
    obtain ⟨t, rfl⟩ := rx
    exact PySem.P.repr_of_int (by simpa [PyData.showable] using hs) ⟨.str _, H, I.tok _, ⟨_, rfl⟩, q⟩
  | str x =>
    obtain ⟨t, rfl⟩ := rx
    exact PySem.P.repr_of_str ⟨.str _, H, I.tok _, ⟨_, rfl⟩, q⟩ hz
  | lst e n ha =>
    obtain ⟨as, rd, na⟩ := Dz.reads I _ _ u (.lst e n ha) rx
    cases rx
    exact repr_of_reads' rd hs (fun _ => na) quiet (by omega) (fun _ _ z => z) (fun h' u tk kept => ⟨.str _, H, I.kept kept, ⟨u, rfl⟩, q⟩) hz
  | tup e ha =>
    obtain ⟨as, rd, na⟩ := Dz.reads I _ _ u (.tup e ha) rx
    cases rx
    exact repr_of_reads' rd hs (fun _ => na) quiet (by omega) (fun _ _ z => z) (fun h' u tk kept => ⟨.str _, H, I.kept kept, ⟨u, rfl⟩, q⟩) hz
  | dct e ha =>
    obtain ⟨as, rd, na⟩ := Dz.reads I _ _ u (.dct e ha) rx
    cases rx
    exact repr_of_reads' rd hs (fun _ => na) quiet (by omega) (fun _ _ z => z) (fun h' u tk kept => ⟨.str _, H, I.kept kept, ⟨u, rfl⟩, q⟩) hz
/-- a list of written items: new, and no table of modules -/
def tLstZ (t : TA) : TE := fun σ H Q => t σ H fun xs H1 => xs.length ≤ sizeLine ∧ ∀ p, H1 p = none → p ≠ sysModules → Q (.ref p) (upd H1 p (.lst xs))
theorem pe_lstZ {es : List Expr} {t : TA} {pos : Pos} (h : PA X es t) : PE X (.List es pos) (tLstZ t) := by
  refine ⟨fun pins s σ H Q I hq => wpAny_List_spliced (thn (h.run pos pins s σ H _ I hq) fun us s1 z => ?_)⟩
  obtain ⟨xs, H1, I1, r, z, q⟩ := z
  refine ⟨by rw [← r.length]; exact z, ?_⟩
  have new : H1 s1.heap.objs.size = none := I1.hok.fresh (Nat.le_refl _)
  refine ⟨.ref s1.heap.objs.size, upd H1 s1.heap.objs.size (.lst xs), I1.laid (t' := s1.toks) (fun b u e => Heap.get?_push_of_some _ e) (Nat.le_refl _) ?_, rfl, q _ new (Nat.ne_of_gt I1.big)⟩
  exact ⟨z, us, 0, r, Heap.get?_push_size _ rfl⟩
end
end Az
namespace Az
open PySem PySem.Spec PyProof.Rows L2
/-- a thing that is shown in n signs at most, at most k deep -/
structure Nice (d : PyData) (k n : Nat) : Prop where
  sh : d.showable = true
  dp : d.depth ≤ k
  sz : d.shown.length ≤ n
theorem Nice.mono {d : PyData} {k k' n n' : Nat} (h : Nice d k n) (hk : k ≤ k') (hn : n ≤ n') : Nice d k' n' := ⟨h.sh, Nat.le_trans h.dp hk, Nat.le_trans h.sz hn⟩
theorem nice_int {i : Int} {n : Nat} (h : i.natAbs.log2 < 1920) (hn : (Str.ofString (toString i)).length ≤ n) : Nice (.int i) 0 n :=
  ⟨by simpa [PyData.showable] using h, by simp [PyData.depth], by simpa [PyData.shown] using hn⟩
theorem nice_none : Nice .none 0 4 := ⟨by simp [PyData.showable], by simp [PyData.depth], by simp only [PyData.shown]; decide +kernel⟩
theorem nice_bool (b : Bool) : Nice (.bool b) 0 5 := ⟨by simp [PyData.showable], by simp [PyData.depth], by simp only [PyData.shown]; cases b <;> decide +kernel⟩
theorem nice_str {x : Str} {n : Nat} (h : (reprText x).length ≤ n) : Nice (.str x) 0 n := ⟨by simp [PyData.showable], by simp [PyData.depth], by simpa [PyData.shown] using h⟩
theorem list_le : ∀ ts : List Str, (listText ts).length ≤ piled ts + 2
  | [] => by decide +kernel
  | t :: ts => by
    have e : (textFrom 0 "[" (t :: ts)).length = 1 + t.length + piled ts := by
      show (textFrom 1 (("[" : Str) ++ ((if 0 > 0 then ", " else "" : String) : Str) ++ t) ts).length = _
      rw [textFrom_length_pos ts 1 _ (by decide), strLen_append, strLen_append]
      rfl
    unfold listText
    rw [strLen_append, e, piled_cons]
    show 1 + t.length + piled ts + 1 ≤ _
    omega
theorem dict_le (ps : List Str) : (dictText ps).length ≤ piled ps + 2 := by
  unfold dictText
  rw [strLen_append, strLen_append]
  show 1 + (Str.join ", " ps).length + 1 ≤ _
  cases ps with
  | nil => decide
  | cons p r =>
    have := join_length_add (p :: r) (by simp)
    omega
theorem nice_tup1 {d : PyData} {k n : Nat} (h : Nice d k n) : Nice (.tuple [d]) (k + 1) (n + 4) := by
  refine ⟨by simp [PyData.showable, PyData.showableAll, h.sh], ?_, ?_⟩
  · simp only [PyData.depth, PyData.depthAll]
    have := h.dp
    omega
  · simp only [PyData.shown, PyData.shownAll]
    have a := fmt_text [d.shown]
    simp only [piled_cons, piled_nil] at a
    have := h.sz
    omega
theorem nice_lst1 {d : PyData} {k n : Nat} (h : Nice d k n) : Nice (.list [d]) (k + 1) (n + 4) := by
  refine ⟨by simp [PyData.showable, PyData.showableAll, h.sh], ?_, ?_⟩
  · simp only [PyData.depth, PyData.depthAll]
    have := h.dp
    omega
  · simp only [PyData.shown, PyData.shownAll]
    have a := list_le [d.shown]
    simp only [piled_cons, piled_nil] at a
    have := h.sz
    omega
theorem nice_dct1 {d : PyData} {k n m : Nat} {x : Str} (hx : (reprText x).length ≤ m) (h : Nice d k n) : Nice (.dict [(.str x, d)]) (k + 1) (n + m + 6) := by
  refine ⟨by simp [PyData.showable, PyData.showableKv, h.sh], ?_, ?_⟩
  · simp only [PyData.depth, PyData.depthKv]
    have := h.dp
    omega
  · simp only [PyData.shown, PyData.shownKv]
    have a := dict_le [reprText x ++ ": " ++ d.shown]
    simp only [piled_cons, piled_nil, strLen_append] at a
    have c : ((": " : Str)).length = 2 := by decide +kernel
    have := h.sz
    omega
theorem nice_tup0 : Nice (.tuple []) 1 2 := ⟨by simp [PyData.showable, PyData.showableAll], by simp [PyData.depth, PyData.depthAll], by simp only [PyData.shown, PyData.shownAll]; decide +kernel⟩
theorem nice_lst0 : Nice (.list []) 1 2 := ⟨by simp [PyData.showable, PyData.showableAll], by simp [PyData.depth, PyData.depthAll], by simp only [PyData.shown, PyData.shownAll]; decide +kernel⟩
theorem nice_dct0 : Nice (.dict []) 1 2 := ⟨by simp [PyData.showable, PyData.showableKv], by simp [PyData.depth, PyData.depthKv], by simp only [PyData.shown, PyData.shownKv]; decide +kernel⟩
end Az
set_option Elab.async false
set_option linter.all false
set_option maxRecDepth 100000
set_option maxHeartbeats 4000000
set_option pp.maxSteps 400
set_option pp.deepTerms false
namespace Az
open PySem PySem.Spec PyProof.Rows L2
/-! ### texts of signs that have a number of eight places -/
def Asc (x : Str) : Prop := ∀ c ∈ x.cps.toList, c < 16 ^ 8
theorem asc_str (s : String) : Asc (Str.ofString s) := fun c hc => by
  rw [Str.ofString_eq_toList] at hc
  simp only [List.mem_map] at hc
  obtain ⟨k, _, rfl⟩ := hc
  exact Nat.lt_of_lt_of_le (UInt32.toNat_lt k.val) (by decide)
theorem Asc.app {x y : Str} (h1 : Asc x) (h2 : Asc y) : Asc (x ++ y) := fun c hc => by
  rw [Str.cps_append, Array.toList_append, List.mem_append] at hc
  exact hc.elim (h1 c) (h2 c)
theorem asc_hex (l : List Char) (n : Nat) : ∀ c ∈ List.replicate n 48 ++ l.map Char.toNat, c < 16 ^ 8 := fun c hc => by
  rcases List.mem_append.mp hc with h | h
  · rw [(List.mem_replicate.mp h).2]
    decide
  · obtain ⟨k, _, rfl⟩ := List.mem_map.mp h
    exact Nat.lt_of_lt_of_le (UInt32.toNat_lt k.val) (by decide)
theorem asc_char {q c : Nat} (hc : c < 16 ^ 8) : ∀ d ∈ Builtin.Str.reprChar q c, d < 16 ^ 8 := fun d hd => by
  unfold Builtin.Str.reprChar at hd
  dsimp only at hd
  have two : ∀ a : Nat, a < 16 ^ 8 → d ∈ [92, a] → d < 16 ^ 8 := fun a ha h => by
    simp only [List.mem_cons, List.not_mem_nil, or_false] at h
    rcases h with h | h
    · rw [h]; decide
    · rw [h]; exact ha
  have app : ∀ (a : Nat) (l : List Nat), a < 16 ^ 8 → (∀ c ∈ l, c < 16 ^ 8) → d ∈ [92, a] ++ l → d < 16 ^ 8 := fun a l ha hl h => (List.mem_append.mp h).elim (two a ha) (hl d)
  split at hd
  · exact two c hc hd
  · split at hd
    · exact two 110 (by decide) hd
    · split at hd
      · exact two 114 (by decide) hd
      · split at hd
        · exact two 116 (by decide) hd
        · split at hd
          · simp only [List.mem_cons, List.not_mem_nil, or_false] at hd
            rw [hd]
            exact hc
          · split at hd
            · exact app 120 _ (by decide) (asc_hex _ _) hd
            · split at hd
              · exact app 117 _ (by decide) (asc_hex _ _) hd
              · exact app 85 _ (by decide) (asc_hex _ _) hd
theorem asc_fold {q : Nat} : ∀ (l : List Nat) (acc : Array Nat), (∀ c ∈ l, c < 16 ^ 8) → (∀ c ∈ acc.toList, c < 16 ^ 8) → ∀ c ∈ (l.foldl (fun out c => out ++ (Builtin.Str.reprChar q c).toArray) acc).toList, c < 16 ^ 8
  | [], acc, _, h => h
  | k :: r, acc, hl, ha => by
    rw [List.foldl_cons]
    refine asc_fold r _ (fun c hc => hl c (List.mem_cons_of_mem _ hc)) fun c hc => ?_
    rw [Array.toList_append, List.mem_append] at hc
    exact hc.elim (ha c) fun h => asc_char (hl k List.mem_cons_self) c (by simpa using h)
theorem asc_quote (x : Str) : reprQuote x < 16 ^ 8 := by
  unfold reprQuote
  split <;> decide
theorem asc_repr {x : Str} (h : Asc x) : Asc (reprText x) := fun c hc => by
  unfold reprText at hc
  rw [Array.toList_push, List.mem_append, ← Array.foldl_toList] at hc
  rcases hc with hc | hc
  · refine asc_fold x.cps.toList #[reprQuote x] h (fun d hd => ?_) c hc
    have z : d = reprQuote x := by simpa using hd
    rw [z]
    exact asc_quote x
  · have z : c = reprQuote x := by simpa using hc
    rw [z]
    exact asc_quote x
theorem asc_join : ∀ ts : List Str, (∀ t ∈ ts, Asc t) → Asc (Str.join ", " ts)
  | [], _ => fun c hc => by
    have z : c ∈ (Str.empty).cps.toList := hc
    simp [Str.empty] at z
  | [x], h => h x List.mem_cons_self
  | x :: y :: r, h => ((h x List.mem_cons_self).app (asc_str ", ")).app (asc_join (y :: r) fun t ht => h t (List.mem_cons_of_mem _ ht))
theorem asc_from : ∀ (ts : List Str) (k : Nat) (acc : Str), Asc acc → (∀ t ∈ ts, Asc t) → Asc (textFrom k acc ts)
  | [], _, _, h, _ => h
  | t :: ts, k, acc, h, ht => by
    unfold textFrom
    exact asc_from ts (k + 1) _ ((h.app (asc_str _)).app (ht t List.mem_cons_self)) fun u hu => ht u (List.mem_cons_of_mem _ hu)
mutual
/-- all texts within a thing -/
def ascD : PyData → Prop
  | .none | .bool _ | .int _ => True
  | .str x => Asc x
  | .list xs | .tuple xs => ascAll xs
  | .dict kvs => ascKv kvs
def ascAll : List PyData → Prop
  | [] => True
  | x :: xs => ascD x ∧ ascAll xs
def ascKv : List (PyData × PyData) → Prop
  | [] => True
  | (k, v) :: r => ascD k ∧ ascD v ∧ ascKv r
end
mutual
theorem asc_shown : ∀ d : PyData, ascD d → Asc d.shown
  | .none, _ => asc_str "None"
  | .bool b, _ => by
    simp only [PyData.shown]
    cases b
    · exact asc_str "False"
    · exact asc_str "True"
  | .int i, _ => asc_str (toString i)
  | .str x, h => asc_repr (by simpa [ascD] using h)
  | .list xs, h => by
    simp only [PyData.shown]
    exact (asc_from _ _ _ (asc_str "[") (asc_shownAll xs (by simpa [ascD] using h))).app (asc_str "]")
  | .tuple xs, h => by
    simp only [PyData.shown]
    exact ((asc_str "(").app (asc_join _ (asc_shownAll xs (by simpa [ascD] using h)))).app (asc_str _)
  | .dict kvs, h => by
    simp only [PyData.shown]
    exact ((asc_str "{").app (asc_join _ (asc_shownKv kvs (by simpa [ascD] using h)))).app (asc_str "}")
theorem asc_shownAll : ∀ xs : List PyData, ascAll xs → ∀ t ∈ PyData.shownAll xs, Asc t
  | [], _, t, ht => by
    simp [PyData.shownAll] at ht
  | x :: xs, h, t, ht => by
    have h' : ascD x ∧ ascAll xs := by simpa [ascAll] using h
    simp only [PyData.shownAll, List.mem_cons] at ht
    rcases ht with e | e
    · rw [e]
      exact asc_shown x h'.1
    · exact asc_shownAll xs h'.2 t e
theorem asc_shownKv : ∀ xs : List (PyData × PyData), ascKv xs → ∀ t ∈ PyData.shownKv xs, Asc t
  | [], _, t, ht => by
    simp [PyData.shownKv] at ht
  | (k, v) :: xs, h, t, ht => by
    have h' : ascD k ∧ ascD v ∧ ascKv xs := by simpa [ascKv] using h
    simp only [PyData.shownKv, List.mem_cons] at ht
    rcases ht with e | e
    · rw [e]
      exact ((asc_shown k h'.1).app (asc_str ": ")).app (asc_shown v h'.2.1)
    · exact asc_shownKv xs h'.2.2 t e
end
/-- str of a thing -/
def strD : PyData → Str
  | .str x => x
  | d => d.shown
theorem strD_asc {d : PyData} (h : ascD d) : Asc (strD d) := by
  cases d with
  | str x => simpa [strD, ascD] using h
  | _ => exact asc_shown _ h
theorem len_repr (x : Str) : x.length ≤ (reprText x).length := by
  have grow : ∀ (q : Nat) (l : List Nat) (acc : Array Nat), acc.size + l.length ≤ (l.foldl (fun out c => out ++ (Builtin.Str.reprChar q c).toArray) acc).size := fun q l => by
    induction l with
    | nil => intro acc; simp
    | cons k r ih =>
      intro acc
      have h := ih (acc ++ (Builtin.Str.reprChar q k).toArray)
      have one : 1 ≤ (Builtin.Str.reprChar q k).length := by
        unfold Builtin.Str.reprChar
        dsimp only
        repeat' split
        all_goals simp
        all_goals omega
      rw [List.foldl_cons]
      simp only [Array.size_append, List.size_toArray] at h
      simp only [List.length_cons]
      omega
  have h := grow (reprQuote x) x.cps.toList #[reprQuote x]
  unfold reprText
  show x.length ≤ ((x.cps.foldl (fun out c => out ++ (Builtin.Str.reprChar (reprQuote x) c).toArray) #[reprQuote x]).push (reprQuote x)).size
  rw [Array.size_push, ← Array.foldl_toList]
  have e : x.cps.toList.length = x.length := by simp [Str.length]
  omega
theorem strD_len {d : PyData} : (strD d).length ≤ d.shown.length := by
  cases d with
  | str x =>
    simp only [strD, PyData.shown]
    exact len_repr x
  | _ => exact Nat.le_refl _
section
variable {X : Cx}
def rStrZ (K : PySem.W.Frag) : List V → Hp → VK → Prop := fun xs H Q => ∃ (v : V) (d : PyData), xs = [v] ∧ Dz K H v d ∧ d.showable = true ∧ d.depth ≤ 60 ∧ d.shown.length ≤ sizeLine ∧ Q (.str (strD d)) H
theorem cr_strZ {k : Nat} (quiet : X.A.guards = some []) (room : Room k X.A) : CallR X (.type "str") (rStrZ X.K) := by
  intro pins s σ H xs us Q I r h
  obtain ⟨v, d, rfl, hd, hs, hp, hz, q⟩ := h
  obtain ⟨u, rfl, rx⟩ := vals1 r
  have hu := room.un
  cases hd with
  | non =>
    cases rx
    exact PySem.P.str_of_none ⟨.str _, H, I.tok _, ⟨_, rfl⟩, q⟩
  | bl b =>
    cases rx
    exact PySem.P.str_of_bool ⟨.str _, H, I.tok _, ⟨_, rfl⟩, q⟩
  | int i =>
    obtain ⟨t, rfl⟩ := rx
    exact PySem.P.str_of_int (by simpa [PyData.showable] using hs) ⟨.str _, H, I.tok _, ⟨_, rfl⟩, q⟩
  | str x =>
    obtain ⟨t, rfl⟩ := rx
    exact PySem.P.str_of_str ⟨.str _, H, I, ⟨_, rfl⟩, q⟩
  | lst e n ha =>
    obtain ⟨as, rd, na⟩ := Dz.reads I _ _ u (.lst e n ha) rx
    cases rx
    exact str_of_reads rd hs (fun _ => na) quiet (by omega) (fun _ _ z => z) (fun h' u tk kept => ⟨.str _, H, I.kept kept, ⟨u, rfl⟩, q⟩) hz
  | tup e ha =>
    obtain ⟨as, rd, na⟩ := Dz.reads I _ _ u (.tup e ha) rx
    cases rx
    exact str_of_reads rd hs (fun _ => na) quiet (by omega) (fun _ _ z => z) (fun h' u tk kept => ⟨.str _, H, I.kept kept, ⟨u, rfl⟩, q⟩) hz
  | dct e ha =>
    obtain ⟨as, rd, na⟩ := Dz.reads I _ _ u (.dct e ha) rx
    cases rx
    exact str_of_reads rd hs (fun _ => na) quiet (by omega) (fun _ _ z => z) (fun h' u tk kept => ⟨.str _, H, I.kept kept, ⟨u, rfl⟩, q⟩) hz
end
end Az
set_option Elab.async false
set_option linter.all false
set_option maxRecDepth 100000
set_option maxHeartbeats 4000000
set_option pp.maxSteps 400
set_option pp.deepTerms false
/-! Works: names and parts; how many things a thing has; what a work is. -/
namespace W37
open PySem PySem.Spec PyProof.Rows L2
open Az
abbrev Nm := Str × Str
def nD (n : Nm) : PyData := .tuple [.str n.1, .str n.2]
theorem nD_inj {n m : Nm} (h : nD n = nD m) : n = m := by
  obtain ⟨a, b⟩ := n
  obtain ⟨c, d⟩ := m
  unfold nD at h
  injection h with h
  injection h with h1 h2
  injection h2 with h2 _
  injection h1 with h1
  injection h2 with h2
  exact Prod.ext h1 h2
/-- a work -/
inductive W where
  | mk (n : Nm) (ps : List W)
mutual
def W.nms : W → List Nm
  | .mk n ps => n :: nmsL ps
def nmsL : List W → List Nm
  | [] => []
  | w :: r => w.nms ++ nmsL r
end
mutual
def W.dat : W → PyData
  | .mk n ps => .tuple [nD n, .tuple (datL ps)]
def datL : List W → List PyData
  | [] => []
  | w :: r => w.dat :: datL r
end
mutual
def W.dp : W → Nat
  | .mk _ ps => dpL ps + 1
def dpL : List W → Nat
  | [] => 0
  | w :: r => max w.dp (dpL r)
end
theorem nmsL_app : ∀ xs ys : List W, nmsL (xs ++ ys) = nmsL xs ++ nmsL ys
  | [], ys => by simp [nmsL]
  | w :: r, ys => by
    rw [List.cons_append, nmsL, nmsL_app r ys, nmsL, List.append_assoc]
theorem dpL_app : ∀ (xs : List W) (w : W) (k : Nat), dpL xs ≤ k → w.dp ≤ k → dpL (xs ++ [w]) ≤ k
  | [], w, k, _, h => by
    rw [List.nil_append, dpL, dpL]
    omega
  | x :: r, w, k, h, h' => by
    rw [dpL] at h
    rw [List.cons_append, dpL]
    have := dpL_app r w k (by omega) h'
    omega
theorem dpL_mem : ∀ {xs : List W} {w : W}, w ∈ xs → w.dp ≤ dpL xs
  | x :: r, w, h => by
    rw [dpL]
    rcases List.mem_cons.mp h with z | z
    · rw [z]; omega
    · have := dpL_mem z
      omega
theorem datL_map : ∀ ws : List W, datL ws = ws.map W.dat
  | [] => rfl
  | w :: r => by rw [datL, datL_map r, List.map_cons]
/-- a name as it stands -/
def NmV (H : Hp) (v : V) (n : Nm) : Prop := ∃ t, v = .ref t ∧ H t = some (.tup [.str n.1, .str n.2])
inductive NmL (H : Hp) : List V → List Nm → Prop
  | nil : NmL H [] []
  | cons {v : V} {vs : List V} {n : Nm} {ns : List Nm} : NmV H v n → NmL H vs ns → NmL H (v :: vs) (n :: ns)
/-- tuples stand -/
def Tp (H H' : Hp) : Prop := ∀ b xs, H b = some (.tup xs) → H' b = some (.tup xs)
theorem Tp.trans {H H1 H2 : Hp} (p : Tp H H1) (q : Tp H1 H2) : Tp H H2 := fun b xs e => q b xs (p b xs e)
theorem tp_same {H H' : Hp} (s : L2.Same H H') : Tp H H' := fun b ys e => s b _ e
theorem tp_upd {H : Hp} {p : Addr} {x : HO} (e : ∀ xs, H p ≠ some (.tup xs)) : Tp H (upd H p x) := fun b ys eb => by
  rw [upd_ne (fun z => e ys (by rw [← z]; exact eb))]
  exact eb
theorem NmV.tp {H H' : Hp} {v : V} {n : Nm} (h : NmV H v n) (s : Tp H H') : NmV H' v n := by
  obtain ⟨t, e, r⟩ := h
  exact ⟨t, e, s _ _ r⟩
theorem NmL.tp {H H' : Hp} (s : Tp H H') : ∀ {vs : List V} {ns : List Nm}, NmL H vs ns → NmL H' vs ns
  | _, _, .nil => .nil
  | _, _, .cons h r => .cons (h.tp s) (r.tp s)
theorem NmL.len {H : Hp} : ∀ {vs : List V} {ns : List Nm}, NmL H vs ns → vs.length = ns.length
  | _, _, .nil => rfl
  | _, _, .cons _ r => by rw [List.length_cons, List.length_cons, r.len]
theorem NmL.snoc {H : Hp} : ∀ {vs : List V} {ns : List Nm} {v : V} {n : Nm}, NmL H vs ns → NmV H v n → NmL H (vs ++ [v]) (ns ++ [n])
  | _, _, _, _, .nil, h => .cons h .nil
  | _, _, _, _, .cons h r, h' => .cons h (r.snoc h')
theorem NmL.app {H : Hp} : ∀ {vs ws : List V} {ns ms : List Nm}, NmL H vs ns → NmL H ws ms → NmL H (vs ++ ws) (ns ++ ms)
  | _, _, _, _, .nil, h => h
  | _, _, _, _, .cons h r, h' => .cons h (r.app h')
theorem NmL.take {H : Hp} : ∀ {vs : List V} {ns : List Nm} (k : Nat), NmL H vs ns → NmL H (vs.take k) (ns.take k)
  | _, _, 0, h => by rw [List.take_zero, List.take_zero]; exact .nil
  | _, _, _ + 1, .nil => .nil
  | _, _, k + 1, .cons h r => .cons h (r.take k)
theorem NmL.drop {H : Hp} : ∀ {vs : List V} {ns : List Nm} (k : Nat), NmL H vs ns → NmL H (vs.drop k) (ns.drop k)
  | _, _, 0, h => h
  | _, _, _ + 1, .nil => .nil
  | _, _, k + 1, .cons h r => r.drop k
theorem NmL.get {H : Hp} : ∀ {vs : List V} {ns : List Nm} {i : Nat} {v : V}, NmL H vs ns → vs[i]? = some v → ∃ n, ns[i]? = some n ∧ NmV H v n
  | _, _, _, _, .nil, e => by simp at e
  | _, _, 0, _, .cons h r, e => by
    rw [List.getElem?_cons_zero] at e
    cases e
    exact ⟨_, rfl, h⟩
  | _, _, i + 1, _, .cons h r, e => by
    rw [List.getElem?_cons_succ] at e
    obtain ⟨n, e1, q⟩ := r.get e
    exact ⟨n, by rw [List.getElem?_cons_succ]; exact e1, q⟩
theorem NmL.mem {H : Hp} {vs : List V} {ns : List Nm} (h : NmL H vs ns) {v : V} (m : v ∈ vs) : ∃ n ∈ ns, NmV H v n := by
  obtain ⟨i, hi⟩ := List.getElem?_of_mem m
  obtain ⟨n, e, q⟩ := h.get hi
  exact ⟨n, List.mem_of_getElem? e, q⟩
mutual
/-- a work as it stands -/
inductive Wk (H : Hp) : V → W → Prop
  | mk {t p : Addr} {v : V} {n : Nm} {xs : List V} {ps : List W} : H t = some (.tup [v, .ref p]) → NmV H v n → H p = some (.tup xs) → WkL H xs ps → Wk H (.ref t) (.mk n ps)
inductive WkL (H : Hp) : List V → List W → Prop
  | nil : WkL H [] []
  | cons {v : V} {vs : List V} {w : W} {ws : List W} : Wk H v w → WkL H vs ws → WkL H (v :: vs) (w :: ws)
end
mutual
theorem Wk.tp {H H' : Hp} (s : Tp H H') : ∀ {v : V} {w : W}, Wk H v w → Wk H' v w
  | _, _, .mk e1 n e2 r => .mk (s _ _ e1) (n.tp s) (s _ _ e2) (WkL.tp s r)
theorem WkL.tp {H H' : Hp} (s : Tp H H') : ∀ {vs : List V} {ws : List W}, WkL H vs ws → WkL H' vs ws
  | _, _, .nil => .nil
  | _, _, .cons h r => .cons (Wk.tp s h) (WkL.tp s r)
end
theorem WkL.len {H : Hp} : ∀ {vs : List V} {ws : List W}, WkL H vs ws → vs.length = ws.length
  | _, _, .nil => rfl
  | _, _, .cons _ r => by rw [List.length_cons, List.length_cons, r.len]
theorem WkL.snoc {H : Hp} : ∀ {vs : List V} {ws : List W} {v : V} {w : W}, WkL H vs ws → Wk H v w → WkL H (vs ++ [v]) (ws ++ [w])
  | _, _, _, _, .nil, h => .cons h .nil
  | _, _, _, _, .cons h r, h' => .cons h (r.snoc h')
theorem WkL.get {H : Hp} : ∀ {vs : List V} {ws : List W} {i : Nat} {v : V}, WkL H vs ws → vs[i]? = some v → ∃ w, ws[i]? = some w ∧ Wk H v w
  | _, _, _, _, .nil, e => by simp at e
  | _, _, 0, _, .cons h r, e => by
    rw [List.getElem?_cons_zero] at e
    cases e
    exact ⟨_, rfl, h⟩
  | _, _, i + 1, _, .cons h r, e => by
    rw [List.getElem?_cons_succ] at e
    obtain ⟨n, e1, q⟩ := r.get e
    exact ⟨n, by rw [List.getElem?_cons_succ]; exact e1, q⟩
section
variable {K : PySem.W.Frag}
theorem NmV.dz {H : Hp} {v : V} {n : Nm} (h : NmV H v n) : Dz K H v (nD n) := by
  obtain ⟨t, rfl, e⟩ := h
  exact .tup e (.cons (.str _) (.cons (.str _) .nil))
mutual
theorem Wk.dz {H : Hp} : ∀ {v : V} {w : W}, Wk H v w → Dz K H v w.dat
  | _, _, .mk e1 n e2 r => by
    rw [W.dat]
    exact .tup e1 (.cons n.dz (.cons (.tup e2 (WkL.dz r)) .nil))
theorem WkL.dz {H : Hp} : ∀ {vs : List V} {ws : List W}, WkL H vs ws → DzAll K H vs (datL ws)
  | _, _, .nil => by rw [datL]; exact .nil
  | _, _, .cons h r => by rw [datL]; exact .cons (Wk.dz h) (WkL.dz r)
end
end
/-! ## things: how many they have, how deep they are, their texts -/
def Ok7 (x : Str) : Prop := x.length ≤ 200 ∧ ∀ c ∈ x.cps.toList, c < 128
mutual
def wt : PyData → Nat
  | .tuple ds => wts ds + 1
  | _ => 1
def wts : List PyData → Nat
  | [] => 0
  | d :: r => wt d + wts r
end
mutual
def dt : PyData → Nat
  | .tuple ds => dts ds + 1
  | _ => 0
def dts : List PyData → Nat
  | [] => 0
  | d :: r => max (dt d) (dts r)
end
mutual
def gd : PyData → Prop
  | .str x => Ok7 x
  | .tuple ds => gds ds
  | _ => True
def gds : List PyData → Prop
  | [] => True
  | d :: r => gd d ∧ gds r
end
theorem wt_pos : ∀ d : PyData, 1 ≤ wt d
  | .tuple ds => by rw [wt]; omega
  | .none | .bool _ | .int _ | .str _ | .list _ | .dict _ => by simp [wt]
theorem wts_app : ∀ xs ys : List PyData, wts (xs ++ ys) = wts xs + wts ys
  | [], ys => by simp [wts]
  | d :: r, ys => by
    rw [List.cons_append, wts, wts_app r ys, wts]
    omega
theorem len_wts : ∀ ds : List PyData, ds.length ≤ wts ds
  | [] => by simp
  | d :: r => by
    have := len_wts r
    have := wt_pos d
    rw [List.length_cons, wts]
    omega
theorem wts_mem : ∀ {ds : List PyData} {d : PyData}, d ∈ ds → wt d ≤ wts ds
  | d :: r, e, h => by
    rw [wts]
    rcases List.mem_cons.mp h with z | z
    · rw [z]; omega
    · have := wts_mem z
      omega
theorem dts_app : ∀ xs ys : List PyData, dts (xs ++ ys) = max (dts xs) (dts ys)
  | [], ys => by simp [dts]
  | d :: r, ys => by
    rw [List.cons_append, dts, dts_app r ys, dts]
    omega
theorem dts_mem : ∀ {ds : List PyData} {d : PyData}, d ∈ ds → dt d ≤ dts ds
  | d :: r, e, h => by
    rw [dts]
    rcases List.mem_cons.mp h with z | z
    · rw [z]; omega
    · have := dts_mem z
      omega
theorem gds_iff : ∀ {ds : List PyData}, gds ds ↔ ∀ d ∈ ds, gd d
  | [] => by simp [gds]
  | d :: r => by rw [gds, gds_iff (ds := r)]; simp
theorem gds_app {xs ys : List PyData} : gds (xs ++ ys) ↔ gds xs ∧ gds ys := by
  rw [gds_iff, gds_iff, gds_iff]
  constructor
  · intro h
    exact ⟨fun d m => h d (List.mem_append_left _ m), fun d m => h d (List.mem_append_right _ m)⟩
  · rintro ⟨h1, h2⟩ d m
    rcases List.mem_append.mp m with z | z
    · exact h1 d z
    · exact h2 d z
/-! ## what a work is -/
section
variable (nm : PyData → Bool)
def form : Nat → PyData → Bool
  | 0, _ => false
  | k + 1, d => match d with
    | .tuple [n, .tuple ps] => nm n && ps.all (form k)
    | _ => false
def names : Nat → PyData → List PyData
  | 0, _ => []
  | k + 1, d => match d with
    | .tuple [n, .tuple ps] => n :: ps.flatMap (names k)
    | _ => []
/-- a name beside a tuple -/
def nwp (d : PyData) : Bool := match d with
  | .tuple [n, .tuple _] => nm n
  | _ => false
theorem form_nwp {k : Nat} {d : PyData} (h : nwp nm d = false) : form nm k d = false := by
  cases k with
  | zero => rfl
  | succ k =>
    unfold form
    unfold nwp at h
    split
    · rename_i n ps
      simp only at h
      rw [h]
      rfl
    · rfl
theorem nwp_mk {d : PyData} (h : nwp nm d = true) : ∃ n ps, d = .tuple [n, .tuple ps] ∧ nm n = true := by
  unfold nwp at h
  split at h
  · rename_i n ps
    exact ⟨n, ps, rfl, h⟩
  · cases h
def IsW (d : PyData) : Prop := form nm 5 d = true ∧ (names 5 d).Nodup
/-- a stack of things, the first to be taken at the end: how many levels each may have yet, and what was seen -/
def Ans (st : List (PyData × Nat)) (seen : List PyData) : Prop := (∀ p ∈ st, form nm p.2 p.1 = true) ∧ (seen ++ st.flatMap fun p => names p.2 p.1).Nodup
theorem ans_nil {seen : List PyData} (h : seen.Nodup) : Ans nm [] seen := ⟨by simp, by simpa using h⟩
theorem ans_one {d : PyData} : Ans nm [(d, 5)] [] ↔ IsW nm d := by
  unfold Ans IsW
  simp
theorem ans_bad {st : List (PyData × Nat)} {p : PyData × Nat} {seen : List PyData} (h : form nm p.2 p.1 = false) : ¬ Ans nm (st ++ [p]) seen := fun a => by
  have := a.1 p (by simp)
  rw [h] at this
  cases this
theorem ans_zero {st : List (PyData × Nat)} {d : PyData} {seen : List PyData} : ¬ Ans nm (st ++ [(d, 0)]) seen := ans_bad nm rfl
theorem ans_seen {st : List (PyData × Nat)} {n : PyData} {ps : List PyData} {k : Nat} {seen : List PyData} (h : n ∈ seen) : ¬ Ans nm (st ++ [(.tuple [n, .tuple ps], k + 1)]) seen := fun a => by
  have q := a.2
  rw [List.nodup_append] at q
  refine q.2.2 n h n ?_ rfl
  rw [List.mem_flatMap]
  exact ⟨(.tuple [n, .tuple ps], k + 1), by simp, by simp [names]⟩
theorem ans_step {st : List (PyData × Nat)} {n : PyData} {ps : List PyData} {k : Nat} {seen : List PyData} (hn : nm n = true) :
    Ans nm (st ++ [(.tuple [n, .tuple ps], k + 1)]) seen ↔ Ans nm (st ++ ps.map fun q => (q, k)) (seen ++ [n]) := by
  unfold Ans
  constructor
  · rintro ⟨a, b⟩
    constructor
    · intro p hp
      rcases List.mem_append.mp hp with z | z
      · exact a p (List.mem_append_left _ z)
      · obtain ⟨q, hq, rfl⟩ := List.mem_map.mp z
        have := a (.tuple [n, .tuple ps], k + 1) (by simp)
        simp only [form, hn, Bool.true_and, List.all_eq_true] at this
        exact this q hq
    · refine (List.Perm.nodup_iff ?_).mp b
      simp only [List.flatMap_append, List.flatMap_cons, List.flatMap_nil, names, List.append_nil, List.flatMap_map, List.append_assoc]
      refine List.Perm.append_left _ ?_
      show (_ ++ n :: _).Perm ([n] ++ _)
      exact List.perm_middle
  · rintro ⟨a, b⟩
    constructor
    · intro p hp
      rcases List.mem_append.mp hp with z | z
      · exact a p (List.mem_append_left _ z)
      · rw [List.mem_singleton.mp z]
        simp only [form, hn, Bool.true_and, List.all_eq_true]
        intro q hq
        exact a (q, k) (List.mem_append_right _ (List.mem_map.mpr ⟨q, hq, rfl⟩))
    · refine (List.Perm.nodup_iff ?_).mpr b
      simp only [List.flatMap_append, List.flatMap_cons, List.flatMap_nil, names, List.append_nil, List.flatMap_map, List.append_assoc]
      refine List.Perm.append_left _ ?_
      show (_ ++ n :: _).Perm ([n] ++ _)
      exact List.perm_middle
end
end W37
set_option Elab.async false
set_option linter.all false
set_option maxRecDepth 100000
set_option maxHeartbeats 4000000
/-! names in order; pairs of names, and whom they lead to -/
namespace Xnp
open PySem PySem.Spec PyProof.Rows L2 W37
/-! ## names in order -/
def nmLe : Nm → Nm → Bool := PySem.W.dataLe false nD
theorem toks_nD (a : Nm) : PySem.W.keyToks (nD a) = [.inl 1, .inr a.1.cps.toList, .inl 1, .inr a.2.cps.toList, .inl 0] := by
  simp [nD, PySem.W.keyToks, PySem.W.keyToksAll]
theorem nm_anti {a b : Nm} (h1 : nmLe a b = true) (h2 : nmLe b a = true) : a = b := by
  have k1 : (listOrd itemOrd).blt (PySem.W.keyToks (nD b)) (PySem.W.keyToks (nD a)) = false := by
    have : (!(listOrd itemOrd).blt (PySem.W.keyToks (nD b)) (PySem.W.keyToks (nD a))) = true := h1
    simpa using this
  have k2 : (listOrd itemOrd).blt (PySem.W.keyToks (nD a)) (PySem.W.keyToks (nD b)) = false := by
    have : (!(listOrd itemOrd).blt (PySem.W.keyToks (nD a)) (PySem.W.keyToks (nD b))) = true := h2
    simpa using this
  have e := (listOrd itemOrd).total _ _ k2 k1
  rw [toks_nD, toks_nD] at e
  simp only [List.cons.injEq, Sum.inr.injEq, true_and, and_true] at e
  obtain ⟨⟨x1⟩, ⟨y1⟩⟩ := a
  obtain ⟨⟨x2⟩, ⟨y2⟩⟩ := b
  have e1 : x1 = x2 := Array.toList_inj.mp e.1
  have e2 : y1 = y2 := Array.toList_inj.mp e.2
  rw [e1, e2]
theorem nm_tot : PySem.W.TotalLe nmLe := PySem.W.sortLe_total (listOrd itemOrd) false fun b => PySem.W.keyToks (nD b)
abbrev Rise (l : List Nm) : Prop := l.Pairwise fun a b => nmLe a b = true
theorem rise_uniq : ∀ {l m : List Nm}, l.Nodup → m.Nodup → (∀ a, a ∈ l ↔ a ∈ m) → Rise l → Rise m → l = m
  | [], [], _, _, _, _, _ => rfl
  | [], y :: _, _, _, h, _, _ => absurd ((h y).mpr List.mem_cons_self) (by simp)
  | x :: _, [], _, _, h, _, _ => absurd ((h x).mp List.mem_cons_self) (by simp)
  | x :: l, y :: m, nl, nm, h, rl, rm => by
    have nl2 := List.nodup_cons.mp nl
    have nm2 := List.nodup_cons.mp nm
    have rl2 := List.pairwise_cons.mp rl
    have rm2 := List.pairwise_cons.mp rm
    have e : x = y := by
      rcases List.mem_cons.mp ((h x).mp List.mem_cons_self) with z | z
      · exact z
      · rcases List.mem_cons.mp ((h y).mpr List.mem_cons_self) with u | u
        · exact u.symm
        · exact nm_anti (rl2.1 y u) (rm2.1 x z)
    subst e
    congr 1
    refine rise_uniq nl2.2 nm2.2 (fun a => ⟨fun ha => ?_, fun ha => ?_⟩) rl2.2 rm2.2
    · rcases List.mem_cons.mp ((h a).mp (List.mem_cons_of_mem _ ha)) with z | z
      · exact absurd (z ▸ ha) nl2.1
      · exact z
    · rcases List.mem_cons.mp ((h a).mpr (List.mem_cons_of_mem _ ha)) with z | z
      · exact absurd (z ▸ ha) nm2.1
      · exact z
theorem rise_sort (l : List Nm) : Rise (l.mergeSort nmLe) := List.pairwise_mergeSort (fun a b c h1 h2 => nm_tot.trans a b c h1 h2) (fun a b => by rcases nm_tot.total a b with h | h <;> simp [h]) l
/-! ## pairs of names -/
abbrev Pair := Nm × Nm
def Adj (es : List Pair) (a b : Nm) : Prop := (a, b) ∈ es ∨ (b, a) ∈ es
theorem Adj.symm {es : List Pair} {a b : Nm} (h : Adj es a b) : Adj es b a := h.elim .inr .inl
inductive Rch (es : List Pair) : Nm → Nm → Prop
  | refl (a : Nm) : Rch es a a
  | step {a b c : Nm} : Rch es a b → Adj es b c → Rch es a c
theorem Rch.trans {es : List Pair} {a b c : Nm} (h : Rch es a b) (k : Rch es b c) : Rch es a c := by
  induction k with
  | refl => exact h
  | step _ j ih => exact .step ih j
theorem Rch.symm {es : List Pair} {a b : Nm} (h : Rch es a b) : Rch es b a := by
  induction h with
  | refl => exact .refl _
  | step _ j ih => exact (Rch.step (.refl _) j.symm).trans ih
/-- what is shut and holds a holds all that a leads to -/
theorem Rch.shut {es : List Pair} {a b : Nm} (h : Rch es a b) {S : Nm → Prop} (s0 : S a) (sh : ∀ x y, S x → Adj es x y → S y) : S b := by
  induction h with
  | refl => exact s0
  | step _ j ih => exact sh _ _ ih j
/-- the class of a name, in order -/
structure Cls (es : List Pair) (a : Nm) (l : List Nm) : Prop where
  nd : l.Nodup
  mem : ∀ b, b ∈ l ↔ Rch es a b
  rise : Rise l
theorem Cls.uniq {es : List Pair} {a : Nm} {l m : List Nm} (h : Cls es a l) (k : Cls es a m) : l = m := rise_uniq h.nd k.nd (fun b => (h.mem b).trans (k.mem b).symm) h.rise k.rise
theorem Cls.of {es : List Pair} {a b : Nm} {l : List Nm} (h : Cls es a l) (r : Rch es a b) : Cls es b l := ⟨h.nd, fun c => (h.mem c).trans ⟨fun q => r.symm.trans q, fun q => r.trans q⟩, h.rise⟩
theorem Cls.self {es : List Pair} {a : Nm} {l : List Nm} (h : Cls es a l) : a ∈ l := (h.mem a).mpr (.refl a)
/-- all names of the pairs -/
def nodes (es : List Pair) : List Nm := es.flatMap fun p => [p.1, p.2]
theorem mem_nodes {es : List Pair} {a : Nm} : a ∈ nodes es ↔ ∃ b, Adj es a b := by
  unfold nodes
  rw [List.mem_flatMap]
  constructor
  · rintro ⟨⟨x, y⟩, hp, ha⟩
    simp only [List.mem_cons, List.not_mem_nil, or_false] at ha
    rcases ha with rfl | rfl
    · exact ⟨_, .inl hp⟩
    · exact ⟨_, .inr hp⟩
  · rintro ⟨b, h | h⟩
    · exact ⟨_, h, by simp⟩
    · exact ⟨_, h, by simp⟩
theorem Cls.alone {es : List Pair} {a : Nm} (h : a ∉ nodes es) : Cls es a [a] := ⟨by simp, fun b => ⟨fun m => by rw [List.mem_singleton.mp m]; exact .refl a, fun r => by
  have : a = b ∨ ∃ c, Adj es a c := by
    have : b = a ∨ ∃ c, Adj es a c := by
      induction r with
      | refl => exact .inl rfl
      | step r j ih =>
        rcases ih with rfl | q
        · exact .inr ⟨_, j⟩
        · exact .inr q
    exact this.imp Eq.symm id
  rcases this with rfl | q
  · simp
  · exact absurd (mem_nodes.mpr q) h⟩, by simp⟩
/-- whom a name stands beside, in the order of the pairs -/
def nb (es : List Pair) (a : Nm) : List Nm := es.flatMap fun p => (if p.1 = a then [p.2] else []) ++ if p.2 = a then [p.1] else []
theorem mem_nb {es : List Pair} {a b : Nm} : b ∈ nb es a ↔ Adj es a b := by
  unfold nb
  rw [List.mem_flatMap]
  constructor
  · rintro ⟨⟨x, y⟩, hp, hb⟩
    simp only [List.mem_append] at hb
    rcases hb with hb | hb
    · split at hb
      · rename_i q
        have q : x = a := q
        rw [List.mem_singleton.mp hb]
        exact .inl (q ▸ hp)
      · cases hb
    · split at hb
      · rename_i q
        have q : y = a := q
        rw [List.mem_singleton.mp hb]
        exact .inr (q ▸ hp)
      · cases hb
  · rintro (h | h)
    · exact ⟨_, h, by simp⟩
    · exact ⟨_, h, by simp⟩
theorem nb_snoc (es : List Pair) (p : Pair) (a : Nm) : nb (es ++ [p]) a = nb es a ++ ((if p.1 = a then [p.2] else []) ++ if p.2 = a then [p.1] else []) := by
  unfold nb
  rw [List.flatMap_append]
  simp
end Xnp
set_option Elab.async false
set_option linter.all false
set_option maxRecDepth 100000
set_option maxHeartbeats 4000000
set_option pp.maxSteps 400
set_option pp.deepTerms false
/-! Tuples cut, put together, turned about, as lists, whatever the cases; a sign many times. -/
namespace Xtu
open PySem PySem.Spec PyProof.Rows L2
theorem same_upd {H : Hp} {p : Addr} {o : HO} (h : H p = none) : Same H (upd H p o) := fun b x e => by
  rw [upd_ne (ne_of_none e h)]
  exact e
section
variable {X : Cx}
def rSlU : V → Option Int → Option Int → Hp → VK → Prop := fun x lo hi H Q => ∃ a xs, x = .ref a ∧ H a = some (.tup xs) ∧ ∀ p H', L2.Same H H' → H' p = some (.tup (cutV xs lo hi)) → Q (.ref p) H'
theorem sl_tupU : SlR X rSlU := by
  intro pins s σ H x v vl vu lo hi sl Q I rx hs pl pu h
  obtain ⟨a, xs, rfl, e, q⟩ := h
  refine sl_tupA pins s σ H _ v vl vu lo hi sl Q I rx hs pl pu ⟨a, xs, rfl, SqT.of e, fun w => q a H (Same.refl H) ?_, fun _ p np => q p _ (same_upd np) upd_same⟩
  rw [e]
  unfold cutV
  rw [w.1, w.2, List.drop_zero, Nat.sub_zero, List.take_length]
def rCatU : R2 := fun x y H Q => ∃ a b xs ys, x = .ref a ∧ y = .ref b ∧ H a = some (.tup xs) ∧ H b = some (.tup ys) ∧ xs.length + ys.length ≤ sizeLine ∧ ∀ p H', L2.Same H H' → H' p = some (.tup (xs ++ ys)) → Q (.ref p) H'
theorem op_catU : OpR X (binaryOp .Add) rCatU := by
  intro pins s σ H x y v u Q I rx ry h
  obtain ⟨a, b, xs, ys, rfl, rfl, ea, eb, hz, q⟩ := h
  refine op_catA pins s σ H _ _ v u Q I rx ry ⟨a, b, xs, ys, rfl, rfl, SqT.of ea, SqT.of eb, hz, fun z => q b H (Same.refl H) ?_, fun _ z => q a H (Same.refl H) ?_, fun _ _ p np => q p _ (same_upd np) upd_same⟩
  · rw [z]; exact eb
  · rw [z, List.append_nil]; exact ea
end
section
variable {prog : Program} {w : World} {A : Around} {E : Value → Shared → Prop} {s : Shared}
theorem turnN {sl : Addr} {u : Tok} {n : Nat} {Q : Int × Int × Nat → Shared → Prop} (hs : s.heap.IsSliceOf sl .none .none (.int (-1) u)) (h : Q ((n : Int) - 1, -1, n) s) : wpAny (model prog w) A (Builtin.Slice.sliceApplied (.ref sl) (pure (n : Int))) Q E s := by
  obtain ⟨os, a1, a2, a3⟩ := id hs
  unfold Builtin.Slice.sliceApplied Builtin.Slice.sliceFields
  refine wpAny_bind (wpAny_bind (wpAny_field a1 a3 (x := .none) rfl (wpAny_bind (wpAny_field a1 a3 (x := .none) rfl (wpAny_bind (wpAny_field a1 a3 (x := .int (-1) u) rfl (wpAny_pure ?_)))))))
  refine wpAny_bind (slicePart_int ?_)
  show wpAny _ _ (if ((-1 : Int) == 0) = true then _ else _) _ _ s
  rw [if_neg (by decide)]
  have pl : Builtin.Slice.slicePlaces ((n : Int) - 1) (-1) (-1) = n := by
    unfold Builtin.Slice.slicePlaces
    have h1 : ¬ ((-1 : Int) > 0) := by decide
    simp only [h1, if_false, show (- -1 : Int) = 1 by decide, Int.ediv_one]
    split <;> omega
  refine wpAny_bind (slicePart_none (wpAny_bind (slicePart_none (wpAny_bind (wpAny_pure ?_)))))
  show wpAny _ _ (pure ((n : Int) - 1, (-1 : Int), Builtin.Slice.slicePlaces ((n : Int) - 1) (-1) (-1))) _ _ s
  rw [pl]
  exact wpAny_pure h
theorem fm_congr {α β : Type} {f g : α → Option β} : ∀ l : List α, (∀ m ∈ l, f m = g m) → l.filterMap f = l.filterMap g
  | [], _ => rfl
  | a :: r, h => by
    rw [List.filterMap_cons, List.filterMap_cons, h a List.mem_cons_self, fm_congr r fun m hm => h m (List.mem_cons_of_mem _ hm)]
theorem turn_all (xs : Array Value) : ((List.range xs.size).filterMap fun (m : Nat) => xs[((xs.size : Int) - 1 + (m : Int) * -1).toNat]?).toArray = xs.toList.reverse.toArray := by
  have e : ((List.range xs.size).filterMap fun (m : Nat) => xs[((xs.size : Int) - 1 + (m : Int) * -1).toNat]?) = ((List.range xs.size).map fun k => xs.size - 1 - k).filterMap (xs[·]?) := by
    rw [List.filterMap_map]
    refine fm_congr _ fun m hm => ?_
    have := List.mem_range.mp hm
    show xs[((xs.size : Int) - 1 + (m : Int) * -1).toNat]? = xs[xs.size - 1 - m]?
    congr 1
    omega
  rw [e, PySem.W.krv_range, List.filterMap_reverse, PySem.W.krv_all]
theorem itemN {t sl : Addr} {items : Array Value} {u : Tok} {Q : Value → Shared → Prop} (ht : IsTup s.heap t items) (hs : s.heap.IsSliceOf sl .none .none (.int (-1) u)) (hz : items.size ≤ sizeLine)
    (h : Q (.ref s.heap.objs.size) { s with heap := s.heap.push { cls := .type "tuple", data := .seq items.toList.reverse.toArray } }) : wpAny (model prog w) A (getItem (.ref t) (.ref sl)) Q E s := by
  have fits : sizeOk (.seq items.toList.reverse.toArray) := by
    show items.toList.reverse.toArray.size ≤ sizeLine
    rw [List.size_toArray, List.length_reverse, Array.length_toList]
    exact hz
  obtain ⟨os, a1, a2, a3⟩ := id hs
  have ty : s.TypeIs (.ref sl) "slice" := ⟨os, a1, a2⟩
  unfold getItem; try with_reducible refine wpAny_holding ?_
  (first | refine wpAny_bind (wpAny_pure ?_) | skip); refine wpAny_bind (wpAny_sequenceKey ht.typeIs (by decide) ?_)
  refine wpAny_bind (wpAny_callSpecial?_slot (name := Str.ofString "__getitem__") ht.typeIs PyProof.Rows.slot_tuple_getitem (wpAny_call_entry PyProof.Rows.slot_tuple_getitem ht.typeIs entry_tuple_getitem ?_ (args_tuple_getitem _ _)))
  show wpAny _ _ (Builtin.Tuple.tupleItemsOf (.ref t) >>= _) _ _ s; refine wpAny_bind (tupleItemsOf_ ht ?_)
  refine wpAny_bind (wpAny_typeOf ty ?_); rw [if_pos (by decide)]
  refine wpAny_bind (turnN hs ?_)
  show wpAny _ _ (if (((items.size : Int) - 1) == 0 && (-1 : Int) == 1 && (items.size == items.size)) = true then _ else _) _ _ s
  rw [if_neg (by simp), turn_all]
  (first
    | exact wpAny_bind (m := Builtin.Tuple.tupleExact _) (wpAny_newObj_type (wpAny_pure ⟨_, rfl, wpAny_pure h⟩) fits)
    | exact wpAny_bind (m := Builtin.Tuple.tupleExact _) (wpAny_newObj_type (wpAny_bind (wpAny_pure (wpAny_pure ⟨_, rfl, wpAny_pure h⟩))) fits)
    | exact wpAny_bind (wpAny_bind (m := Builtin.Tuple.tupleExact _) (wpAny_newObj_type (wpAny_pure (wpAny_pure ⟨_, rfl, wpAny_pure h⟩)) fits)))
end
section
variable {X : Cx}
def tRevN (K : PySem.W.Frag) (te : TE) : TE := fun σ H Q => te σ H fun x H1 => ∃ (a : Addr) (xs : List V), x = .ref a ∧ H1 a = some (.tup xs) ∧ ∀ p H', L2.Same H1 H' → H' p = some (.tup xs.reverse) → Q (.ref p) H'
theorem pe_revN {e : Expr} {te : TE} {k : Nat} {p1 p2 p3 pos : Pos} (he : PE X e te) : PE X (.Subscript e (.Slice none none (some (.UnaryOp .USub (.Constant (.int 1) k p1) p2)) p3) pos) (tRevN X.K te) := by
  refine ⟨fun pins s σ H Q I h => Subscript_ (thn (he.run pins s σ H _ I h) fun v s1 ⟨x, H1, I1, r1, a, xs, ex, hx, q⟩ => ?_)⟩
  subst ex; cases r1
  have hst : PO X (some (.UnaryOp .USub (.Constant (.int 1) k p1) p2)) (tPart (tUn (rU fun i => .int (-i)) (tC (.int 1)))) := po_some (pe_un un_neg pe_int)
  refine wpAny_Slice (thn (po_none.run pins s1 σ H1 (fun o G => o = none ∧ G = H1) I1 ⟨rfl, rfl⟩) fun vl s2 ⟨l, G, I2, pl, el, e2⟩ => ?_)
  subst el e2
  refine thn (po_none.run pins s2 σ G (fun o G2 => o = none ∧ G2 = G) I2 ⟨rfl, rfl⟩) fun vu s3 ⟨u, G2, I3, pu, eu, e3⟩ => ?_
  subst eu e3
  refine thn (hst.run pins s3 σ G2 (fun o G3 => o = some (-1) ∧ G3 = G2) I3 ⟨1, rfl, -1, rfl, rfl, rfl⟩) fun vs s4 ⟨o, G3, I4, ps, eo, e4⟩ => ?_
  subst eo e4
  cases pl; cases pu
  cases ps with
  | int _ tk =>
  have I5 : Inv X pins σ G3 { s4 with heap := s4.heap.push { cls := .type "slice", data := .fields #[.none, .none, .int (-1) tk] } } := I4.kept (t' := s4.toks) fun b ob q => Heap.get?_push_of_some _ q
  obtain ⟨its, r, ht, hz⟩ := I5.tuple (SqT.of hx)
  have hlen := r.length
  show wpAny (model X.prog X.w) X.A (subscriptTail e (.Slice none none (some (.UnaryOp .USub (.Constant (.int 1) k p1) p2)) p3) (.ref a) (.ref s4.heap.objs.size)) (EP X pins σ Q) X.xe { s4 with heap := s4.heap.push { cls := .type "slice", data := .fields #[.none, .none, .int (-1) tk] } }
  refine tail_any (ops := [.ref a, .ref s4.heap.objs.size]) ht.typeIs PyProof.Rows.slot_tuple_getitem.lookup ?_ (by with_unfolding_all rfl)
  refine itemN ht (Heap.IsSliceOf.new _ _ _ _) (by rw [List.size_toArray]; omega) ?_
  have nw := I5.hok.fresh (Nat.le_refl _)
  refine ⟨.ref _, _, I5.laid (t' := s4.toks) (o := .tup xs.reverse) (fun b ob q => Heap.get?_push_of_some _ q) (Nat.le_refl _) ?_, rfl, q _ _ (same_upd nw) upd_same⟩
  exact ⟨by rw [List.length_reverse]; exact hz, _, r.reverse, IsTup.new _ _⟩
/-- a list of a tuple's things, new -/
theorem cr_listT : CallR X (.type "list") (fun xs H Q => ∃ p ys, xs = [.ref p] ∧ SqT X.K H p ys ∧ ∀ l, H l = none → l ≠ sysModules → Q (.ref l) (upd H l (.lst ys))) := by
  intro pins s σ H xs us Q I r h
  obtain ⟨p, ys, rfl, hq, q⟩ := h
  obtain ⟨u, rfl, rx⟩ := vals1 r; cases rx
  obtain ⟨its, r', ⟨o, ho, hc, n, hd⟩, hz⟩ := I.tuple hq
  have hlen := r'.length
  exact call_list_seq p (.inr rfl) ho hc hd (fun h' c' kp e => ⟨.ref s.heap.objs.size, _, I.laid (t' := s.toks) kp (Nat.le_refl _) (show ObjOk X.prog X.w _ h' _ (.lst ys) from ⟨hz, its, c', r', e⟩), rfl, q _ (I.hok.fresh (Nat.le_refl _)) (Nat.ne_of_gt I.big)⟩) (by simp only [List.size_toArray]; omega)
end
section
variable {X : Cx}
/-- "x" * 41 -/
theorem op_x41 : OpR X (binaryOp .Mult) (fun x y H Q => x = .str "x" ∧ y = .int 41 ∧ ∀ z : Str, z.length = 41 → (∀ c ∈ z.cps.toList, c = 120) → Q (.str z) H) := by
  intro pins s σ H x y v u Q I rx ry h
  obtain ⟨rfl, rfl, q⟩ := h
  obtain ⟨t, rfl⟩ := rx
  obtain ⟨t2, rfl⟩ := ry
  refine PySem.P.mul_str (by decide) (fun _ _ => by decide +kernel) (fun _ _ => by decide +kernel) ⟨by decide +kernel, .str ⟨(List.replicate 41 ("x" : Str).cps).foldl (· ++ ·) #[]⟩, H, I.tok _, ⟨_, rfl⟩, q _ (by decide +kernel) (by decide +kernel)⟩
end
end Xtu
set_option Elab.async false
set_option linter.all false
set_option maxRecDepth 100000
set_option maxHeartbeats 8000000
set_option pp.maxSteps 400
set_option pp.deepTerms false
/-! A dict made of two sources, its keys numbers, texts or tuples of them. -/
namespace Xdc
open PySem PySem.Spec PyProof.Rows L2
/-- nothing goes wrong -/
abbrev no : Value → Shared → Prop := fun _ _ => False
/-- the two sources -/
abbrev two (t0 i0 t1 i1 : Expr) (c0 c1 : List Expr) : List Comprehension := [⟨t0, i0, c0, 0⟩, ⟨t1, i1, c1, 0⟩]
/-- the tests of one source -/
abbrev tst (cs : List Expr) (env : Env) : Sem Bool := forIn cs true fun c r => if r = true then do let z ← isTrue c env (eval c env); pure (ForInStep.yield z) else pure (ForInStep.yield r)
section
variable {kx vx t0 i0 t1 i1 : Expr} {c0 c1 : List Expr} {scope : Scope} {pos : Pos} {it : Value} {D : Addr} {env : Env}
theorem turn0 : compTurn (.DictComp kx vx (two t0 i0 t1 i1 c0 c1) scope pos) 0 it (.ref D) env = (do
      standAt i0.pos
      match ← pyNext it with
      | none => pure (.done .next)
      | some v => letOwnedTupleGo t0 it v; assign t0 env v; let mut z := true
                  for c in c0 do if z then z ← isTrue c env (eval c env)
                  if z then
                    let x ← eval i1 env
                    standAt i1.pos; let x ← foldedSetIterable i1 env x
                    let _ ← runOwn (.compStart (.DictComp kx vx (two t0 i0 t1 i1 c0 c1) scope pos) 1 (← holding [x] (pyIter x)) (.ref D) env) env
                  again (.compLoop (.DictComp kx vx (two t0 i0 t1 i1 c0 c1) scope pos) 0 it (.ref D) env)) := by rfl
theorem turn1 : compTurn (.DictComp kx vx (two t0 i0 t1 i1 c0 c1) scope pos) 1 it (.ref D) env = (do
      standAt i1.pos
      match ← pyNext it with
      | none => pure (.done .next)
      | some v => letOwnedTupleGo t1 it v; assign t1 env v; let mut z := true
                  for c in c1 do if z then z ← isTrue c env (eval c env)
                  if z then
                    (do let k ← eval kx env
                        let y ← holding [k] (eval vx env)
                        standAt { kx.pos with endLine := vx.pos.endLine, endCol := vx.pos.endCol }; holding [k, y] (dictSet D k y))
                  again (.compLoop (.DictComp kx vx (two t0 i0 t1 i1 c0 c1) scope pos) 1 it (.ref D) env)) := by rfl
variable {prog : Program} {w : World} {A : Around} {R : Result → Shared → Prop} {s : Shared}
/-- over the first source -/
theorem loop0 (hs : ∀ x, foldedSetIterable i1 env x = pure x) (G : Nat → Shared → Prop)
    (turn : ∀ n s, G n s → wpAny (model prog w) A (pyNext it) (fun r s1 => match r with
      | none => R (.ok .next) s1
      | some v => wpAny (model prog w) A (letOwnedTupleGo t0 it v) (fun _ s2 => wpAny (model prog w) A (assign t0 env v) (fun _ s3 => wpAny (model prog w) A (tst c0 env) (fun z s4 =>
          if z = true then wpAny (model prog w) A (eval i1 env) (fun x s5 => wpAny (model prog w) A (pyIter x) (fun j s6 =>
            codeAny (model prog w) A (.compStart (.DictComp kx vx (two t0 i0 t1 i1 c0 c1) scope pos) 1 j (.ref D) env) (fun r s7 => match r with
              | .ok _ => ∃ m, m < n ∧ G m s7
              | .error _ => False) s6) no s5) no s4 else ∃ m, m < n ∧ G m s4) no s3) no s2) no s1) no s)
    (n : Nat) (h : G n s) : codeAny (model prog w) A (.compLoop (.DictComp kx vx (two t0 i0 t1 i1 c0 c1) scope pos) 0 it (.ref D) env) R s := by
  refine codeAny_loop rfl G (fun n s hI => ?_) n h
  show wpAny _ A ((compTurn (.DictComp kx vx (two t0 i0 t1 i1 c0 c1) scope pos) 0 it (.ref D) env).onRaise (fun x => do noteFrame x env; theTreesLotGoes x)) _ _ s
  refine wpAny_noted ?_; rw [turn0]
  refine wpAny_bind (wpAny_standAt (wpAny_bind (thnF (turn n s hI) fun r s1 h1 => ?_)))
  cases r with
  | none => exact wpAny_pure h1
  | some v =>
    refine wpAny_bind (thnF h1 fun _ s2 h2 => ?_)
    refine wpAny_bind (thnF h2 fun _ s3 h3 => wpAny_bind (thnF h3 fun z s4 h4 => ?_))
    cases z with
    | false => exact wpAny_pure ⟨rfl, h4⟩
    | true =>
      refine wpAny_bind (thnF h4 fun x s5 h5 => wpAny_bind (wpAny_standAt (wpAny_bind (wpAny_of_eq (hs x) (wpAny_bind (wpAny_holding (thnF h5 fun j s6 h6 => ?_)))))))
      refine wpAny_bind (wpAny_runOwn ?_); rw [Around.mark_none]
      refine codeAny_mono h6 fun r s7 hr => ?_
      cases r with
      | error e => exact hr.elim
      | ok f => first | exact wpAny_pure ⟨rfl, hr⟩ | exact wpAny_bind (wpAny_pure (wpAny_pure ⟨rfl, hr⟩))
/-- over the second -/
theorem loop1 (G : Nat → Shared → Prop)
    (turn : ∀ n s, G n s → wpAny (model prog w) A (pyNext it) (fun r s1 => match r with
      | none => R (.ok .next) s1
      | some v => wpAny (model prog w) A (letOwnedTupleGo t1 it v) (fun _ s2 => wpAny (model prog w) A (assign t1 env v) (fun _ s3 => wpAny (model prog w) A (tst c1 env) (fun z s4 =>
          if z = true then wpAny (model prog w) A (eval kx env) (fun k s5 => wpAny (model prog w) A (eval vx env) (fun y s6 => wpAny (model prog w) A (dictSet D k y) (fun _ s7 => ∃ m, m < n ∧ G m s7) no s6) no s5) no s4
          else ∃ m, m < n ∧ G m s4) no s3) no s2) no s1) no s)
    (n : Nat) (h : G n s) : codeAny (model prog w) A (.compLoop (.DictComp kx vx (two t0 i0 t1 i1 c0 c1) scope pos) 1 it (.ref D) env) R s := by
  refine codeAny_loop rfl G (fun n s hI => ?_) n h
  show wpAny _ A ((compTurn (.DictComp kx vx (two t0 i0 t1 i1 c0 c1) scope pos) 1 it (.ref D) env).onRaise (fun x => do noteFrame x env; theTreesLotGoes x)) _ _ s
  refine wpAny_noted ?_; rw [turn1]
  refine wpAny_bind (wpAny_standAt (wpAny_bind (thnF (turn n s hI) fun r s1 h1 => ?_)))
  cases r with
  | none => exact wpAny_pure h1
  | some v =>
    refine wpAny_bind (thnF h1 fun _ s2 h2 => ?_)
    refine wpAny_bind (thnF h2 fun _ s3 h3 => wpAny_bind (thnF h3 fun z s4 h4 => ?_))
    cases z with
    | false => exact wpAny_pure ⟨rfl, h4⟩
    | true =>
      exact wpAny_bind (wpAny_bind (thnF h4 fun k s5 h5 => wpAny_bind (wpAny_holding (thnF h5 fun y s6 h6 => wpAny_bind (wpAny_standAt (wpAny_holding (thnF h6 fun _ s7 h7 => wpAny_pure ⟨rfl, h7⟩)))))))
/-- the second source's start -/
theorem start1 (h0 : codeAny (model prog w) A (.compLoop (.DictComp kx vx (two t0 i0 t1 i1 c0 c1) scope pos) 1 it (.ref D) env) R s)
    (h : wpAny (model prog w) A (pyIter it) (fun j s1 => codeAny (model prog w) A (.compLoop (.DictComp kx vx (two t0 i0 t1 i1 c0 c1) scope pos) 1 j (.ref D) env) R s1) (notedBy (model prog w) A env fun x s1 => R (.error x) s1) s) :
    codeAny (model prog w) A (.compStart (.DictComp kx vx (two t0 i0 t1 i1 c0 c1) scope pos) 1 it (.ref D) env) R s := by
  refine codeAny_of_tree ?_
  show wpAny _ _ ((compStart (.DictComp kx vx (two t0 i0 t1 i1 c0 c1) scope pos) 1 it (.ref D) env).onRaise (fun x => do noteFrame x env; standAt theWindowsPlace)) _ _ s
  refine wpAny_notedAt ?_; unfold compStart; show wpAny _ _ (ask >>= _) _ _ s
  refine wpAny_bind (wpAny_askSetting (wpAny_ite ?_))
  split
  · first | exact wpAny_bind (wpAny_pure (wpAny_pure (And.intro rfl h0))) | exact wpAny_pure (And.intro rfl h0)
  · first | exact wpAny_bind (wpAny_rule (wpAny_bind (wpAny_standAt (wpAny_bind (thn h fun j s1 z => wpAny_pure (And.intro rfl z))))))
          | (refine wpAny_bind (wpAny_rule ?_); show wpAny _ _ (standAt i1.pos >>= _) _ _ s; exact wpAny_bind (wpAny_standAt (wpAny_bind (thn h fun j s1 z => wpAny_pure (And.intro rfl z)))))
end
/-- d[k] = v as a comprehension does it -/
theorem d_put {X : Cx} {pins : List (Addr × Obj)} {σ : L2.St} {H H' : Hp} {s : Shared} {E : Value → Shared → Prop} {D : Addr} {y z : V} {u r : Value} {Q : Unit → Shared → Prop} (hu : X.A.units < cLine) (I : Inv X pins σ H s) (g : DPut H D y z H') (ry : RelV y u) (rz : RelV z r)
    (h : ∀ s', Inv X pins σ H' s' → Q () s') : wpAny (model X.prog X.w) X.A (dictSet D u r) Q E s := by
  rcases g with ⟨kvs, k, e, ey, l, eH⟩ | ⟨kvs, k, b, e, ey, eb, l, eH⟩
  · subst ey eH
    exact d_dictSet I e l ry rz h
  · subst ey eH
    cases (show u = Value.ref b from ry)
    obtain ⟨z1, hd, xs, rel, dd⟩ := dt_of I.hok e
    have pl := length_putK kvs k z
    refine wpAny_dictSet_heap (hsz := by rw [← Paired.length rel]; exact z1) hu (key_of I.hok eb) dd fun h' dd' hs => h _ ?_
    obtain ⟨q, es, ep, hq, h2, h3, h4, _, h5⟩ := dd'
    refine d_write I (by rw [e]; exact True.intro) hs ⟨q, hq⟩ ⟨by omega, hd, _, (rel.put k eb rz).keeps fun c ys ec => ?_, q, es, ep, hq, h2, h3, h4, h5⟩
    rw [upd_ne (ne_of ec e (fun z => nomatch z))]; exact ec
/-- a source's turns, whatever is done with each thing -/
theorem goes {J : It} {n : Nat} {G : Hp → Prop} {Y : Nat → Hp → V → Hp → Prop} (w : Walk J n G Y) {g : TG} {tt : TT} {B : (Hp → Prop) → L2.St → Hp → Prop} {vs : List Nat} {σ : L2.St} {H0 : Hp} {R : Hp → Prop} (Pv : Nat → Hp → Prop) (h0 : Pv 0 H0) (hG : ∀ i H, i ≤ n → Pv i H → G H)
    (hs : ∀ i x H H', i < n → Pv i H → Y i H x H' → g x (wipe σ vs) H' fun σ2 H2 => wipe σ2 vs = wipe σ vs ∧ tt σ2 H2 fun b H3 => if b = true then B (Pv (i + 1)) σ2 H3 else Pv (i + 1) H3) (hd : ∀ H, Pv n H → R H) :
    ∃ W : Nat → Nat → Hp → Prop, (∃ m, W 0 m H0) ∧ ∀ i m H, W i m H → (J.stop i H ∧ R H) ∨ (J.go i H ∧ ∃ N : Hp → Prop, (∀ H', N H' → ∃ m', m' < m ∧ W (i + 1) m' H') ∧
      ∀ x H', J.yld i H x H' → g x (wipe σ vs) H' fun σ2 H2 => wipe σ2 vs = wipe σ vs ∧ tt σ2 H2 fun b H3 => if b = true then B N σ2 H3 else N H3) := by
  refine ⟨fun i m H => m = n - i ∧ i ≤ n ∧ Pv i H, ⟨n, by simp, Nat.zero_le _, h0⟩, fun i m H ⟨e, hi, p⟩ => ?_⟩
  subst e
  by_cases lt : i < n
  · exact .inr ⟨w.goes i H lt (hG i H hi p), Pv (i + 1), fun H' p' => ⟨n - (i + 1), by omega, rfl, lt, p'⟩, fun x H' y => hs i x H H' lt p (w.yields i H x H' lt (hG i H hi p) y)⟩
  · obtain rfl : i = n := by omega
    exact .inl ⟨w.stops H (hG i H hi p), hd H p⟩
section
variable {X : Cx}
/-- {k: y for t0 in i0 if .. for t1 in i1 if ..}; o: the new dict, of no keys yet; vs the block's names, us those of the second target -/
def tDc2 (o : HO) (wi : TI) (g : TG) (tt : TT) (wj : TI) (gj : TG) (tj : TT) (tk ty : TE) (vs us : List Nat) : TE := fun σ H Q => wi σ H fun J H1 => ∀ D, H1 D = none → ∃ W : Nat → Nat → Hp → Prop, (∃ m, W 0 m (upd H1 D o)) ∧ ∀ i m H, W i m H →
  (J.stop i H ∧ Q (.ref D) H) ∨ (J.go i H ∧ ∃ N : Hp → Prop, (∀ H', N H' → ∃ m', m' < m ∧ W (i + 1) m' H') ∧ ∀ x H', J.yld i H x H' → g x (wipe σ vs) H' fun σ2 H2 => wipe σ2 vs = wipe σ vs ∧ tt σ2 H2 fun b H3 =>
    if b = true then wj σ2 H3 fun L H4 => ∃ V : Nat → Nat → Hp → Prop, (∃ m, V 0 m H4) ∧ ∀ j k H, V j k H →
      (L.stop j H ∧ N H) ∨ (L.go j H ∧ ∃ M : Hp → Prop, (∀ H', M H' → ∃ k', k' < k ∧ V (j + 1) k' H') ∧ ∀ x H', L.yld j H x H' → gj x (wipe σ2 us) H' fun σ3 H5 => wipe σ3 us = wipe σ2 us ∧ tj σ3 H5 fun b H6 =>
        if b = true then tk σ3 H6 fun y H7 => ty σ3 H7 fun z H8 => ∃ H9, DPut H8 D y z H9 ∧ M H9 else M H6)
    else N H3)
variable {kx vx t0 i0 t1 i1 : Expr} {c0 c1 : List Expr} {scope : Scope} {own : List (Str × Nat)} {us : List Nat} {pos pos' : Pos} {wi wj : TI} {g gj : TG} {tt tj : TT} {tk ty : TE} {o : HO}
/-- the context of the block -/
abbrev Bk (X : Cx) (scope : Scope) (s : Shared) (H : Hp) (C : Addr) (cl : List (Str × Addr)) (fp : List Addr) : Cx := X.blk s H scope (compEnvC scope cl C X.env) fp
theorem dc2_core {pins : List (Addr × Obj)} {s : Shared} {σ : L2.St} {H : Hp} {Q : VK} {use : Option (Value → Sem Unit)} {Qf : Value → Shared → Prop} (ho : o = .dK [] ∨ o = .dT []) (hu : X.A.units < cLine)
    (hc : X.calm = true) (hN : X.N.Nodup) (I : Inv X pins σ H s) (hi : PI X t0 i0 wi) (ok : BlkOk X.N X.env.scope scope own) (hv : ∀ i ∈ us, i ∈ own.map (·.2))
    (hg : ∀ s H C cl fp, PG (Bk X scope s H C cl fp) t0 g) (ht : ∀ s H C cl fp, PTs (Bk X scope s H C cl fp) c0 tt)
    (hj : ∀ s H C cl fp, PI (Bk X scope s H C cl fp) t1 i1 wj) (hgj : ∀ s H C cl fp, PG (Bk X scope s H C cl fp) t1 gj) (htj : ∀ s H C cl fp, PTs (Bk X scope s H C cl fp) c1 tj)
    (hk : ∀ s H C cl fp, PE (Bk X scope s H C cl fp) kx tk) (hy : ∀ s H C cl fp, PE (Bk X scope s H C cl fp) vx ty)
    (hs : ∀ x, foldedSetIterable i0 X.env x = pure x) (hs1 : ∀ env x, foldedSetIterable i1 env x = pure x)
    (h : tDc2 o wi g tt wj gj tj tk ty (own.map (·.2)) us σ H Q)
    (fine : ∀ D C s' m H', Inv X pins σ H' s' → Q (.ref D) H' → s'.heap.Ns C m → FpOk X pins H' C → compPost (model X.prog X.w) X.A X.xe use Qf (.ref D) C (.ok .next) s') :
    wpAny (model X.prog X.w) X.A (comprehension (.DictComp kx vx (two t0 i0 t1 i1 c0 c1) scope pos) scope X.env pos' newDict false (eval i0 X.env) use) Qf X.xe s := by
  have free : ∀ y ∈ scope.names, y.2 = .free → ∃ c, X.env.cells.lookup y.1 = some c := fun y hy e => (ok.free y hy e).elim (fun k => I.ok.has _ (.inl k)) fun k => I.ok.has _ (.inr k)
  refine wpAny_comprehension_free (use := use) rfl hs (closure_ok free) ok.kind (fun y hy e => by rw [ok.uniq y hy, e]) (thn (hi.run pins s σ H _ I h) fun xv s1 hx => thn hx fun itv s2 h2 => ?_)
  obtain ⟨it, fp, tn, J, H2, e, I2, T, st2, f2, q⟩ := h2; subst e
  refine wpAny_newObj_type (newEnv_comp ?_)
  generalize hD : s2.heap.objs.size = D
  obtain ⟨W, ⟨m0, w0⟩, turn⟩ := q D (I2.hok.fresh (Nat.le_of_eq hD))
  -- the new dict
  generalize hs3 : ({ s2 with heap := s2.heap.push { cls := .type "dict", data := .dict #[] } } : Shared) = s3
  have I3 : Inv X pins σ (upd H2 D o) s3 := by
    rw [← hs3]
    refine I2.laid (t' := s2.toks) (fun b z e => Heap.get?_push_of_some _ e) (Nat.le_of_eq hD) ?_
    rw [← hD]
    rcases ho with rfl | rfl
    · exact dk_empty s2.heap I2.big
    · exact dt_empty s2.heap I2.big
  have h3 : s3.heap = s2.heap.push { cls := .type "dict", data := .dict #[] } := by rw [← hs3]
  have small : ∀ b ∈ fp, b < s2.heap.objs.size := fun b hb => let ⟨z, e, _⟩ := T.obj _ _ st2 b hb; Heap.lt_size e
  have f3 : ∀ b ∈ fp, FpOk X pins (upd H2 D o) b ∧ b < s3.heap.objs.size := fun b hb =>
    ⟨⟨by rw [upd_ne (by rw [← hD]; exact Nat.ne_of_lt (small b hb))]; exact (f2 b hb).1, (f2 b hb).2⟩, by rw [h3, Heap.size_push]; exact Nat.lt_succ_of_lt (small b hb)⟩
  have st3 : tn 0 s3.heap := T.keep _ _ _ st2 fun b _ z e => by rw [h3]; exact Heap.get?_push_of_some _ e
  have I4 := block_start I3 ok hN f3
  generalize hcl : cellsFrom (s3.heap.objs.size + 1) scope.names (cloFrom X.env.cells scope.names []) = cl at I4 ⊢
  have pg := hg s3 (upd H2 D o) s3.heap.objs.size cl fp; have pt := ht s3 (upd H2 D o) s3.heap.objs.size cl fp; have pk := hk s3 (upd H2 D o) s3.heap.objs.size cl fp; have py := hy s3 (upd H2 D o) s3.heap.objs.size cl fp
  have pj := hj s3 (upd H2 D o) s3.heap.objs.size cl fp; have pgj := hgj s3 (upd H2 D o) s3.heap.objs.size cl fp; have ptj := htj s3 (upd H2 D o) s3.heap.objs.size cl fp
  show codeAny _ _ (.compStart (.DictComp kx vx (two t0 i0 t1 i1 c0 c1) scope pos) 0 (.ref it) (.ref D) (compEnvC scope cl s3.heap.objs.size X.env)) (compPost (model X.prog X.w) X.A X.xe use Qf (.ref D) s3.heap.objs.size) { s3 with heap := pushCells (s3.heap.push { cls := .type "dict", data := .dict #[] }) scope.names }
  have nfp : ∀ b ∈ fp, (upd H2 D o) b = none := fun b hb => (f3 b hb).1.1
  generalize hce : compEnvC scope cl s3.heap.objs.size X.env = ce at I4 ⊢
  have cL : ce.locals = s3.heap.objs.size := by subst hce; rfl
  unfold Bk at pg pt pk py pj pgj ptj
  rw [hce] at pg pt pk py pj pgj ptj
  generalize hH3 : upd H2 D o = H3 at I3 I4 pg pt pk py pj pgj ptj w0 nfp f3
  generalize hs4 : ({ s3 with heap := pushCells (s3.heap.push { cls := .type "dict", data := .dict #[] }) scope.names } : Shared) = s4 at I4 ⊢
  have st4 : tn 0 s4.heap := T.keep _ _ _ st3 fun b _ z e => by rw [← hs4]; exact pushCells_keeps _ _ _ _ (Heap.get?_push_of_some _ e)
  generalize hY : X.blk s3 H3 scope ce fp = Y at I4 pg pt pk py pj pgj ptj
  have yc : Y.calm = true := by subst hY; exact hc
  have stat : ∀ {σ' : L2.St} {H' : Hp} {s' : Shared}, Inv Y [] σ' H' s' → (∀ b ∈ fp, H' b = none) → ∀ b ∈ fp, FpOk Y [] H' b := by
    subst hY
    exact fun {σ' H' s'} I' hn b hb => ⟨hn b hb, (I'.ok.exf b hb).1, I'.ok.exfs b hb, .inl hb, fun x c e => (I'.ok.exf b hb).2 x c e, fun p hp => absurd (show p ∈ ([] : List (Addr × Obj)) ++ [] from hp) (by simp)⟩
  -- a turn's ends, of whichever source
  have same : ∀ {P : List (Addr × Obj)} {ch : List Addr} {hp : Heap} {σ' : L2.St} {H' : Hp} {s' : Shared}, Inv Y (P ++ pinsAt ch hp) σ' H' s' → ∀ b ∈ ch, ∀ z, hp.get? b = some z → s'.heap.get? b = some z ∧ H' b = none := by
    subst hY
    exact fun {P ch hp σ' H' s'} I' b hb z e => let q := I'.pin (b, z) (List.mem_append_right _ (List.mem_append_right _ (mem_pinsAt hb e))); ⟨q.1, q.2.1⟩
  have loop : codeAny (model X.prog X.w) X.A (.compLoop (.DictComp kx vx (two t0 i0 t1 i1 c0 c1) scope pos) 0 (.ref it) (.ref D) ce) (compPost (model X.prog X.w) X.A X.xe use Qf (.ref D) s3.heap.objs.size) s4 := by
    refine loop0 (hs1 ce) (fun n s' => ∃ i H', Inv Y [] (wipe σ (own.map (·.2))) H' s' ∧ tn i s'.heap ∧ (∀ b ∈ fp, H' b = none) ∧ W i n H') ?_ m0 ⟨0, H3, I4, st4, nfp, w0⟩
    rintro n s5 ⟨i, H5, I5, st5, n5, w5⟩
    rcases turn i n H5 w5 with ⟨stop, qq⟩ | ⟨go, N, hNx, step⟩
    · have td := T.done Y (by subst hY; rfl) (by subst hY; rfl) (by subst hY; rfl) yc i [] s5 _ H5 no I5 (stat I5 n5) st5 stop
      subst hY
      refine thnF td fun r s6 ⟨hr, I6⟩ => ?_
      subst hr
      have nC : H5 s3.heap.objs.size = none := by have z : H5 ce.locals = none := I6.free; rwa [cL] at z
      obtain ⟨m, hn, _⟩ := I6.loc
      have hn : s6.heap.Ns ce.locals m := hn
      rw [cL] at hn
      exact fine D s3.heap.objs.size s6 m H5 (I3.call' (ch := fp) I6.os I6.base I6.hok I6.bare fun b hb => ⟨(f3 b hb).1.2.2.2.1, (f3 b hb).1.2.1, (f3 b hb).1.2.2.2.2.1, (f3 b hb).1.2.2.2.2.2⟩) qq hn (I3.fpOk (Nat.le_refl _) nC)
    · have ti := T.item Y (by subst hY; rfl) (by subst hY; rfl) (by subst hY; rfl) yc i [] s5 _ H5 no I5 (stat I5 n5) st5 go
      subst hY
      refine thnF ti fun r s6 ⟨u, hr, h6⟩ => ?_
      subst hr
      refine thnF h6 fun _ s7 ⟨x, H7, I7, r7, y7, st7, n7⟩ => thnF (pg.run _ s7 _ H7 x u _ (I7.pinned (stat I7 n7) (T.obj _ _ st7)) r7 (step x H7 y7)) fun _ s8 ⟨σ8, H8, I8, hw8, q8⟩ => thnF (pt.run _ s8 σ8 H8 _ I8 q8) fun b s9 ⟨H9, I9, q9⟩ => ?_
      -- this turn's end
      have fin : ∀ {σ' : L2.St} {s' : Shared} {H' : Hp}, Inv (X.blk s3 H3 scope ce fp) ([] ++ pinsAt fp s7.heap) σ' H' s' → (wipe σ (own.map (·.2))).length = σ'.length → (∀ (j : Nat) v, (wipe σ (own.map (·.2)))[j]? = some (some v) → σ'[j]? = some (some v)) → N H' →
          ∃ m, m < n ∧ ∃ i H', Inv (X.blk s3 H3 scope ce fp) [] (wipe σ (own.map (·.2))) H' s' ∧ tn i s'.heap ∧ (∀ b ∈ fp, H' b = none) ∧ W i m H' := fun {σ' s' H'} I' hl hk nx => by
        obtain ⟨m', hm, w'⟩ := hNx H' nx
        exact ⟨m', hm, i + 1, H', (I'.unpinned (pins := [])).weak hl hk, T.keep _ _ _ st7 fun b hb z e => (same I' b hb z e).1, fun b hb => let ⟨z, e, _⟩ := T.obj _ _ st7 b hb; (same I' b hb z e).2, w'⟩
      have hl8 : (wipe σ (own.map (·.2))).length = σ8.length := by rw [← hw8, wipe_length]
      have hk8 : ∀ (j : Nat) v, (wipe σ (own.map (·.2)))[j]? = some (some v) → σ8[j]? = some (some v) := fun j v e => by rw [← hw8] at e; exact (wipe_some e).1
      have hk9 : ∀ (j : Nat) v, (wipe σ (own.map (·.2)))[j]? = some (some v) → (wipe σ8 us)[j]? = some (some v) := fun j v e => by
        rw [← hw8] at e
        rw [wipe_out fun z => (wipe_some e).2 (hv j z)]; exact (wipe_some e).1
      cases b with
      | false =>
        simp only [Bool.false_eq_true, if_false] at q9 ⊢; exact fin I9 hl8 hk8 q9
      | true =>
        simp only [if_true] at q9 ⊢
        refine thnF (pj.run _ s9 σ8 H9 _ I9 q9) fun xv s10 hx => thnF hx fun itv s11 h11 => ?_
        obtain ⟨jt, gp, tm, L, H11, e1, I11, T1, st11, f11, V, ⟨m1, w1⟩, turn1⟩ := h11; subst e1
        -- the inner loop
        have stat1 : ∀ {H' : Hp}, (∀ b ∈ gp, H' b = none) → ∀ b ∈ gp, FpOk (X.blk s3 H3 scope ce fp) ([] ++ pinsAt fp s7.heap) H' b := fun hn b hb => ⟨hn b hb, (f11 b hb).2⟩
        have inner : codeAny (model X.prog X.w) X.A (.compLoop (.DictComp kx vx (two t0 i0 t1 i1 c0 c1) scope pos) 1 (.ref jt) (.ref D) ce) (fun r s' => match r with
              | .ok _ => ∃ m, m < n ∧ ∃ i H', Inv (X.blk s3 H3 scope ce fp) [] (wipe σ (own.map (·.2))) H' s' ∧ tn i s'.heap ∧ (∀ b ∈ fp, H' b = none) ∧ W i m H'
              | .error _ => False) s11 := by
          refine loop1 (fun k s' => ∃ j H', Inv (X.blk s3 H3 scope ce fp) ([] ++ pinsAt fp s7.heap) (wipe σ8 us) H' s' ∧ tm j s'.heap ∧ (∀ b ∈ gp, H' b = none) ∧ V j k H') ?_ m1 ⟨0, H11, I11.weak (wipe_length _ _) (fun j v e => (wipe_some e).1), st11, fun b hb => (f11 b hb).1, w1⟩
          rintro k s12 ⟨j, H12, I12, st12, n12, w12⟩
          rcases turn1 j k H12 w12 with ⟨stop1, nx1⟩ | ⟨go1, M, hM, step1⟩
          · refine thnF (T1.done (X.blk s3 H3 scope ce fp) rfl rfl rfl hc j _ s12 (wipe σ8 us) H12 no I12 (stat1 n12) st12 stop1) fun r s13 ⟨hr, I13⟩ => ?_
            subst hr; exact fin I13 (hl8.trans (wipe_length σ8 us).symm) hk9 nx1
          · refine thnF (T1.item (X.blk s3 H3 scope ce fp) rfl rfl rfl hc j _ s12 (wipe σ8 us) H12 no I12 (stat1 n12) st12 go1) fun r s13 ⟨u1, hr, h13⟩ => ?_
            subst hr
            refine thnF h13 fun _ s14 ⟨x1, H14, I14, r14, y14, st14, n14⟩ => thnF (pgj.run _ s14 (wipe σ8 us) H14 x1 u1 _ (I14.pinned (stat1 n14) (T1.obj _ _ st14)) r14 (step1 x1 H14 y14)) fun _ s15 ⟨σ15, H15, I15, hw15, q15⟩ => thnF (ptj.run _ s15 σ15 H15 _ I15 q15) fun b1 s16 ⟨H16, I16, q16⟩ => ?_
            have fin1 : ∀ {s' : Shared} {H' : Hp}, Inv (X.blk s3 H3 scope ce fp) (([] ++ pinsAt fp s7.heap) ++ pinsAt gp s14.heap) σ15 H' s' → M H' → ∃ m, m < k ∧ ∃ j H', Inv (X.blk s3 H3 scope ce fp) ([] ++ pinsAt fp s7.heap) (wipe σ8 us) H' s' ∧ tm j s'.heap ∧ (∀ b ∈ gp, H' b = none) ∧ V j m H' := fun {s' H'} I' nx => by
              obtain ⟨m', hm, w'⟩ := hM H' nx
              exact ⟨m', hm, j + 1, H', I'.unpinned.weak (by rw [← hw15, wipe_length]) (fun j v e => by rw [← hw15] at e; exact (wipe_some e).1), T1.keep _ _ _ st14 fun b hb z e => (same I' b hb z e).1, fun b hb => let ⟨z, e, _⟩ := T1.obj _ _ st14 b hb; (same I' b hb z e).2, w'⟩
            cases b1 with
            | false =>
              simp only [Bool.false_eq_true, if_false] at q16 ⊢; exact fin1 I16 q16
            | true =>
              simp only [if_true] at q16 ⊢
              refine thnF (pk.run _ s16 σ15 H16 _ I16 q16) fun z s17 ⟨yv, H17, I17, r17, q17⟩ => thnF (py.run _ s17 σ15 H17 _ I17 q17) fun z2 s18 ⟨yv2, H18, I18, r18, H19, put, nx⟩ => ?_
              exact d_put (X := X.blk s3 H3 scope ce fp) hu I18 put r17 r18 fun s19 I19 => fin1 I19 nx
        exact start1 inner (T1.self X.A 0 _ _ _ st11 inner)
  exact codeAny_compStart_dict loop (T.self X.A 0 _ _ _ st4 loop)
/-- as a value -/
theorem pe_dc2 (o : HO) (ho : o = .dK [] ∨ o = .dT []) (hu : X.A.units < cLine) (hc : X.calm = true) (hN : X.N.Nodup) (hi : PI X t0 i0 wi) (ok : BlkOk X.N X.env.scope scope own) (hv : ∀ i ∈ us, i ∈ own.map (·.2))
    (hg : ∀ s H C cl fp, PG (Bk X scope s H C cl fp) t0 g) (ht : ∀ s H C cl fp, PTs (Bk X scope s H C cl fp) c0 tt)
    (hj : ∀ s H C cl fp, PI (Bk X scope s H C cl fp) t1 i1 wj) (hgj : ∀ s H C cl fp, PG (Bk X scope s H C cl fp) t1 gj) (htj : ∀ s H C cl fp, PTs (Bk X scope s H C cl fp) c1 tj)
    (hk : ∀ s H C cl fp, PE (Bk X scope s H C cl fp) kx tk) (hy : ∀ s H C cl fp, PE (Bk X scope s H C cl fp) vx ty)
    (hs : ∀ x, foldedSetIterable i0 X.env x = pure x := by intro _; rfl) (hs1 : ∀ env x, foldedSetIterable i1 env x = pure x := by intro _ _; rfl) :
    PE X (.DictComp kx vx [⟨t0, i0, c0, 0⟩, ⟨t1, i1, c1, 0⟩] scope pos) (tDc2 o wi g tt wj gj tj tk ty (own.map (·.2)) us) := by
  refine ⟨fun pins s σ H Q I h => ?_⟩; rw [arm_eval_DictComp]
  refine dc2_core ho hu hc hN I hi ok hv hg ht hj hgj htj hk hy hs hs1 h fun D C s' m H' I' q hn f => ⟨m, hn, fun h'' sb => ?_⟩
  obtain ⟨f0, f1, f2, f3, f4, f5⟩ := f
  exact ⟨.ref D, H', I'.turned (t' := s'.toks) (fun b z hb e => (sb.2 b hb).trans e) f0 f1 f3 f4 f5, rfl, q⟩
end
end Xdc
set_option Elab.async false
set_option linter.all false
set_option maxRecDepth 100000
set_option maxHeartbeats 4000000
set_option pp.maxSteps 400
/-! a dict comprehension with one for, keys numbers, texts or tuples -/
namespace Xd1
open PySem PySem.Spec PyProof.Rows L2 Xdc
section
variable {X : Cx}
/-- {k: y for t0 in i0 if ..}; o: the new dict, of no keys yet; vs the block's names -/
def tDc1 (o : HO) (wi : TI) (g : TG) (tt : TT) (tk ty : TE) (vs : List Nat) : TE := fun σ H Q => wi σ H fun J H1 => ∀ D, H1 D = none → ∃ W : Nat → Nat → Hp → Prop, (∃ m, W 0 m (upd H1 D o)) ∧ ∀ i m H, W i m H →
  (J.stop i H ∧ Q (.ref D) H) ∨ (J.go i H ∧ ∃ N : Hp → Prop, (∀ H', N H' → ∃ m', m' < m ∧ W (i + 1) m' H') ∧ ∀ x H', J.yld i H x H' → g x (wipe σ vs) H' fun σ2 H2 => wipe σ2 vs = wipe σ vs ∧ tt σ2 H2 fun b H3 =>
    if b = true then tk σ2 H3 fun y H7 => ty σ2 H7 fun z H8 => ∃ H9, DPut H8 D y z H9 ∧ N H9 else N H3)
variable {kx vx t0 i0 : Expr} {c0 : List Expr} {scope : Scope} {own : List (Str × Nat)} {pos pos' : Pos} {wi : TI} {g : TG} {tt : TT} {tk ty : TE} {o : HO}
theorem dc1_core {pins : List (Addr × Obj)} {s : Shared} {σ : L2.St} {H : Hp} {Q : VK} {use : Option (Value → Sem Unit)} {Qf : Value → Shared → Prop} (ho : o = .dK [] ∨ o = .dT []) (hu : X.A.units < cLine)
    (hc : X.calm = true) (hN : X.N.Nodup) (I : Inv X pins σ H s) (hi : PI X t0 i0 wi) (ok : BlkOk X.N X.env.scope scope own)
    (hg : ∀ s H C cl fp, PG (Bk X scope s H C cl fp) t0 g) (ht : ∀ s H C cl fp, PTs (Bk X scope s H C cl fp) c0 tt)
    (hk : ∀ s H C cl fp, PE (Bk X scope s H C cl fp) kx tk) (hy : ∀ s H C cl fp, PE (Bk X scope s H C cl fp) vx ty)
    (hs : ∀ x, foldedSetIterable i0 X.env x = pure x)
    (h : tDc1 o wi g tt tk ty (own.map (·.2)) σ H Q)
    (fine : ∀ D C s' m H', Inv X pins σ H' s' → Q (.ref D) H' → s'.heap.Ns C m → FpOk X pins H' C → compPost (model X.prog X.w) X.A X.xe use Qf (.ref D) C (.ok .next) s') :
    wpAny (model X.prog X.w) X.A (comprehension (.DictComp kx vx [⟨t0, i0, c0, 0⟩] scope pos) scope X.env pos' newDict false (eval i0 X.env) use) Qf X.xe s := by
  have free : ∀ y ∈ scope.names, y.2 = .free → ∃ c, X.env.cells.lookup y.1 = some c := fun y hy e => (ok.free y hy e).elim (fun k => I.ok.has _ (.inl k)) fun k => I.ok.has _ (.inr k)
  refine wpAny_comprehension_free (use := use) rfl hs (closure_ok free) ok.kind (fun y hy e => by rw [ok.uniq y hy, e]) (thn (hi.run pins s σ H _ I h) fun xv s1 hx => thn hx fun itv s2 h2 => ?_)
  obtain ⟨it, fp, tn, J, H2, e, I2, T, st2, f2, q⟩ := h2; subst e
  refine wpAny_newObj_type (newEnv_comp ?_)
  generalize hD : s2.heap.objs.size = D
  obtain ⟨W, ⟨m0, w0⟩, turn⟩ := q D (I2.hok.fresh (Nat.le_of_eq hD))
  -- the new dict
  generalize hs3 : ({ s2 with heap := s2.heap.push { cls := .type "dict", data := .dict #[] } } : Shared) = s3
  have I3 : Inv X pins σ (upd H2 D o) s3 := by
    rw [← hs3]
    refine I2.laid (t' := s2.toks) (fun b z e => Heap.get?_push_of_some _ e) (Nat.le_of_eq hD) ?_
    rw [← hD]
    rcases ho with rfl | rfl
    · exact dk_empty s2.heap I2.big
    · exact dt_empty s2.heap I2.big
  have h3 : s3.heap = s2.heap.push { cls := .type "dict", data := .dict #[] } := by rw [← hs3]
  have small : ∀ b ∈ fp, b < s2.heap.objs.size := fun b hb => let ⟨z, e, _⟩ := T.obj _ _ st2 b hb; Heap.lt_size e
  have f3 : ∀ b ∈ fp, FpOk X pins (upd H2 D o) b ∧ b < s3.heap.objs.size := fun b hb =>
    ⟨⟨by rw [upd_ne (by rw [← hD]; exact Nat.ne_of_lt (small b hb))]; exact (f2 b hb).1, (f2 b hb).2⟩, by rw [h3, Heap.size_push]; exact Nat.lt_succ_of_lt (small b hb)⟩
  have st3 : tn 0 s3.heap := T.keep _ _ _ st2 fun b _ z e => by rw [h3]; exact Heap.get?_push_of_some _ e
  have I4 := block_start I3 ok hN f3
  generalize hcl : cellsFrom (s3.heap.objs.size + 1) scope.names (cloFrom X.env.cells scope.names []) = cl at I4 ⊢
  have pg := hg s3 (upd H2 D o) s3.heap.objs.size cl fp; have pt := ht s3 (upd H2 D o) s3.heap.objs.size cl fp; have pk := hk s3 (upd H2 D o) s3.heap.objs.size cl fp; have py := hy s3 (upd H2 D o) s3.heap.objs.size cl fp
  show codeAny _ _ (.compStart (.DictComp kx vx [⟨t0, i0, c0, 0⟩] scope pos) 0 (.ref it) (.ref D) (compEnvC scope cl s3.heap.objs.size X.env)) (compPost (model X.prog X.w) X.A X.xe use Qf (.ref D) s3.heap.objs.size) { s3 with heap := pushCells (s3.heap.push { cls := .type "dict", data := .dict #[] }) scope.names }
  have nfp : ∀ b ∈ fp, (upd H2 D o) b = none := fun b hb => (f3 b hb).1.1
  generalize hce : compEnvC scope cl s3.heap.objs.size X.env = ce at I4 ⊢
  have cL : ce.locals = s3.heap.objs.size := by subst hce; rfl
  unfold Bk at pg pt pk py
  rw [hce] at pg pt pk py
  generalize hH3 : upd H2 D o = H3 at I3 I4 pg pt pk py w0 nfp f3
  generalize hs4 : ({ s3 with heap := pushCells (s3.heap.push { cls := .type "dict", data := .dict #[] }) scope.names } : Shared) = s4 at I4 ⊢
  have st4 : tn 0 s4.heap := T.keep _ _ _ st3 fun b _ z e => by rw [← hs4]; exact pushCells_keeps _ _ _ _ (Heap.get?_push_of_some _ e)
  generalize hY : X.blk s3 H3 scope ce fp = Y at I4 pg pt pk py
  have yc : Y.calm = true := by subst hY; exact hc
  have stat : ∀ {σ' : L2.St} {H' : Hp} {s' : Shared}, Inv Y [] σ' H' s' → (∀ b ∈ fp, H' b = none) → ∀ b ∈ fp, FpOk Y [] H' b := by
    subst hY
    exact fun {σ' H' s'} I' hn b hb => ⟨hn b hb, (I'.ok.exf b hb).1, I'.ok.exfs b hb, .inl hb, fun x c e => (I'.ok.exf b hb).2 x c e, fun p hp => absurd (show p ∈ ([] : List (Addr × Obj)) ++ [] from hp) (by simp)⟩
  -- a turn's ends, of whichever source
  have same : ∀ {P : List (Addr × Obj)} {ch : List Addr} {hp : Heap} {σ' : L2.St} {H' : Hp} {s' : Shared}, Inv Y (P ++ pinsAt ch hp) σ' H' s' → ∀ b ∈ ch, ∀ z, hp.get? b = some z → s'.heap.get? b = some z ∧ H' b = none := by
    subst hY
    exact fun {P ch hp σ' H' s'} I' b hb z e => let q := I'.pin (b, z) (List.mem_append_right _ (List.mem_append_right _ (mem_pinsAt hb e))); ⟨q.1, q.2.1⟩
  have loop : codeAny (model X.prog X.w) X.A (.compLoop (.DictComp kx vx [⟨t0, i0, c0, 0⟩] scope pos) 0 (.ref it) (.ref D) ce) (compPost (model X.prog X.w) X.A X.xe use Qf (.ref D) s3.heap.objs.size) s4 := by
    refine compLoop_anyD (fun n s' => ∃ i H', Inv Y [] (wipe σ (own.map (·.2))) H' s' ∧ tn i s'.heap ∧ (∀ b ∈ fp, H' b = none) ∧ W i n H') ?_ m0 ⟨0, H3, I4, st4, nfp, w0⟩
    rintro n s5 ⟨i, H5, I5, st5, n5, w5⟩
    rcases turn i n H5 w5 with ⟨stop, qq⟩ | ⟨go, N, hNx, step⟩
    · have td := T.done Y (by subst hY; rfl) (by subst hY; rfl) (by subst hY; rfl) yc i [] s5 _ H5 no I5 (stat I5 n5) st5 stop
      subst hY
      refine thnF td fun r s6 ⟨hr, I6⟩ => ?_
      subst hr
      have nC : H5 s3.heap.objs.size = none := by have z : H5 ce.locals = none := I6.free; rwa [cL] at z
      obtain ⟨m, hn, _⟩ := I6.loc
      have hn : s6.heap.Ns ce.locals m := hn
      rw [cL] at hn
      exact fine D s3.heap.objs.size s6 m H5 (I3.call' (ch := fp) I6.os I6.base I6.hok I6.bare fun b hb => ⟨(f3 b hb).1.2.2.2.1, (f3 b hb).1.2.1, (f3 b hb).1.2.2.2.2.1, (f3 b hb).1.2.2.2.2.2⟩) qq hn (I3.fpOk (Nat.le_refl _) nC)
    · have ti := T.item Y (by subst hY; rfl) (by subst hY; rfl) (by subst hY; rfl) yc i [] s5 _ H5 no I5 (stat I5 n5) st5 go
      subst hY
      refine thnF ti fun r s6 ⟨u, hr, h6⟩ => ?_
      subst hr
      refine thnF h6 fun _ s7 ⟨x, H7, I7, r7, y7, st7, n7⟩ => thnF (pg.run _ s7 _ H7 x u _ (I7.pinned (stat I7 n7) (T.obj _ _ st7)) r7 (step x H7 y7)) fun _ s8 ⟨σ8, H8, I8, hw8, q8⟩ => thnF (pt.run _ s8 σ8 H8 _ I8 q8) fun b s9 ⟨H9, I9, q9⟩ => ?_
      -- this turn's end
      have fin : ∀ {σ' : L2.St} {s' : Shared} {H' : Hp}, Inv (X.blk s3 H3 scope ce fp) ([] ++ pinsAt fp s7.heap) σ' H' s' → (wipe σ (own.map (·.2))).length = σ'.length → (∀ (j : Nat) v, (wipe σ (own.map (·.2)))[j]? = some (some v) → σ'[j]? = some (some v)) → N H' →
          ∃ m, m < n ∧ ∃ i H', Inv (X.blk s3 H3 scope ce fp) [] (wipe σ (own.map (·.2))) H' s' ∧ tn i s'.heap ∧ (∀ b ∈ fp, H' b = none) ∧ W i m H' := fun {σ' s' H'} I' hl hk nx => by
        obtain ⟨m', hm, w'⟩ := hNx H' nx
        exact ⟨m', hm, i + 1, H', (I'.unpinned (pins := [])).weak hl hk, T.keep _ _ _ st7 fun b hb z e => (same I' b hb z e).1, fun b hb => let ⟨z, e, _⟩ := T.obj _ _ st7 b hb; (same I' b hb z e).2, w'⟩
      have hl8 : (wipe σ (own.map (·.2))).length = σ8.length := by rw [← hw8, wipe_length]
      have hk8 : ∀ (j : Nat) v, (wipe σ (own.map (·.2)))[j]? = some (some v) → σ8[j]? = some (some v) := fun j v e => by rw [← hw8] at e; exact (wipe_some e).1
      cases b with
      | false =>
        simp only [Bool.false_eq_true, if_false] at q9 ⊢; exact fin I9 hl8 hk8 q9
      | true =>
        simp only [if_true] at q9 ⊢
        refine thnF (pk.run _ s9 σ8 H9 _ I9 q9) fun z s10 ⟨yv, H10, I10, r10, q10⟩ => thnF (py.run _ s10 σ8 H10 _ I10 q10) fun z2 s11 ⟨yv2, H11, I11, r11, H12, put, nx⟩ => ?_
        exact d_put (X := X.blk s3 H3 scope ce fp) hu I11 put r10 r11 fun s12 I12 => fin I12 hl8 hk8 nx
  exact codeAny_compStart_dict loop (T.self X.A 0 _ _ _ st4 loop)
/-- as a value -/
theorem pe_dc1 (o : HO) (ho : o = .dK [] ∨ o = .dT []) (hu : X.A.units < cLine) (hc : X.calm = true) (hN : X.N.Nodup) (hi : PI X t0 i0 wi) (ok : BlkOk X.N X.env.scope scope own)
    (hg : ∀ s H C cl fp, PG (Bk X scope s H C cl fp) t0 g) (ht : ∀ s H C cl fp, PTs (Bk X scope s H C cl fp) c0 tt)
    (hk : ∀ s H C cl fp, PE (Bk X scope s H C cl fp) kx tk) (hy : ∀ s H C cl fp, PE (Bk X scope s H C cl fp) vx ty)
    (hs : ∀ x, foldedSetIterable i0 X.env x = pure x := by intro _; rfl) :
    PE X (.DictComp kx vx [⟨t0, i0, c0, 0⟩] scope pos) (tDc1 o wi g tt tk ty (own.map (·.2))) := by
  refine ⟨fun pins s σ H Q I h => ?_⟩; rw [arm_eval_DictComp]
  refine dc1_core ho hu hc hN I hi ok hg ht hk hy hs h fun D C s' m H' I' q hn f => ⟨m, hn, fun h'' sb => ?_⟩
  obtain ⟨f0, f1, f2, f3, f4, f5⟩ := f
  exact ⟨.ref D, H', I'.turned (t' := s'.toks) (fun b z hb e => (sb.2 b hb).trans e) f0 f1 f3 f4 f5, rfl, q⟩
/-- name = {..} on one line, the name a local -/
theorem ps_setDc1 {i : Nat} {y : Str} {py spos : Pos} (o : HO) (ho : o = .dK [] ∨ o = .dT []) (hu : X.A.units < cLine) (hc : X.calm = true) (hN : X.N.Nodup) (hy1 : X.N[i]? = some y) (hy2 : X.env.scope.names.lookup y = some .local)
    (hsw : swapsWith (.DictComp kx vx [⟨t0, i0, c0, 0⟩] scope pos) (some (.Name y py)) spos.line X.env = pure true) (hi : PI X t0 i0 wi) (ok : BlkOk X.N X.env.scope scope own)
    (hg : ∀ s H C cl fp, PG (Bk X scope s H C cl fp) t0 g) (ht : ∀ s H C cl fp, PTs (Bk X scope s H C cl fp) c0 tt)
    (hk : ∀ s H C cl fp, PE (Bk X scope s H C cl fp) kx tk) (hy : ∀ s H C cl fp, PE (Bk X scope s H C cl fp) vx ty)
    (hs : ∀ x, foldedSetIterable i0 X.env x = pure x := by intro _; rfl) :
    PS X (.Assign [.Name y py] (.DictComp kx vx [⟨t0, i0, c0, 0⟩] scope pos) spos) (tAsg (tDc1 o wi g tt tk ty (own.map (·.2))) (gName i)) := by
  refine ⟨fun pins s σ H B I h => ?_⟩; rw [exec_Assign_Name_used _ _ _ _ hsw]
  have h : tDc1 o wi g tt tk ty (own.map (·.2)) σ H (fun x H1 => gName i x σ H1 B.nx) := h
  refine wpAny_bind (wpAny_standAt (wpAny_bind (?_ : wpAny _ X.A (do let _ ← comprehension (.DictComp kx vx [⟨t0, i0, c0, 0⟩] scope pos) scope X.env (firstIterPos [⟨t0, i0, c0, 0⟩] pos) newDict false (eval i0 X.env) (some (assign (.Name y py) X.env))) _ _ s)))
  refine wpAny_bind (thn (dc1_core (Qf := fun _ s' => SP X pins B .next s') ho hu hc hN I hi ok hg ht hk hy hs h fun L C s' m H' I' q hn f => (?_ : wpAny _ _ (assign (.Name y py) X.env (.ref L)) _ _ _)) fun _ s' hq => wpAny_pure (wpAny_pure hq))
  refine wpAny_assign_Name (store_ok2 (v := V.ref L) I' hN hy1 (.inl hy2) rfl (fun s2 I2 ⟨a, sb, ha⟩ => ?_) (.inr hy2))
  obtain ⟨g0, g1, g2, g3, g4, g5⟩ := f
  have na : C ≠ a := ha.elim (fun z => by rw [z]; exact g1) fun z e => g4 y a z e.symm
  exact ⟨m, hn.sameBut sb na, fun h3 sb3 => ⟨_, H', I2.turned (t' := s2.toks) (fun b z hb e => (sb3.2 b hb).trans e) g0 g1 g3 g4 g5, q⟩⟩
theorem sw_dc {gs : List Comprehension} {py : Pos} {y : Str} {l : Nat} {env : Env} (hk : env.scope.kind = .function) (hy : env.scope.names.lookup y = some .local) (hl : (py.line == pos.line) = true)
    (ha : (scope.names.any fun (n, k) => n == y && (k == .local || k == .cell)) = false) : swapsWith (.DictComp kx vx gs scope pos) (some (.Name y py)) l env = pure true := by
  have k1 : env.kindOf y = some .local := hy
  have k2 : env.blockKind = .function := by unfold Env.blockKind; rw [hk]; rfl
  unfold swapsWith; simp only [k2, k1, ha, Expr.pos, hl]; rfl
/-- {k: v}, the key a number, a text or a tuple; o: the new dict, of no keys yet -/
def tDisp1 (o : HO) (tk tv : TE) : TE := fun σ H Q => ∀ p, H p = none → tk σ (upd H p o) fun x H1 => tv σ H1 fun y H2 => ∃ H3, DPut H2 p x y H3 ∧ Q (.ref p) H3
theorem pe_disp1 {k v : Expr} {tv : TE} (o : HO) (ho : o = .dK [] ∨ o = .dT []) (hu : X.A.units < cLine) (hk : PE X k tk) (hv : PE X v tv) : PE X (.Dict [some k] [v] pos) (tDisp1 o tk tv) := by
  refine ⟨fun pins s σ H Q I q => ?_⟩
  obtain ⟨p, hp⟩ : ∃ p, p = s.heap.objs.size := ⟨_, rfl⟩
  have I1 : Inv X pins σ (upd H p o) { s with heap := s.heap.push { cls := .type "dict", data := .dict #[] } } := by
    refine I.laid (t' := s.toks) (fun b z e => Heap.get?_push_of_some _ e) (Nat.le_of_eq hp.symm) ?_
    rw [hp]
    rcases ho with rfl | rfl
    · exact dk_empty s.heap I.big
    · exact dt_empty s.heap I.big
  let R : List (V × V) → Hp → Prop := fun ps H2 => match ps with
    | [(x, y)] => ∃ H3, DPut H2 p x y H3 ∧ Q (.ref p) H3
    | _ => False
  have h : tPairs [(tk, tv)] σ (upd H p o) R := q p (I.hok.fresh (Nat.le_of_eq hp.symm))
  have run := (pps_cons (pos := pos) hk hv pps_nil).run pins _ σ _ R I1 h
  subst hp
  refine wpAny_Dict_any (by simp) (by simp) (by simp) (by simp) (thn run fun ws s2 hx => ?_)
  obtain ⟨ps, H2, I2, rel, r⟩ := hx
  cases rel with
  | nil => exact False.elim r
  | cons rr t =>
    cases t with
    | cons _ _ => exact False.elim r
    | nil =>
      obtain ⟨H3, put, q3⟩ := r
      unfold storeAll
      rw [List.forIn_cons]
      refine wpAny_bind (wpAny_bind (d_put hu I2 put rr.1 rr.2 fun s3 I3 => wpAny_pure ?_))
      show wpAny _ _ (forIn [] _ _) _ _ _
      rw [List.forIn_nil]
      exact wpAny_pure ⟨.ref s.heap.objs.size, H3, I3, rfl, q3⟩
end
end Xd1
set_option Elab.async false
set_option linter.all false
set_option maxRecDepth 100000
set_option maxHeartbeats 4000000
set_option pp.maxSteps 400
set_option pp.deepTerms false
namespace Xt
open PySem PySem.Spec PyProof.Rows L2
open AutoSeq1 (wpAny_loadPart')
theorem meets_enumerate_newT (l : Addr) (items : Array Value) (n : Nat) (dct : Option Addr) (sl : Array (Option Value)) :
    Meets (Builtin.«enumerate.__new__» ⟨[.type "enumerate", .ref l], []⟩) (fun _ R s => s.heap.get? l = some { cls := .type "tuple", dict := dct, data := .seq items n, slots := sl } ∧
      R (.ok (.ret (.ref (s.heap.push { cls := .type "tuple_iterator", data := .fields #[.ref l, .int 0 0] }).objs.size)))
        { s with heap := (s.heap.push { cls := .type "tuple_iterator", data := .fields #[.ref l, .int 0 0] }).push { cls := .type "enumerate", data := .fields #[.none, .bool false, .ref s.heap.objs.size, rawInt 0, .none, .none] } }) :=
  .of_wp fun prog w A R s h => by
    obtain ⟨hp, g, d, tk, os⟩ := s; obtain ⟨hl, h⟩ := h
    have hsub := sub_enumerate
    have hL : Heap.IsTuple (Shared.heap ⟨hp, g, d, tk, os⟩) l items := ⟨_, hl, rfl, n, rfl⟩
    wp_walk using wpAny_loadPart' hl
    refine wpAny_stack_any fun st => wpAny_pure ?_
    split
    · rename_i c _ _ _ _ _
      cases (c == Value.type "enumerate")
      · wp_walk using wpAny_loadPart' hl, wpAny_pyIter_tuple hL
        exact ⟨_, rfl, h⟩
      · wp_walk using wpAny_loadPart' hl, wpAny_pyIter_tuple hL
        exact ⟨_, rfl, h⟩
    · wp_walk using wpAny_loadPart' hl, wpAny_pyIter_tuple hL
      exact ⟨_, rfl, h⟩
section
variable {prog : Program} {w : World} {A : Around} {E : Value → Shared → Prop} {s : Shared}
theorem call_enumerate_tuple {l : Addr} {items : Array Value} {Q : Value → Shared → Prop} (hL : s.heap.IsTuple l items)
    (h : ∀ h', IsEnum h' (s.heap.objs.size + 1) s.heap.objs.size 0 .none → h'.IsTupleIter s.heap.objs.size l 0 → h'.objs.size = s.heap.objs.size + 2 →
      (∀ b o, s.heap.get? b = some o → h'.get? b = some o) → Q (.ref (s.heap.objs.size + 1)) { s with heap := h' }) :
    wpAny (model prog w) A (call (.type "enumerate") [.ref l]) Q E s := by
  obtain ⟨⟨c, dct, dt, sl⟩, hl, hc, n, hd⟩ := hL
  replace hc : c = .type "tuple" := hc
  replace hd : dt = .seq items n := hd
  subst hc hd
  refine callType_new F.called_enumerate (by decide) (F.typeCall_enumerate_1 _) (F.newCall_enumerate_1 _) (fun obj => F.args_object_init_2 obj _) F.entry_enumerate_new
    (meets_enumerate_newT l items n dct sl) ⟨hl, ?_⟩
  have hz : (s.heap.push { cls := .type "tuple_iterator", data := .fields #[.ref l, .int 0 0] }).objs.size = s.heap.objs.size + 1 := Heap.size_push ..
  show _ ∧ _
  rw [hz]
  have he : IsEnum ((s.heap.push { cls := .type "tuple_iterator", data := .fields #[.ref l, .int 0 0] }).push
      { cls := .type "enumerate", data := .fields #[.none, .bool false, .ref s.heap.objs.size, rawInt 0, .none, .none] }) (s.heap.objs.size + 1) s.heap.objs.size 0 .none := by
    have := Heap.get?_push_size (s.heap.push { cls := .type "tuple_iterator", data := .fields #[.ref l, .int 0 0] })
      (o := { cls := .type "enumerate", data := .fields #[.none, .bool false, .ref s.heap.objs.size, rawInt 0, .none, .none] }) rfl
    rw [hz] at this; exact this
  refine ⟨⟨_, he, rfl⟩, h _ he ⟨_, Heap.get?_push_of_some _ (Heap.get?_push_size _ rfl), rfl, rfl⟩ (by rw [Heap.size_push, hz]) fun b o x => Heap.get?_push_of_some _ (Heap.get?_push_of_some _ x)⟩
end
/-- the tuple at a, each item in a new pair with its number -/
def IteT (K : PySem.W.Frag) (a : Addr) : It :=
  ⟨fun i H => ∃ (xs : List V) (x : V), SqT K H a xs ∧ xs[i]? = some x, fun i H v H' => ∃ T x, v = .ref T ∧ H T = none ∧ H' = upd H T (.tup [.int (i : Nat), x]) ∧ ∀ xs, SqT K H a xs → xs[i]? = some x, fun i H => ∃ xs : List V, SqT K H a xs ∧ xs.length = i⟩
theorem turn_enumT {P : Program} {w : World} {K : PySem.W.Frag} {elts : List Expr} {kk : Nat} {tpos : Pos} (a e it : Addr) (hae : a ≠ e) (hai : a ≠ it) :
    Turn P w K (.Tuple elts kk tpos) (IteT K a) [e, it] e (fun i h => (∃ old, IsEnum h e it ((i : Nat) : Int) old) ∧ h.IsTupleIter it a i ∧ e ≠ it) where
  mem := by simp
  obj := fun i h st b hb => by
    obtain ⟨⟨old, he⟩, ⟨o, ho, hc, hd⟩, _⟩ := st
    have e' : b = e ∨ b = it := by simpa using hb
    rcases e' with z | z
    · rw [z]; exact ⟨_, he, fun v q => nomatch q⟩
    · rw [z]; exact ⟨o, ho, fun v q => by rw [hd] at q; cases q⟩
  keep := fun i h h' st k => let ⟨⟨old, he⟩, hi, hne⟩ := st; ⟨⟨old, k e (by simp) _ he⟩, hi.at fun o q => k it (by simp) o q, hne⟩
  item := by
    intro X hP hw hK hc i pins s σ H E I hf st hg
    subst hP hw hK
    obtain ⟨⟨old, he⟩, hit, hne⟩ := st
    obtain ⟨xs, x, hq, hx⟩ := hg
    obtain ⟨its, rv, p, hz⟩ := I.tuple hq
    obtain ⟨u, hu, ru⟩ := rv.get hx
    have hel : e < s.heap.objs.size := Heap.lt_size he
    have hil : it < s.heap.objs.size := by obtain ⟨_, q, _⟩ := hit; exact Heap.lt_size q
    have hu' : its.toArray[i]? = some u := by simpa using hu
    have hi : i < its.toArray.size := by
      rcases Nat.lt_or_ge i its.toArray.size with h | h
      · exact h
      · rw [Array.getElem?_eq_none h] at hu'; cases hu'
    refine wpAny_pyNext_enum_itemD (Draws.tuple (A := X.A.in1) (I.ok.hd hc) it a hai its.toArray) he ⟨hit, p⟩ hi hne (by simp [Ne.symm hne]; exact ⟨hne, Ne.symm hae⟩) fun y h' tk hy ho hst' hT hsz hk => ?_
    obtain rfl : u = y := by rw [hu'] at hy; cases hy; rfl
    refine ⟨_, rfl, wpAny_letOwnedTupleGo_enum (s := { s with heap := h', toks := tk + 1 }) ho fun h'' he' sb => ?_⟩
    have hT2 : h''.get? s.heap.objs.size = some { cls := .type "tuple", data := .seq #[.int i tk, u] } := (sb.2 _ (Nat.ne_of_gt hel)).trans hT
    have new : ObjOk X.prog X.w (upd H s.heap.objs.size (.tup [.int (i : Nat), x])) h'' s.heap.objs.size (.tup [.int (i : Nat), x]) :=
      ⟨by show 2 ≤ sizeLine; decide, [.int i tk, u], .cons ⟨_, rfl⟩ (.cons ru .nil), ⟨_, hT2, rfl, _, rfl⟩⟩
    have I1 : Inv X pins σ (upd H s.heap.objs.size (.tup [.int (i : Nat), x])) { s with heap := h'', toks := tk + 1 } :=
      I.turnedNew (ch := [e, it]) (fun b ob hb q => (sb.2 b (fun z => hb (by simp [z]))).trans (hk b ob (fun z => hb (by simp [z])) (fun z => hb (by simp [z])) q)) hf (Nat.le_refl _) new
    refine ⟨.ref s.heap.objs.size, _, I1, rfl, ⟨_, x, rfl, I.hok.fresh (Nat.le_refl _), rfl, fun ys hy => by rw [I.tuple_inj hy hq]; exact hx⟩, ⟨⟨u, ?_⟩, hst'.1.at fun o q => (sb.2 it (Ne.symm hne)).trans q, hne⟩, fun b hb => ?_⟩
    · have e1 : ((i + 1 : Nat) : Int) = (i : Int) + 1 := by omega
      rw [e1]; exact he'
    · have hb' : b < s.heap.objs.size := by
        have e' : b = e ∨ b = it := by simpa using hb
        rcases e' with z | z
        · rw [z]; exact hel
        · rw [z]; exact hil
      rw [upd_ne (Nat.ne_of_lt hb')]
      exact (hf b hb).1
  done := by
    intro X hP hw hK hc i pins s σ H E I hf st hg
    subst hP hw hK
    obtain ⟨⟨old, he⟩, hit, hne⟩ := st
    obtain ⟨xs, hq, hx⟩ := hg
    obtain ⟨its, rv, p, hz⟩ := I.tuple hq
    obtain ⟨f0, f1, f2, f3, f4, f5⟩ := hf it (by simp)
    have hl := rv.length
    have en : its.toArray.size = i := by simp; omega
    exact wpAny_pyNext_enum_endD (Draws.tuple (A := X.A.in1) (I.ok.hd hc) it a hai its.toArray) he (by rw [en]; exact ⟨hit, p⟩) fun h' eb => ⟨rfl, I.turned (t' := s.toks) (fun b o hb q => eb b o hb q) f0 f1 f3 f4 f5⟩
  self := fun A i s Q E st h => let ⟨⟨_, he⟩, _⟩ := st; wpAny_pyIter_enum he h
def iEnumT (K : PySem.W.Frag) (ta : TA) : TI := fun σ H R => ta σ H fun vs H1 => ∃ a xs, vs = [.ref a] ∧ SqT K H1 a xs ∧ R (IteT K a) H1
theorem pi_enumT {X : Cx} {e : Expr} {ta : TA} {p pos tpos : Pos} {elts : List Expr} {kk : Nat} (hg : Gl X "enumerate") (hm : X.mg "enumerate" = none) (ha : PA X [e] ta) (hs : starEach [e] X.env = [(false, eval e X.env)] := by rfl) :
    PI X (.Tuple elts kk tpos) (.Call (.Name "enumerate" p) [e] [] pos) (iEnumT X.K ta) := by
  refine ⟨fun pins s σ H R I h => ?_⟩
  refine Call_ (ld_blt I hg hm boot_enumerate (PyProof.Rows.callWith_type1 (thn (ha.run pos pins s σ H _ I h) fun us s1 ⟨vs, H1, I1, r1, q1⟩ => ?_) hs rfl))
  obtain ⟨a, xs, ex, hq, q⟩ := q1
  subst ex
  cases r1 with
  | cons r rr =>
    cases rr
    cases r
    obtain ⟨its, rv, p', hz⟩ := I1.tuple hq
    have hal : a < s1.heap.objs.size := by obtain ⟨_, z, _⟩ := p'; exact Heap.lt_size z
    refine call_enumerate_tuple p' fun h' he hit hsz hk => wpAny_pyIter_enum he ?_
    have I2 : Inv X pins σ H1 { s1 with heap := h' } := I1.kept (t' := s1.toks) hk
    refine ⟨s1.heap.objs.size + 1, [s1.heap.objs.size + 1, s1.heap.objs.size], _, _, H1, rfl, I2, turn_enumT a (s1.heap.objs.size + 1) s1.heap.objs.size (Nat.ne_of_lt (Nat.lt_succ_of_lt hal)) (Nat.ne_of_lt hal), ⟨⟨.none, he⟩, hit, Nat.succ_ne_self _⟩, fun b hb => ?_, q⟩
    have e' : b = s1.heap.objs.size + 1 ∨ b = s1.heap.objs.size := by simpa using hb
    have hle : s1.heap.objs.size ≤ b := by
      rcases e' with z | z
      · rw [z]; exact Nat.le_add_right _ _
      · rw [z]; exact Nat.le_refl _
    exact I1.fpOk hle (I1.hok.fresh hle)
theorem walk_enumT {K : PySem.W.Frag} {a : Addr} {xs : List V} : Walk (IteT K a) xs.length (fun H => SqT K H a xs) (YPair (fun i => some (.int (i : Nat))) (fun i => xs[i]?)) := by
  refine ⟨fun i _ hi q => ⟨xs, xs[i], q, by simp [hi]⟩, fun _ q => ⟨xs, q, rfl⟩, fun i H v H' _ q y => ?_⟩
  obtain ⟨T, x, h1, h2, h3, h4⟩ := y
  exact ⟨T, .int (i : Nat), x, h1, h2, h3, rfl, h4 xs q⟩
end Xt
set_option Elab.async false
set_option linter.all false
set_option maxRecDepth 100000
set_option maxHeartbeats 4000000
set_option pp.maxSteps 400
set_option pp.deepTerms false
namespace Xt
open PySem PySem.Spec PyProof.Rows L2 Az PySem.W
/-- *e ahead of other items, e a tuple -/
def tStar (K : PySem.W.Frag) (ta : TE) (tr : TA) : TA := fun σ H Q => ta σ H fun x H1 => ∃ a xs, x = .ref a ∧ SqT K H1 a xs ∧ tr σ H1 fun ys H2 => Q (xs ++ ys) H2
theorem pa_star {X : Cx} {e : Expr} {es : List Expr} {te : TE} {t : TA} {p : Pos} (ha : PE X e te) (hr : PA X es t) : PA X (.Starred e p :: es) (tStar X.K te t) := by
  refine ⟨fun pos pins s σ H Q I h => ?_⟩
  refine items_star (thn (ha.run pins s σ H _ I h) fun u s1 ⟨x, H1, I1, r1, a, xs, ex, hq, q⟩ => ?_)
  subst ex
  obtain rfl : u = Value.ref a := r1
  refine star_tup I1 hq fun us s2 I2 rv => ?_
  exact thn (hr.run pos pins s2 σ H1 _ I2 q) fun ws s3 ⟨ys, H2, I3, r2, q2⟩ => ⟨xs ++ ys, H2, I3, rv.append r2, q2⟩
section
variable {prog : Program} {w : World} {A : Around} {E : Value → Shared → Prop} {s : Shared}
/-- min(a, b), compared where a heap stands -/
theorem call_min_twoH {a b : Value} {Q : Value → Shared → Prop}
    (h : wpAny (model prog w) A.in1 (pyIter (.ref s.heap.objs.size)) (fun it s₂ => ∃ I fp wr G n P St H bt, it = .ref I ∧ WalksS prog w A.in1 I fp wr G n P St ∧ St 0 s₂ ∧ (∀ b ∈ fp, b < s₂.heap.objs.size) ∧ 0 < n ∧
      (∀ b o, H.get? b = some o → b ∉ wr) ∧ (∀ b o, H.get? b = some o → s₂.heap.get? b = some o) ∧ CmpIn prog w A.in1 .Lt H P bt ∧ ∀ v s', P (argBest bt (n - 1)) v → Moved wr G s₂ s' → Q v s') E
      { s with heap := s.heap.push { cls := .type "tuple", data := .seq #[a, b] } }) :
    wpAny (model prog w) A (call (.builtin "min") [a, b]) Q E s := by
  have hname : (toString "min" ++ toString ".loop" : String) = "min.loop" := by decide
  refine call_function_tree F.kind_min F.plain_min F.entry_min (F.args_min2 _ _) ?_
  show wpAny _ A.in1 (Builtin.Builtins.bindParams "min" ["key", "default"] 0 ⟨[], []⟩ >>= _) _ _ s
  refine wpAny_bind (wpAny_of_eq (show Builtin.Builtins.bindParams "min" ["key", "default"] 0 ⟨[], []⟩ = pure [none, none] from rfl) ?_)
  show wpAny _ A.in1 (newTuple [a, b] >>= _) _ _ s
  refine wpAny_bind (wpAny_newObj_type ?_)
  refine wpAny_bind (wpAny_mono h (fun it s₂ h₂ => ?_) fun _ _ e => e)
  obtain ⟨I, fp, wr, G, n, P, St, H, bt, rfl, W, hst, hfp, hn, hw, hkeep, hcmp, hQ⟩ := h₂
  refine wpAny_bind (wpAny_newObj_type ?_)
  have hSf : s₂.heap.objs.size ∉ fp := fun hm => Nat.lt_irrefl _ (hfp _ hm)
  rw [hname]
  refine wpAny_pure ⟨plainId_quiet F.plain_min_loop _, codeAny_min_loop_firstH W H hw bt hcmp s₂.heap.objs.size hSf (fresh_in hkeep) _ hn (fun b o e => Heap.get?_push_of_some _ (hkeep b o e)) (W.frame 0 s₂ _ s₂.toks hst (Nat.le_refl _) fun b _ o e => Heap.get?_push_of_some _ e) (Heap.get?_push_size _ rfl) fun v s' hP hm => ?_⟩
  exact hQ v s' hP (Moved.drop_new (tk := s₂.toks) hm (Nat.le_refl _))
theorem min_two_data {a b : Value} {da db : PyData} {as bs : List Addr} {Q : Value → Shared → Prop} (hh : A.handled = none) (ra : Reads s.heap a da as) (rb : Reads s.heap b db bs) (ha : AlikeAll [da, db]) (hu : A.units + 1 + PyData.depthAll [da, db] < cLine)
    (h : ∀ h' tk, (∀ c o, s.heap.get? c = some o → h'.get? c = some o) → Q (if dataLt db da = true then b else a) { s with heap := h', toks := tk }) :
    wpAny (model prog w) A (call (.builtin "min") [a, b]) Q E s := by
  have hT : (s.heap.push { cls := .type "tuple", data := .seq #[a, b] }).IsTuple s.heap.objs.size #[a, b] := ⟨_, Heap.get?_push_size _ rfl, rfl, 0, rfl⟩
  have hr : ReadsAll s.heap (#[a, b] : Array Value).toList [da, db] (as ++ (bs ++ [])) := .cons ra (.cons rb .nil)
  have k0 : ∀ c o, s.heap.get? c = some o → (s.heap.push { cls := .type "tuple", data := .seq #[a, b] }).get? c = some o := fun c o e => Heap.get?_push_of_some _ e
  refine call_min_twoH (iter_tupleW (A := A.in1) (s := { s with heap := s.heap.push { cls := .type "tuple", data := .seq #[a, b] } }) hh hT fun s₂ e W st hfp hw hk => ?_)
  refine ⟨_, _, _, _, _, _, _, s.heap, _, rfl, W, st, hfp, (by simp), fun b o q => hw b o (k0 b o q), fun b o q => hk b o (k0 b o q), cmpIn_lt (A := A.in1) hr ha (by show A.units + 1 + _ < _; exact hu), fun v s' hP m => ?_⟩
  obtain ⟨h', tk, rfl, hk'⟩ := moved_old e rfl m
  have := h h' tk fun c o q => hk' c o (k0 c o q)
  have ev : v = if dataLt db da = true then b else a := by
    replace hP : (#[a, b] : Array Value)[argBest (fun i j => dataLt ([da, db].getD i .none) ([da, db].getD j .none)) 1]? = some v := hP
    cases c : dataLt db da with
    | true =>
      have e1 : argBest (fun i j => dataLt ([da, db].getD i .none) ([da, db].getD j .none)) 1 = 1 := by simp [argBest, c]
      rw [e1] at hP
      rw [if_pos rfl]
      exact (Option.some.inj hP).symm
    | false =>
      have e1 : argBest (fun i j => dataLt ([da, db].getD i .none) ([da, db].getD j .none)) 1 = 0 := by simp [argBest, c]
      rw [e1] at hP
      rw [if_neg Bool.false_ne_true]
      exact (Option.some.inj hP).symm
  rw [ev]
  exact this
end
/-- min(a, b) of two things that can be compared -/
def rMin2Z (K : PySem.W.Frag) : List V → Hp → VK → Prop := fun vs H Q => ∃ (a b : V) (da db : PyData), vs = [a, b] ∧ Dz K H a da ∧ Dz K H b db ∧ AlikeAll [da, db] ∧ PyData.depthAll [da, db] ≤ 50 ∧ Q (if dataLt db da = true then b else a) H
theorem cr_min2Z {X : Cx} {k : Nat} (hc : X.calm = true) (room : Room k X.A) : CallR X (.builtin "min") (rMin2Z X.K) := by
  intro pins s σ H vs us Q I r h
  obtain ⟨a, b, da, db, rfl, hda, hdb, al, dp, q⟩ := h
  cases r with
  | cons r1 rr =>
    cases rr with
    | cons r2 rr =>
      cases rr
      obtain ⟨as, ra, _⟩ := Dz.reads I _ _ _ hda r1
      obtain ⟨bs, rb, _⟩ := Dz.reads I _ _ _ hdb r2
      refine min_two_data (I.ok.hd hc) ra rb al (by have := room.units; omega) fun h' tk kk => ?_
      cases c : dataLt db da with
      | true => rw [c, if_pos rfl] at q; exact ⟨_, H, I.kept kk, r2, q⟩
      | false => rw [c, if_neg Bool.false_ne_true] at q; exact ⟨_, H, I.kept kk, r1, q⟩
/-- pairs of a number and a row of numbers -/
def pairD (p : Int × List Int) : PyData := .tuple [.int p.1, .tuple (p.2.map .int)]
def pairLt (p q : Int × List Int) : Bool := decide (p.1 < q.1 ∨ (p.1 = q.1 ∧ p.2 < q.2))
theorem alike_ints : ∀ xs ys : List Int, alikeAll (xs.map .int) (ys.map .int) = true
  | [], _ => by simp [alikeAll]
  | _ :: _, [] => by simp [alikeAll]
  | x :: xs, y :: ys => by simp [alikeAll, alike, alike_ints xs ys]
theorem alike_pairs (p q : Int × List Int) : AlikeAll [pairD p, pairD q] := by
  have al : ∀ p q : Int × List Int, alike (pairD p) (pairD q) = true := fun p q => by simp [pairD, alike, alikeAll, alike_ints]
  constructor
  · intro x hx y hy
    simp only [List.mem_cons, List.not_mem_nil, or_false] at hx hy
    rcases hx with rfl | rfl <;> rcases hy with rfl | rfl <;> exact al _ _
  · intro x hx
    simp only [List.mem_cons, List.not_mem_nil, or_false] at hx
    rcases hx with rfl | rfl <;> simp [pairD]
theorem eqv_ints : ∀ xs ys : List Int, PyData.eqvAll (xs.map .int) (ys.map .int) = decide (xs = ys)
  | [], [] => by simp [PyData.eqvAll]
  | [], _ :: _ => by simp [PyData.eqvAll]
  | _ :: _, [] => by simp [PyData.eqvAll]
  | x :: xs, y :: ys => by
    rw [List.map_cons, List.map_cons, PyData.eqvAll, eqv_ints xs ys]
    by_cases h1 : x = y <;> by_cases h2 : xs = ys <;> simp [PyData.eqv, h1, h2]
theorem lt_pairs (p q : Int × List Int) : dataLt (pairD p) (pairD q) = pairLt p q := by
  obtain ⟨a, xs⟩ := p
  obtain ⟨b, ys⟩ := q
  unfold pairD pairLt
  rw [dataLt_pair (by simp [alike]) (by simp [alike, alike_ints]), dataLt_int, dataLt_tuple]
  have e := dataLt_ints xs ys
  unfold rowLt at e
  rw [e]
  simp only [PyData.eqv, eqv_ints]
  by_cases h1 : a = b
  · subst h1
    by_cases h2 : xs = ys
    · subst h2
      simp [List.lt_irrefl]
    · simp [h2]
  · simp [h1]
theorem depth_ints : ∀ xs : List Int, PyData.depthAll (xs.map .int) = 0
  | [] => rfl
  | x :: xs => by
    rw [List.map_cons, PyData.depthAll, depth_ints xs]
    simp [PyData.depth]
theorem depth_pairs (p q : Int × List Int) : PyData.depthAll [pairD p, pairD q] ≤ 50 := by
  simp [pairD, PyData.depthAll, PyData.depth, depth_ints]
end Xt
set_option Elab.async false
set_option linter.all false
set_option maxRecDepth 100000
set_option maxHeartbeats 4000000
set_option pp.maxSteps 400
set_option pp.deepTerms false
/-! min(xs, key=lambda p: ..) in a def: the lambda is made anew each time, its code object once -/
namespace Xln
open PySem PySem.Spec PyProof.Rows L2 Az PySem.W LamX
/-- the names of a lambda of one parameter: the parameter, captured ones, globals -/
structure Lam1 (sc scope : Scope) (p : Str) : Prop where
  kind : scope.kind = .function
  co : scope.isCoroutine = false
  gen : scope.isGenerator = false
  par : scope.names.lookup p = some .local
  own : ∀ y ∈ scope.names, y.2 ≠ .cell ∧ (y.2 = .local → y.1 = p)
  free : ∀ y ∈ scope.names, y.2 = .free → sc.names.lookup y.1 = some .cell ∨ sc.names.lookup y.1 = some .free
/-- where the lambda's body stands -/
def lamX (X : Cx) (A : Around) (s : Shared) (H : Hp) (p : Str) (scope : Scope) (f c : Addr) : Cx :=
  { lamCx X A X.stack s H (fun _ _ _ => False) scope f c with N := p :: X.N, xe := fun _ _ => False }
section
variable {X : Cx} {pins : List (Addr × Obj)} {σ : L2.St} {H : Hp} {s : Shared}
theorem Lam1.has {scope : Scope} {p : Str} (L : Lam1 X.env.scope scope p) (ok : X.Ok) : ∀ y ∈ scope.names, y.2 = .free → ∃ c, X.env.cells.lookup y.1 = some c := fun y hy e =>
  (L.free y hy e).elim (fun k => ok.has _ (.inl k)) fun k => ok.has _ (.inr k)
theorem lam_in {A : Around} {scope : Scope} {f c : Addr} {p : Str} {v : V} {u : Value} {h₁ : Heap} {tk : Nat} (I : Inv X pins σ H s) (L : Lam1 X.env.scope scope p) (hp : p ∉ X.N) (fr : A.frames = some X.stack) (hd : A.handled = none) (rv : RelV v u)
    (hns : h₁.Ns s.heap.objs.size fun y => ([(p, u)] : List (Str × Value)).reverse.lookup y) (kp : ∀ b o, s.heap.get? b = some o → h₁.get? b = some o) :
    Inv (lamX X A s H p scope f c) [] (some v :: σ) H { s with heap := h₁, toks := tk } := by
  have z := I.env0
  have old : ∀ {y : Str} {a : Addr}, (cloFrom X.env.cells scope.names []).lookup y = some a → X.env.cells.lookup y = some a := fun {y a} e => by
    rcases cloFrom_mem (PySem.mem_of_lookup e) with q | ⟨q1, q2⟩
    · exact absurd q List.not_mem_nil
    · obtain ⟨a', e'⟩ := L.has I.ok _ q1 rfl
      replace e' : X.env.cells.lookup y = some a' := e'
      rw [e'] at q2 ⊢
      rw [q2]; rfl
  have look : ∀ {y : Str}, scope.names.lookup y = some .free → ∃ a, (cloFrom X.env.cells scope.names []).lookup y = some a := fun {y} e =>
    mem_lookup (cloFrom_has (cells := X.env.cells) (acc := []) (PySem.mem_of_lookup e))
  have nx : ∀ b : Addr, b ∉ (lamX X A s H p scope f c).ex := fun b y => absurd (show b ∈ ([] : List Addr) from y) List.not_mem_nil
  refine ⟨⟨z.mod, L.kind, rfl, rfl, Nat.le_refl _, fun y y' a e e' => I.ok.inj y y' a (old e) (old e'), fun y k => ?_, fun y a k _ => ?_, fun _ => hd, Around.frames_deeper fr, .inr ⟨rfl, rfl⟩, fun b y => absurd y (nx b), z.bs, z.bsz, fun b _ _ => nx b, fun b y => absurd y (nx b), z.funs, z.frf⟩,
    rfl, z.bare, Un.kept kp, ⟨_, hns, fun i y w e1 e2 e3 => ?_⟩, fun y a e => ?_, z.hok.fresh (Nat.le_refl _), fun y a e => I.freeC y a (old e), fun q hq => absurd (show q ∈ ([] : List (Addr × Obj)) from hq) List.not_mem_nil, z.hok.kept kp, congrArg Nat.succ I.len⟩
  · replace k : scope.names.lookup y = some .cell ∨ scope.names.lookup y = some .free := k
    rcases k with k | k
    · exact absurd rfl (L.own _ (PySem.mem_of_lookup k)).1
    · exact look k
  · exact absurd (show false = true from k) Bool.false_ne_true
  · cases i with
    | zero =>
      replace e1 : some p = some y := e1
      cases e1
      cases e2
      exact ⟨u, rv, .inl ⟨L.par, by simp⟩⟩
    | succ i =>
      replace e1 : X.N[i]? = some y := e1
      replace e2 : σ[i]? = some (some w) := e2
      have n : y ≠ p := fun q => hp (q ▸ List.mem_of_getElem? e1)
      replace e3 : Vis scope y := e3
      rcases e3 with k | k | k
      · exact absurd ((L.own _ (PySem.mem_of_lookup k)).2 rfl) n
      · exact absurd rfl (L.own _ (PySem.mem_of_lookup k)).1
      · obtain ⟨m, _, hl⟩ := I.loc
        have kf := L.free _ (PySem.mem_of_lookup k) rfl
        obtain ⟨u', r', q⟩ := hl i y w e1 e2 (kf.elim (fun k => .inr (.inl k)) fun k => .inr (.inr k))
        obtain ⟨a, ha⟩ := look k
        refine ⟨u', r', .inr ⟨.inr k, a, ha, ?_⟩⟩
        rcases q with ⟨k', _⟩ | ⟨_, a', e', o, ho, hd'⟩
        · replace k' : X.env.scope.names.lookup y = some .local := k'
          rcases kf with k2 | k2 <;> rw [show X.env.scope.names.lookup y = _ from k2] at k' <;> cases k'
        · have e2 := old ha
          rw [e'] at e2
          cases e2
          exact ⟨o, kp _ _ ho, hd'⟩
  · obtain ⟨w, o, ho, hd'⟩ := I.cell y a (old e)
    exact ⟨w, o, kp _ _ ho, hd'⟩
/-- the lambda called -/
theorem lam_call {A : Around} {params : Arguments} {body : Expr} {scope : Scope} {f c : Addr} {pm ctv : Value} {p : Str} {v : V} {u : Value} {k : Nat} {tb : TE} {Q : VK} {E : Value → Shared → Prop} (I : Inv X pins σ H s) (L : Lam1 X.env.scope scope p) (hp : p ∉ X.N)
    (hf : s.heap.get? f = some (kla_obj "<lambda>" (X.env.qual ++ "<lambda>") params body scope (cloFrom X.env.cells scope.names []) pm c ctv)) (hc : H c = some (CodeO c (X.env.qual ++ "<lambda>")))
    (bind : bindArgs (kla_fn "<lambda>" (X.env.qual ++ "<lambda>") params body scope (cloFrom X.env.cells scope.names []) pm (.ref c) ctv) ⟨[u], []⟩ = pure [(p, u)])
    (fr : A.frames = some X.stack) (room : Room (k + 1) A) (hb : Room k (A.deeper (lamEnv X scope s.heap.objs.size f c)) → PE (lamX X A s H p scope f c) body tb) (rv : RelV v u) (h : tb (some v :: σ) H Q) :
    wpAny (model X.prog X.w) A (call (.ref f) [u]) (fun y s' => CE X.stack X.prog X.w H s Q y s') E s := by
  obtain ⟨⟨oc, vs, t, hoc, hdc, hvc⟩, _, _⟩ := I.hok c _ hc
  refine wpAny_call (codeAny_mono (R := fun r s' => ∃ y, r = .ok (.ret y) ∧ CE X.stack X.prog X.w H s Q y s') (kla_callFunE room.depth hf rfl L.co L.gen rfl ⟨c, oc, vs, t, rfl, hoc, hdc, hvc⟩ ?_) fun r s' ⟨y, e, q⟩ => by subst e; exact q)
  rw [bind]
  refine wpAny_pure (wpAny_newFunctionEnv (fun y hy => (L.own y hy).1) (fun y hy => by rw [List.mem_singleton.mp hy]; exact L.par) (fun h₁ hns hsb => ⟨I.nolimit.fresh _ hsb, ?_⟩) L.kind)
  show codeAny _ _ (.expr body (lamEnv X scope s.heap.objs.size f c)) _ _
  have kp : ∀ b o, s.heap.get? b = some o → h₁.get? b = some o := fun b o e => hsb.extBut b o (Nat.ne_of_lt (Heap.lt_size e)) (Heap.get?_push_of_some _ e)
  have J := lam_in (A := A) (f := f) (c := c) (tk := s.toks + ([(p, u)] : List (Str × Value)).length) I L hp fr room.hd rv hns kp
  refine kla_codeExpr (wpAny_mono ((hb (room.deeper _)).run [] _ _ H Q J h) (fun y s' hq => ?_) fun _ _ q => False.elim q)
  obtain ⟨x, H', J', r, q⟩ := hq
  exact ⟨y, rfl, x, H', J'.os, J'.bare, J'.base, J'.hok, r, q⟩
end
/-! ## the walk of min -/
section
variable (X : Cx) (pins : List (Addr × Obj)) (σ : L2.St) (T : List (Addr × Str)) (H1 : Hp) (S It f c : Addr) (fo : Obj) (q : Str)
structure Jm (H : Hp) (s : Shared) : Prop where
  inv : Inv X pins σ H s
  ext : ExtN H1 H
  tab : Tabs T H
  fS : FpOk X pins H S
  fI : FpOk X pins H It
  fn : s.heap.get? f = some fo
  nf : H f = none
  cd : H c = some (CodeO c q)
  eS : ∃ o, s.heap.get? S = some o
  eI : ∃ o, s.heap.get? It = some o
end
section
variable {X : Cx} {pins : List (Addr × Obj)} {σ : L2.St} {T : List (Addr × Str)} {H1 : Hp} {S It f c : Addr} {fo : Obj} {q : Str}
theorem Jm.still {H : Hp} {s s' : Shared} (j : Jm X pins σ T H1 S It f c fo q H s) (m : Moved [S, It] (fun a b => b = a) s s') : Inv X pins σ H s' := by
  obtain ⟨h', g', d', t', o'⟩ := s'
  obtain rfl : g' = s.gens := m.gens
  obtain rfl : d' = s.drawn := m.drawn
  obtain rfl : o' = s.os := m.os
  refine Inv.turnedL (ch := [S, It]) j.inv (fun b o hb e => m.heap b o hb e) fun b hb => ?_
  rcases List.mem_cons.mp hb with e | e
  · rw [e]; exact j.fS
  · rw [List.mem_singleton.mp e]; exact j.fI
theorem Jm.moved {H : Hp} {s s' : Shared} (j : Jm X pins σ T H1 S It f c fo q H s) (hS : f ≠ S) (hI : f ≠ It) (m : Moved [S, It] (fun a b => b = a) s s') (eS : ∃ o, s'.heap.get? S = some o) (eI : ∃ o, s'.heap.get? It = some o) : Jm X pins σ T H1 S It f c fo q H s' := by
  refine ⟨j.still m, j.ext, j.tab, j.fS, j.fI, m.heap _ _ (fun z => ?_) j.fn, j.nf, j.cd, eS, eI⟩
  rcases List.mem_cons.mp z with e | e
  · exact hS e
  · exact hI (List.mem_singleton.mp e)
theorem moved_upd (s : Shared) (S It : Addr) (g : Obj → Obj) : Moved [S, It] (fun a b => b = a) s { s with heap := s.heap.update S g, toks := s.toks } :=
  ⟨fun b o hb e => (Heap.get?_update_other _ _ (fun z : S = b => hb (by rw [← z]; exact List.mem_cons_self))).trans e, rfl, rfl, rfl, Nat.le_refl _⟩
variable {Ky : Hp → V → PyData → Prop} {kd : V → PyData} {xs : List V} {A : Around} {n : Nat} {Pv : Nat → Value → Prop} {St : Nat → Shared → Prop} {fp : List Addr}
/-- what is asked of the key -/
structure KeyL (X : Cx) (pins : List (Addr × Obj)) (σ : L2.St) (T : List (Addr × Str)) (H1 : Hp) (S It f c : Addr) (fo : Obj) (q : Str) (Ky : Hp → V → PyData → Prop) (kd : V → PyData) (xs : List V) (A : Around) : Prop where
  turn : ∀ (H : Hp) (s : Shared) (v : V) (u : Value) (E : Value → Shared → Prop), Jm X pins σ T H1 S It f c fo q H s → v ∈ xs → RelV v u →
    wpAny (model X.prog X.w) A (call (.ref f) [u]) (fun k s' => ∃ y H', Jm X pins σ T H1 S It f c fo q H' s' ∧ RelV y k ∧ Ky H' y (kd v) ∧ (∀ b zs, H b = some (.tup zs) → H' b = some (.tup zs)) ∧
      (∀ b o, FpOk X pins H b → s.heap.get? b = some o → s'.heap.get? b = some o)) E s
  dz : ∀ H y d, Ky H y d → Dz X.K H y d
  keep : ∀ H H' y d, (∀ b zs, H b = some (.tup zs) → H' b = some (.tup zs)) → Ky H y d → Ky H' y d
  alike : ∀ v ∈ xs, ∀ v' ∈ xs, alike (kd v) (kd v') = true
  some : ∀ v ∈ xs, kd v ≠ .none ∧ (kd v).depth ≤ 50
  units : A.units + 60 < cLine
  irr : ∀ v ∈ xs, dataLt (kd v) (kd v) = false
  tr : ∀ u ∈ xs, ∀ v ∈ xs, ∀ z ∈ xs, dataLt (kd u) (kd v) = true → dataLt (kd v) (kd z) = true → dataLt (kd u) (kd z) = true
theorem KeyL.less {A : Around} (K : KeyL X pins σ T H1 S It f c fo q Ky kd xs A) {H : Hp} {s : Shared} {v v' : V} {y y' : V} {k k' : Value} {E : Value → Shared → Prop} {Q : Value → Shared → Prop} (j : Jm X pins σ T H1 S It f c fo q H s) (hv : v ∈ xs) (hv' : v' ∈ xs)
    (r : RelV y k) (r' : RelV y' k') (d : Ky H y (kd v)) (d' : Ky H y' (kd v')) (h : Q (.bool (dataLt (kd v) (kd v'))) s) : wpAny (model X.prog X.w) A (richCompare .Lt k k') Q E s := by
  obtain ⟨as, ra, _⟩ := Dz.reads j.inv _ _ _ (K.dz _ _ _ d) r
  obtain ⟨bs, rb, _⟩ := Dz.reads j.inv _ _ _ (K.dz _ _ _ d') r'
  refine rcLt_alike _ _ A s k k' as bs ra rb (K.alike v hv v' hv') (K.some v hv).1 ?_ X.prog X.w E Q h
  have := K.units
  have := (K.some v hv).2
  omega
variable {R : Result → Shared → Prop} {kw : List (Str × Value)}
theorem min_more (W : WalksS X.prog X.w A.in1 It fp [It] (fun a b => b = a) n Pv St) (hSf : S ∉ fp) (nfS : f ≠ S) (nfI : f ≠ It) (K : KeyL X pins σ T H1 S It f c fo q Ky kd xs A.in1) (hPv : ∀ i v, Pv i v → ∃ x, xs[i]? = some x ∧ RelV x v) (hnx : n = xs.length)
    (hSt : ∀ i s s', St i s → (∀ b o, b ∈ fp → s.heap.get? b = some o → s'.heap.get? b = some o) → St i s') (hfp : ∀ (H : Hp) (s : Shared) (i : Nat), Jm X pins σ T H1 S It f c fo q H s → St i s → ∀ (s' : Shared) (H' : Hp), Jm X pins σ T H1 S It f c fo q H' s' → (∀ b o, FpOk X pins H b → s.heap.get? b = some o → s'.heap.get? b = some o) → St i s')
    (hIt : ∀ i s, St i s → ∃ o, s.heap.get? It = some o) (hR : ∀ x v s' H', x ∈ xs → (∀ x' ∈ xs, dataLt (kd x') (kd x) = false) → RelV x v → Inv X pins σ H' s' → ExtN H1 H' → Tabs T H' → R (.ok (.ret v)) s') :
    ∀ (m j : Nat) (s : Shared) (H : Hp) (vb kb : Value) (e : Nat) (xb yb : V), n - (j + 1) = m → j + 1 ≤ n → Jm X pins σ T H1 S It f c fo q H s → St (j + 1) s → xb ∈ xs → (∀ i' x', i' ≤ j → xs[i']? = some x' → dataLt (kd x') (kd xb) = false) → RelV xb vb → RelV yb kb → Ky H yb (kd xb) →
      s.heap.get? S = some { cls := .type "list", dict := none, data := .seq #[vb, kb] e, slots := #[] } → codeAny (model X.prog X.w) A (.builtin "min.loop" ⟨[.ref It, .ref f, .ref S], kw⟩) R s := by
  have nS : S ∉ [It] := fun z => hSf (W.sub _ z)
  have sub : ∀ b ∈ [It], b ∈ [S, It] := fun b hb => List.mem_cons_of_mem _ hb
  have nm : (toString "min" ++ toString ".loop" : String) = "min.loop" := by decide
  have other : ∀ {b : Addr}, b ∉ [S, It] → S ≠ b := fun {b} hb z => hb (z ▸ List.mem_cons_self)
  intro m
  induction m with
  | zero =>
    intro j s H vb kb e xb yb hm hj J st hx mb rb ry ky hS
    have last : j + 1 = n := by omega
    refine codeAny_builtin F.entry_min_loop ?go
    case go =>
      rw [Around.under_plainId F.plain_min_loop _]
      show wpAny _ A.in1 (seqItems? (.ref S) >>= _) _ _ s
      refine wpAny_bind (wpAny_seqItems hS rfl ?_); show wpAny _ A.in1 (tryCatch (pyNext (.ref It)) _ >>= _) _ _ s
      refine wpAny_bind (wpAny_tryCatch (W.done s _ _ (last ▸ st) fun s' hm' => ?_))
      have hS' := hm'.heap S _ nS hS
      show wpAny _ A.in1 (updateSeq S (fun _ => #[]) >>= _) _ _ _
      refine wpAny_bind ?_
      refine wpAny_updateSeq hS' rfl (wpAny_bind (wpAny_letGo (wpAny_pure ?_)))
      exact hR xb vb _ H hx (fun x' hx' => by
        obtain ⟨i', hi', ei'⟩ := List.getElem_of_mem hx'
        exact mb i' x' (by omega) (by rw [List.getElem?_eq_getElem hi', ei'])) rb (J.still ((hm'.mono sub).then_heap (tk := s'.toks) (Nat.le_refl _) fun b o hb e => (Heap.get?_update_other _ _ (other hb)).trans e)) J.ext J.tab
  | succ m ih =>
    intro j s H vb kb e xb yb hm hj J st hx mb rb ry ky hS
    have lt : j + 1 < n := by omega
    refine codeAny_builtin F.entry_min_loop ?go
    case go =>
      rw [Around.under_plainId F.plain_min_loop _]
      show wpAny _ A.in1 (seqItems? (.ref S) >>= _) _ _ s
      refine wpAny_bind (wpAny_seqItems hS rfl ?_); show wpAny _ A.in1 (tryCatch (pyNext (.ref It)) _ >>= _) _ _ s
      refine wpAny_bind (wpAny_tryCatch (W.item (j + 1) s _ _ lt st fun v s' hP st' hm' => ?_))
      have hS' := hm'.heap S _ nS hS
      have J' := J.moved nfS nfI (hm'.mono sub) ⟨_, hS'⟩ (hIt _ _ st')
      obtain ⟨x, ex', rx⟩ := hPv _ _ hP
      have hx' := List.mem_of_getElem? ex'
      show wpAny _ A.in1 (tryCatch (holding [v] (call (.ref f) [v])) _ >>= _) _ _ _
      refine wpAny_bind (wpAny_tryCatch (wpAny_holding (wpAny_mono (K.turn H s' x v _ J' hx' rx) (fun kx s2 hk => ?_) fun _ _ y => y)))
      obtain ⟨y, H2, J2, r2, k2, tups, fps⟩ := hk
      have hS2 := fps S _ J'.fS hS'
      have st2 := hfp H s' _ J' st' s2 H2 J2 fps
      show wpAny _ A.in1 (tryCatch (holding [v, kx] (richCompare .Lt kx kb >>= _)) _ >>= _) _ _ _
      refine wpAny_bind (wpAny_tryCatch (wpAny_holding (wpAny_bind (K.less J2 hx' hx r2 ry k2 (K.keep _ _ _ _ tups ky) ?_))))
      refine wpAny_bind (wpAny_holding (wpAny_truthy_bool ?_)); refine wpAny_bind (wpAny_letGo (wpAny_pure ?_))
      cases b : dataLt (kd x) (kd xb) with
      | true =>
        simp only [if_true]
        refine wpAny_bind ?_
        refine wpAny_updateSeq hS2 rfl (wpAny_bind (wpAny_letGo ?_)); rw [nm]
        refine wpAny_pure ⟨plainId_quiet F.plain_min_loop _, ih (j + 1) _ H2 v kx _ x y (by omega) lt (J2.moved nfS nfI (moved_upd s2 S It _) ⟨_, Heap.get?_update_self _ hS2 rfl⟩ (by obtain ⟨o, e⟩ := J2.eI; exact ⟨o, (Heap.get?_update_other _ _ (fun z : S = It => nS (by rw [z]; exact List.mem_singleton.mpr rfl))).trans e⟩)) (hSt _ _ _ st2 fun b o hb e => ?_) hx' (fun i' x' hi' e' => by
          rcases Nat.lt_or_ge i' (j + 1) with c | c
          · cases z : dataLt (kd x') (kd x) with
            | false => rfl
            | true =>
              have := K.tr x' (List.mem_of_getElem? e') x hx' xb hx z b
              rw [mb i' x' (by omega) e'] at this
              cases this
          · obtain rfl : i' = j + 1 := by omega
            rw [ex'] at e'
            cases e'
            exact K.irr x hx') rx r2 k2 (Heap.get?_update_self _ hS2 rfl)⟩
        exact (Heap.get?_update_other _ _ (fun z : S = b => hSf (z ▸ hb))).trans e
      | false =>
        simp only [Bool.false_eq_true, if_false]
        refine wpAny_bind (wpAny_letGo ?_); rw [nm]
        exact wpAny_pure ⟨plainId_quiet F.plain_min_loop _, ih (j + 1) _ H2 vb kb e xb yb (by omega) lt J2 st2 hx (fun i' x' hi' e' => by
          rcases Nat.lt_or_ge i' (j + 1) with c | c
          · exact mb i' x' (by omega) e'
          · obtain rfl : i' = j + 1 := by omega
            rw [ex'] at e'
            cases e'
            exact b) rb ry (K.keep _ _ _ _ tups ky) hS2⟩
theorem min_first (W : WalksS X.prog X.w A.in1 It fp [It] (fun a b => b = a) n Pv St) (hSf : S ∉ fp) (nfS : f ≠ S) (nfI : f ≠ It) (K : KeyL X pins σ T H1 S It f c fo q Ky kd xs A.in1) (hPv : ∀ i v, Pv i v → ∃ x, xs[i]? = some x ∧ RelV x v) (hnx : n = xs.length)
    (hSt : ∀ i s s', St i s → (∀ b o, b ∈ fp → s.heap.get? b = some o → s'.heap.get? b = some o) → St i s') (hfp : ∀ (H : Hp) (s : Shared) (i : Nat), Jm X pins σ T H1 S It f c fo q H s → St i s → ∀ (s' : Shared) (H' : Hp), Jm X pins σ T H1 S It f c fo q H' s' → (∀ b o, FpOk X pins H b → s.heap.get? b = some o → s'.heap.get? b = some o) → St i s')
    (hIt : ∀ i s, St i s → ∃ o, s.heap.get? It = some o) (hR : ∀ x v s' H', x ∈ xs → (∀ x' ∈ xs, dataLt (kd x') (kd x) = false) → RelV x v → Inv X pins σ H' s' → ExtN H1 H' → Tabs T H' → R (.ok (.ret v)) s') (hn : 0 < n) {s : Shared} {H : Hp} {e : Nat} (J : Jm X pins σ T H1 S It f c fo q H s) (st : St 0 s)
    (hS : s.heap.get? S = some { cls := .type "list", dict := none, data := .seq #[] e, slots := #[] }) : codeAny (model X.prog X.w) A (.builtin "min.loop" ⟨[.ref It, .ref f, .ref S], kw⟩) R s := by
  have nS : S ∉ [It] := fun z => hSf (W.sub _ z)
  have sub : ∀ b ∈ [It], b ∈ [S, It] := fun b hb => List.mem_cons_of_mem _ hb
  have nm : (toString "min" ++ toString ".loop" : String) = "min.loop" := by decide
  refine codeAny_builtin F.entry_min_loop ?go
  case go =>
    rw [Around.under_plainId F.plain_min_loop _]
    show wpAny _ A.in1 (seqItems? (.ref S) >>= _) _ _ s
    refine wpAny_bind (wpAny_seqItems hS rfl ?_); show wpAny _ A.in1 (tryCatch (pyNext (.ref It)) _ >>= _) _ _ s
    refine wpAny_bind (wpAny_tryCatch (W.item 0 s _ _ hn st fun v s' hP st' hm' => ?_))
    have hS' := hm'.heap S _ nS hS
    have J' := J.moved nfS nfI (hm'.mono sub) ⟨_, hS'⟩ (hIt _ _ st')
    obtain ⟨x, ex', rx⟩ := hPv _ _ hP
    have hx' := List.mem_of_getElem? ex'
    show wpAny _ A.in1 (tryCatch (holding [v] (call (.ref f) [v])) _ >>= _) _ _ _
    refine wpAny_bind (wpAny_tryCatch (wpAny_holding (wpAny_mono (K.turn H s' x v _ J' hx' rx) (fun kx s2 hk => ?_) fun _ _ y => y)))
    obtain ⟨y, H2, J2, r2, k2, tups, fps⟩ := hk
    have hS2 := fps S _ J'.fS hS'
    have st2 := hfp H s' _ J' st' s2 H2 J2 fps
    show wpAny _ A.in1 (updateSeq S (fun _ => #[v, kx]) >>= _) _ _ _
    refine wpAny_bind ?_
    refine wpAny_updateSeq hS2 rfl ?_; rw [nm]
    refine wpAny_pure ⟨plainId_quiet F.plain_min_loop _, min_more W hSf nfS nfI K hPv hnx hSt hfp hIt hR _ 0 _ H2 v kx _ x y rfl hn (J2.moved nfS nfI (moved_upd s2 S It _) ⟨_, Heap.get?_update_self _ hS2 rfl⟩ (by obtain ⟨o, e⟩ := J2.eI; exact ⟨o, (Heap.get?_update_other _ _ (fun z : S = It => nS (by rw [z]; exact List.mem_singleton.mpr rfl))).trans e⟩)) (hSt _ _ _ st2 fun b o hb e => ?_) hx' (fun i' x' hi' e' => by
      obtain rfl : i' = 0 := by omega
      rw [ex'] at e'
      cases e'
      exact K.irr x hx') rx r2 k2 (Heap.get?_update_self _ hS2 rfl)⟩
    exact (Heap.get?_update_other _ _ (fun z : S = b => hSf (z ▸ hb))).trans e
end
section
theorem sqT_extN {K : PySem.W.Frag} {H H' : Hp} (s : ExtN H H') {t : Addr} {xs : List V} (q : SqT K H t xs) : SqT K H' t xs := by
  rcases q with (q | ⟨o, q⟩) | q
  · exact .inl (.inl (s _ _ q fun ps z => by cases z))
  · exact .inl (.inr ⟨o, s _ _ q fun ps z => by cases z⟩)
  · exact .inr q
/-- where the walk of a tuple stands -/
def Stt (xs : List V) (It l : Addr) (i : Nat) (s : Shared) : Prop := ∃ vs : Array Value, Vals xs vs.toList ∧ s.heap.IsTupleIter It l i ∧ s.heap.IsTuple l vs
theorem walk_tt {prog : Program} {w : World} {A : Around} {It l : Addr} {xs : List V} (hh : A.handled = none) (ne : l ≠ It) :
    WalksS prog w A It [It, l] [It] (fun a b => b = a) xs.length (fun i v => ∃ x, xs[i]? = some x ∧ RelV x v) (Stt xs It l) := by
  have W := fun vs : Array Value => (Walks.tuple (prog := prog) (w := w) (A := A) hh It l ne vs).toS
  have sz : ∀ {vs : Array Value}, Vals xs vs.toList → vs.size = xs.length := fun {vs} r => by rw [r.length, Array.length_toList]
  refine ⟨fun b hb => by simp at hb; simp [hb], fun _ => rfl, fun a b c h1 h2 => h2.trans h1, fun i s h' tk st le k => ?_, fun i s Q E hi st h => ?_, fun s Q E st h => ?_, fun i s Q E st h => ?_⟩
  · obtain ⟨vs, r, st⟩ := st
    exact ⟨vs, r, (W vs).frame i s h' tk st le k⟩
  · obtain ⟨vs, r, st⟩ := st
    refine (W vs).item i s Q E (by rw [sz r]; exact hi) st fun v s' hP st' hm => h v s' ?_ ⟨vs, r, st'⟩ hm
    obtain ⟨v', e', rx⟩ := r.get (List.getElem?_eq_getElem hi)
    rw [Array.getElem?_toList, show vs[i]? = some v from hP] at e'
    cases e'
    exact ⟨_, List.getElem?_eq_getElem hi, rx⟩
  · obtain ⟨vs, r, st⟩ := st
    exact (W vs).done s Q E (by rw [sz r]; exact st) h
  · obtain ⟨vs, r, st⟩ := st
    exact (W vs).self i s Q E st h
end
abbrev itO (l : Addr) : Obj := { cls := .type "tuple_iterator", data := .fields #[.ref l, .int 0 0] }
/-- min(e, key=lambda pn: body): some item -/
def tMinLam (K : PySem.W.Frag) (T : List (Addr × Str)) (Ky : Hp → V → PyData → Prop) (ta tb : TE) : TE := fun σ H Q => ta σ H fun x H1 => ∃ (l : Addr) (xs : List V) (kd : V → PyData), x = .ref l ∧ SqT K H1 l xs ∧ xs ≠ [] ∧ Tabs T H1 ∧
  (∀ v ∈ xs, ∀ v' ∈ xs, alike (kd v) (kd v') = true) ∧ (∀ v ∈ xs, kd v ≠ .none ∧ (kd v).depth ≤ 50) ∧ (∀ v ∈ xs, dataLt (kd v) (kd v) = false) ∧ (∀ u ∈ xs, ∀ v ∈ xs, ∀ z ∈ xs, dataLt (kd u) (kd v) = true → dataLt (kd v) (kd z) = true → dataLt (kd u) (kd z) = true) ∧
  (∀ H2, ExtN H1 H2 → Tabs T H2 → ∀ v ∈ xs, tb (some v :: σ) H2 fun y H3 => ExtN H2 H3 ∧ Tabs T H3 ∧ Ky H3 y (kd v)) ∧ ∀ v ∈ xs, (∀ v' ∈ xs, dataLt (kd v') (kd v) = false) → ∀ H', ExtN H1 H' → Tabs T H' → Q v H'
section
variable {X : Cx}
theorem pe_minLam {T : List (Addr × Str)} {Ky : Hp → V → PyData → Prop} {e : Expr} {params : Arguments} {body : Expr} {scope : Scope} {lpos kpos p pos : Pos} {pn : Str} {c P : Addr} {k : Nat} {ta tb : TE}
    (hg : Gl X "min") (hm : X.mg "min" = none) (calm : X.calm = true) (room : Room (k + 3) X.A) (ha : PE X e ta)
    (TB : TabB X.base X.mg c P) (hcode : X.env.code = .ref c) (hmT : (P, X.env.qual ++ "<lambda>") ∈ T) (hu : ∀ p ∈ T, p.1 = P → p.2 = X.env.qual ++ "<lambda>") (L : Lam1 X.env.scope scope pn) (hpn : pn ∉ X.N) (hdef : defaultsOf params X.env = ([], []))
    (hbind : ∀ (q : Str) (cl : List (Str × Addr)) (pm cv ctv u : Value), bindArgs (kla_fn "<lambda>" q params body scope cl pm cv ctv) ⟨[u], []⟩ = pure [(pn, u)])
    (hbody : ∀ (A : Around) (s : Shared) (H : Hp) (f c' : Addr), Room k (A.deeper (lamEnv X scope s.heap.objs.size f c')) → PE (lamX X A s H pn scope f c') body tb)
    (hdz : ∀ H y d, Ky H y d → Dz X.K H y d) (hkeep : ∀ (H H' : Hp) y d, (∀ b zs, H b = some (.tup zs) → H' b = some (.tup zs)) → Ky H y d → Ky H' y d)
    (hs0 : starEach [e] X.env = (false, eval e X.env) :: starEach [] X.env := by rfl) (he : backTo pos (starEach [e] X.env) = (false, eval e X.env) :: backTo pos (starEach [] X.env) := by rfl) (hpl : (backTo pos (starEach [e] X.env)).any (·.1) = false := by rfl) :
    PE X (.Call (.Name "min" p) [e] [⟨some "key", .Lambda params body scope lpos, kpos⟩] pos) (tMinLam X.K T Ky ta tb) := by
  refine ⟨fun pins s σ H Q I h => ?_⟩
  refine wpAny_Call_Name_kw (ld_blt I hg hm (u := .builtin "min") (by decide +kernel) ?_)
  refine PyProof.Rows.callWith_kw (thn ((pa_cons (hs := hs0) ha pa_nil).run pos pins s σ H (fun vs H1 => match vs with
    | [x] => ∃ (l : Addr) (xs : List V) (kd : V → PyData), x = .ref l ∧ SqT X.K H1 l xs ∧ xs ≠ [] ∧ Tabs T H1 ∧
      (∀ v ∈ xs, ∀ v' ∈ xs, alike (kd v) (kd v') = true) ∧ (∀ v ∈ xs, kd v ≠ .none ∧ (kd v).depth ≤ 50) ∧ (∀ v ∈ xs, dataLt (kd v) (kd v) = false) ∧ (∀ u ∈ xs, ∀ v ∈ xs, ∀ z ∈ xs, dataLt (kd u) (kd v) = true → dataLt (kd v) (kd z) = true → dataLt (kd u) (kd z) = true) ∧
      (∀ H2, ExtN H1 H2 → Tabs T H2 → ∀ v ∈ xs, tb (some v :: σ) H2 fun y H3 => ExtN H2 H3 ∧ Tabs T H3 ∧ Ky H3 y (kd v)) ∧ ∀ v ∈ xs, (∀ v' ∈ xs, dataLt (kd v') (kd v) = false) → ∀ H', ExtN H1 H' → Tabs T H' → Q v H'
    | _ => False) I h) fun us s1 hq => ?_) he hpl
  obtain ⟨ws, H1, I1, r1, q1⟩ := hq
  match ws, q1 with
  | [], q1 => exact False.elim q1
  | _ :: _ :: _, q1 => exact False.elim q1
  | [x], q1 =>
    obtain ⟨l, xs, kd, rfl, hs, ne, hT, hal, hso, hirr, htr, hbd, hq⟩ := q1
    obtain ⟨u, rfl, ru⟩ := vals1 r1
    cases ru
    show wpAny _ _ (evalAll ((do let v ← eval (.Lambda params body scope lpos) X.env; standAt pos; pure v) :: [])) _ _ s1
    refine wpAny_evalAll_cons (wpAny_bind (lam_make2 I1 TB hcode hmT hu hT hdef (L.has I1.ok) fun f c' pm ctv H2 s2 I2 eN T2 hf hfn hfr hco => wpAny_bind (wpAny_standAt (wpAny_pure (wpAny_evalAll_nil ?_)))))
    show wpAny _ _ (call (.builtin "min") [.ref l] [(Str.ofString "key", .ref f)]) _ _ s2
    have hs2 := sqT_extN eN hs
    obtain ⟨its, rx, hit, _⟩ := I2.tuple hs2
    have hIt : s2.heap.IsTuple l its.toArray := hit
    have hl : l < s2.heap.objs.size := by obtain ⟨o, ho, _⟩ := hIt; exact Heap.lt_size ho
    have hf' : f < s2.heap.objs.size := Heap.lt_size hf
    have hh : X.A.handled = none := I.ok.hd calm
    have nm : (toString "min" ++ toString ".loop" : String) = "min.loop" := by decide
    refine kmk_tree F.kind_min F.plain_min F.entry_min (kmk_min_key _ _) ?go
    case go =>
      show wpAny _ X.A.in1 (Builtin.Builtins.bindParams "min" ["key", "default"] 0 ⟨[], [(Str.ofString "key", .ref f)]⟩ >>= _) _ _ s2
      refine wpAny_bind (wpAny_of_eq (show Builtin.Builtins.bindParams "min" ["key", "default"] 0 ⟨[], [(Str.ofString "key", .ref f)]⟩ = pure [some (.ref f), none] from rfl) ?_)
      refine wpAny_bind (wpAny_pure (wpAny_bind (wpAny_pyIter_tuple hIt (wpAny_bind (wpAny_newObj_type ?_)))))
      rw [nm]
      -- the iterator, the list
      have sz : (s2.heap.push (itO l)).objs.size = s2.heap.objs.size + 1 := Heap.size_push ..
      show wpAny _ _ _ _ _ { s2 with heap := (s2.heap.push (itO l)).push { cls := .type "list", data := .seq #[] 0 } }
      have le1 : s2.heap.objs.size ≤ s2.heap.objs.size := Nat.le_refl _
      have le2 : s2.heap.objs.size ≤ (s2.heap.push (itO l)).objs.size := by rw [sz]; omega
      have kp : ∀ b o, s2.heap.get? b = some o → ((s2.heap.push (itO l)).push { cls := .type "list", data := .seq #[] 0 }).get? b = some o := fun b o e => Heap.get?_push_of_some _ (Heap.get?_push_of_some _ e)
      have J : Jm X pins σ T H1 (s2.heap.push (itO l)).objs.size s2.heap.objs.size f c' _ (X.env.qual ++ "<lambda>") H2 { s2 with heap := (s2.heap.push (itO l)).push { cls := .type "list", data := .seq #[] 0 } } :=
        ⟨I2.kept (t' := s2.toks) kp, eN, T2, I2.fpOk le2 (I2.hok.fresh le2), I2.fpOk le1 (I2.hok.fresh le1), kp _ _ hf, hfn, hco, ⟨_, Heap.get?_push_size _ rfl⟩, ⟨_, Heap.get?_push_of_some _ (Heap.get?_push_size _ rfl)⟩⟩
      have nS : (s2.heap.push (itO l)).objs.size ∉ [s2.heap.objs.size, l] := fun z => by
        rw [sz] at z
        rcases List.mem_cons.mp z with z | z
        · exact absurd z (Nat.succ_ne_self _)
        · exact absurd hl (by rw [← List.mem_singleton.mp z]; exact Nat.not_lt.mpr (Nat.le_succ _))
      have K : KeyL X pins σ T H1 (s2.heap.push (itO l)).objs.size s2.heap.objs.size f c' (kla_obj "<lambda>" (X.env.qual ++ "<lambda>") params body scope (cloFrom X.env.cells scope.names []) pm c' ctv) (X.env.qual ++ "<lambda>") Ky kd xs X.A.in1 := by
        refine ⟨fun H s v u E J hv rv => ?_, hdz, hkeep, hal, hso, ?_, hirr, htr⟩
        · have fr : X.A.in1.frames = some X.stack := by show X.A.frames = some X.stack; exact I.ok.frames
          refine wpAny_mono (lam_call (E := E) J.inv L hpn J.fn J.cd (hbind _ _ _ _ _ _) fr (room.in1.mono (by omega) : Room (k + 1) _) (fun hr => hbody _ _ _ _ _ hr) rv (hbd H J.ext J.tab v hv)) (fun y s' hq' => ?_) fun _ _ z => z
          obtain ⟨z, H', os, bare, un, hok, rz, eN', T', ky⟩ := hq'
          have I' : Inv X pins σ H' s' := J.inv.call' os un hok bare fun b hb => absurd hb List.not_mem_nil
          have kpt : ∀ b o, FpOk X pins H b → s.heap.get? b = some o → s'.heap.get? b = some o := fun b o fb e => un.keep _ _ e fb.1 (fun hz => by
            rcases List.mem_cons.mp (J.inv.stkSub b hz) with e' | e'
            · exact fb.2.1 e'
            · exact fb.2.2.1 e') List.not_mem_nil
          have fz : ∀ b o, s.heap.get? b = some o → FpOk X pins H b → FpOk X pins H' b := fun b o e fb => ⟨un.free _ _ e fb.1 List.not_mem_nil, fb.2⟩
          obtain ⟨oS, eS⟩ := J.eS
          obtain ⟨oI, eI⟩ := J.eI
          refine ⟨z, H', ⟨I', J.ext.trans eN', T', fz _ _ eS J.fS, fz _ _ eI J.fI, un.keep _ _ J.fn J.nf (fun hz => ?_) List.not_mem_nil, un.free _ _ J.fn J.nf List.not_mem_nil, eN' _ _ J.cd codeO_ne, ⟨_, kpt _ _ J.fS eS⟩, ⟨_, kpt _ _ J.fI eI⟩⟩, rz, ky, un.tups, kpt⟩
          exact hfr hz
        · have := room.units
          show X.A.units + 1 + 60 < cLine
          omega
      refine wpAny_pure ⟨plainId_quiet F.plain_min_loop _, min_first (A := X.A) (fp := [s2.heap.objs.size, l]) (St := Stt xs s2.heap.objs.size l) (walk_tt (A := X.A.in1) hh (Nat.ne_of_lt hl)) nS (Nat.ne_of_lt (Nat.lt_of_lt_of_le hf' le2)) (Nat.ne_of_lt hf') K
        (fun i v ⟨x, e, r⟩ => ⟨x, e, r⟩) rfl (fun i s s' st k => ?_) (fun H s i J st s' H' J' kk => ?_) (fun i s ⟨vs, r, ⟨o, e, _⟩, _⟩ => ⟨o, e⟩) (fun x v s' H' hx hm r I' e' t' => ⟨x, H', I', r, hq x hx hm H' e' t'⟩) (List.length_pos_iff.mpr ne) J ⟨its.toArray, by simpa using rx, ?_, ?_⟩ (Heap.get?_push_size _ rfl)⟩
      · obtain ⟨vs, r, ⟨o, e, r1⟩, ⟨o', e', r2⟩⟩ := st
        exact ⟨vs, r, ⟨o, k _ _ List.mem_cons_self e, r1⟩, ⟨o', k _ _ (by simp) e', r2⟩⟩
      · obtain ⟨vs, r, ⟨o, e, r1⟩, _⟩ := st
        obtain ⟨its', rx', hit', _⟩ := J'.inv.tuple (sqT_extN J'.ext hs)
        exact ⟨its'.toArray, by simpa using rx', ⟨o, kk _ _ J.fI e, r1⟩, hit'⟩
      · exact ⟨_, Heap.get?_push_of_some _ (Heap.get?_push_size _ rfl), rfl, rfl⟩
      · exact (hIt.push _).push _
end
end Xln
set_option Elab.async false
set_option linter.all false
set_option maxRecDepth 100000
set_option maxHeartbeats 4000000
set_option pp.maxSteps 400
set_option pp.deepTerms false
/-! min(a list, key=lambda p: ..): the first of the least -/
namespace Xll
open PySem PySem.Spec PyProof.Rows L2 Az PySem.W LamX Xln
section
theorem sqL_extN {K : PySem.W.Frag} {H H' : Hp} (s : ExtN H H') {t : Addr} {xs : List V} (q : SqL K H t xs) : SqL K H' t xs := by
  rcases q with (q | ⟨o, q⟩) | q
  · exact .inl (.inl (s _ _ q fun ps z => by cases z))
  · exact .inl (.inr ⟨o, s _ _ q fun ps z => by cases z⟩)
  · exact .inr q
/-- where the walk of a tuple stands -/
def Stl (xs : List V) (It l : Addr) (i : Nat) (s : Shared) : Prop := ∃ vs : Array Value, Vals xs vs.toList ∧ s.heap.IsListIter It l i ∧ s.heap.IsList l vs
theorem walk_tl {prog : Program} {w : World} {A : Around} {It l : Addr} {xs : List V} (hh : A.handled = none) (ne : l ≠ It) :
    WalksS prog w A It [It, l] [It] (fun a b => b = a) xs.length (fun i v => ∃ x, xs[i]? = some x ∧ RelV x v) (Stl xs It l) := by
  have W := fun vs : Array Value => (Walks.list (prog := prog) (w := w) (A := A) hh It l ne vs).toS
  have sz : ∀ {vs : Array Value}, Vals xs vs.toList → vs.size = xs.length := fun {vs} r => by rw [r.length, Array.length_toList]
  refine ⟨fun b hb => by simp at hb; simp [hb], fun _ => rfl, fun a b c h1 h2 => h2.trans h1, fun i s h' tk st le k => ?_, fun i s Q E hi st h => ?_, fun s Q E st h => ?_, fun i s Q E st h => ?_⟩
  · obtain ⟨vs, r, st⟩ := st
    exact ⟨vs, r, (W vs).frame i s h' tk st le k⟩
  · obtain ⟨vs, r, st⟩ := st
    refine (W vs).item i s Q E (by rw [sz r]; exact hi) st fun v s' hP st' hm => h v s' ?_ ⟨vs, r, st'⟩ hm
    obtain ⟨v', e', rx⟩ := r.get (List.getElem?_eq_getElem hi)
    rw [Array.getElem?_toList, show vs[i]? = some v from hP] at e'
    cases e'
    exact ⟨_, List.getElem?_eq_getElem hi, rx⟩
  · obtain ⟨vs, r, st⟩ := st
    exact (W vs).done s Q E (by rw [sz r]; exact st) h
  · obtain ⟨vs, r, st⟩ := st
    exact (W vs).self i s Q E st h
end
abbrev itL (l : Addr) : Obj := { cls := .type "list_iterator", data := .fields #[.ref l, .int 0 0] }
/-- min(e, key=lambda pn: body): some item -/
def tMinLamL (K : PySem.W.Frag) (T : List (Addr × Str)) (Ky : Hp → V → PyData → Prop) (ta tb : TE) : TE := fun σ H Q => ta σ H fun x H1 => ∃ (l : Addr) (xs : List V) (kd : V → PyData), x = .ref l ∧ SqL K H1 l xs ∧ xs ≠ [] ∧ Tabs T H1 ∧
  (∀ v ∈ xs, ∀ v' ∈ xs, alike (kd v) (kd v') = true) ∧ (∀ v ∈ xs, kd v ≠ .none ∧ (kd v).depth ≤ 50) ∧ (∀ v ∈ xs, dataLt (kd v) (kd v) = false) ∧ (∀ u ∈ xs, ∀ v ∈ xs, ∀ z ∈ xs, dataLt (kd u) (kd v) = true → dataLt (kd v) (kd z) = true → dataLt (kd u) (kd z) = true) ∧
  (∀ H2, ExtN H1 H2 → Tabs T H2 → ∀ v ∈ xs, tb (some v :: σ) H2 fun y H3 => ExtN H2 H3 ∧ Tabs T H3 ∧ Ky H3 y (kd v)) ∧ ∀ v ∈ xs, (∀ v' ∈ xs, dataLt (kd v') (kd v) = false) → ∀ H', ExtN H1 H' → Tabs T H' → Q v H'
section
variable {X : Cx}
theorem pe_minLamL {T : List (Addr × Str)} {Ky : Hp → V → PyData → Prop} {e : Expr} {params : Arguments} {body : Expr} {scope : Scope} {lpos kpos p pos : Pos} {pn : Str} {c P : Addr} {k : Nat} {ta tb : TE}
    (hg : Gl X "min") (hm : X.mg "min" = none) (calm : X.calm = true) (room : Room (k + 3) X.A) (ha : PE X e ta)
    (TB : TabB X.base X.mg c P) (hcode : X.env.code = .ref c) (hmT : (P, X.env.qual ++ "<lambda>") ∈ T) (hu : ∀ p ∈ T, p.1 = P → p.2 = X.env.qual ++ "<lambda>") (L : Lam1 X.env.scope scope pn) (hpn : pn ∉ X.N) (hdef : defaultsOf params X.env = ([], []))
    (hbind : ∀ (q : Str) (cl : List (Str × Addr)) (pm cv ctv u : Value), bindArgs (kla_fn "<lambda>" q params body scope cl pm cv ctv) ⟨[u], []⟩ = pure [(pn, u)])
    (hbody : ∀ (A : Around) (s : Shared) (H : Hp) (f c' : Addr), Room k (A.deeper (lamEnv X scope s.heap.objs.size f c')) → PE (lamX X A s H pn scope f c') body tb)
    (hdz : ∀ H y d, Ky H y d → Dz X.K H y d) (hkeep : ∀ (H H' : Hp) y d, (∀ b zs, H b = some (.tup zs) → H' b = some (.tup zs)) → Ky H y d → Ky H' y d)
    (hs0 : starEach [e] X.env = (false, eval e X.env) :: starEach [] X.env := by rfl) (he : backTo pos (starEach [e] X.env) = (false, eval e X.env) :: backTo pos (starEach [] X.env) := by rfl) (hpl : (backTo pos (starEach [e] X.env)).any (·.1) = false := by rfl) :
    PE X (.Call (.Name "min" p) [e] [⟨some "key", .Lambda params body scope lpos, kpos⟩] pos) (tMinLamL X.K T Ky ta tb) := by
  refine ⟨fun pins s σ H Q I h => ?_⟩
  refine wpAny_Call_Name_kw (ld_blt I hg hm (u := .builtin "min") (by decide +kernel) ?_)
  refine PyProof.Rows.callWith_kw (thn ((pa_cons (hs := hs0) ha pa_nil).run pos pins s σ H (fun vs H1 => match vs with
    | [x] => ∃ (l : Addr) (xs : List V) (kd : V → PyData), x = .ref l ∧ SqL X.K H1 l xs ∧ xs ≠ [] ∧ Tabs T H1 ∧
      (∀ v ∈ xs, ∀ v' ∈ xs, alike (kd v) (kd v') = true) ∧ (∀ v ∈ xs, kd v ≠ .none ∧ (kd v).depth ≤ 50) ∧ (∀ v ∈ xs, dataLt (kd v) (kd v) = false) ∧ (∀ u ∈ xs, ∀ v ∈ xs, ∀ z ∈ xs, dataLt (kd u) (kd v) = true → dataLt (kd v) (kd z) = true → dataLt (kd u) (kd z) = true) ∧
      (∀ H2, ExtN H1 H2 → Tabs T H2 → ∀ v ∈ xs, tb (some v :: σ) H2 fun y H3 => ExtN H2 H3 ∧ Tabs T H3 ∧ Ky H3 y (kd v)) ∧ ∀ v ∈ xs, (∀ v' ∈ xs, dataLt (kd v') (kd v) = false) → ∀ H', ExtN H1 H' → Tabs T H' → Q v H'
    | _ => False) I h) fun us s1 hq => ?_) he hpl
  obtain ⟨ws, H1, I1, r1, q1⟩ := hq
  match ws, q1 with
  | [], q1 => exact False.elim q1
  | _ :: _ :: _, q1 => exact False.elim q1
  | [x], q1 =>
    obtain ⟨l, xs, kd, rfl, hs, ne, hT, hal, hso, hirr, htr, hbd, hq⟩ := q1
    obtain ⟨u, rfl, ru⟩ := vals1 r1
    cases ru
    show wpAny _ _ (evalAll ((do let v ← eval (.Lambda params body scope lpos) X.env; standAt pos; pure v) :: [])) _ _ s1
    refine wpAny_evalAll_cons (wpAny_bind (lam_make2 I1 TB hcode hmT hu hT hdef (L.has I1.ok) fun f c' pm ctv H2 s2 I2 eN T2 hf hfn hfr hco => wpAny_bind (wpAny_standAt (wpAny_pure (wpAny_evalAll_nil ?_)))))
    show wpAny _ _ (call (.builtin "min") [.ref l] [(Str.ofString "key", .ref f)]) _ _ s2
    have hs2 := sqL_extN eN hs
    obtain ⟨its, rx, ⟨ol, nl, el, el1, el2, el3⟩, _⟩ := I2.list hs2
    have hIt : s2.heap.IsList l its.toArray := by first | exact ⟨ol, el, el1, nl, el2⟩ | exact ⟨ol, el, el1, nl, el3⟩ | exact ⟨ol, el, el2, nl, el3⟩
    have hl : l < s2.heap.objs.size := by obtain ⟨o, ho, _⟩ := hIt; exact Heap.lt_size ho
    have hf' : f < s2.heap.objs.size := Heap.lt_size hf
    have hh : X.A.handled = none := I.ok.hd calm
    have nm : (toString "min" ++ toString ".loop" : String) = "min.loop" := by decide
    refine kmk_tree F.kind_min F.plain_min F.entry_min (kmk_min_key _ _) ?go
    case go =>
      show wpAny _ X.A.in1 (Builtin.Builtins.bindParams "min" ["key", "default"] 0 ⟨[], [(Str.ofString "key", .ref f)]⟩ >>= _) _ _ s2
      refine wpAny_bind (wpAny_of_eq (show Builtin.Builtins.bindParams "min" ["key", "default"] 0 ⟨[], [(Str.ofString "key", .ref f)]⟩ = pure [some (.ref f), none] from rfl) ?_)
      refine wpAny_bind (wpAny_pure (wpAny_bind (wpAny_pyIter_list hIt (wpAny_bind (wpAny_newObj_type ?_)))))
      rw [nm]
      -- the iterator, the list
      have sz : (s2.heap.push (itL l)).objs.size = s2.heap.objs.size + 1 := Heap.size_push ..
      show wpAny _ _ _ _ _ { s2 with heap := (s2.heap.push (itL l)).push { cls := .type "list", data := .seq #[] 0 } }
      have le1 : s2.heap.objs.size ≤ s2.heap.objs.size := Nat.le_refl _
      have le2 : s2.heap.objs.size ≤ (s2.heap.push (itL l)).objs.size := by rw [sz]; omega
      have kp : ∀ b o, s2.heap.get? b = some o → ((s2.heap.push (itL l)).push { cls := .type "list", data := .seq #[] 0 }).get? b = some o := fun b o e => Heap.get?_push_of_some _ (Heap.get?_push_of_some _ e)
      have J : Jm X pins σ T H1 (s2.heap.push (itL l)).objs.size s2.heap.objs.size f c' _ (X.env.qual ++ "<lambda>") H2 { s2 with heap := (s2.heap.push (itL l)).push { cls := .type "list", data := .seq #[] 0 } } :=
        ⟨I2.kept (t' := s2.toks) kp, eN, T2, I2.fpOk le2 (I2.hok.fresh le2), I2.fpOk le1 (I2.hok.fresh le1), kp _ _ hf, hfn, hco, ⟨_, Heap.get?_push_size _ rfl⟩, ⟨_, Heap.get?_push_of_some _ (Heap.get?_push_size _ rfl)⟩⟩
      have nS : (s2.heap.push (itL l)).objs.size ∉ [s2.heap.objs.size, l] := fun z => by
        rw [sz] at z
        rcases List.mem_cons.mp z with z | z
        · exact absurd z (Nat.succ_ne_self _)
        · exact absurd hl (by rw [← List.mem_singleton.mp z]; exact Nat.not_lt.mpr (Nat.le_succ _))
      have K : KeyL X pins σ T H1 (s2.heap.push (itL l)).objs.size s2.heap.objs.size f c' (kla_obj "<lambda>" (X.env.qual ++ "<lambda>") params body scope (cloFrom X.env.cells scope.names []) pm c' ctv) (X.env.qual ++ "<lambda>") Ky kd xs X.A.in1 := by
        refine ⟨fun H s v u E J hv rv => ?_, hdz, hkeep, hal, hso, ?_, hirr, htr⟩
        · have fr : X.A.in1.frames = some X.stack := by show X.A.frames = some X.stack; exact I.ok.frames
          refine wpAny_mono (lam_call (E := E) J.inv L hpn J.fn J.cd (hbind _ _ _ _ _ _) fr (room.in1.mono (by omega) : Room (k + 1) _) (fun hr => hbody _ _ _ _ _ hr) rv (hbd H J.ext J.tab v hv)) (fun y s' hq' => ?_) fun _ _ z => z
          obtain ⟨z, H', os, bare, un, hok, rz, eN', T', ky⟩ := hq'
          have I' : Inv X pins σ H' s' := J.inv.call' os un hok bare fun b hb => absurd hb List.not_mem_nil
          have kpt : ∀ b o, FpOk X pins H b → s.heap.get? b = some o → s'.heap.get? b = some o := fun b o fb e => un.keep _ _ e fb.1 (fun hz => by
            rcases List.mem_cons.mp (J.inv.stkSub b hz) with e' | e'
            · exact fb.2.1 e'
            · exact fb.2.2.1 e') List.not_mem_nil
          have fz : ∀ b o, s.heap.get? b = some o → FpOk X pins H b → FpOk X pins H' b := fun b o e fb => ⟨un.free _ _ e fb.1 List.not_mem_nil, fb.2⟩
          obtain ⟨oS, eS⟩ := J.eS
          obtain ⟨oI, eI⟩ := J.eI
          refine ⟨z, H', ⟨I', J.ext.trans eN', T', fz _ _ eS J.fS, fz _ _ eI J.fI, un.keep _ _ J.fn J.nf (fun hz => ?_) List.not_mem_nil, un.free _ _ J.fn J.nf List.not_mem_nil, eN' _ _ J.cd codeO_ne, ⟨_, kpt _ _ J.fS eS⟩, ⟨_, kpt _ _ J.fI eI⟩⟩, rz, ky, un.tups, kpt⟩
          exact hfr hz
        · have := room.units
          show X.A.units + 1 + 60 < cLine
          omega
      refine wpAny_pure ⟨plainId_quiet F.plain_min_loop _, min_first (A := X.A) (fp := [s2.heap.objs.size, l]) (St := Stl xs s2.heap.objs.size l) (walk_tl (A := X.A.in1) hh (Nat.ne_of_lt hl)) nS (Nat.ne_of_lt (Nat.lt_of_lt_of_le hf' le2)) (Nat.ne_of_lt hf') K
        (fun i v ⟨x, e, r⟩ => ⟨x, e, r⟩) rfl (fun i s s' st k => ?_) (fun H s i J st s' H' J' kk => ?_) (fun i s ⟨vs, r, ⟨o, e, _⟩, _⟩ => ⟨o, e⟩) (fun x v s' H' hx hm r I' e' t' => ⟨x, H', I', r, hq x hx hm H' e' t'⟩) (List.length_pos_iff.mpr ne) J ⟨its.toArray, by simpa using rx, ?_, ?_⟩ (Heap.get?_push_size _ rfl)⟩
      · obtain ⟨vs, r, ⟨o, e, r1⟩, ⟨o', e', r2⟩⟩ := st
        exact ⟨vs, r, ⟨o, k _ _ List.mem_cons_self e, r1⟩, ⟨o', k _ _ (by simp) e', r2⟩⟩
      · obtain ⟨vs, r, ⟨o, e, r1⟩, _⟩ := st
        obtain ⟨its', rx', ⟨ol', nl', f1, f2, f3, f4⟩, _⟩ := J'.inv.list (sqL_extN J'.ext hs)
        exact ⟨its'.toArray, by simpa using rx', ⟨o, kk _ _ J.fI e, r1⟩, by first | exact ⟨ol', f1, f2, nl', f3⟩ | exact ⟨ol', f1, f2, nl', f4⟩ | exact ⟨ol', f1, f3, nl', f4⟩⟩
      · exact ⟨_, Heap.get?_push_of_some _ (Heap.get?_push_size _ rfl), rfl, rfl⟩
      · exact (hIt.push _).push _
end
end Xll
set_option Elab.async false
set_option linter.all false
set_option maxRecDepth 100000
set_option maxHeartbeats 4000000
set_option pp.maxSteps 400
set_option pp.deepTerms false
/-! list(d.values()); max(l, default=d) of numbers -/
namespace Xvl
open PySem PySem.Spec PyProof.Rows L2 PySem.W
theorem kv_vals {κ : Type} : ∀ {kvs : List (κ × V)} {vs : List (κ × Value)}, KV kvs vs → Vals (kvs.map (·.2)) (vs.map (·.2))
  | [], _, h => by cases h; exact .nil
  | (k, v) :: r, _, h => by
    cases h with
    | cons h1 h2 => exact .cons h1.2 (kv_vals h2)
/-- *e ahead of other items, e a list -/
def tStarL (K : PySem.W.Frag) (ta : TE) (tr : TA) : TA := fun σ H Q => ta σ H fun x H1 => ∃ a xs, x = .ref a ∧ SqL K H1 a xs ∧ tr σ H1 fun ys H2 => Q (xs ++ ys) H2
theorem pa_starL {X : Cx} {e : Expr} {es : List Expr} {te : TE} {t : TA} {p : Pos} (ha : PE X e te) (hr : PA X es t) : PA X (.Starred e p :: es) (tStarL X.K te t) := by
  refine ⟨fun pos pins s σ H Q I h => ?_⟩
  refine items_star (thn (ha.run pins s σ H _ I h) fun u s1 ⟨x, H1, I1, r1, a, xs, ex, hq, q⟩ => ?_)
  subst ex
  obtain rfl : u = Value.ref a := r1
  refine StX.star_lst I1 hq fun us s2 I2 rv => ?_
  exact thn (hr.run pos pins s2 σ H1 _ I2 q) fun ws s3 ⟨ys, H2, I3, r2, q2⟩ => ⟨xs ++ ys, H2, I3, rv.append r2, q2⟩
def tListVals (td : TE) : TE := fun σ H Q => td σ H fun x H1 => ∃ d kvs, x = .ref d ∧ H1 d = some (.dK kvs) ∧ ∀ p, H1 p = none → p ≠ sysModules → Q (.ref p) (upd H1 p (.lst (kvs.map (·.2))))
section
variable {X : Cx}
theorem pe_listVals {e : Expr} {td : TE} {p pos apos cpos : Pos} (hc : X.calm = true) (hg : Gl X "list") (hm : X.mg "list" = none) (he : PE X e td) (hbase : attributeBase e "values" X.env (eval e X.env) = eval e X.env := by rfl) (hline : (apos.endLine == cpos.line) = true := by rfl)
    (na : starEach [.Call (.Attribute e "values" apos) [] [] cpos] X.env = (false, eval (.Call (.Attribute e "values" apos) [] [] cpos) X.env) :: starEach [] X.env := by rfl) :
    PE X (.Call (.Name "list" p) [.Call (.Attribute e "values" apos) [] [] cpos] [] pos) (tListVals td) := by
  refine ⟨fun pins s σ H Q I h => ?_⟩
  refine Call_ (ld_blt I hg hm (u := .type "list") (by decide +kernel) ?_); refine PyProof.Rows.callWith_type1 (PyProof.Rows.args_cons ?_ na) na rfl
  refine wpAny_Call_method (T := "dict") (id := "dict.values") hbase rfl hline F.plainAttrs_dict F.slot_dict_values F.type_dict_values (thn (he.run pins s σ H _ I h) fun u s1 ⟨x, H1, I1, rx, d, kvs, ex, hd, q⟩ => ?_)
  subst ex
  obtain rfl : u = Value.ref d := rx
  obtain ⟨z, hsys, vs, rel, dd⟩ := dk_of I1.hok hd
  refine ⟨dd.typeIs, dd.mapOf.noDict, ?_⟩
  have I2 : Inv X pins σ H1 { s1 with heap := s1.heap.push { cls := .type "dict_values", data := .fields #[.ref d] } } := I1.kept (t' := s1.toks) fun b ob q => Heap.get?_push_of_some _ q
  obtain ⟨ep, da⟩ := dd.dictAt
  have hl : kvs.length = vs.length := Paired.length rel
  refine method_meetsIn F.slot_dict_values F.entry_dict_values rfl (PySem.evalArgs_none ⟨rfl, dd.typeIs, F.args_dict_values_1 _, _, meets_dict_values (mixKind X.prog X.w) d hsys, ⟨vs, dd⟩, PyProof.Rows.args_nil ?_⟩)
  refine kdl_call (kdl_values (knd := mixKind X.prog X.w) (kvs := vs) (ep := ep) (d := d) (r := s1.heap.objs.size)) (I1.ok.hd hc) ⟨⟨_, Heap.get?_push_size _ rfl, rfl, rfl⟩, da.push _⟩ (by rw [← hl]; exact z) fun h' tk acc' c' hk hS it => ?_
  have ea : acc'.toList = vs.map (·.2) := kdl_vals_eq acc'.toList (by rw [Array.length_toList]; exact it.1) fun j v e => it.2 j v (by rw [← Array.getElem?_toList]; exact e)
  have rv : Vals (kvs.map (·.2)) acc'.toList := by rw [ea]; exact kv_vals rel
  have new : H1 (s1.heap.push { cls := .type "dict_values", data := .fields #[.ref d] }).objs.size = none := I2.hok.fresh (Nat.le_refl _)
  refine ⟨.ref _, upd H1 (s1.heap.push { cls := .type "dict_values", data := .fields #[.ref d] }).objs.size (.lst (kvs.map (·.2))), I2.laid (t' := tk) hk (Nat.le_refl _) ?_, rfl, q _ new (Nat.ne_of_gt I2.big)⟩
  exact ⟨by rw [List.length_map]; exact z, acc'.toList, c', rv, by rw [Array.toArray_toList]; exact hS⟩
/-- max(l, default=d) of numbers -/
def tMaxDef (K : PySem.W.Frag) (d : Int) (ta : TE) : TE := fun σ H Q => ta σ H fun x H1 => ∃ l, ∃ ns : List Int, x = .ref l ∧ SqL K H1 l (ns.map V.int) ∧ Q (.int (match ns with | [] => d | n :: r => r.foldl max n)) H1
theorem pe_maxDef {e : Expr} {ta : TE} {d : Int} {j : Nat} {p pos kpos cpos : Pos} {k : Nat} (hc : X.calm = true) (room : Room k X.A) (hg : Gl X "max") (hm : X.mg "max" = none) (ha : PE X e ta)
    (hs0 : starEach [e] X.env = (false, eval e X.env) :: starEach [] X.env := by rfl) (he : backTo pos (starEach [e] X.env) = (false, eval e X.env) :: backTo pos (starEach [] X.env) := by rfl) (hpl : (backTo pos (starEach [e] X.env)).any (·.1) = false := by rfl) :
    PE X (.Call (.Name "max" p) [e] [⟨some "default", .Constant (.int d) j cpos, kpos⟩] pos) (tMaxDef X.K d ta) := by
  refine ⟨fun pins s σ H Q I h => ?_⟩
  refine wpAny_Call_Name_kw (ld_blt I hg hm (u := .builtin "max") (by decide +kernel) ?_)
  refine PyProof.Rows.callWith_kw (thn ((pa_cons (hs := hs0) ha pa_nil).run pos pins s σ H (fun vs H1 => match vs with
    | [x] => ∃ l, ∃ ns : List Int, x = .ref l ∧ SqL X.K H1 l (ns.map V.int) ∧ Q (.int (match ns with | [] => d | n :: r => r.foldl max n)) H1
    | _ => False) I h) fun us s1 hq => ?_) he hpl
  obtain ⟨ws, H1, I1, r1, q1⟩ := hq
  match ws, q1 with
  | [], q1 => exact False.elim q1
  | _ :: _ :: _, q1 => exact False.elim q1
  | [x], q1 =>
    obtain ⟨l, ns, rfl, hs, hq⟩ := q1
    obtain ⟨u, rfl, ru⟩ := vals1 r1
    cases ru
    show wpAny _ _ (evalAll ((do let v ← eval (.Constant (.int d) j cpos) X.env; standAt pos; pure v) :: [])) _ _ s1
    refine wpAny_evalAll_cons (wpAny_bind (thn ((pe_int (X := X) (i := d)).run pins s1 σ H1 (fun y H2 => y = .int d ∧ H2 = H1) I1 ⟨rfl, rfl⟩) fun v s2 hv => wpAny_bind (wpAny_standAt (wpAny_pure (wpAny_evalAll_nil ?_)))))
    obtain ⟨y, H2, I2, ry, rfl, rfl⟩ := hv
    obtain ⟨t, rfl⟩ := ry
    obtain ⟨its, rx, ⟨ol, nl, el, el1, el2, el3⟩, _⟩ := I2.list hs
    have hIt : s2.heap.IsList l its.toArray := by first | exact ⟨ol, el, el1, nl, el2⟩ | exact ⟨ol, el, el1, nl, el3⟩ | exact ⟨ol, el, el2, nl, el3⟩
    have ia : IntsAre its ns := ints_of_vals rx
    have hh : X.A.handled = none := I2.ok.hd hc
    have hu := room.un
    show wpAny _ _ (call (.builtin "max") [.ref l] [(Str.ofString "default", .int d t)]) _ _ s2
    refine max_list_default hh hIt (IntsAre.reads _ (by simpa using ia)) (⟨fun x hx y hy => by
      obtain ⟨a, _, rfl⟩ := List.mem_map.mp hx
      obtain ⟨b, _, rfl⟩ := List.mem_map.mp hy
      rfl, fun x hx z => by
      obtain ⟨a, _, rfl⟩ := List.mem_map.mp hx
      cases z⟩ : AlikeAll (ns.map .int)) (by rw [Xt.depth_ints]; omega) (fun e h' tk kp => ?_) fun y ys i v h' tk bs e hi r kp => ?_
    · have e0 : ns = [] := List.map_eq_nil_iff.mp e
      rw [e0] at hq
      exact ⟨.int d, H2, I2.kept kp, ⟨_, rfl⟩, hq⟩
    · cases ns with
      | nil => cases e
      | cons n r2 =>
        rw [List.map_cons] at e
        injection e with e1 e2
        subst e1
        subst e2
        rw [maxD_ints] at r
        cases r
        exact ⟨.int _, H2, I2.kept kp, ⟨_, rfl⟩, hq⟩
/-- max(t) of a tuple of numbers -/
def rMaxT (K : PySem.W.Frag) : List V → Hp → VK → Prop := fun vs H Q => ∃ (a : Addr) (n : Int) (ns : List Int), vs = [V.ref a] ∧ SqT K H a ((n :: ns).map V.int) ∧ Q (.int (ns.foldl max n)) H
theorem cr_maxT {k : Nat} (hc : X.calm = true) (room : Room k X.A) : CallR X (.builtin "max") (rMaxT X.K) := by
  intro pins s σ H vs us Q I r h
  obtain ⟨a, n, ns, rfl, hs, q⟩ := h
  obtain ⟨u, rfl, ru⟩ := vals1 r
  cases ru
  obtain ⟨its, rv, ⟨o, ho, hcl, nn, hd⟩, hz⟩ := I.tuple hs
  have hIt : s.heap.IsTuple a its.toArray := by first | exact ⟨o, ho, hcl, nn, hd⟩ | exact ⟨o, ho, hcl, hd⟩
  have ia : IntsAre its (n :: ns) := ints_of_vals rv
  have hu := room.un
  refine max_tuple_data (I.ok.hd hc) hIt (x := .int n) (xs := ns.map .int) (by have := IntsAre.reads s.heap (by simpa using ia : IntsAre its.toArray.toList (n :: ns)); simpa using this) (⟨fun x hx y hy => by
      have hx : x ∈ (n :: ns).map PyData.int := hx
      have hy : y ∈ (n :: ns).map PyData.int := hy
      obtain ⟨a, _, rfl⟩ := List.mem_map.mp hx
      obtain ⟨b, _, rfl⟩ := List.mem_map.mp hy
      rfl, fun x hx z => by
      have hx : x ∈ (n :: ns).map PyData.int := hx
      obtain ⟨a, _, rfl⟩ := List.mem_map.mp hx
      cases z⟩ : AlikeAll (.int n :: ns.map .int)) (by
        have e : PyData.depthAll (.int n :: ns.map .int) = 0 := Xt.depth_ints (n :: ns)
        rw [e]
        omega) fun i v h' tk bs hi rd kp => ?_
  rw [maxD_ints] at rd
  cases rd
  exact ⟨.int _, H, I.kept kp, ⟨_, rfl⟩, q⟩
end
end Xvl
set_option Elab.async false
set_option linter.all false
set_option maxRecDepth 100000
set_option maxHeartbeats 4000000
set_option pp.maxSteps 400
set_option pp.deepTerms false
/-! list.extend(tuple); o.m(a=e) by keywords alone -/
namespace Xex
open PySem PySem.Spec PyProof.Rows L2
theorem ext_tup (p : Addr) (us : Array Value) (k : Nat) (r : Addr) (ws : Array Value) (j : Nat) (di : Option Addr) (so : Array (Option Value)) (e0 : ¬(!us.isEmpty && Builtin.List.listTooLong (us.size + ws.size)) = true) (e1 : us.size ≤ sizeLine) (e2 : us.size + ws.size ≤ sizeLine + 1) :
    Meets (Builtin.«list.extend» ⟨[Value.ref p, Value.ref r], []⟩) (fun _ R z => z.heap.get? p = some { cls := .type "list", dict := none, data := .seq us k, slots := #[] } ∧ z.heap.get? r = some { cls := .type "tuple", dict := di, data := .seq ws j, slots := so } ∧ R (.ok (.ret Value.none)) { z with heap := z.heap.update p (Obj.mapSeq fun y => y ++ ws), toks := z.toks }) :=
  .of_wp fun prog w A R z h => by
    obtain ⟨hp, g, d, tk, os⟩ := z
    obtain ⟨h1, h2, h⟩ := h
    have fa := AutoSeq1.idx_int
    have fb := AutoSeq1.sub_tuple_tuple
    have fc := AutoSeq1.sub_list_list
    have fd := AutoSeq1.sub_tuple_list
    have fe := AutoSeq1.sub_list_tuple
    have big : (us ++ ws).size ≤ sizeLine + 1 := by
      rw [Array.size_append]
      exact e2
    wp_walk using (wpAny_updateSeq h1 rfl (hz := e1) (_hz' := big)), wpAny_loadPart' h1, wpAny_loadPart' h2
    exact ⟨_, rfl, h⟩
section
variable {X : Cx}
def rExtT : V → List V → Hp → VK → Prop := fun x ys H Q => ∃ p r as bs, x = .ref p ∧ ys = [.ref r] ∧ H p = some (.lst as) ∧ H r = some (.tup bs) ∧ as.length + bs.length ≤ sizeLine ∧ Q .non (upd H p (.lst (as ++ bs)))
theorem mt_extT : MtM X "list.extend" rExtT := by
  intro pins s σ H x ys v us Q I rx rv h
  obtain ⟨p, r, as, bs, rfl, rfl, eP, eR, hz, q⟩ := h
  cases rx
  obtain ⟨u, rfl, ru⟩ := rv.one
  cases ru
  obtain ⟨z, its, n, ra, hl, e⟩ := I.lstM eP
  have okR : ObjOk X.prog X.w H s.heap r (.tup bs) := I.hok r _ eR
  obtain ⟨_, jts, rb, ⟨oc, od, oda, osl⟩, eh, ec, m, ed⟩ := okR
  dsimp only at ec ed
  subst ec ed
  have lb := rb.length
  have fits : its.toArray.size + jts.toArray.size ≤ sizeLine := by
    rw [List.size_toArray, List.size_toArray]
    omega
  have few : ¬ (!its.toArray.isEmpty && Builtin.List.listTooLong (its.toArray.size + jts.toArray.size)) = true := by
    rw [notLongL fits, Bool.and_false]
    exact Bool.false_ne_true
  refine call_meets F.slot_list_extend ⟨_, e, rfl⟩ F.entry_list_extend (F.args_list_extend_2 _ _) (ext_tup p its.toArray n r jts.toArray m od osl few (by rw [List.size_toArray]; omega) (by omega)) ⟨e, eh, ?_⟩
  refine ⟨.non, _, I.lset (its' := its ++ jts) eP e (by simp) (ra.append rb) ?_, rfl, q⟩
  rw [List.length_append]
  omega
end
section
variable {X : Cx} {CX : CXT} {k : Nat} {f C : Addr} {fd : FuncData} {ps ks : List Str} {sp : Sp} {E : XK} {m : Str} {o : Expr} {apos pos : Pos} {kws : List Keyword} {ta : TE} {tk : TA} {g : List Value → List Value → List Value} {gV : List V → List V → List V}
def tMethK (C : Addr) (m : Str) (n : Nat) (sp : Sp) (gV : List V → List V → List V) (E : XK) (ta : TE) (tk : TA) : TE := fun σ H Q => ta σ H fun x H1 => ∃ a dx fs, x = .ref a ∧ H1 a = some (.ins C dx fs) ∧ fs.lookup m = none ∧ tk σ H1 fun zs H2 => zs.length = n ∧ sp (gV [x] zs) H2 Q E
theorem pe_methK {pl : Sem Bool} (he : PE X o ta) (c : Cls X.K C) (hm : Meth X.K C m f) (F : FnOk X.prog X.w X.K X.mg X.base CX k f fd ps sp) (room : Room k X.A) (kb : KBn X.K fd ps 1 ks g gV) (px : Passes CX X E) (pk : PK X kws tk)
    (hall : (backToKw pos (keywordEach kws X.env)).all (·.1.isSome) = true := by rfl) (hks : (backToKw pos (keywordEach kws X.env)).filterMap (·.1) = ks := by rfl)
    (hpl : ((backTo pos (starEach [] X.env)).any (·.1) || (backToKw pos (keywordEach kws X.env)).any (·.1.isNone)) = false := by rfl)
    (ht : eval (.Call (.Attribute o m apos) [] kws pos) X.env = (do
      let ov ← eval o X.env
      standAt apos.atName
      let (fn, fst) ← holding [ov] (getMethod ov m pl)
      callWith pos fn fst (backTo pos (starEach [] X.env)) (backToKw pos (keywordEach kws X.env))) := by rfl) :
    PE X (.Call (.Attribute o m apos) [] kws pos) (tMethK C m ks.length sp gV E ta tk) := by
  refine ⟨fun pins s σ H Q I h => ?_⟩
  refine PySem.W.methodCall_KW (pl := pl) (thn (he.run pins s σ H _ I h) fun u s1 ⟨x, H1, I1, rx, a, dx, fs, ex, ea, l, q⟩ => ?_) ht
  subst ex
  obtain rfl : u = Value.ref a := rx
  refine getmeth_ok I1 ea c hm l ?_
  refine PySem.W.callWith_KW0 (first := [.ref a]) (h₀ := X.base) I.ok.mod.kin hm.kp hall (thn (pk.run pos pins s1 σ H1 _ I1 q) fun ws s2 z => ?_) hpl
  obtain ⟨zs, H2, I2, rz, l2, q2⟩ := z
  refine ⟨I2.kIn, ?_⟩
  rw [hks]
  exact run_fnN (us := [.ref a]) (vs := [.ref a]) F room kb px I2 (.cons rfl .nil) rz rfl l2 q2
end
end Xex
set_option Elab.async false
set_option linter.all false
set_option maxRecDepth 100000
set_option maxHeartbeats 4000000
set_option pp.maxSteps 400
set_option pp.deepTerms false
/-! sorted(xs, key=o.m): the key a bound method; o.m as a value -/
namespace Xsm
open PySem PySem.Spec PyProof.Rows L2
/-! ## sorted(xs, key=f), f a def of the text, xs a list or a tuple -/
/-- the items that list() would give: of a list, of a tuple -/
theorem collect_seq {prog : Program} {w : World} {A : Around} {E : Value → Shared → Prop} {s : Shared} {l : Addr} {o : Obj} {vs : List Value} {n : Nat} {T : String} {Q : List Value → Shared → Prop}
    (ho : s.heap.get? l = some o) (hT : T = "list" ∨ T = "tuple") (hc : o.cls = .type T) (hd : o.data = .seq vs.toArray n) (hz : vs.length ≤ sizeLine)
    (h : Q vs { s with heap := (s.heap.push (seqObj "list" #[] 0)).update s.heap.objs.size (Obj.mapSeq (· ++ vs.toArray)) }) : wpAny (model prog w) A (collect (.ref l)) Q E s := by
  unfold collect
  refine wpAny_bind (wpAny_runValue (codeAny_builtin entry_proto_collect' ?_))
  show wpAny _ _ (do again (.builtin "list.__iadd__" ⟨[← newList [], .ref l], []⟩)) _ _ s
  refine wpAny_bind (wpAny_newList (wpAny_pure ⟨Code.quiet_builtin _ (by decide +kernel), codeAny_builtin entry_list_iadd' ?_⟩))
  show wpAny _ _ (Builtin.List.listExtendWith (.ref s.heap.objs.size) (.ref l) (.ref s.heap.objs.size)) _ _ { s with heap := s.heap.push (seqObj "list" #[] 0) }
  unfold Builtin.List.listExtendWith
  have at_l : (s.heap.push (seqObj "list" #[] 0)).get? l = some o := Heap.get?_push_of_some _ ho
  have at_n : (s.heap.push (seqObj "list" #[] 0)).get? s.heap.objs.size = some (seqObj "list" #[] 0) := Heap.get?_push_size _ rfl
  refine wpAny_bind (wpAny_typeOf (T := T) ⟨o, at_l, hc⟩ ?_)
  have yes : (Builtin.List.listSameRef (.ref s.heap.objs.size) (.ref l) || Value.type T == Value.type "list" || Value.type T == Value.type "tuple") = true := by
    rcases hT with rfl | rfl
    · rw [show (Value.type "list" == Value.type "list") = true from rfl]
      simp
    · rw [show (Value.type "tuple" == Value.type "tuple") = true from rfl]
      simp
  rw [if_pos yes]
  refine wpAny_bind (listItems_at at_l hd ?_)
  refine wpAny_bind (listItems_at (xs := #[]) (n := 0) at_n rfl ?_)
  rw [if_neg (by simp)]
  refine wpAny_bind (listUpdate_at (xs := #[]) (n := 0) at_n rfl ?_ (Nat.zero_le _) ?_)
  · refine wpAny_pure ?_
    show wpAny (model prog w) A (do
        let ob ← load s.heap.objs.size
        match ob.data with
        | .seq xs _ => pure xs.toList
        | _ => unsupported "internal:collect") Q E { s with heap := (s.heap.push (seqObj "list" #[] 0)).update s.heap.objs.size (Obj.mapSeq (· ++ vs.toArray)) }
    refine wpAny_bind (wpAny_load (get?_update_seq at_n _) ?_)
    have e : ((#[] : Array Value) ++ vs.toArray).toList = vs := by simp
    show wpAny _ _ (pure ((#[] : Array Value) ++ vs.toArray).toList) Q E _
    rw [e]
    exact wpAny_pure h
  · show (#[] ++ vs.toArray).size ≤ sizeLine + 1
    simp only [Array.size_append, List.size_toArray, List.length_nil]
    omega
/-- sorted(xs, ..) is the sort of a new list -/
theorem sorted_seq {prog : Program} {w : World} {A : Around} {E : Value → Shared → Prop} {s : Shared} {l : Addr} {o : Obj} {vs : List Value} {n : Nat} {T : String} {kw : List (Str × Value)} {Q : Value → Shared → Prop}
    (ho : s.heap.get? l = some o) (hT : T = "list" ∨ T = "tuple") (hc : o.cls = .type T) (hd : o.data = .seq vs.toArray n) (hz : vs.length ≤ sizeLine)
    (ha1 : argsOk "sorted" ⟨[.ref l], kw⟩) (ha2 : ∀ x, argsOk "list.sort" ⟨[.ref x], kw⟩)
    (body : ∀ E' : Value → Shared → Prop, wpAny (model prog w) A.in1.in1 (Builtin.«list.sort» ⟨[.ref (s.heap.objs.size + 1)], kw⟩)
      (fun f s' => f = .done (.ret .none) ∧ Q (.ref (s.heap.objs.size + 1)) s') E' { s with heap := PySem.W.copyHeap s.heap vs }) :
    wpAny (model prog w) A (call (.builtin "sorted") [.ref l] kw) Q E s := by
  refine PyProof.Rows.call_function_entry_kw kind_sorted plain_sorted entry_sorted ha1 ?_
  unfold Builtin.«sorted»
  refine wpAny_bind (m := checkCount "sorted" 1 1 _) (wpAny_pure ?_)
  refine wpAny_bind (collect_seq ho hT hc hd hz (wpAny_bind (wpAny_newList ?_ hz)))
  have sz : ((s.heap.push (seqObj "list" #[] 0)).update s.heap.objs.size (Obj.mapSeq (· ++ vs.toArray))).objs.size = s.heap.objs.size + 1 := by
    rw [Heap.size_update, size_push']
  show wpAny _ _ _ _ _ { s with heap := PySem.W.copyHeap s.heap vs }
  rw [sz]
  refine wpAny_bind (wpAny_holding (wpAny_call_entry_kw slot_list_sort ⟨_, PySem.W.copyHeap_at s.heap vs, rfl⟩ entry_list_sort ?body (ha2 _)))
  case body =>
    refine wpAny_mono (body _) (fun f s' hf => ?_) fun _ _ e => e
    obtain ⟨rfl, hq⟩ := hf
    exact ⟨_, rfl, wpAny_pure ⟨_, rfl, hq⟩⟩
theorem sqT_same {K : PySem.W.Frag} {H H' : Hp} (s : Same H H') {t : Addr} {xs : List V} (q : SqT K H t xs) : SqT K H' t xs := by
  rcases q with (q | ⟨o, q⟩) | q
  · exact .inl (.inl (s _ _ q))
  · exact .inl (.inr ⟨o, s _ _ q⟩)
  · exact .inr q
section
variable {K : PySem.W.Frag} {H H' : Hp}
mutual
theorem dp_same (s : Same H H') : ∀ (d : PyData) (v : V), Dp K H v d → Dp K H' v d
  | .none, _, h => by
    cases h
    exact .non
  | .bool b, _, h => by
    cases h
    exact .bl b
  | .int i, _, h => by
    cases h
    exact .int i
  | .str x, _, h => by
    cases h
    exact .str x
  | .list ds, _, h => by
    cases h with
    | lst q r => exact .lst (s.seq q) (dpAll_same s ds _ r)
  | .tuple ds, _, h => by
    cases h with
    | tup q r => exact .tup (sqT_same s q) (dpAll_same s ds _ r)
  | .dict _, _, h => by cases h
theorem dpAll_same (s : Same H H') : ∀ (ds : List PyData) (vs : List V), DpAll K H vs ds → DpAll K H' vs ds
  | [], _, h => by
    cases h
    exact .nil
  | d :: ds, _, h => by
    cases h with
    | cons q r => exact .cons (dp_same s d _ q) (dpAll_same s ds _ r)
end
end
section
variable {X : Cx} {pins : List (Addr × Obj)} {σ : L2.St} {H : Hp}
/-- what stands beside the heap's own things, behind a call -/
theorem fp_on {H' : Hp} {b : Addr} (f : FpOk X pins H b) (n : H' b = none) : FpOk X pins H' b := ⟨n, f.2⟩
theorem fp_stack {s : Shared} {b : Addr} (I : Inv X pins σ H s) (f : FpOk X pins H b) : b ∉ frs X.stack := fun z => by
  rcases List.mem_cons.mp (I.stkSub b z) with e | e
  · exact f.2.1 e
  · exact f.2.2.1 e
/-- an object of nobody's becomes a list of ours, another is let go -/
theorem Inv.take {s : Shared} {h' : Heap} {a kS : Addr} {ys : List V} {out : List Value} {c t' : Nat} (I : Inv X pins σ H s) (fa : FpOk X pins H a) (fk : FpOk X pins H kS) (keep : ∀ b o, b ≠ a → b ≠ kS → s.heap.get? b = some o → h'.get? b = some o)
    (hz : ys.length ≤ sizeLine) (rv : Vals ys out) (na : h'.get? a = some (seqObj "list" out.toArray c)) : Inv X pins σ (upd H a (.lst ys)) { s with heap := h', toks := t' } := by
  have ne : ∀ b o, H b = some o → b ≠ a ∧ b ≠ kS := fun b o e => ⟨ne_of_none e fa.1, ne_of_none e fk.1⟩
  have off : ∀ {b : Addr}, b ∉ [a, kS] → b ≠ a ∧ b ≠ kS := fun {b} z => ⟨fun q => z (by simp [q]), fun q => z (by simp [q])⟩
  have u : Un (frs X.stack) [a, kS] H (upd H a (.lst ys)) s.heap h' := by
    refine ⟨fun b o e n _ hx => keep b o (off hx).1 (off hx).2 e, fun b o e n _ hx => ⟨o.slots, keep b o (off hx).1 (off hx).2 e⟩, fun b o e n hx => ?_, fun b o e hx => ⟨o, keep b o (off hx).1 (off hx).2 e⟩, fun b zs e => ?_, fun b o z e => ?_, fun b ps e => ⟨#[], ?_⟩⟩
    · rw [upd_ne (off hx).1]
      exact n
    · rw [upd_ne (ne _ _ e).1]
      exact e
    · rw [upd_ne (ne _ _ e).1]
      exact e
    · rw [upd_ne (ne _ _ e).1, e]
      simp
  have ok : HOk X.prog X.w (upd H a (.lst ys)) h' := fun b o e => by
    by_cases hb : b = a
    · subst hb
      rw [upd_same] at e
      cases e
      exact ⟨hz, out, c, rv, na⟩
    · rw [upd_ne hb] at e
      refine (I.hok b o e).stay (fun z v hz' q => ?_) (fun z q => ?_) fun z zs q => ?_
      · have nz : z ≠ a ∧ z ≠ kS := by
          rcases hz' with e1 | e1
          · rw [e1]
            exact ne _ _ e
          · exact ne _ _ e1
        exact keep z v nz.1 nz.2 q
      · rw [upd_ne (ne _ _ q).1]
        exact q
      · rw [upd_ne (ne _ _ q).1]
        exact q
  refine I.call (g' := s.gens) (d' := s.drawn) (t' := t') (ch := [a, kS]) u ok I.bare fun b hb => ?_
  rcases List.mem_cons.mp hb with e | e
  · rw [e]
    exact ⟨fa.2.2.2.1, fa.2.1, fa.2.2.2.2.1, fa.2.2.2.2.2⟩
  · rw [List.mem_singleton.mp e]
    exact ⟨fk.2.2.2.1, fk.2.1, fk.2.2.2.2.1, fk.2.2.2.2.2⟩
theorem vals_each : ∀ {xs : List V} {vs : List Value}, Vals xs vs → PySem.W.EachIs (fun v x => RelV x v) vs xs
  | _, _, .nil => .nil
  | _, _, .cons r t => .cons r (vals_each t)
theorem each_vals : ∀ {xs : List V} {vs : List Value}, PySem.W.EachIs (fun v x => RelV x v) vs xs → Vals xs vs
  | _, _, .nil => .nil
  | _, _, .cons r t => .cons r (each_vals t)
end
section
variable {X : Cx} {f g sf : Addr} {pins : List (Addr × Obj)} {σ : L2.St} {H : Hp} {k : Nat} {fd : FuncData} {ps : List Str} {sp : Sp} {kd : V → PyData} {xs : List V}
/-- what the key's def promises of the items -/
def KeyOk (X : Cx) (sf : Addr) (sp : Sp) (H : Hp) (xs : List V) (kd : V → PyData) : Prop :=
  ∀ (H' : Hp) (Q : VK), Same H H' → ∀ x ∈ xs, (∀ v H2, Same H' H2 → Dp X.K H2 v (kd x) → Q v H2) → sp [.ref sf, x] H' Q E0
theorem each_get {α β : Type} {R : α → β → Prop} : ∀ {as : List α} {bs : List β} {i : Nat} {a : α}, PySem.W.EachIs R as bs → as[i]? = some a → ∃ b, bs[i]? = some b ∧ R a b
  | _, _, _, _, .nil, e => by simp at e
  | _, _, 0, _, .cons r _, e => by
    simp at e
    subst e
    exact ⟨_, rfl, r⟩
  | _, _, i + 1, a, .cons _ t, e => by
    obtain ⟨b, h1, h2⟩ := each_get (i := i) (a := a) t (by simpa using e)
    exact ⟨b, by simpa using h1, h2⟩
theorem each_more {α β : Type} {R : α → β → Prop} : ∀ {as : List α} {bs : List β} {a : α} {b : β}, PySem.W.EachIs R as bs → R a b → PySem.W.EachIs R (as ++ [a]) (bs ++ [b])
  | _, _, _, _, .nil, r => .cons r .nil
  | _, _, _, _, .cons q t, r => .cons q (each_more t r)
theorem each_mono {α β : Type} {R S : α → β → Prop} (h : ∀ a b, R a b → S a b) : ∀ {as : List α} {bs : List β}, PySem.W.EachIs R as bs → PySem.W.EachIs S as bs
  | _, _, .nil => .nil
  | _, _, .cons r t => .cons (h _ _ r) (each_mono h t)
theorem each_len {α β : Type} {R : α → β → Prop} : ∀ {as : List α} {bs : List β}, PySem.W.EachIs R as bs → as.length = bs.length
  | _, _, .nil => rfl
  | _, _, .cons _ t => congrArg Nat.succ (each_len t)
theorem keyI_rest {A : Around} {E : Value → Shared → Prop} {s : Shared} {a kS : Addr} {e1 : Nat} {vs : List Value} {P : PySem.Fin → Shared → Prop} (fr : A.frames = some X.stack) (room : Room k A)
    (F : FnOk X.prog X.w X.K X.mg X.base CX0 k g fd ps sp) (eq_ : H f = some (.met g sf)) (bd : Binds X.K fd ps []) (ok : KeyOk X sf sp H xs kd) (I : Inv X pins σ H s) (fa : FpOk X pins H a) (fk : FpOk X pins H kS) (hka : kS ≠ a) (rv : Vals xs vs)
    (nk : s.heap.get? kS = some (seqObj "list" #[] 0)) (na : s.heap.get? a = some (seqObj "list" #[] e1)) (hz : vs.length ≤ sizeLine)
    (hal : PySem.W.AllAlike (xs.map kd)) (hsk : PySem.W.Sortable (xs.map kd)) (hu : ∀ d, d ∈ xs.map kd → A.units + d.depth < cLine)
    (h : ∀ s' H', Inv X pins σ (upd H' a (.lst (xs.mergeSort (PySem.W.dataLe false kd)))) s' → Same H H' → H' a = none → P (.done (.ret .none)) s') :
    wpAny (model X.prog X.w) A (ksk_rest a (.ref f) false vs.toArray e1 (.ref kS)) P E s := by
  have hlen : xs.length = vs.length := rv.length
  unfold ksk_rest
  refine wpAny_bind (wpAny_rule ?_)
  rw [List.forIn_toArray]
  refine wpAny_bind (ksk_fold (fun i s' => ∃ (H' : Hp) (kA : Array Value) (e : Nat), Inv X pins σ H' s' ∧ Same H H' ∧ H' kS = none ∧ H' a = none ∧ s'.heap.get? kS = some (seqObj "list" kA e) ∧ s'.heap.get? a = some (seqObj "list" #[] e1) ∧
    PySem.W.EachIs (fun v d => ∃ y, RelV y v ∧ Dp X.K H' y d) kA.toList ((xs.map kd).take i)) vs 0 s ⟨H, #[], 0, I, Same.refl H, fk.1, fa.1, nk, na, by rw [List.take_zero]; exact .nil⟩ ?step ?done)
  case step =>
    rintro j u s1 hx ⟨H1, kA, e, I1, sm, hk0, ha0, nk1, na1, hks⟩
    simp only [Nat.zero_add] at hks ⊢
    obtain ⟨x, hxj, rx⟩ := each_get (vals_each rv) hx
    have hxm : x ∈ xs := List.mem_of_getElem? hxj
    have fk1 := fp_on fk hk0
    have fa1 := fp_on fa ha0
    have hsp := ok H1 (fun v H2 => Same H1 H2 ∧ Dp X.K H2 v (kd x)) sm x hxm fun v H2 s2 d2 => ⟨s2, d2⟩
    have en : Env0 X.prog X.w X.K X.mg X.base A X.stack s1 H1 := by
      have z := I1.env0
      exact ⟨fr, z.mod, z.bs, z.bsz, z.funs, z.frf, z.hok, z.bare⟩
    have hl1 : [V.ref sf, x].length = ps.length := F.len _ _ _ _ hsp
    have b1 := bd s1 [.ref sf, u] I1.kIn (by simpa using hl1)
    rw [List.append_nil] at b1
    have hkz : kA.size ≤ vs.length := by
      have z := each_len hks
      rw [Array.length_toList, List.length_take, List.length_map] at z
      omega
    refine wpAny_bind (wpAny_attempt (wpAny_call (codeAny_mono (call_met I1 (sm _ _ eq_) (F.run A X.stack s1 H1 ⟨[.ref sf, u], []⟩ [.ref sf, u] [.ref sf, x] _ E0 room en b1 (.cons rfl (.cons rx .nil)) hsp)) fun r s2 hr => ?_)))
    match r, hr with
    | .error z, hr => exact False.elim hr
    | .ok .next, hr => exact False.elim hr
    | .ok .brk, hr => exact False.elim hr
    | .ok .cont, hr => exact False.elim hr
    | .ok (.ret v), hr =>
      obtain ⟨y, H2, os, bare, un, hok, ry, sm2, dp2⟩ := hr
      obtain ⟨h2, g2, d2, t2, os2⟩ := s2
      obtain rfl : os2 = s1.os := os
      have I2 : Inv X pins σ H2 _ := I1.call (h' := h2) (g' := g2) (d' := d2) (t' := t2) (ch := []) un hok bare fun b z => absurd z List.not_mem_nil
      have nk2 : h2.get? kS = some (seqObj "list" kA e) := un.keep _ _ nk1 hk0 (fp_stack I1 fk1) List.not_mem_nil
      have na2 : h2.get? a = some (seqObj "list" #[] e1) := un.keep _ _ na1 ha0 (fp_stack I1 fa1) List.not_mem_nil
      have hk2 : H2 kS = none := un.free _ _ nk1 hk0 List.not_mem_nil
      have ha2 : H2 a = none := un.free _ _ na1 ha0 List.not_mem_nil
      have sb := Heap.SameBut.update h2 kS (Obj.mapSeq (·.push v))
      obtain ⟨c2, hc2⟩ : ∃ c2, (h2.update kS (Obj.mapSeq (·.push v))).get? kS = some (seqObj "list" (kA.push v) c2) := ⟨_, get?_update_seq nk2 (·.push v)⟩
      refine wpAny_bind (listUpdate_at (s := ⟨h2, g2, d2, t2, s1.os⟩) nk2 rfl ?_ (Nat.le_trans hkz hz) (by rw [Array.size_push]; omega))
      refine wpAny_pure ⟨rfl, H2, kA.push v, c2, ?_, sm.trans sm2, hk2, ha2, hc2, (sb.2 a hka.symm).trans na2, ?_⟩
      · refine Inv.turnedL (ch := [kS]) (t' := t2) I2 (fun b o hb q => (sb.2 b fun z => hb (by simp [z])).trans q) fun b hb => ?_
        rw [List.mem_singleton.mp hb]
        exact fp_on fk1 hk2
      · have ek : (xs.map kd).take (j + 1) = (xs.map kd).take j ++ [kd x] := by
          rw [List.take_add_one, List.getElem?_map, hxj]
          rfl
        rw [ek, Array.toList_push]
        refine each_more (each_mono (fun w d q => ?_) hks) ⟨y, ry, dp2⟩
        obtain ⟨z, rz, dz⟩ := q
        exact ⟨z, rz, dp_same sm2 _ _ dz⟩
  case done =>
    rintro s1 ⟨H1, kA, e, I1, sm, hk0, ha0, nk1, na1, hks⟩
    rw [Nat.zero_add, List.take_of_length_le (by rw [List.length_map]; omega)] at hks
    have hk' : PySem.W.EachIs (fun v d => ∃ as, Reads s1.heap v d as) kA.toList (xs.map kd) := each_mono (fun v d q => by
      obtain ⟨y, ry, dy⟩ := q
      exact Dp.reads I1 d y v dy ry) hks
    have hsz : kA.size = vs.length := by
      have z := each_len hk'
      rw [Array.length_toList, List.length_map] at z
      omega
    -- all but the list of the keys
    let Hk : Hp := upd (fun _ => none) kS (.lst [])
    have hidK : (hidT s1.heap Hk).get? kS = none := by
      cases q : (hidT s1.heap Hk).get? kS with
      | none => rfl
      | some o =>
        have z := (of_hidT q).2
        rw [show Hk kS = some (.lst []) from upd_same] at z
        cases z
    refine wpAny_bind (listItems_at nk1 rfl ?_)
    refine PySem.W.keyH_end (κ := PySem.W.dataKind s1.heap (xs.map kd)) (h₁ := hidT s1.heap Hk) (fun b o _ q => (of_hidT q).1) hidK nk1 na1 hka (PySem.W.SortsAt.data hk' hal hsk hu) hsz hz fun h3 tk3 c k3 n3 => ?_
    have each := PySem.W.keyedOut_each (rev := false) (out := PySem.W.sortVals (PySem.W.dataKind s1.heap (xs.map kd)) false kA.toList vs) kd (vs := vs) ⟨s1.heap, kA.toList, hal, rfl, hk'⟩ (vals_each rv)
    have I3 := Inv.take (t' := tk3) (kS := kS) (h' := h3) (c := c) I1 (fp_on fa ha0) (fp_on fk hk0) (fun b o hb hb2 q => k3 b o hb (hidT_get q (by rw [show Hk b = none from by show upd _ _ _ _ = _; rw [upd_ne hb2]]))) ?_ (each_vals each) n3
    · exact h _ H1 I3 sm ha0
    · rw [List.length_mergeSort]
      omega
end
section
variable {X : Cx} {k : Nat} {g sf : Addr} {fd : FuncData} {ps : List Str} {sp : Sp}
def rSortM (X : Cx) (g : Addr) (sp : Sp) : List V → List V → Hp → VK → Prop := fun vs zs H Q => ∃ (l f sf : Addr) (xs : List V) (kd : V → PyData), vs = [.ref l] ∧ zs = [.ref f] ∧ H f = some (.met g sf) ∧ (SqL X.K H l xs ∨ SqT X.K H l xs) ∧
  KeyOk X sf sp H xs kd ∧ PySem.W.AllAlike (xs.map kd) ∧ PySem.W.Sortable (xs.map kd) ∧ (∀ x ∈ xs, (kd x).depth ≤ 50) ∧ ∀ H' a, Same H H' → H' a = none → Q (.ref a) (upd H' a (.lst (xs.mergeSort (PySem.W.dataLe false kd))))
theorem cr_sortM (room : Room (k + 2) X.A) (F : FnOk X.prog X.w X.K X.mg X.base CX0 k g fd ps sp) (bd : Binds X.K fd ps []) : CallRK X (.builtin "sorted") [Str.ofString "key"] (rSortM X g sp) := by
  intro pins s σ H vs zs us ws Q I rv rz h
  obtain ⟨l, f, sf, xs, kd, rfl, rfl, em, hq, ok, hal, hsk, hdp, q⟩ := h
  obtain ⟨u, rfl, ru⟩ := vals1 rv
  obtain ⟨w, rfl, rw'⟩ := vals1 rz
  cases ru
  cases rw'
  obtain ⟨T, o, its, n, hT, ho, hc, hd, rx, hz⟩ : ∃ (T : String) (o : Obj) (its : List Value) (n : Nat), (T = "list" ∨ T = "tuple") ∧ s.heap.get? l = some o ∧ o.cls = .type T ∧ o.data = .seq its.toArray n ∧ Vals xs its ∧ its.length ≤ sizeLine := by
    rcases hq with hq | hq
    · obtain ⟨its, r, ⟨o, n, ho, hc, _, hd⟩, hz⟩ := I.list hq
      exact ⟨"list", o, its, n, .inl rfl, ho, hc, hd, r, by rw [← r.length]; exact hz⟩
    · obtain ⟨its, r, ⟨o, ho, hc, n, hd⟩, hz⟩ := I.tuple hq
      exact ⟨"tuple", o, its, n, .inr rfl, ho, hc, hd, r, by rw [← r.length]; exact hz⟩
  have hu := room.units
  refine sorted_seq ho hT hc hd hz (ksk_s1 _ _) (fun _ => ksk_l1 _ _) fun E' => ?_
  show wpAny _ _ (Builtin.«list.sort» ⟨[.ref (s.heap.objs.size + 1)], [(Str.ofString "key", .ref f)]⟩) _ _ _
  rw [ksk_t1]
  unfold ksk_tree
  have na0 := PySem.W.copyHeap_at s.heap its
  obtain ⟨e1, na1⟩ : ∃ e1, ((PySem.W.copyHeap s.heap its).update (s.heap.objs.size + 1) (Obj.mapSeq fun _ => (#[] : Array Value))).get? (s.heap.objs.size + 1) = some (seqObj "list" #[] e1) := ⟨_, get?_update_seq na0 fun _ => #[]⟩
  have sb := Heap.SameBut.update (PySem.W.copyHeap s.heap its) (s.heap.objs.size + 1) (Obj.mapSeq fun _ => (#[] : Array Value))
  refine wpAny_bind (listItems_at na0 rfl ?_)
  refine wpAny_bind (listUpdate_at na0 rfl ?_ (by rw [List.size_toArray]; exact hz) (Nat.zero_le _))
  refine wpAny_bind (seqEpoch_at na1 rfl ?_)
  refine wpAny_bind (wpAny_newTuple ?_ (by show its.length ≤ _; exact hz))
  refine wpAny_bind (wpAny_newList ?_ (Nat.zero_le _))
  refine wpAny_holding ?_
  have old : ∀ b o, s.heap.get? b = some o → ((((PySem.W.copyHeap s.heap its).update (s.heap.objs.size + 1) (Obj.mapSeq fun _ => (#[] : Array Value))).push (seqObj "tuple" its.toArray 0)).push (seqObj "list" #[] 0)).get? b = some o := fun b o e =>
    Heap.get?_push_of_some _ (Heap.get?_push_of_some _ ((sb.2 b (Nat.ne_of_lt (Nat.lt_succ_of_lt (Heap.lt_size e)))).trans (PySem.W.copyHeap_old e)))
  have big : s.heap.objs.size + 1 < (PySem.W.copyHeap s.heap its).objs.size := Heap.lt_size na0
  have hkS : (((PySem.W.copyHeap s.heap its).update (s.heap.objs.size + 1) (Obj.mapSeq fun _ => (#[] : Array Value))).push (seqObj "tuple" its.toArray 0)).objs.size = (PySem.W.copyHeap s.heap its).objs.size + 1 := by rw [size_push', Heap.size_update]
  have ltS : s.heap.objs.size + 1 < (((PySem.W.copyHeap s.heap its).update (s.heap.objs.size + 1) (Obj.mapSeq fun _ => (#[] : Array Value))).push (seqObj "tuple" its.toArray 0)).objs.size := by
    rw [hkS]
    omega
  have le1 : s.heap.objs.size ≤ s.heap.objs.size + 1 := Nat.le_succ _
  have le2 : s.heap.objs.size ≤ (((PySem.W.copyHeap s.heap its).update (s.heap.objs.size + 1) (Obj.mapSeq fun _ => (#[] : Array Value))).push (seqObj "tuple" its.toArray 0)).objs.size := by rw [hkS]; omega
  refine keyI_rest (A := X.A.in1.in1) (E := E') (by show X.A.frames = some X.stack; exact I.ok.frames) room.in1.in1 F em bd ok (I.kept (t' := s.toks) old) (I.fpOk le1 (I.hok.fresh le1)) (I.fpOk le2 (I.hok.fresh le2)) (Nat.ne_of_gt ltS) rx
    (Heap.get?_push_size _ rfl) (Heap.get?_push_of_some _ (Heap.get?_push_of_some _ na1)) hz hal hsk (fun d hd' => ?_) fun s' H' I' sm ha => ⟨rfl, ?_⟩
  · obtain ⟨x, hx, rfl⟩ := List.mem_map.mp hd'
    have := hdp x hx
    show X.A.units + 1 + 1 + (kd x).depth < cLine
    omega
  · exact ⟨.ref _, _, I', rfl, q H' _ sm ha⟩
end
section
variable {X : Cx} {e : Expr} {ta : TE} {C g : Addr} {m : Str} {pos : Pos}
/-- o.m as a value -/
def tBound (C : Addr) (m : Str) (g : Addr) (ta : TE) : TE := fun σ H Q => ta σ H fun x H1 => ∃ a dx fs, x = .ref a ∧ H1 a = some (.ins C dx fs) ∧ fs.lookup m = none ∧ ∀ q, H1 q = none → Q (.ref q) (upd H1 q (.met g a))
theorem pe_bound (he : PE X e ta) (c : Cls X.K C) (k : BMeth X.K C m g) (hb : attributeBase e m X.env (eval e X.env) = eval e X.env) : PE X (.Attribute e m pos) (tBound C m g ta) := by
  refine ⟨fun pins s σ H Q I h => ?_⟩
  refine attr_of hb (thn (he.run pins s σ H _ I h) fun u s1 ⟨x, H1, I1, rx, a, dx, fs, ex, ea, l, q⟩ => ?_)
  subst ex
  exact op_getbound I1 ea c k l rx q
end
end Xsm
set_option Elab.async false
set_option linter.all false
set_option maxRecDepth 100000
set_option maxHeartbeats 4000000
set_option pp.maxSteps 400
set_option pp.deepTerms false
/-! sorted of data of any one kind: of a list, of a tuple, of a dict's key tuples -/
namespace Xsd
open PySem PySem.Spec PyProof.Rows L2 Xsm
theorem each_pairs {h : Heap} {R : V → Value → Prop} {xs : List V} {vs : List Value} (r : Vals xs vs) : PySem.W.EachIs (fun v x => RelV x v) vs xs := vals_each r
theorem each_fst {α : Type} (f : α → V) : ∀ {bs : List α} {vs : List Value}, Vals (bs.map f) vs → PySem.W.EachIs (fun v b => RelV (f b) v) vs bs
  | [], _, h => by cases h; exact .nil
  | b :: bs, _, h => by cases h with | cons r t => exact .cons r (each_fst f t)
theorem fst_each {α : Type} (f : α → V) : ∀ {bs : List α} {vs : List Value}, PySem.W.EachIs (fun v b => RelV (f b) v) vs bs → Vals (bs.map f) vs
  | _, _, .nil => .nil
  | _, _, .cons r t => .cons r (fst_each f t)
theorem each_and {α : Type} {R S : Value → α → Prop} : ∀ {bs : List α} {vs : List Value}, PySem.W.EachIs R vs bs → (∀ v b, b ∈ bs → R v b → S v b) → PySem.W.EachIs S vs bs
  | _, _, .nil, _ => .nil
  | _, _, .cons r t, h => .cons (h _ _ List.mem_cons_self r) (each_and t fun v b m q => h v b (List.mem_cons_of_mem _ m) q)
section
variable {X : Cx} {k : Nat}
/-- what a pair's second says of its first -/
abbrev Pd := V × PyData
def rSortD (K : PySem.W.Frag) : List V → Hp → VK → Prop := fun vs H Q => ∃ (l : Addr) (bs : List Pd), vs = [.ref l] ∧ (SqL K H l (bs.map (·.1)) ∨ SqT K H l (bs.map (·.1))) ∧ (∀ b ∈ bs, Dp K H b.1 b.2) ∧ PySem.W.AllAlike (bs.map (·.2)) ∧ PySem.W.Sortable (bs.map (·.2)) ∧ (∀ b ∈ bs, b.2.depth ≤ 50) ∧
  ∀ a, H a = none → Q (.ref a) (upd H a (.lst ((bs.mergeSort (PySem.W.dataLe false fun b : Pd => b.2)).map (·.1))))
theorem cr_sortD (room : Room (k + 2) X.A) : CallR X (.builtin "sorted") (rSortD X.K) := by
  intro pins s σ H vs us Q I r h
  obtain ⟨l, bs, rfl, hq, hdp, hal, hsk, hde, q⟩ := h
  obtain ⟨u, rfl, ru⟩ := vals1 r
  cases ru
  obtain ⟨T, o, its, n, hT, ho, hc, hd, rx, hz⟩ : ∃ (T : String) (o : Obj) (its : List Value) (n : Nat), (T = "list" ∨ T = "tuple") ∧ s.heap.get? l = some o ∧ o.cls = .type T ∧ o.data = .seq its.toArray n ∧ Vals (bs.map (·.1)) its ∧ its.length ≤ sizeLine := by
    rcases hq with hq | hq
    · obtain ⟨its, r, ⟨o, n, ho, hc, _, hd⟩, hz⟩ := I.list hq
      exact ⟨"list", o, its, n, .inl rfl, ho, hc, hd, r, by rw [← r.length]; exact hz⟩
    · obtain ⟨its, r, ⟨o, ho, hc, n, hd⟩, hz⟩ := I.tuple hq
      exact ⟨"tuple", o, its, n, .inr rfl, ho, hc, hd, r, by rw [← r.length]; exact hz⟩
  have hu := room.units
  have old : ∀ b o, s.heap.get? b = some o → (PySem.W.sortingHeap (PySem.W.copyHeap s.heap its) (s.heap.objs.size + 1) its).get? b = some o := fun b o e => PySem.W.sorting_copy_old e
  have I2 := I.kept (t' := s.toks) old
  have er : PySem.W.EachIs (fun v b => ∃ as, Reads (PySem.W.sortingHeap (PySem.W.copyHeap s.heap its) (s.heap.objs.size + 1) its) v b.2 as) its bs := each_and (each_fst (·.1) rx) fun v b m rb => Dp.reads I2 b.2 b.1 v (hdp b m) rb
  refine sorted_seq ho hT hc hd hz (args_sorted1 _) (fun _ => args_list_sort _) fun E' => ?_
  refine PySem.W.list_sort_vals (s := { s with heap := PySem.W.copyHeap s.heap its }) (PySem.W.copyHeap_at s.heap its) (PySem.W.SortsAt.data (ds := bs.map (·.2)) (PySem.W.each_map (R := fun v d => ∃ as, Reads (PySem.W.sortingHeap (PySem.W.copyHeap s.heap its) (s.heap.objs.size + 1) its) v d as) (fun b : Pd => b.2) er) hal hsk fun d hd' => ?_) hz ⟨rfl, ?_⟩
  · obtain ⟨x, hx, rfl⟩ := List.mem_map.mp hd'
    have := hde x hx
    show X.A.units + 1 + 1 + x.2.depth < cLine
    omega
  have out := PySem.W.sortVals_data (enc := fun b : Pd => b.2) false (each_fst (·.1) rx) er hal
  obtain ⟨ep, hat⟩ := PyProof.Rows.sortedAll_at s.heap its (PySem.W.sortVals (PySem.W.dataKind (PySem.W.sortingHeap (PySem.W.copyHeap s.heap its) (s.heap.objs.size + 1) its) (bs.map (·.2))) false its its).toArray
  have le1 : s.heap.objs.size ≤ s.heap.objs.size + 1 := Nat.le_succ _
  have lz : ((bs.mergeSort (PySem.W.dataLe false fun b : Pd => b.2)).map (·.1)).length ≤ sizeLine := by
    rw [List.length_map, List.length_mergeSort]
    have := rx.length
    rw [List.length_map] at this
    omega
  exact ⟨.ref _, _, I.laid (o := .lst ((bs.mergeSort (PySem.W.dataLe false fun b : Pd => b.2)).map fun b : Pd => b.1)) (t' := s.toks) (fun b o e => PyProof.Rows.sortedAll_old e) le1 ⟨lz, _, ep, fst_each (fun b : Pd => b.1) out, hat⟩, rfl, q _ (I.hok.fresh le1)⟩
/-! ### of a dict's key tuples -/
def kyD : Key → PyData
  | .inl i => .int i
  | .inr x => .str x
def kyT (k : List Key) : PyData := .tuple (k.map kyD)
theorem dp_key {K : PySem.W.Frag} {H : Hp} : ∀ k : List Key, DpAll K H (k.map kV) (k.map kyD)
  | [] => .nil
  | .inl i :: r => .cons (.int i) (dp_key r)
  | .inr x :: r => .cons (.str x) (dp_key r)
/-- sorted of what a dict gives -/
theorem sorted_src {prog : Program} {w : World} {A : Around} {E : Value → Shared → Prop} {s : Shared} {T : String} {r d : Addr} {n : Nat} {P : Nat → Value → Prop} {OK : Heap → Prop} {Q : Value → Shared → Prop}
    (K : PySem.W.KdlSrc prog w T r d n P OK) (hh : A.handled = none) (hok : OK s.heap) (hn : n ≤ sizeLine)
    (body : ∀ (h' : Heap) (tk : Nat) (acc : List Value), (∀ b o, s.heap.get? b = some o → h'.get? b = some o) → acc.length = n → (∀ j v, acc[j]? = some v → P j v) → ∀ E' : Value → Shared → Prop,
      wpAny (model prog w) A.in1.in1 (Builtin.«list.sort» ⟨[.ref h'.objs.size], []⟩) (fun f s' => f = .done (.ret .none) ∧ Q (.ref h'.objs.size) s') E' { s with heap := h'.push (seqObj "list" acc.toArray 0), toks := tk }) :
    wpAny (model prog w) A (call (.builtin "sorted") [.ref r]) Q E s := by
  refine PySem.Calls.call_function_entry kind_sorted plain_sorted entry_sorted (args_sorted1 _) ?_
  unfold Builtin.«sorted»
  refine wpAny_bind (m := checkCount "sorted" 1 1 _) (wpAny_pure ?_)
  refine wpAny_bind (PySem.W.kdu_collect (A := A.in1) K hh hok hn fun h' tk acc hk it => ?_)
  have la : acc.toList.length = n := by rw [Array.length_toList]; exact it.1
  refine wpAny_bind (wpAny_newList ?_ (by rw [la]; exact hn))
  have at_ : (h'.push (seqObj "list" acc.toList.toArray 0)).get? h'.objs.size = some (seqObj "list" acc.toList.toArray 0) := Heap.get?_push_size _ rfl
  refine wpAny_bind (wpAny_holding (wpAny_call_entry_kw (kw := []) slot_list_sort ⟨_, at_, rfl⟩ entry_list_sort ?b (args_list_sort _)))
  case b =>
    refine wpAny_mono (body h' tk acc.toList hk la (fun j v e => it.2 j v (by rw [← Array.getElem?_toList]; exact e)) _) (fun f s' hf => ?_) fun _ _ e => e
    obtain ⟨rfl, hq⟩ := hf
    exact ⟨_, rfl, wpAny_pure ⟨_, rfl, hq⟩⟩
/-- what is tracked is there -/
theorem is_there {P : Program} {w : World} {H : Hp} {h : Heap} {a : Addr} : ∀ {u : HO}, ObjOk P w H h a u → ∃ o, h.get? a = some o
  | .lst _, y => (fun ⟨_, _, _, _, e⟩ => ⟨_, e⟩) y
  | .tup _, y => (fun ⟨_, _, _, o, e, _⟩ => ⟨o, e⟩) y
  | .dK _, y => (fun ⟨_, _, _, _, o, _, _, e, _⟩ => ⟨o, e⟩) y
  | .dT _, y => (fun ⟨_, _, _, _, o, _, _, e, _⟩ => ⟨o, e⟩) y
  | .set _ _, y => (fun ⟨o, _, _, _, e, _⟩ => ⟨o, e⟩) y
  | .ins _ _ _, y => (fun ⟨_, _, _, e, _⟩ => ⟨_, e⟩) y
  | .own _, y => y
  | .xd _, y => (fun ⟨_, ⟨o, _, _, e, _⟩, _⟩ => ⟨o, e⟩) y
  | .met _ _, y => ⟨_, y⟩
  | .rng _ _, y => (fun ⟨_, _, _, e⟩ => ⟨_, e⟩) y
  | .frz _ _, y => ⟨_, y.1⟩
  | .tbl _, y => ⟨_, y⟩
  | .ext _, y => y.2.1
theorem paired_mem {α β : Type} {F : α → β → Prop} : ∀ {as : List α} {bs : List β}, Paired F as bs → ∀ b ∈ bs, ∃ a ∈ as, F a b
  | _, _, .nil, b, m => by cases m
  | _, _, .cons h t, b, m => by
    rcases List.mem_cons.mp m with rfl | m
    · exact ⟨_, List.mem_cons_self, h⟩
    · obtain ⟨a, ma, f⟩ := paired_mem t b m
      exact ⟨a, List.mem_cons_of_mem _ ma, f⟩
theorem paired_map {α β γ : Type} {F : α → β → Prop} {f : α → γ} {g : β → γ} (h : ∀ a b, F a b → f a = g b) : ∀ {as : List α} {bs : List β}, Paired F as bs → as.map f = bs.map g
  | _, _, .nil => rfl
  | _, _, .cons p t => by rw [List.map_cons, List.map_cons, h _ _ p, paired_map h t]
abbrev Kb := List Key × Addr
def rSortK : List V → Hp → VK → Prop := fun vs H Q => ∃ (d : Addr) (kvs : List (List Key × V)), vs = [.ref d] ∧ Rd H d (.dT kvs) ∧ PySem.W.AllAlike (kvs.map fun p => kyT p.1) ∧ PySem.W.Sortable (kvs.map fun p => kyT p.1) ∧ (∀ p ∈ kvs, (kyT p.1).depth ≤ 50) ∧
  ∀ (a : Addr) (bs : List Kb), H a = none → (∀ b ∈ bs, H b.2 = some (.tup (b.1.map kV))) → bs.map (·.1) = (kvs.map (·.1)).mergeSort (PySem.W.dataLe false kyT) → Q (.ref a) (upd H a (.lst (bs.map fun b => .ref b.2)))
theorem cr_sortK (hc : X.calm = true) (room : Room (k + 2) X.A) : CallR X (.builtin "sorted") rSortK := by
  intro pins s σ H vs us Q I r h
  obtain ⟨d, kvs, rfl, hd, hal, hsk, hde, q⟩ := h
  obtain ⟨u, rfl, ru⟩ := vals1 r
  cases ru
  have hu := room.units
  obtain ⟨z, hs, ks, pr, o, es, ep, ho, hx, hdt, he, hn⟩ := (show ObjOk X.prog X.w H s.heap d (.dT kvs) from hd.ok I.hok)
  have l1 : es.size = ks.length := size_of_entries he
  have l2 : kvs.length = ks.length := Paired.length pr
  obtain ⟨b0, eb0⟩ : ∃ b0 : List Kb, b0 = ks.map fun x => (x.1, x.2.1) := ⟨_, rfl⟩
  have lb : b0.length = ks.length := by rw [eb0, List.length_map]
  have ek : kvs.map (·.1) = b0.map (·.1) := by
    rw [eb0, List.map_map]
    exact paired_map (fun a b f => f.1) pr
  have eky : (kvs.map fun p => kyT p.1) = b0.map fun b => kyT b.1 := by
    have := congrArg (List.map kyT) ek
    rw [List.map_map, List.map_map] at this
    exact this
  have hb0 : ∀ b ∈ b0, H b.2 = some (.tup (b.1.map kV)) := fun b mb => by
    rw [eb0] at mb
    obtain ⟨x, mx, rfl⟩ := List.mem_map.mp mb
    obtain ⟨p, _, f1, f2, _⟩ := paired_mem pr x mx
    show H x.2.1 = some (.tup (x.1.map kV))
    rw [← f1]
    exact f2
  refine sorted_src (kdl_raw hs hx hdt) (I.ok.hd hc) ho (by omega) fun h' tk acc old la hP E' => ?_
  have rx : Vals (b0.map fun b => V.ref b.2) acc := by
    have e : acc = (b0.map fun b : Kb => b.2).map Value.ref := by
      refine List.ext_getElem? fun j => ?_
      by_cases hj : j < acc.length
      · have hj2 : j < ks.length := by omega
        obtain ⟨en, h1, h2⟩ := hP j acc[j] (List.getElem?_eq_getElem hj)
        have h3 := entry_at he j
        rw [h1, List.getElem?_eq_getElem hj2] at h3
        rw [List.getElem?_eq_getElem hj, h2, Option.some.inj h3, eb0, List.map_map, List.getElem?_map, List.getElem?_map, List.getElem?_eq_getElem hj2]
        rfl
      · rw [List.getElem?_eq_none (by omega), List.getElem?_eq_none (by rw [List.length_map, List.length_map]; omega)]
    rw [e, show (b0.map fun b : Kb => V.ref b.2) = (b0.map fun b : Kb => b.2).map V.ref by rw [List.map_map]; rfl]
    exact vals_refs _
  have at_ : (h'.push (seqObj "list" acc.toArray 0)).get? h'.objs.size = some (seqObj "list" acc.toArray 0) := Heap.get?_push_size _ rfl
  have old1 : ∀ b o, s.heap.get? b = some o → (h'.push (seqObj "list" acc.toArray 0)).get? b = some o := fun b o e => Heap.get?_push_of_some _ (old b o e)
  have old2 : ∀ b o, s.heap.get? b = some o → (PySem.W.sortingHeap (h'.push (seqObj "list" acc.toArray 0)) h'.objs.size acc).get? b = some o := fun b o e => PySem.W.sortingHeap_old (Nat.ne_of_lt (Heap.lt_size (old b o e))) (old1 b o e)
  have I2 := I.kept (t' := s.toks) old2
  have dp0 : ∀ b ∈ b0, Dp X.K H (.ref b.2) (kyT b.1) := fun b mb => .tup (SqT.of (hb0 b mb)) (dp_key b.1)
  have er : PySem.W.EachIs (fun v (b : Kb) => ∃ as, Reads (PySem.W.sortingHeap (h'.push (seqObj "list" acc.toArray 0)) h'.objs.size acc) v (kyT b.1) as) acc b0 := each_and (each_fst (fun b : Kb => V.ref b.2) rx) fun v b m rb => Dp.reads I2 (kyT b.1) (.ref b.2) v (dp0 b m) rb
  rw [eky] at hal hsk
  have hz : acc.length ≤ sizeLine := by omega
  refine PySem.W.list_sort_vals (s := { s with heap := h'.push (seqObj "list" acc.toArray 0), toks := tk }) at_ (PySem.W.SortsAt.data (ds := b0.map fun b => kyT b.1) (PySem.W.each_map (R := fun v d => ∃ as, Reads (PySem.W.sortingHeap (h'.push (seqObj "list" acc.toArray 0)) h'.objs.size acc) v d as) (fun b : Kb => kyT b.1) er) hal hsk fun d hd' => ?_) hz ⟨rfl, ?_⟩
  · rw [← eky] at hd'
    obtain ⟨x, hx, rfl⟩ := List.mem_map.mp hd'
    have := hde x hx
    show X.A.units + 1 + 1 + (kyT x.1).depth < cLine
    omega
  have out := PySem.W.sortVals_data (enc := fun b : Kb => kyT b.1) false (each_fst (fun b : Kb => V.ref b.2) rx) er hal
  obtain ⟨ep2, hat⟩ := PyProof.Rows.sortedHeap_at (out := (PySem.W.sortVals (PySem.W.dataKind (PySem.W.sortingHeap (h'.push (seqObj "list" acc.toArray 0)) h'.objs.size acc) (b0.map fun b => kyT b.1)) false acc acc).toArray) at_
  have gone : s.heap.get? h'.objs.size = none := by
    cases e' : s.heap.get? h'.objs.size with
    | none => rfl
    | some o' => exact absurd (Heap.lt_size (old _ _ e')) (Nat.lt_irrefl _)
  have free : H h'.objs.size = none := by
    cases e' : H h'.objs.size with
    | none => rfl
    | some u' =>
      obtain ⟨o', e2⟩ := is_there (I.hok _ _ e')
      rw [gone] at e2
      cases e2
  have lz : ((b0.mergeSort (PySem.W.dataLe false fun b : Kb => kyT b.1)).map fun b : Kb => V.ref b.2).length ≤ sizeLine := by
    rw [List.length_map, List.length_mergeSort]
    omega
  refine ⟨.ref _, _, I.laidN (o := .lst ((b0.mergeSort (PySem.W.dataLe false fun b : Kb => kyT b.1)).map fun b : Kb => V.ref b.2)) (t' := tk) (fun b o e => ?_) gone free ⟨lz, _, ep2, fst_each (fun b : Kb => V.ref b.2) out, hat⟩, rfl, q _ _ free (fun b mb => hb0 b (List.mem_mergeSort.mp mb)) ?_⟩
  · have lt := Heap.lt_size (old1 b o e)
    rw [PyProof.Rows.sortedHeap_old (Nat.ne_of_lt (Heap.lt_size (old b o e))) lt]
    exact old1 b o e
  · rw [ek]
    exact List.map_mergeSort fun a _ b _ => rfl
/-! ### in, of a tuple of data -/
def rInTD (K : PySem.W.Frag) : R2 := fun x y H Q => ∃ d ds, Dp K H x d ∧ Dp K H y (.tuple ds) ∧ SeqAt.shaped d = true ∧ SeqAt.shaped (.tuple ds) = true ∧ Q (.bl (ds.any fun z => PyData.eqv z d)) H
theorem op_inTD (hu : X.A.units + 65 < cLine) : OpR X (compareOp .In) (rInTD X.K) := fun pins s σ H x y v u Q I rx ry ⟨d, ds, hd, he, sd, se, q⟩ =>
  let ⟨_, r1⟩ := Dp.reads I d x v hd rx
  let ⟨_, r2⟩ := Dp.reads I (.tuple ds) y u he ry
  SeqAt.in_tuple_reads r2 r1 (SeqAt.canLay_of_shaped se) (SeqAt.canLay_of_shaped sd) (room_in_shaped sd hu) ⟨.bl _, H, I, rfl, q⟩
end
end Xsd
set_option Elab.async false
set_option linter.all false
set_option maxRecDepth 100000
set_option maxHeartbeats 4000000
set_option pp.maxSteps 400
set_option pp.deepTerms false
/-! min(a list of alike data), by whole numbers that stand for their order. -/
namespace Xmd
open PySem PySem.Spec PyProof.Rows L2 PySem.SeqAt PySem.W
/-- which one argBest finds, by keys -/
theorem best_least {bt : Nat → Nat → Bool} {ks : Nat → Int} {n : Nat} (h : ∀ i j, i < n → j < n → bt i j = decide (ks i < ks j)) : ∀ k, k < n → argBest bt k ≤ k ∧ ∀ j, j ≤ k → ks (argBest bt k) ≤ ks j
  | 0, _ => ⟨Nat.le_refl _, fun j hj => by
    obtain rfl : j = 0 := by omega
    exact Int.le_refl _⟩
  | k + 1, hk => by
    obtain ⟨i1, i2⟩ := best_least h k (by omega)
    by_cases c : bt (k + 1) (argBest bt k) = true
    · have e : argBest bt (k + 1) = k + 1 := if_pos c
      rw [h _ _ hk (by omega), decide_eq_true_eq] at c
      rw [e]
      refine ⟨Nat.le_refl _, fun j hj => ?_⟩
      rcases Nat.lt_or_ge j (k + 1) with z | z
      · have := i2 j (by omega)
        omega
      · obtain rfl : j = k + 1 := by omega
        exact Int.le_refl _
    · have e : argBest bt (k + 1) = argBest bt k := if_neg c
      rw [h _ _ hk (by omega), decide_eq_true_eq] at c
      rw [e]
      refine ⟨by omega, fun j hj => ?_⟩
      rcases Nat.lt_or_ge j (k + 1) with z | z
      · exact i2 j (by omega)
      · obtain rfl : j = k + 1 := by omega
        omega
section
variable {X : Cx} {k : Nat}
def rMinD (K : PySem.W.Frag) : List V → Hp → VK → Prop := fun vs H Q => ∃ (l : Addr) (xs : List V) (ds : List PyData) (ks : List Int), vs = [.ref l] ∧ SqL K H l xs ∧ DpAll K H xs ds ∧ xs ≠ [] ∧ ds.length = xs.length ∧ AlikeAll ds ∧ PyData.depthAll ds ≤ 50 ∧ ks.length = xs.length ∧
  (∀ i j, i < xs.length → j < xs.length → dataLt (ds.getD i .none) (ds.getD j .none) = decide (ks.getD i 0 < ks.getD j 0)) ∧ ∀ (i : Nat) (v : V), xs[i]? = some v → (∀ j, j < xs.length → ks.getD i 0 ≤ ks.getD j 0) → Q v H
theorem cr_minD (hc : X.calm = true) (room : Room (k + 2) X.A) : CallR X (.builtin "min") (rMinD X.K) := by
  intro pins s σ H vs us Q I r h
  obtain ⟨l, xs, ds, ks, rfl, hq, hd, ne, dl, al, dp, kl, lt, q⟩ := h
  obtain ⟨u, rfl, ru⟩ := vals1 r
  cases ru
  obtain ⟨its, rv, at_, _⟩ := I.list hq
  obtain ⟨as, rd⟩ := Dp.readsAll I ds xs its hd rv
  have rd : ReadsAll s.heap its.toArray.toList ds as := by simpa using rd
  have n1 : its.toArray.size = xs.length := by rw [List.size_toArray, ← rv.length]
  have pos : 0 < xs.length := List.length_pos_iff.mpr ne
  have hu := room.units
  refine call_min_walkH (iter_listW (A := X.A.in1) (I.ok.hd hc) at_.isList fun s₂ e W st hfp hw hk => ?_)
  refine ⟨_, _, _, _, _, _, _, s.heap, _, rfl, W, st, hfp, by omega, hw, hk, cmpIn_lt (A := X.A.in1) rd al (by show X.A.units + 1 + _ < _; omega), fun v s' hP m => ?_⟩
  obtain ⟨h', tk, rfl, hk'⟩ := moved_old e rfl m
  obtain ⟨b1, b2⟩ := best_least (bt := fun i j => dataLt (ds.getD i .none) (ds.getD j .none)) (ks := fun i => ks.getD i 0) (n := xs.length) lt (its.toArray.size - 1) (by omega)
  generalize argBest (fun i j => dataLt (ds.getD i .none) (ds.getD j .none)) (its.toArray.size - 1) = i at hP b1 b2
  rw [List.getElem?_toArray] at hP
  have il : i < xs.length := by omega
  obtain ⟨v', hv', rl⟩ := rv.get (List.getElem?_eq_getElem il)
  rw [hP] at hv'
  cases hv'
  exact ⟨xs[i], H, I.kept hk', rl, q i xs[i] (List.getElem?_eq_getElem il) fun j hj => b2 j (by omega)⟩
end
end Xmd
set_option Elab.async false
set_option linter.all false
set_option maxRecDepth 100000
set_option maxHeartbeats 4000000
/-! tuple * int from nought on; list * int whose list is no table of modules -/
namespace Xrp
open PySem PySem.Spec PyProof.Rows L2
theorem mul0 (l : Addr) (items : Array Value) (n : Nat) (dd : Option Addr) (sl : Array (Option Value)) (u : Tok) (ne : items.isEmpty = false) :
    Meets (Builtin.«tuple.__mul__» ⟨[.ref l, .int 0 u], []⟩) (fun _ R s =>
      s.heap.get? l = some { cls := .type "tuple", dict := dd, data := .seq items n, slots := sl } ∧
      R (.ok (.ret (Value.ref s.heap.objs.size))) { s with heap := s.heap.push { cls := Value.type "tuple", data := Data.seq #[] }, toks := s.toks }) :=
  .of_wp fun prog w A R s h => by
    obtain ⟨hp, g, d, tk, os⟩ := s
    obtain ⟨hl, h⟩ := h
    have f1 := AutoSeq1.idx_int
    wp_walk using wpAny_loadPart' hl
    exact ⟨_, rfl, h⟩
theorem mul1 (l : Addr) (items : Array Value) (n : Nat) (dd : Option Addr) (sl : Array (Option Value)) (u : Tok) :
    Meets (Builtin.«tuple.__mul__» ⟨[.ref l, .int 1 u], []⟩) (fun _ R s =>
      s.heap.get? l = some { cls := .type "tuple", dict := dd, data := .seq items n, slots := sl } ∧ R (.ok (.ret (.ref l))) s) :=
  .of_wp fun prog w A R s h => by
    obtain ⟨hp, g, d, tk, os⟩ := s
    obtain ⟨hl, h⟩ := h
    have f1 := AutoSeq1.idx_int
    have c1 : (items.isEmpty || ((1 : Int) == 1)) = true := by simp
    wp_walk using wpAny_loadPart' hl
    repeat (first
      | (refine wpAny_ite_true (decide_eq_true c1) ?_; wp_walk using wpAny_loadPart' hl)
      | (refine wpAny_ite_true c1 ?_; wp_walk using wpAny_loadPart' hl))
    exact ⟨_, rfl, h⟩
section
variable {X : Cx}
def rRepU (K : PySem.W.Frag) : R2 := fun x y H Q => ∃ l k xs, x = .ref l ∧ y = .int k ∧ H l = some (.tup xs) ∧ xs ≠ [] ∧ 0 ≤ k ∧ k ≤ 1000 ∧ xs.length ≤ 1000 ∧ ∀ p H', L2.Same H H' → H' p = some (.tup (List.replicate k.toNat xs).flatten) → Q (.ref p) H'
theorem op_repU : OpR X (binaryOp .Mult) (rRepU X.K) := by
  intro pins s σ H x y v u Q I rx ry h
  obtain ⟨l, k, xs, rfl, rfl, hT, hne, h1, h2, hz, q⟩ := h
  rcases Int.lt_or_le k 2 with c | c
  · cases rx
    obtain ⟨t, rfl⟩ := ry
    obtain ⟨its, r, ⟨⟨cls, dd, data, sl⟩, ho, hc, n, hd⟩, hs⟩ := I.tuple (SqT.of hT)
    simp only at hc hd
    subst hc hd
    have hi : its.toArray.isEmpty = false := by
      cases its with
      | nil =>
        cases r
        exact absurd rfl hne
      | cons a b => rfl
    have k01 : k = 0 ∨ k = 1 := by omega
    rcases k01 with rfl | rfl
    · refine wpAny_binaryOp_repeat_ref (T := "tuple") (U := "int") (by decide) ⟨_, ho, rfl⟩
        (fun s' => typeIs_int s' 0 t) noFill_tuple_mul F.fills_int_mul F.slot_int_rmul repeat_tuple
        F.slot_int_index.lookup (call_meets F.slot_int_rmul (typeIs_int s 0 t) F.entry_int_rmul
          (F.args_int_rmul_2 _ _) (int_rmul_tuple 0 t l its.toArray n dd sl) ⟨ho, rfl, ⟨_, ho, rfl⟩, ?_⟩)
      refine call_meets F.slot_tuple_mul ⟨_, ho, rfl⟩ F.entry_tuple_mul (F.args_tuple_mul_2 _ _) (mul0 l its.toArray n dd sl t hi) ⟨ho, ?_⟩
      have nw := I.hok.fresh (Nat.le_refl s.heap.objs.size)
      refine ⟨.ref s.heap.objs.size, _, I.laid (t' := s.toks) (o := .tup []) (fun b ob z => Heap.get?_push_of_some _ z) (Nat.le_refl _) ?_, rfl, q _ _ (fun b o z => by rw [upd_ne (ne_of_none z nw)]; exact z) upd_same⟩
      exact ⟨Nat.zero_le _, [], .nil, IsTup.new _ _⟩
    · refine wpAny_binaryOp_repeat_ref (T := "tuple") (U := "int") (by decide) ⟨_, ho, rfl⟩
        (fun s' => typeIs_int s' 1 t) noFill_tuple_mul F.fills_int_mul F.slot_int_rmul repeat_tuple
        F.slot_int_index.lookup (call_meets F.slot_int_rmul (typeIs_int s 1 t) F.entry_int_rmul
          (F.args_int_rmul_2 _ _) (int_rmul_tuple 1 t l its.toArray n dd sl) ⟨ho, rfl, ⟨_, ho, rfl⟩, ?_⟩)
      refine call_meets F.slot_tuple_mul ⟨_, ho, rfl⟩ F.entry_tuple_mul (F.args_tuple_mul_2 _ _) (mul1 l its.toArray n dd sl t) ⟨ho, ?_⟩
      exact ⟨.ref l, H, I, rfl, q l H (Same.refl H) (by rw [hT]; simp)⟩
  · exact op_repT pins s σ H _ _ v u Q I rx ry ⟨l, k, xs, rfl, rfl, SqT.of hT, hne, c, h2, hz, fun p np => q p _ (fun b o z => by rw [upd_ne (ne_of_none z np)]; exact z) upd_same⟩
def rRepZ : R2 := fun x y H Q => ∃ l k xs, x = .ref l ∧ y = .int k ∧ H l = some (.lst xs) ∧ 0 ≤ k ∧ k ≤ 1000 ∧ xs.length ≤ 1000 ∧ ∀ p, H p = none → p ≠ sysModules → Q (.ref p) (upd H p (.lst (List.replicate k.toNat xs).flatten))
theorem op_repZ : OpR X (binaryOp .Mult) rRepZ := by
  intro pins s σ H x y v u Q I rx ry h
  obtain ⟨l, k, xs, rfl, rfl, hL, h1, h2, hz, q⟩ := h
  have sz : xs.length * k.toNat ≤ sizeLine := Nat.le_trans (Nat.mul_le_mul hz (show k.toNat ≤ 1000 by omega)) (by decide)
  cases rx
  obtain ⟨t, rfl⟩ := ry
  obtain ⟨z, its, n, r, hl, e⟩ := I.lstM hL
  have w1 : its.toArray.size * k.toNat ≤ sizeLine := by rw [List.size_toArray, ← hl]; exact sz
  have w2 : ¬ its.toArray.size * k.toNat > (2 ^ 63 - 1) / 8 := fun y => by
    have : (sizeLine : Nat) ≤ (2 ^ 63 - 1) / 8 := by decide
    omega
  have w3 : ¬ (!Builtin.List.listFitsIndex k) = true := fun y => by
    rw [fitsIndex_both (by omega) (by omega)] at y
    cases y
  have w4 : ¬ Builtin.List.listTooLong (its.toArray.size * k.toNat) = true := fun y => by
    rw [notLongL w1] at y
    cases y
  have w5 : (List.replicate (if its.toArray.isEmpty = true then 0 else k.toNat) its.toArray).foldl (fun a b => a ++ b) #[] = (List.replicate k.toNat its).flatten.toArray := by
    cases its with
    | nil => simp
    | cons a r' =>
      rw [if_neg (by simp)]
      exact size_rep _ _
  refine wpAny_binaryOp_repeat_ref (T := "list") (U := "int") (by decide) ⟨_, e, rfl⟩
    (fun s' => typeIs_int s' k t) noFill_list_mul F.fills_int_mul F.slot_int_rmul repeat_list
    F.slot_int_index.lookup (call_meets F.slot_int_rmul (typeIs_int s k t) F.entry_int_rmul
      (F.args_int_rmul_2 _ _) (int___rmul___int_list k t l its.toArray n) ⟨e, rfl, ⟨_, e, rfl⟩, ?_⟩)
  refine call_meets F.slot_list_mul ⟨_, e, rfl⟩ F.entry_list_mul
    (F.args_list_mul_2 _ _) (AutoListH.list___mul___list_int_3 l its.toArray n k t w3 w2 w4) ⟨e, ?_⟩
  rw [w5]
  refine ⟨.ref _, _, I.lnew (t' := s.toks) (r.rep k.toNat) ?_, rfl, q _ I.fresh (Nat.ne_of_gt I.big)⟩
  rw [PyProof.Rows.lm_len_rep_flat, Nat.mul_comm]
  exact sz
end
end Xrp
set_option Elab.async false
set_option linter.all false
set_option maxRecDepth 100000
set_option maxHeartbeats 4000000
set_option pp.maxSteps 400
set_option pp.deepTerms false
/-! Things of texts, numbers, truths, tuples, lists and dicts: a weight that bounds how long they are shown, how deep and how many they are. -/
namespace W08
open PySem PySem.Spec PyProof.Rows L2 Az
mutual
def sw : PyData → Nat
  | .none => 4
  | .bool _ => 5
  | .int _ => 6
  | .str x => 10 * x.length + 2
  | .tuple ds => sws ds + 4
  | .list ds => sws ds + 4
  | .dict kvs => swk kvs + 4
def sws : List PyData → Nat
  | [] => 0
  | d :: r => sw d + 2 + sws r
def swk : List (PyData × PyData) → Nat
  | [] => 0
  | (k, v) :: r => sw k + sw v + 4 + swk r
end
mutual
def dw : PyData → Nat
  | .tuple ds => dws ds + 1
  | .list ds => dws ds + 1
  | .dict kvs => dwk kvs + 1
  | _ => 0
def dws : List PyData → Nat
  | [] => 0
  | d :: r => max (dw d) (dws r)
def dwk : List (PyData × PyData) → Nat
  | [] => 0
  | (k, v) :: r => max (max (dw k) (dw v)) (dwk r)
end
mutual
/-- small numbers, texts of few signs -/
def ok : PyData → Prop
  | .int i => i = 0 ∨ i = 1
  | .str x => ∀ c ∈ x.cps.toList, c < 128
  | .tuple ds => oks ds
  | .list ds => oks ds
  | .dict kvs => okk kvs
  | _ => True
def oks : List PyData → Prop
  | [] => True
  | d :: r => ok d ∧ oks r
def okk : List (PyData × PyData) → Prop
  | [] => True
  | (k, v) :: r => ok k ∧ ok v ∧ okk r
end
mutual
/-- how many things there are in all -/
def nc : PyData → Nat
  | .tuple ds => ncs ds + 1
  | .list ds => ncs ds + 1
  | .dict kvs => nck kvs + 1
  | _ => 1
def ncs : List PyData → Nat
  | [] => 0
  | d :: r => nc d + ncs r
def nck : List (PyData × PyData) → Nat
  | [] => 0
  | (k, v) :: r => nc k + nc v + nck r
end
theorem nc_pos : ∀ d : PyData, 1 ≤ nc d
  | .none | .bool _ | .int _ | .str _ => Nat.le_refl _
  | .tuple _ | .list _ | .dict _ => by rw [nc]; omega
theorem ncs_app : ∀ xs ys : List PyData, ncs (xs ++ ys) = ncs xs + ncs ys
  | [], ys => by simp [ncs]
  | x :: xs, ys => by
    rw [List.cons_append, ncs, ncs, ncs_app xs ys]
    omega
theorem len_ncs : ∀ ds : List PyData, ds.length ≤ ncs ds
  | [] => by simp [ncs]
  | d :: r => by
    have := len_ncs r
    have := nc_pos d
    rw [List.length_cons, ncs]
    omega
theorem ncs_mem : ∀ {ds : List PyData} {d : PyData}, d ∈ ds → nc d ≤ ncs ds
  | e :: r, d, h => by
    rw [ncs]
    rcases List.mem_cons.mp h with z | z
    · rw [z]; omega
    · have := ncs_mem z
      omega
theorem oks_iff : ∀ {ds : List PyData}, oks ds ↔ ∀ d ∈ ds, ok d
  | [] => by simp [oks]
  | d :: r => by simp [oks, oks_iff (ds := r)]
theorem sws_app : ∀ xs ys : List PyData, sws (xs ++ ys) = sws xs + sws ys
  | [], ys => by simp [sws]
  | x :: xs, ys => by
    rw [List.cons_append, sws, sws, sws_app xs ys]
    omega
theorem dws_app : ∀ xs ys : List PyData, dws (xs ++ ys) = max (dws xs) (dws ys)
  | [], ys => by simp [dws]
  | x :: xs, ys => by
    rw [List.cons_append, dws, dws, dws_app xs ys]
    omega
theorem len_sws : ∀ ds : List PyData, 2 * ds.length ≤ sws ds
  | [] => by simp [sws]
  | d :: r => by
    have := len_sws r
    rw [List.length_cons, sws]
    omega
theorem sws_mem : ∀ {ds : List PyData} {d : PyData}, d ∈ ds → sw d + 2 ≤ sws ds
  | e :: r, d, h => by
    rw [sws]
    rcases List.mem_cons.mp h with z | z
    · rw [z]; omega
    · have := sws_mem z
      omega
theorem dws_mem : ∀ {ds : List PyData} {d : PyData}, d ∈ ds → dw d ≤ dws ds
  | e :: r, d, h => by
    rw [dws]
    rcases List.mem_cons.mp h with z | z
    · rw [z]; omega
    · have := dws_mem z
      omega
theorem repr_le' {x : Str} (h : ∀ c ∈ x.cps.toList, c < 128) : (reprText x).length ≤ 10 * x.length + 2 :=
  PySem.StrLaws.reprText_len x fun c hc => Nat.lt_of_lt_of_le (h c hc) (by decide)
mutual
theorem shown_le : ∀ (d : PyData), ok d → d.showable = true ∧ d.shown.length ≤ sw d ∧ d.depth ≤ dw d
  | .none, _ => ⟨nice_none.sh, nice_none.sz, nice_none.dp⟩
  | .bool b, _ => ⟨(nice_bool b).sh, (nice_bool b).sz, (nice_bool b).dp⟩
  | .int i, h => by
    have n : Nice (.int i) 0 6 := by
      rcases h with h | h
      · subst h; exact nice_int (by decide) (by decide +kernel)
      · subst h; exact nice_int (by decide) (by decide +kernel)
    exact ⟨n.sh, n.sz, n.dp⟩
  | .str x, h => ⟨(nice_str (Nat.le_refl _)).sh, (nice_str (n := 10 * x.length + 2) (repr_le' h)).sz, by simp [PyData.depth]⟩
  | .tuple ds, h => by
    obtain ⟨a, b, c⟩ := shown_les ds h
    refine ⟨by simp [PyData.showable, a], ?_, ?_⟩
    · simp only [PyData.shown, sw]
      have := fmt_text (PyData.shownAll ds)
      omega
    · simp only [PyData.depth, dw]
      omega
  | .list ds, h => by
    obtain ⟨a, b, c⟩ := shown_les ds h
    refine ⟨by simp [PyData.showable, a], ?_, ?_⟩
    · simp only [PyData.shown, sw]
      have := list_le (PyData.shownAll ds)
      omega
    · simp only [PyData.depth, dw]
      omega
  | .dict kvs, h => by
    obtain ⟨a, b, c⟩ := shown_lek kvs h
    refine ⟨by simp [PyData.showable, a], ?_, ?_⟩
    · simp only [PyData.shown, sw]
      have := dict_le (PyData.shownKv kvs)
      omega
    · simp only [PyData.depth, dw]
      omega
theorem shown_les : ∀ (ds : List PyData), oks ds → PyData.showableAll ds = true ∧ piled (PyData.shownAll ds) ≤ sws ds ∧ PyData.depthAll ds ≤ dws ds
  | [], _ => by simp [PyData.showableAll, PyData.shownAll, PyData.depthAll, piled]
  | d :: r, h => by
    obtain ⟨a, b, c⟩ := shown_le d h.1
    obtain ⟨a2, b2, c2⟩ := shown_les r h.2
    refine ⟨by simp [PyData.showableAll, a, a2], ?_, ?_⟩
    · simp only [PyData.shownAll, piled_cons, sws]
      omega
    · simp only [PyData.depthAll, dws]
      omega
theorem shown_lek : ∀ (ds : List (PyData × PyData)), okk ds → PyData.showableKv ds = true ∧ piled (PyData.shownKv ds) ≤ swk ds ∧ PyData.depthKv ds ≤ dwk ds
  | [], _ => by simp [PyData.showableKv, PyData.shownKv, PyData.depthKv, piled]
  | (k, v) :: r, h => by
    obtain ⟨a, b, c⟩ := shown_le k h.1
    obtain ⟨a2, b2, c2⟩ := shown_le v h.2.1
    obtain ⟨a3, b3, c3⟩ := shown_lek r h.2.2
    refine ⟨by simp [PyData.showableKv, a, a2, a3], ?_, ?_⟩
    · have e : ((": " : Str)).length = 2 := by decide +kernel
      simp only [PyData.shownKv, piled_cons, swk, strLen_append]
      omega
    · simp only [PyData.depthKv, dwk]
      omega
end
/-- a thing within bounds -/
structure Bd (d : PyData) (n m k : Nat) : Prop where
  o : ok d
  n : nc d ≤ n
  s : sw d ≤ m
  d : dw d ≤ k
theorem Bd.mono {d : PyData} {n m k n' m' k' : Nat} (h : Bd d n m k) (a : n ≤ n') (b : m ≤ m') (c : k ≤ k') : Bd d n' m' k' := ⟨h.o, Nat.le_trans h.n a, Nat.le_trans h.s b, Nat.le_trans h.d c⟩
theorem Bd.nice {d : PyData} {n m k : Nat} (h : Bd d n m k) : Nice d k m := let ⟨a, b, c⟩ := shown_le d h.o; ⟨a, Nat.le_trans c h.d, Nat.le_trans b h.s⟩
theorem bd_none : Bd .none 1 4 0 := ⟨trivial, Nat.le_refl _, Nat.le_refl _, Nat.le_refl _⟩
theorem bd_bool (b : Bool) : Bd (.bool b) 1 5 0 := ⟨trivial, Nat.le_refl _, Nat.le_refl _, Nat.le_refl _⟩
theorem bd_str {x : Str} (h : ∀ c ∈ x.cps.toList, c < 128) : Bd (.str x) 1 (10 * x.length + 2) 0 := ⟨h, Nat.le_refl _, Nat.le_refl _, Nat.le_refl _⟩
theorem bd_tup {ds : List PyData} {n m k : Nat} (h : oks ds) (a : ncs ds ≤ n) (b : sws ds ≤ m) (c : dws ds ≤ k) : Bd (.tuple ds) (n + 1) (m + 4) (k + 1) := ⟨h, Nat.succ_le_succ a, Nat.add_le_add_right b 4, Nat.succ_le_succ c⟩
theorem bd_lst {ds : List PyData} {n m k : Nat} (h : oks ds) (a : ncs ds ≤ n) (b : sws ds ≤ m) (c : dws ds ≤ k) : Bd (.list ds) (n + 1) (m + 4) (k + 1) := ⟨h, Nat.succ_le_succ a, Nat.add_le_add_right b 4, Nat.succ_le_succ c⟩
theorem bd_tup1 {d : PyData} {n m k : Nat} (h : Bd d n m k) : Bd (.tuple [d]) (n + 1) (m + 6) (k + 1) :=
  ⟨⟨h.o, trivial⟩, by have := h.n; simp only [nc, ncs]; omega, by have := h.s; simp only [sw, sws]; omega, by have := h.d; simp only [dw, dws]; omega⟩
theorem bd_lst1 {d : PyData} {n m k : Nat} (h : Bd d n m k) : Bd (.list [d]) (n + 1) (m + 6) (k + 1) :=
  ⟨⟨h.o, trivial⟩, by have := h.n; simp only [nc, ncs]; omega, by have := h.s; simp only [sw, sws]; omega, by have := h.d; simp only [dw, dws]; omega⟩
theorem bd_dct1 {d : PyData} {n m k : Nat} (h : Bd d n m k) : Bd (.dict [(.str "a", d)]) (n + 2) (m + 20) (k + 1) := by
  have e : ((("a" : Str)).length) = 1 := by decide +kernel
  have o : ok (.str "a") := fun c hc => by
    have : ("a" : Str).cps.toList = [97] := by decide +kernel
    rw [this] at hc
    rw [List.mem_singleton.mp hc]; decide
  exact ⟨⟨o, h.o, trivial⟩, by have := h.n; simp only [nc, nck]; omega, by have := h.s; simp only [sw, swk, e]; omega, by have := h.d; simp only [dw, dwk]; omega⟩
theorem oks_sub {xs ys : List PyData} (h : oks ys) (s : ∀ d ∈ xs, d ∈ ys) : oks xs := oks_iff.mpr fun d hd => oks_iff.mp h d (s d hd)
theorem ncs_take (k : Nat) (ds : List PyData) : ncs (ds.take k) + ncs (ds.drop k) = ncs ds := by rw [← ncs_app, List.take_append_drop]
theorem sws_take (k : Nat) (ds : List PyData) : sws (ds.take k) + sws (ds.drop k) = sws ds := by rw [← sws_app, List.take_append_drop]
theorem dws_take (k : Nat) (ds : List PyData) : max (dws (ds.take k)) (dws (ds.drop k)) = dws ds := by rw [← dws_app, List.take_append_drop]
end W08
set_option Elab.async false
set_option linter.all false
set_option maxRecDepth 100000
set_option maxHeartbeats 4000000
namespace K16
open PySem PySem.Spec PyProof.Rows L2
/-! ## defs that show things: promises where no showing is under way -/
structure Gn (P : Program) (w : World) (K : PySem.W.Frag) (mg : Str → Option Value) (base : Heap) (k : Nat) (f : Addr) (fd : FuncData) (ps : List Str) (sp : Sp) : Prop where
  many : ∀ vs H Q E, sp vs H Q E → vs.length = ps.length
  go : ∀ (A : Around) (outer : List Env) (s : Shared) (H : Hp) (args : Args) (us : List Value) (vs : List V) (Q : VK) (E : XK), A.guards = some [] → Room k A →
    Env0 P w K mg base A outer s H → BindsTo s fd args (ps.zip us) → Vals vs us → sp vs H Q E → codeAny (model P w) A (.call (.ref f) args) (CR CX0 outer P w H s Q E) s
section
variable {P : Program} {w : World} {K : PySem.W.Frag} {mg : Str → Option Value} {base : Heap}
theorem gn_body {x qual : Str} {st : Stmt} {f : Addr} {fd : FuncData} {N ps : List Str} {k : Nat} {sp : Sp} (F : Fun K x qual st f fd) (S : FnScope N ps (defScope st))
    (many : ∀ vs H Q E, sp vs H Q E → vs.length = ps.length)
    (body : ∀ (cdv : Value) (A : Around) (outer : List Env) (s : Shared) (H : Hp) (vs : List V) (Q : VK) (E : XK), A.guards = some [] →
      Room k (A.deeper (envOfC qual (defScope st) s.heap.objs.size f cdv)) → sp vs H Q E →
      ∃ t, PSs (cxOf CX0 P w K mg base N qual (defScope st) f cdv A outer s H E).nox (defBody st) t ∧ t { nx := fun _ H' => Q .non H', rt := Q } (start N vs) H) :
    Gn P w K mg base (k + 1) f fd ps sp := by
  obtain ⟨oc, od, kV, doc, pm, an, cdv, ct, osl, rfl, lk, hcd⟩ := F.ex
  refine ⟨many, fun A outer s H args us vs Q E hg room en bd rv hsp => ?_⟩
  have kin : K.In s.heap := en.mod.kin.keeps fun b o q => (en.bs b o q).1
  refine Att.call_fn kin (en.mod.nolimit.keeps fun b o q => (en.bs b o q).1) lk hcd room.depth bd ?_ (fun s1 inc => ?_) S.co S.gen S.kind
  · refine List.all_eq_true.mpr fun y hy => ?_
    rcases S.par y.1 (List.of_mem_zip (a := y.1) (b := y.2) hy).1 with q | q
    · rw [q]; rfl
    · rw [q]; rfl
  · obtain ⟨t, ht, hq⟩ := body cdv A outer s H vs Q E hg (room.deeper _) hsp
    have I := inv_start (CX := CX0) (E := E) S room.hd en (many _ _ _ _ hsp) rv inc
    refine wpAny_mono (ht.nox.run [] s1 _ H _ I hq) (fun fl s' hs => ?_) fun _ _ z => z
    cases fl with
    | ret u =>
      obtain ⟨v, _, H', J, r, q⟩ := hs
      exact ⟨v, H', J.os, J.bare, J.base, J.hok, r, q⟩
    | next =>
      obtain ⟨_, H', J, q⟩ := hs
      exact ⟨.non, H', J.os, J.bare, J.base, J.hok, rfl, q⟩
    | brk =>
      obtain ⟨_, _, _, z⟩ := hs
      exact False.elim z
    | cont =>
      obtain ⟨_, _, _, z⟩ := hs
      exact False.elim z
end
section
variable {X : Cx} {k : Nat} {f : Addr} {fd : FuncData} {ps : List Str} {sp : Sp} {x : Str} {p pos : Pos} {e : Expr} {es : List Expr} {t : TA}
theorem pe_gn (F : Gn X.prog X.w X.K X.mg X.base k f fd ps sp) (quiet : X.A.guards = some []) (room : Room k X.A) (gl : Gl X x) (mgf : X.mg x = some (.ref f))
    (kp : PySem.W.keepIn X.K (.ref f) = true) (bd : Binds X.K fd ps []) (ha : PA X (e :: es) t) (hdb : (x == ("__debug__" : Str)) = false := by decide)
    (he : starEach (e :: es) X.env = (false, eval e X.env) :: starEach es X.env := by rfl) (hpl : (backTo pos (starEach es X.env)).any (·.1) = false := by rfl) :
    PE X (.Call (.Name x p) (e :: es) [] pos) (tCall sp [] E0 t) := by
  refine ⟨fun pins s σ H Q I h => wpAny_Call_Name_kw (ld_glob I gl mgf ?_ hdb)⟩
  refine PySem.W.callWith_K (h₀ := X.base) I.ok.mod.kin kp ?_ he hpl
  refine thn (ha.run pos pins s σ H _ I h) fun us s1 z => ?_
  obtain ⟨vs, H1, I1, rv, q⟩ := z
  have q' : sp vs H1 Q E0 := by
    have z := q
    rw [List.append_nil] at z
    exact z
  have many : us.length = ps.length := rv.length.symm.trans (F.many _ _ _ _ q')
  have b1 := bd s1 us I1.kIn (by rw [List.append_nil]; exact many)
  rw [List.append_nil] at b1
  refine ⟨I1.kIn, wpAny_call (codeAny_mono (F.go X.A X.stack s1 H1 ⟨us, []⟩ us vs Q E0 quiet room I1.env0 b1 rv q') fun r s' hr => ?_)⟩
  cases r with
  | error z => exact False.elim hr
  | ok fl =>
    cases fl with
    | ret u => exact I1.after hr
    | next => exact False.elim hr
    | brk => exact False.elim hr
    | cont => exact False.elim hr
/-- repr of data at any depth -/
theorem cr_reprD (quiet : X.A.guards = some []) (room : Room k X.A) : CallR X (.builtin "repr") (fun xs H Q => ∃ (a : Addr) (d : PyData), xs = [.ref a] ∧ Dp X.K H (.ref a) d ∧ d.showable = true ∧ d.hasDict = false ∧
    d.depth ≤ 50 ∧ d.shown.length ≤ sizeLine ∧ Q (.str d.shown) H) := by
  intro pins s σ H xs us Q I r h
  obtain ⟨a, d, rfl, hd, hs, hn, hp, hz, q⟩ := h
  obtain ⟨u, rfl, rx⟩ := vals1 r
  obtain ⟨as, rd⟩ := Dp.reads I d _ u hd rx
  cases rx
  have hu := room.units
  exact repr_of_reads' rd hs (fun z => absurd (hn.symm.trans z) Bool.false_ne_true) quiet (by omega) (fun _ _ z => z) (fun h' u tk kept => ⟨.str d.shown, H, I.kept kept, ⟨u, rfl⟩, q⟩) hz
theorem cr_repr_bl : CallR X (.builtin "repr") (fun xs H Q => ∃ b : Bool, xs = [.bl b] ∧ Q (.str (if b then "True" else "False")) H) := by
  intro pins s σ H xs us Q I r h
  obtain ⟨b, rfl, q⟩ := h
  obtain ⟨u, rfl, rx⟩ := vals1 r
  cases rx
  exact PySem.P.repr_of_bool ⟨.str _, H, I.tok _, ⟨_, rfl⟩, q⟩
end
end K16
set_option Elab.async false
set_option linter.all false
set_option maxRecDepth 100000
set_option maxHeartbeats 4000000
namespace K16
open PySem PySem.Spec PyProof.Rows L2
theorem law_go {P : Program} {w : World} {K : PySem.W.Frag} {mg mb : Str → Option Value} {k : Nat} {fa a : Addr} {fd : FuncData} {x : Str} {sp : Sp} {z : Shared} {vs : List Value} {ns : List Int}
    (kin : K.In z.heap) (nsG : z.heap.Ns mainGlobals mg) (nsB : z.heap.Ns builtinsNs mb) (same : ∀ y : Str, y ≠ "__name__" → mb y = bootBuiltins y) (lim : z.heap.NoLimit) (dig : z.heap.NoDigits) (no : z.gens = #[])
    (at_ : z.heap.get? a = some { cls := .type "list", data := .seq vs.toArray }) (intsA : IntsAre vs ns) (many : ns.length ≤ sizeLine) (room : Room k callerA)
    (F : ∀ base : Heap, K.In base → base.Ns mainGlobals mg → base.NoDigits → Gn P w K mg base k fa fd [x] sp) (bind : ∀ (s : Shared) (u : Value), BindsTo s fd ⟨[u], []⟩ [(x, u)])
    (hsp : ∀ H : Hp, SqL K H a (ns.map V.int) → sp [.ref a] H (fun v _ => v = .bl true) fun _ _ _ => False) :
    codeAny (model P w) callerA (.call (.ref fa) ⟨[.ref a], []⟩) (fun r s' => r = .ok (.ret (.bool true)) ∧ OldK z.heap s'.heap ∧ s'.os = z.os ∧ AllBare s'.gens) z := by
  have rv : Vals (ns.map V.int) vs := vals_ints intsA
  have sz : (ns.map V.int).length ≤ sizeLine := by rw [List.length_map]; exact many
  -- what is tracked: the script, unless it is the module's own
  let u : HO := .frz { cls := .type "list", data := .seq vs.toArray } (.lst (ns.map V.int))
  let H : Hp := fun b => if b = a ∧ K.lookup a = none then some u else none
  have only : ∀ b o, H b = some o → b = a ∧ K.lookup a = none ∧ o = u := fun b o e => by
    by_cases c : b = a ∧ K.lookup a = none
    · have e2 : H b = some u := if_pos c
      rw [e2] at e
      exact ⟨c.1, c.2, (Option.some.inj e).symm⟩
    · have e2 : H b = none := if_neg c
      rw [e2] at e
      cases e
  have sq : SqL K H a (ns.map V.int) := by
    cases hk : K.lookup a with
    | none => exact .inl (.inr ⟨_, if_pos ⟨rfl, hk⟩⟩)
    | some o =>
      have e := kin a o hk
      rw [at_] at e
      cases e
      exact .inr ⟨_, vs.toArray, _, hk, rfl, rfl, rfl, by rw [List.size_toArray, ← rv.length]; exact sz, by simpa using rv⟩
  have hok : HOk P w H z.heap := fun b o e => by
    obtain ⟨rfl, _, rfl⟩ := only b o e
    exact ⟨at_, sz, vs, _, rv, at_⟩
  have dictFree : ∀ {b : Addr} {o : Obj} {es : Array DictEntry} {ep : Nat}, z.heap.get? b = some o → o.data = .dict es ep → H b = none := fun {b o es ep} e d => by
    cases q : H b with
    | none => rfl
    | some v =>
      obtain ⟨rfl, _, _⟩ := only b v q
      rw [at_] at e
      cases e
      cases (show Data.seq vs.toArray _ = Data.dict es ep from d)
  have nsK : ∀ {b : Addr} {m : Str → Option Value}, z.heap.Ns b m → (hidT z.heap H).Ns b m := fun {b m} q => by
    obtain ⟨o, es, ep, e, d, r⟩ := q
    exact ⟨o, es, ep, hidT_get e (dictFree e d), d, r⟩
  have kb : K.In (hidT z.heap H) := fun b o e => by
    refine hidT_get (kin b o e) ?_
    cases q : H b with
    | none => rfl
    | some v =>
      obtain ⟨rfl, n, _⟩ := only b v q
      rw [n] at e
      cases e
  have limB : (hidT z.heap H).NoLimit := by
    obtain ⟨mc, h1, h2⟩ := lim
    exact ⟨mc, nsK h1, h2⟩
  have digB : (hidT z.heap H).NoDigits := by
    obtain ⟨mc, h1, h2⟩ := dig
    exact ⟨mc, nsK h1, h2⟩
  have en : Env0 P w K mg (hidT z.heap H) callerA [] z H :=
    ⟨rfl, ⟨kb, nsK nsG, ⟨mb, nsK nsB, same⟩, limB⟩, fun _ _ e => of_hidT e, Nat.le_of_eq (hidT_size _ _), trivial, (fun b hb => absurd (show b ∈ ([] : List Addr) from hb) List.not_mem_nil), hok, .of_eq no⟩
  refine codeAny_mono ((F _ kb (nsK nsG) digB).go callerA [] z H ⟨[.ref a], []⟩ [.ref a] [.ref a] _ _ rfl room en (bind z (.ref a)) (.cons rfl .nil) (hsp H sq)) fun r s' h => ?_
  match r, h with
  | .error e, h => exact False.elim h
  | .ok .next, h => exact False.elim h
  | .ok .brk, h => exact False.elim h
  | .ok .cont, h => exact False.elim h
  | .ok (.ret y), h =>
    obtain ⟨v, H', os, bare, un, hok', r', q⟩ := h
    obtain rfl : v = .bl true := q
    obtain rfl : y = Value.bool true := r'
    refine ⟨rfl, OldK.of_keep fun b o e => ?_, os, bare⟩
    cases q : H b with
    | none => exact un.keep b o e q (fun y => by cases y) (fun y => by cases y)
    | some v =>
      obtain ⟨rfl, _, rfl⟩ := only b v q
      have e2 := (hok' _ _ (un.frzs _ _ _ q)).1
      rw [at_] at e
      cases e
      exact e2
theorem walk_go {l : PySem.W.OpenLaw} {n k : Nat} {q : Program} {loose : List Str} {XP : (Str → Option Value) → Heap → Prop} {YP : World → Heap → Prop} {d : DefRec} {K : Params → PySem.W.Frag} {sp : PySem.W.Frag → Sp} {x : Str}
    (most : l.most = some n) (small : n ≤ sizeLine) (nodef : d.params.defaults = []) (room : Room k callerA) (hY : ∀ (w : World) (h : Heap), YP w h → (K w.params).In h)
    (F : ∀ (w : World) (mg : Str → Option Value) (fa : Addr) (h : Heap), (K w.params).In h → h.Ns mainGlobals mg → mg d.name = some (.ref fa) →
      ∃ fd : FuncData, (∀ (s : Shared) (u : Value), BindsTo s fd ⟨[u], []⟩ [(x, u)]) ∧ ∀ base : Heap, (K w.params).In base → base.Ns mainGlobals mg → base.NoDigits →
        Gn l.prog w (K w.params) mg base k fa fd [x] (sp (K w.params)))
    (hsp : ∀ (K : PySem.W.Frag) (H : Hp) (a : Addr) (ns : List Int), ns.length ≤ n → SqL K H a (ns.map V.int) → sp K [.ref a] H (fun v _ => v = .bl true) fun _ _ _ => False) :
    PySem.W.WalkO q loose XP YP l.row.toRowW d [] (fun f vs => PySem.call f vs) := by
  refine Att.attach_call most nodef fun w s₀ s₁ mg mb fa o pm cd doc a vs ns G Y _ _ _ hmg hobj hints hlen hg => ?_
  have kin := hY w _ Y
  obtain ⟨fd, hb, hF⟩ := F w mg fa _ kin G.T.g hmg
  exact law_go kin G.T.g G.T.b G.T.builtins G.T.nolimit G.T.nodigits hg hobj hints (Nat.le_trans hlen small) room hF hb fun H hS => hsp _ H a ns hlen hS
end K16
set_option Elab.async false
set_option linter.all false
set_option maxRecDepth 100000
set_option maxHeartbeats 4000000
set_option pp.maxSteps 400
set_option pp.deepTerms false
namespace K16
open PySem PySem.Spec PyProof.Rows L2
open Xk Az
def top (i : Nat) : Stmt := PySem.Challenge.pw_takesworks_k16_rows_and_parts_shown.main.body.getD i (.Pass ⟨0, 0, 0, 0⟩)
abbrev sIsWhole : Stmt := top 10
abbrev sIsWithin : Stmt := top 11
abbrev sIsTextOf : Stmt := top 12
abbrev sIsSmallText : Stmt := top 13
abbrev sLinked : Stmt := top 15
abbrev sStepsFrom : Stmt := top 16
abbrev sGroupsIn : Stmt := top 17
abbrev sIsClosed : Stmt := top 18
abbrev sIsTongue : Stmt := top 24
abbrev sIsNameText : Stmt := top 25
abbrev sIsName : Stmt := top 26
abbrev sOtherEnd : Stmt := top 28
abbrev sRefuseUnlessTwoNames : Stmt := top 29
abbrev sNamesInit : Stmt := inClass (top 30) 0
abbrev sNamesSortOut : Stmt := inClass (top 30) 1
abbrev sNamesTell : Stmt := inClass (top 30) 2
abbrev sNamesStrike : Stmt := inClass (top 30) 3
abbrev sNamesClassOf : Stmt := inClass (top 30) 4
abbrev sNamesAreOne : Stmt := inClass (top 30) 5
abbrev sNamesChain : Stmt := inClass (top 30) 7
abbrev sNamesFirstNearer : Stmt := inClass (top 30) 8
abbrev sNamesShowsChain : Stmt := inClass (top 30) 9
abbrev sNamesShowsApart : Stmt := inClass (top 30) 10
abbrev sHand : Stmt := top 32
abbrev sTake : Stmt := top 33
abbrev sPick : Stmt := top 34
abbrev sWord : Stmt := top 35
abbrev sText : Stmt := top 36
abbrev sNames : Stmt := top 37
abbrev sHeap : Stmt := top 38
abbrev sBook : Stmt := top 39
abbrev sWhole : Stmt := top 40
abbrev sLeads : Stmt := top 41
abbrev sLawIsName : Stmt := top 42
abbrev sClosed : Stmt := top 43
abbrev sWalked : Stmt := top 44
abbrev sRowOtherwise : Stmt := top 45
abbrev sNamesOtherwise : Stmt := top 46
abbrev sRight : Stmt := top 47
abbrev sLaw : Stmt := top 48
theorem scIsWhole : FnScope ["thing"] ["thing"] (defScope sIsWhole) := ⟨rfl, rfl, rfl, by decide +kernel, rfl, by decide +kernel, by decide +kernel⟩
theorem scIsWithin : FnScope ["thing", "least", "most"] ["thing", "least", "most"] (defScope sIsWithin) := ⟨rfl, rfl, rfl, by decide +kernel, rfl, by decide +kernel, by decide +kernel⟩
theorem scIsTextOf : FnScope ["thing", "signs", "least", "most", "sign"] ["thing", "signs", "least", "most"] (defScope sIsTextOf) := ⟨rfl, rfl, rfl, by decide +kernel, rfl, by decide +kernel, by decide +kernel⟩
theorem scIsSmallText : FnScope ["thing", "least", "most"] ["thing", "least", "most"] (defScope sIsSmallText) := ⟨rfl, rfl, rfl, by decide +kernel, rfl, by decide +kernel, by decide +kernel⟩
theorem scLinked : FnScope ["nodes", "pairs", "links", "one", "other", "node"] ["nodes", "pairs"] (defScope sLinked) := ⟨rfl, rfl, rfl, by decide +kernel, rfl, by decide +kernel, by decide +kernel⟩
theorem scStepsFrom : FnScope ["links", "start", "steps", "last", "reached", "node", "other"] ["links", "start"] (defScope sStepsFrom) := ⟨rfl, rfl, rfl, by decide +kernel, rfl, by decide +kernel, by decide +kernel⟩
theorem scGroupsIn : FnScope ["links", "seen", "groups", "start", "group", "node"] ["links"] (defScope sGroupsIn) := ⟨rfl, rfl, rfl, by decide +kernel, rfl, by decide +kernel, by decide +kernel⟩
theorem scIsClosed : FnScope ["links", "nodes", "inside", "node", "other"] ["links", "nodes"] (defScope sIsClosed) := ⟨rfl, rfl, rfl, by decide +kernel, rfl, by decide +kernel, by decide +kernel⟩
theorem scIsTongue : FnScope ["thing"] ["thing"] (defScope sIsTongue) := ⟨rfl, rfl, rfl, by decide +kernel, rfl, by decide +kernel, by decide +kernel⟩
theorem scIsNameText : FnScope ["thing"] ["thing"] (defScope sIsNameText) := ⟨rfl, rfl, rfl, by decide +kernel, rfl, by decide +kernel, by decide +kernel⟩
theorem scIsName : FnScope ["thing"] ["thing"] (defScope sIsName) := ⟨rfl, rfl, rfl, by decide +kernel, rfl, by decide +kernel, by decide +kernel⟩
theorem scOtherEnd : FnScope ["pair", "name"] ["pair", "name"] (defScope sOtherEnd) := ⟨rfl, rfl, rfl, by decide +kernel, rfl, by decide +kernel, by decide +kernel⟩
theorem scRefuseUnlessTwoNames : FnScope ["one", "other", "name"] ["one", "other"] (defScope sRefuseUnlessTwoNames) := ⟨rfl, rfl, rfl, by decide +kernel, rfl, by decide +kernel, by decide +kernel⟩
theorem scNamesInit : FnScope ["self"] ["self"] (defScope sNamesInit) := ⟨rfl, rfl, rfl, by decide +kernel, rfl, by decide +kernel, by decide +kernel⟩
theorem scNamesSortOut : FnScope ["self", "pairs", "pair", "name", "group"] ["self"] (defScope sNamesSortOut) := ⟨rfl, rfl, rfl, by decide +kernel, rfl, by decide +kernel, by decide +kernel⟩
theorem scNamesTell : FnScope ["self", "one", "other", "number"] ["self", "one", "other"] (defScope sNamesTell) := ⟨rfl, rfl, rfl, by decide +kernel, rfl, by decide +kernel, by decide +kernel⟩
theorem scNamesStrike : FnScope ["self", "number", "one", "other", "whole"] ["self", "number"] (defScope sNamesStrike) := ⟨rfl, rfl, rfl, by decide +kernel, rfl, by decide +kernel, by decide +kernel⟩
theorem scNamesClassOf : FnScope ["self", "name"] ["self", "name"] (defScope sNamesClassOf) := ⟨rfl, rfl, rfl, by decide +kernel, rfl, by decide +kernel, by decide +kernel⟩
theorem scNamesAreOne : FnScope ["self", "one", "other"] ["self", "one", "other"] (defScope sNamesAreOne) := ⟨rfl, rfl, rfl, by decide +kernel, rfl, by decide +kernel, by decide +kernel⟩
theorem scNamesChain : FnScope ["self", "one", "other", "steps", "numbers", "name", "number"] ["self", "one", "other"] (defScope sNamesChain) := ⟨rfl, rfl, rfl, by decide +kernel, rfl, by decide +kernel, by decide +kernel⟩
theorem scNamesFirstNearer : FnScope ["self", "name", "steps", "number", "pair"] ["self", "name", "steps"] (defScope sNamesFirstNearer) := ⟨rfl, rfl, rfl, by decide +kernel, rfl, by decide +kernel, by decide +kernel⟩
theorem scNamesShowsChain : FnScope ["self", "one", "other", "thing", "name", "number"] ["self", "one", "other", "thing"] (defScope sNamesShowsChain) := ⟨rfl, rfl, rfl, by decide +kernel, rfl, by decide +kernel, by decide +kernel⟩
theorem scNamesShowsApart : FnScope ["self", "one", "other", "thing", "name"] ["self", "one", "other", "thing"] (defScope sNamesShowsApart) := ⟨rfl, rfl, rfl, by decide +kernel, rfl, by decide +kernel, by decide +kernel⟩
theorem scHand : FnScope ["_law_script", "_law_own", "_law_mixed", "_law_cell"] ["_law_script"] (defScope sHand) := ⟨rfl, rfl, rfl, by decide +kernel, rfl, by decide +kernel, by decide +kernel⟩
theorem scTake : FnScope ["_law_hand_here", "_law_many", "_law_digit", "_law_once", "_law_twice"] ["_law_hand_here", "_law_many"] (defScope sTake) := ⟨rfl, rfl, rfl, by decide +kernel, rfl, by decide +kernel, by decide +kernel⟩
theorem scPick : FnScope ["_law_hand_here", "_law_some"] ["_law_hand_here", "_law_some"] (defScope sPick) := ⟨rfl, rfl, rfl, by decide +kernel, rfl, by decide +kernel, by decide +kernel⟩
theorem scWord : FnScope ["_law_hand_here", "_law_least", "_law_most", "_law_letters", "_law_k"] ["_law_hand_here", "_law_least", "_law_most"] (defScope sWord) := ⟨rfl, rfl, rfl, by decide +kernel, rfl, by decide +kernel, by decide +kernel⟩
theorem scText : FnScope ["_law_hand_here", "_law_many", "_law_signs", "_law_found", "_law_k", "_law_sign"] ["_law_hand_here", "_law_many"] (defScope sText) := ⟨rfl, rfl, rfl, by decide +kernel, rfl, by decide +kernel, by decide +kernel⟩
theorem scNames : FnScope ["_law_hand_here", "_law_many", "_law_signs", "_law_k", "_law_tongues", "_law_stem", "_law_at", "_law_found", "_law_name", "_law_twin"] ["_law_hand_here", "_law_many"] (defScope sNames) := ⟨rfl, rfl, rfl, by decide +kernel, rfl, by decide +kernel, by decide +kernel⟩
theorem scHeap : FnScope ["_law_tellings", "_law_name", "_law_found", "_law_at", "_law_one", "_law_other", "_law_counts", "_law_there"] ["_law_tellings", "_law_name"] (defScope sHeap) := ⟨rfl, rfl, rfl, by decide +kernel, rfl, by decide +kernel, by decide +kernel⟩
theorem scBook : FnScope ["_law_hand_here", "_law_names_here", "_law_many", "_law_book_here", "_law_tellings", "_law_k", "_law_one", "_law_other", "_law_number", "_law_row", "_law_name"] ["_law_hand_here", "_law_names_here", "_law_many"] (defScope sBook) := ⟨rfl, rfl, rfl, by decide +kernel, rfl, by decide +kernel, by decide +kernel⟩
theorem scWhole : FnScope ["_law_thing"] ["_law_thing"] (defScope sWhole) := ⟨rfl, rfl, rfl, by decide +kernel, rfl, by decide +kernel, by decide +kernel⟩
theorem scLeads : FnScope ["_law_tellings", "_law_one", "_law_other", "_law_thing", "_law_number", "_law_here"] ["_law_tellings", "_law_one", "_law_other", "_law_thing"] (defScope sLeads) := ⟨rfl, rfl, rfl, by decide +kernel, rfl, by decide +kernel, by decide +kernel⟩
theorem scLawIsName : FnScope ["_law_thing", "_law_part"] ["_law_thing"] (defScope sLawIsName) := ⟨rfl, rfl, rfl, by decide +kernel, rfl, by decide +kernel, by decide +kernel⟩
theorem scClosed : FnScope ["_law_tellings", "_law_one", "_law_other", "_law_thing", "_law_first", "_law_second", "_law_counts", "_law_name"] ["_law_tellings", "_law_one", "_law_other", "_law_thing"] (defScope sClosed) := ⟨rfl, rfl, rfl, by decide +kernel, rfl, by decide +kernel, by decide +kernel⟩
theorem scWalked : FnScope ["_law_hand_here", "_law_tellings", "_law_one", "_law_row", "_law_here", "_law_turn", "_law_some", "_law_number", "_law_telling"] ["_law_hand_here", "_law_tellings", "_law_one"] (defScope sWalked) := ⟨rfl, rfl, rfl, by decide +kernel, rfl, by decide +kernel, by decide +kernel⟩
theorem scRowOtherwise : FnScope ["_law_hand_here", "_law_row", "_law_many", "_law_way", "_law_at", "_law_odd", "_law_some"] ["_law_hand_here", "_law_row", "_law_many"] (defScope sRowOtherwise) := ⟨rfl, rfl, rfl, by decide +kernel, rfl, by decide +kernel, by decide +kernel⟩
theorem scNamesOtherwise : FnScope ["_law_hand_here", "_law_row", "_law_names_here", "_law_way", "_law_at", "_law_some", "_law_odd"] ["_law_hand_here", "_law_row", "_law_names_here"] (defScope sNamesOtherwise) := ⟨rfl, rfl, rfl, by decide +kernel, rfl, by decide +kernel, by decide +kernel⟩
theorem scRight : FnScope ["_law_hand_here", "_law_book_here", "_law_tellings", "_law_names_here", "_law_one", "_law_other", "_law_row", "_law_end", "_law_chain", "_law_rows", "_law_thing", "_law_goal", "_law_kept", "_law_found", "_law_parts", "_law_some"] ["_law_hand_here", "_law_book_here", "_law_tellings", "_law_names_here"] (defScope sRight) := ⟨rfl, rfl, rfl, by decide +kernel, rfl, by decide +kernel, by decide +kernel⟩
theorem scLaw : FnScope ["_law_script", "_law_hand_here", "_law_turn", "_law_names_here", "_law_book_here", "_law_tellings", "_law_again", "_law_number", "_law_one", "_law_other"] ["_law_script"] (defScope sLaw) := ⟨rfl, rfl, rfl, by decide +kernel, rfl, by decide +kernel, by decide +kernel⟩
def offS (A : List Addr) (H : Hp) : Hp := fun b => if b ∈ A then none else H b
theorem offS_all {A : List Addr} {H : Hp} : L2.Same (offS A H) H := fun b o e => by
  unfold offS at e
  split at e
  · cases e
  · exact e
theorem offS_at {A : List Addr} {H : Hp} {p : Addr} {o : HO} (n : p ∉ A) (e : H p = some o) : offS A H p = some o := by
  unfold offS
  rw [if_neg n, e]
theorem offS_upd {A : List Addr} {H : Hp} {p : Addr} {o : HO} (m : p ∈ A) : L2.Same (offS A H) (offS A (upd H p o)) := fun b x e => by
  unfold offS at e
  split at e
  · cases e
  · rename_i n
    exact offS_at n (by rw [upd_ne (show b ≠ p from fun z => n (by rw [z]; exact m))]; exact e)
theorem offS_less {A B : List Addr} {H : Hp} (s : ∀ b ∈ B, b ∈ A) : L2.Same (offS A H) (offS B H) := fun b x e => by
  unfold offS at e
  split at e
  · cases e
  · rename_i n
    exact offS_at (fun m => n (s b m)) e
theorem new_off {A : List Addr} {H : Hp} {p : Addr} (ex : ∀ a ∈ A, H a ≠ none) (np : H p = none) : p ∉ A := fun m => ex p m np
theorem exS {A : List Addr} {H H' : Hp} (ex : ∀ a ∈ A, H a ≠ none) (s : L2.Same H H') : ∀ a ∈ A, H' a ≠ none := fun a m z => by
  cases e : H a with
  | none => exact ex a m e
  | some o =>
    rw [s a o e] at z
    cases z
theorem same_upd {H : Hp} {p : Addr} {o : HO} (h : H p = none) : L2.Same H (upd H p o) := fun b x e => by
  rw [upd_ne (ne_of_none e h)]
  exact e
def Bt (A : List Addr) (H H' : Hp) : Prop := ∀ b x, b ∉ A → H b = some x → H' b = some x
theorem Bt.refl (A : List Addr) (H : Hp) : Bt A H H := fun _ _ _ e => e
theorem Bt.trans {A : List Addr} {H H1 H2 : Hp} (p : Bt A H H1) (q : Bt A H1 H2) : Bt A H H2 := fun b o n e => q b o n (p b o n e)
theorem Bt.of {A : List Addr} {H H' : Hp} (s : L2.Same H H') : Bt A H H' := fun b o _ e => s b o e
theorem Bt.off {A : List Addr} {H H' : Hp} (s : Bt A H H') : L2.Same (offS A H) (offS A H') := fun b o e => by
  unfold offS at e
  split at e
  · cases e
  · rename_i n
    exact offS_at n (s b o n e)
/-- a hand: where it stands, where its own numbers stand -/
def Hd (h o : Addr) (n : Int) (H : Hp) : Prop := ∃ (gs : List Int) (m c : Int), H h = some (.lst [.ref o, .int m, .int c]) ∧ H o = some (.lst (gs.map V.int)) ∧ o ≠ h ∧ (∀ g ∈ gs, 0 ≤ g) ∧ gs.length ≤ 63 ∧ 0 ≤ m ∧ m < 2305843009213693951 ∧ 0 ≤ c ∧ c ≤ n
theorem Hd.mono {h o : Addr} {n n' : Int} {H : Hp} (a : Hd h o n H) (l : n ≤ n') : Hd h o n' H := by
  obtain ⟨gs, m, c, r1, r2, r3, r4, r5, r6, r7, r8, r9⟩ := a
  exact ⟨gs, m, c, r1, r2, r3, r4, r5, r6, r7, r8, Int.le_trans r9 l⟩
theorem Hd.same {h o : Addr} {n : Int} {H H' : Hp} (a : Hd h o n H) (s : L2.Same H H') : Hd h o n H' := by
  obtain ⟨gs, m, c, r1, r2, r⟩ := a
  exact ⟨gs, m, c, s _ _ r1, s _ _ r2, r⟩
theorem Hd.upd {h o p : Addr} {n : Int} {H : Hp} {x : HO} (a : Hd h o n H) (np : p ∉ [h, o]) : Hd h o n (L2.upd H p x) := by
  obtain ⟨gs, m, c, r1, r2, r⟩ := a
  have q1 : h ≠ p := fun z => np (by rw [z]; simp)
  have q2 : o ≠ p := fun z => np (by rw [z]; simp)
  exact ⟨gs, m, c, by rw [upd_ne q1]; exact r1, by rw [upd_ne q2]; exact r2, r⟩
theorem Hd.here {h o : Addr} {n : Int} {H : Hp} (a : Hd h o n H) : ∀ b ∈ [h, o], H b ≠ none := fun b mb z => by
  obtain ⟨gs, m, c, r1, r2, r⟩ := a
  simp only [List.mem_cons, List.not_mem_nil, or_false] at mb
  rcases mb with e | e
  · rw [e, r1] at z; cases z
  · rw [e, r2] at z; cases z
theorem Hd.fresh {h o p : Addr} {n : Int} {H : Hp} (a : Hd h o n H) (np : H p = none) : p ∉ [h, o] := fun m => a.here p m np
end K16
set_option Elab.async false
set_option linter.all false
set_option maxRecDepth 100000
set_option maxHeartbeats 4000000
set_option pp.maxSteps 400
set_option pp.deepTerms false
namespace K16
open PySem PySem.Spec PyProof.Rows L2
open Xk Az
section
variable {P : Program} {w : World} {K : PySem.W.Frag} {mg : Str → Option Value} {base : Heap}
/-- a def that may be called by its name -/
structure Ca (P : Program) (w : World) (K : PySem.W.Frag) (mg : Str → Option Value) (base : Heap) (k : Nat) (x : Str) (ps : List Str) (sp : Sp) : Prop where
  ex : ∃ (f : Addr) (fd : FuncData), FnOk P w K mg base CX0 k f fd ps sp ∧ mg x = some (.ref f) ∧ PySem.W.keepIn K (.ref f) = true ∧ Binds K fd ps []
/-- a def of the text, as the head finds it -/
structure Df (K : PySem.W.Frag) (mg : Str → Option Value) (x : Str) (ps : List Str) (st : Stmt) (f : Addr) (fd : FuncData) : Prop where
  fn : Fun K x x st f fd
  mgf : mg x = some (.ref f)
  bd : Binds K fd ps []
theorem Df.ca {k : Nat} {x : Str} {ps : List Str} {st : Stmt} {f : Addr} {fd : FuncData} {sp : Sp} (d : Df K mg x ps st f fd)
    (h : FnOk P w K mg base CX0 k f fd ps sp) : Ca P w K mg base k x ps sp := ⟨f, fd, h, d.mgf, d.fn.kp, d.bd⟩
section
variable {X : Cx} {k j : Nat} {x : Str} {ps : List Str} {sp : Sp} {p pos : Pos} {e : Expr} {es : List Expr} {t : TA}
theorem pe_ca (c : Ca X.prog X.w X.K X.mg X.base k x ps sp) (hr : Room j X.A) (hk : k ≤ j) (hg : Gl X x) (ha : PA X (e :: es) t) (hdb : (x == ("__debug__" : Str)) = false := by decide)
    (he : starEach (e :: es) X.env = (false, eval e X.env) :: starEach es X.env := by rfl) (hpl : (backTo pos (starEach es X.env)).any (·.1) = false := by rfl) :
    PE X (.Call (.Name x p) (e :: es) [] pos) (tCall sp [] E0 t) := by
  obtain ⟨f, fd, F, hm, kp, b⟩ := c.ex
  exact pe_call F (hr.mono hk) hg hm kp b .nil pass0 ha hdb he hpl
end
def small : Str := "abcdefghijklmnopqrstuvwxyz"
def signs : Str := "abcdefghijklmnopqrstuvwxyzABCDEFGHIJKLMNOPQRSTUVWXYZ0123456789 '-."
/-- what the top has left, besides the defs -/
structure Txt (K : PySem.W.Frag) (mg : Str → Option Value) : Prop where
  sm : ∃ t, mg "SMALL_LETTERS" = some (.str small t)
  sg : ∃ t, mg "TEXT_SIGNS" = some (.str signs t)
  st : ∃ t, mg "SHORTEST_TONGUE" = some (.int 2 t)
  lt : ∃ t, mg "LONGEST_TONGUE" = some (.int 3 t)
  lx : ∃ t, mg "LONGEST_TEXT" = some (.int 40 t)
  isi : mg "isinstance" = none
  str : mg "str" = none
  tuple : mg "tuple" = none
  len : mg "len" = none
  all : mg "all" = none
  range : mg "range" = none
  repr : mg "repr" = none
  list : mg "list" = none
  max : mg "max" = none
  min : mg "min" = none
  bool : mg "bool" = none
  int : mg "int" = none
  sorted : mg "sorted" = none
  set : mg "set" = none
  enumerate : mg "enumerate" = none
  zip : mg "zip" = none
abbrev far : Int := 1000000
def spHand (K : PySem.W.Frag) : Sp := fun vs H Q _ => ∃ (a : Addr) (ns : List Int), vs = [.ref a] ∧ SqL K H a (ns.map V.int) ∧ ns.length ≤ 63 ∧ ∀ h o H', Hd h o 0 H' → L2.Same H H' → H h = none → H o = none → Q (.ref h) H'
def spTake : Sp := fun vs H Q _ => ∃ (h o : Addr) (many n : Int), vs = [.ref h, .int many] ∧ 0 < many ∧ many < 1000000 ∧ Hd h o n H ∧ n ≤ far ∧
  ∀ d H', 0 ≤ d → d < many → Hd h o (n + 1) H' → Bt [h, o] H H' → Q (.int d) H'
theorem dpAll_ints {H : Hp} : ∀ gs : List Int, DpAll K H (gs.map V.int) (gs.map PyData.int)
  | [] => .nil
  | g :: r => .cons (.int g) (dpAll_ints r)
theorem lay_ints : ∀ gs : List Int, PyData.canLayAll0 (gs.map PyData.int) = true
  | [] => by simp [PyData.canLayAll0]
  | g :: r => by simp [PyData.canLayAll0, PyData.canLay0, lay_ints r]
theorem depth_ints : ∀ gs : List Int, PyData.depthAll (gs.map PyData.int) ≤ 1
  | [] => by simp [PyData.depthAll]
  | g :: r => by
    have := depth_ints r
    simp only [List.map_cons, PyData.depthAll, PyData.depth]
    omega
theorem shaped_ints (gs : List Int) : SeqAt.shaped (.list (gs.map PyData.int)) = true := by
  unfold SeqAt.shaped
  have := depth_ints gs
  have h1 : (PyData.list (gs.map PyData.int)).canLay0 = true := by simp only [PyData.canLay0]; exact lay_ints gs
  have h2 : (PyData.list (gs.map PyData.int)).depth ≤ 64 := by simp only [PyData.depth]; omega
  rw [h1, decide_eq_true h2]
  rfl
theorem eqv_nil : PyData.eqv (.list (([] : List Int).map PyData.int)) (.list []) = true := by simp [PyData.eqv, PyData.eqvAll]
theorem eqv_cons (g : Int) (r : List Int) : PyData.eqv (.list ((g :: r).map PyData.int)) (.list []) = false := by simp [PyData.eqv, PyData.eqvAll]
theorem ixN_nat {n j : Nat} (h : j < n) : ixN n (j : Int) = some j := by
  unfold ixN
  rw [if_pos (by omega), if_pos (by omega)]
  simp
theorem wide30 {g many : Int} (m1 : 0 < many) (m2 : many < 1000000) : CDivW g many := by
  have h : (1000000 : Int) < 2 ^ 110 := by decide
  exact wide_div (b := 110) m1 (by omega) (by decide) (by decide)
theorem ok_take {f : Addr} {fd : FuncData} (D : Df K mg "_law_take" ["_law_hand_here", "_law_many"] sTake f fd)  : FnOk P w K mg base CX0 1 f fd ["_law_hand_here", "_law_many"] spTake := by
  refine D.fn.ok scTake (fun vs H Q E h => ?_) (fun cdv A outer s H vs Q E hr h => ?_)
  · obtain ⟨h, o, many, n, rfl, m1, m2, hd, hn, q⟩ := h
    rfl
  · obtain ⟨h, o, many, n, rfl, m1, m2, hd, hn, q⟩ := h
    refine ⟨_, (pss_cons (ps_asg (pe_op op_add (pe_ix ix_list (pv 0) pe_int (fun _ _ => rfl)) pe_int) (pg_sub (pv 0) pe_int set_list))
      (pss_cons (ps_while PassesOwn.never (PW.pt (pw_and (pt_cmpR (op_neD hr.units) (pe_ix ix_list (pv 0) pe_int (fun _ _ => rfl)) (pe_lst pa_nil) (nomark _)) (pw_and1 (pt_cmpR op_eq (pe_ix ix_list (pe_ix ix_list (pv 0) pe_int (fun _ _ => rfl)) pe_int (fun _ _ => rfl)) pe_int (nomark _))))) (pss_one (ps_expr (pe_bm PySem.F.plainAttrs_list PySem.F.slot_list_pop PySem.F.type_list_pop mt_popAt (pe_ix ix_list (pv 0) pe_int (fun _ _ => rfl)) (pa_cons pe_int pa_nil)))))
      (pss_cons (ps_if (pt_cmpR (op_neD hr.units) (pe_ix ix_list (pv 0) pe_int (fun _ _ => rfl)) (pe_lst pa_nil) (nomark _)) (pss_cons (ps_set (i := 2) scTake.nd rfl (.inl rfl) (pe_op op_mod (pe_ix ix_list (pe_ix ix_list (pv 0) pe_int (fun _ _ => rfl)) pe_int (fun _ _ => rfl)) (pv 1)))
      (pss_cons (ps_asg (pe_op op_fdivW (pe_ix ix_list (pe_ix ix_list (pv 0) pe_int (fun _ _ => rfl)) pe_int (fun _ _ => rfl)) (pv 1)) (pg_sub (pe_ix ix_list (pv 0) pe_int (fun _ _ => rfl)) pe_int set_list))
      (pss_one (ps_ret (pv 2))))) pss_nil)
      (pss_cons (ps_set (i := 3) scTake.nd rfl (.inl rfl) (pe_op op_mod (pe_op op_mul (pe_op op_add (pe_ix ix_list (pv 0) pe_int (fun _ _ => rfl)) (pe_op op_mul pe_int (pe_ix ix_list (pv 0) pe_int (fun _ _ => rfl)))) pe_int) pe_int))
      (pss_cons (ps_set (i := 4) scTake.nd rfl (.inl rfl) (pe_op op_add (pe_op op_mul (pv 3) (pe_op op_add (pe_op op_fdiv (pv 3) pe_int) pe_int)) (pe_op op_mul (pe_ix ix_list (pv 0) pe_int (fun _ _ => rfl)) (pe_ix ix_list (pv 0) pe_int (fun _ _ => rfl)))))
      (pss_one (ps_ret (pe_op op_mod (pe_op op_fdiv (pe_op op_mod (pv 4) pe_int) pe_int) (pv 1))))))))), ?_⟩
    obtain ⟨gs, m, c, eh, eo, oh, g0, gl, k0, k1, c0, c1⟩ := hd
    have far' : n ≤ 1000000 := hn
    refine ⟨_, rfl, h, _, 2, _, rfl, rfl, SqL.of eh, atI_nat (j := 2) rfl, c, 1, rfl, rfl, _, rfl, h, _, 2, 2, rfl, rfl, eh, rfl, ?_⟩
    have eh2 : (upd H h (.lst [.ref o, .int m, .int (c + 1)])) h = some (.lst [.ref o, .int m, .int (c + 1)]) := upd_same
    have eo2 : (upd H h (.lst [.ref o, .int m, .int (c + 1)])) o = some (.lst (gs.map V.int)) := by rw [upd_ne oh]; exact eo
    have b2 : Bt [h, o] H (upd H h (.lst [.ref o, .int m, .int (c + 1)])) := fun b x nb e => by
      rw [upd_ne (fun z => nb (by rw [z]; simp))]
      exact e
    have dl : ∀ {Hi : Hp} {gs : List Int}, Hi o = some (.lst (gs.map V.int)) → Dp K Hi (.ref o) (.list (gs.map PyData.int)) := fun {Hi gs} e => .lst (SqL.of e) (dpAll_ints gs)
    refine ⟨fun k σ Hi => ∃ gs' : List Int, σ = [some (.ref h), some (.int many), none, none, none] ∧ Hi h = some (.lst [.ref o, .int m, .int (c + 1)]) ∧ Hi o = some (.lst (gs'.map V.int)) ∧ (∀ g ∈ gs', 0 ≤ g) ∧ gs'.length ≤ 63 ∧ gs'.length = k ∧ Bt [h, o] H Hi, ⟨_, gs, rfl, eh2, eo2, g0, gl, rfl, b2⟩, ?_⟩
    rintro k σ Hi ⟨gs', rfl, ehi, eoi, gi0, gil, gik, bi⟩
    refine ⟨_, rfl, h, _, 0, .ref o, rfl, rfl, SqL.of ehi, atI_nat (j := 0) rfl, (by show 0 ≤ sizeLine; decide), fun l nl => ?_⟩
    have s1 := same_upd nl (o := .lst [])
    refine ⟨_, _, dl (s1 _ _ eoi), .lst (SqL.of upd_same) .nil, shaped_ints _, rfl, ?_⟩
    have ehl := s1 _ _ ehi
    have eol := s1 _ _ eoi
    have bl := bi.trans (Bt.of s1)
    clear eh eo eh2 eo2 b2 ehi eoi
    generalize upd Hi l (.lst []) = Hl at ehl eol bl ⊢
    cases gs' with
    | nil =>
      refine ⟨false, by rw [eqv_nil]; rfl, iteF ?_⟩
      refine ⟨_, rfl, h, _, 0, .ref o, rfl, rfl, SqL.of ehl, atI_nat (j := 0) rfl, (by show 0 ≤ sizeLine; decide), fun l2 nl2 => ?_⟩
      have s2 := same_upd nl2 (o := .lst [])
      have eh3 := s2 _ _ ehl
      have eo3 := s2 _ _ eol
      have b3 := bl.trans (Bt.of s2)
      refine ⟨_, _, dl eo3, .lst (SqL.of upd_same) .nil, shaped_ints _, rfl, false, by rw [eqv_nil]; rfl, iteF ?_⟩
      generalize upd Hl l2 (.lst []) = H3 at eh3 eo3 b3 ⊢
      have sq := SqL.of (K := K) eh3
      refine ⟨_, rfl, h, _, 1, _, rfl, rfl, sq, atI_nat (j := 1) rfl, _, rfl, h, _, 2, _, rfl, rfl, sq, atI_nat (j := 2) rfl, 104729, c + 1, rfl, rfl, .inl (by decide), m, _, rfl, rfl, _, 6364136223846793005, rfl, rfl, .inr (by decide), _, 2305843009213693921, rfl, rfl, (by show (0 : Int) < 2305843009213693921; decide), ?_⟩
      generalize (m + 104729 * (c + 1)) * 6364136223846793005 = z
      have z0 : 0 ≤ z % 2305843009213693921 := Int.emod_nonneg _ (by decide)
      have z1 : z % 2305843009213693921 < 2305843009213693921 := Int.emod_lt_of_pos _ (by decide)
      refine ⟨_, rfl, _, rfl, _, 1000003, rfl, rfl, ⟨by decide, by decide⟩, _, 3, rfl, rfl, _, _, rfl, rfl, .inl (by omega), _, rfl, h, _, 2, _, rfl, rfl, sq, atI_nat (j := 2) rfl, _, rfl, h, _, 2, _, rfl, rfl, sq, atI_nat (j := 2) rfl, c + 1, c + 1, rfl, rfl, .inl (by omega), _, _, rfl, rfl, ?_⟩
      refine ⟨_, rfl, _, 2305843009213693907, rfl, rfl, (by show (0 : Int) < 2305843009213693907; decide), _, 8191, rfl, rfl, ⟨by decide, by decide⟩, _, rfl, _, many, rfl, rfl, m1, ?_⟩
      exact q _ _ (Int.emod_nonneg _ (by omega)) (Int.emod_lt_of_pos _ m1) ⟨[], m, c + 1, eh3, eo3, oh, gi0, by simp, k0, k1, by omega, by omega⟩ b3
    | cons g r =>
      refine ⟨true, by rw [eqv_cons]; rfl, iteT ?_⟩
      refine ⟨_, rfl, h, _, 0, .ref o, rfl, rfl, SqL.of ehl, atI_nat (j := 0) rfl, o, _, 0, .int g, rfl, rfl, SqL.of eol, atI_nat (j := 0) rfl, rfl, _, rfl, ite2 (fun e => ?_) (fun e => ?_)⟩
      · refine ⟨fun σ' H' => ∃ gs' : List Int, σ' = [some (.ref h), some (.int many), none, none, none] ∧ H' h = some (.lst [.ref o, .int m, .int (c + 1)]) ∧ H' o = some (.lst (gs'.map V.int)) ∧ (∀ g ∈ gs', 0 ≤ g) ∧ gs'.length ≤ 63 ∧ gs'.length = r.length ∧ Bt [h, o] H H', fun σ' H' w => ⟨r.length, by rw [← gik]; simp, w⟩, ?_⟩
        refine ⟨_, rfl, h, _, 0, .ref o, rfl, rfl, SqL.of ehl, atI_nat (j := 0) rfl, (.inl ⟨rfl, _, SqL.of eol⟩), ?_⟩
        refine ⟨o, _, 0, 0, .int g, rfl, rfl, eol, by decide, by decide, seqIndex_of (by decide) (by simp), rfl, ?_⟩
        refine ⟨r, rfl, by rw [upd_ne (Ne.symm oh)]; exact ehl, upd_same, fun x hx => gi0 x (List.mem_cons_of_mem _ hx), by simp at gil; omega, rfl, fun b x nb e => ?_⟩
        rw [upd_ne (fun z => nb (by rw [z]; simp))]
        exact bl b x nb e
      · refine ⟨_, rfl, h, _, 0, .ref o, rfl, rfl, SqL.of ehl, atI_nat (j := 0) rfl, (by show 0 ≤ sizeLine; decide), fun l2 nl2 => ?_⟩
        have s2 := same_upd nl2 (o := .lst [])
        have eh3 := s2 _ _ ehl
        have eo3 := s2 _ _ eol
        have b3 := bl.trans (Bt.of s2)
        refine ⟨_, _, dl eo3, .lst (SqL.of upd_same) .nil, shaped_ints _, rfl, true, by rw [eqv_cons]; rfl, iteT ?_⟩
        generalize upd Hl l2 (.lst []) = H3 at eh3 eo3 b3 ⊢
        have sq := SqL.of (K := K) eh3
        have so := SqL.of (K := K) eo3
        refine ⟨_, rfl, h, _, 0, .ref o, rfl, rfl, sq, atI_nat (j := 0) rfl, o, _, 0, .int g, rfl, rfl, so, atI_nat (j := 0) rfl, _, rfl, g, many, rfl, rfl, m1, ?_⟩
        refine ⟨_, rfl, h, _, 0, .ref o, rfl, rfl, sq, atI_nat (j := 0) rfl, o, _, 0, .int g, rfl, rfl, so, atI_nat (j := 0) rfl, _, rfl, g, many, rfl, rfl, wide30 m1 m2, ?_⟩
        refine ⟨_, rfl, h, _, 0, .ref o, rfl, rfl, sq, atI_nat (j := 0) rfl, o, _, 0, 0, rfl, rfl, eo3, ixN_nat (j := 0) (by simp), ?_⟩
        refine ⟨_, rfl, q _ _ (Int.emod_nonneg _ (by omega)) (Int.emod_lt_of_pos _ m1) ⟨g / many :: r, m, c + 1, by rw [upd_ne (Ne.symm oh)]; exact eh3, upd_same, oh, ?_, by simp at gil ⊢; omega, k0, k1, by omega, by omega⟩ fun b x nb e => ?_⟩
        · intro x hx
          rcases List.mem_cons.mp hx with e | e
          · rw [e]
            exact Int.ediv_nonneg (gi0 g List.mem_cons_self) (by omega)
          · exact gi0 x (List.mem_cons_of_mem _ e)
        · rw [upd_ne (fun z => nb (by rw [z]; simp))]
          exact b3 b x nb e
theorem cut_ints (ns : List Int) (lo hi : Option Int) : cutV (ns.map V.int) lo hi = ((ns.drop (HT.sIx ns.length 0 lo)).take (HT.sIx ns.length ns.length hi - HT.sIx ns.length 0 lo)).map V.int := by
  unfold cutV
  rw [List.length_map, List.map_take, List.map_drop]
theorem cut_len (ns : List Int) (lo hi : Option Int) : ((ns.drop (HT.sIx ns.length 0 lo)).take (HT.sIx ns.length ns.length hi - HT.sIx ns.length 0 lo)).length ≤ ns.length := by
  rw [List.length_take, List.length_drop]
  omega
theorem ok_hand {f : Addr} {fd : FuncData} (D : Df K mg "_law_hand" ["_law_script"] sHand f fd) (T : Txt K mg) : FnOk P w K mg base CX0 1 f fd ["_law_script"] (spHand K) := by
  refine D.fn.ok scHand (fun vs H Q E h => ?_) (fun cdv A outer s H vs Q E hr h => ?_)
  · obtain ⟨a, ns, rfl, hS, nl, q⟩ := h
    rfl
  · obtain ⟨a, ns, rfl, hS, nl, q⟩ := h
    refine ⟨_, (pss_cons (ps_par (i := 1) (j := 2) (by rfl) scHand.nd rfl rfl (by decide) rfl rfl (pa_cons (pe_lst pa_nil) (pa_cons (pe_op op_add pe_int (pe_op op_mul pe_int (pe_callB call_len_seq (by rfl) T.len PySem.boot_len (pa_cons (pv 0) pa_nil)))) pa_nil)) (by rfl))
      (pss_cons (ps_for PassesOwn.never rfl (pi_list (pe_slice sl_list (pv 0) po_none (po_some pe_int))) (pg_name (i := 3) scHand.nd rfl (.inl rfl)) (pss_cons (ps_set (i := 2) scHand.nd rfl (.inl rfl) (pe_op op_mod (pe_op op_add (pe_op op_add (pe_op op_mul (pv 2) pe_int) (pe_op op_mod (pv 3) pe_int)) pe_int) pe_int))
      (pss_one (ps_if (pt_cmpR op_ge (pv 3) (pe_op op_pow pe_int pe_int) (nomark _)) (pss_one (ps_expr (pe_bm PySem.F.plainAttrs_list PySem.F.slot_list_append PySem.F.type_list_append mt_append (pv 1) (pa_cons (pv 3) pa_nil)))) pss_nil))))
      (pss_one (ps_ret (pe_lst (pa_cons (pv 1) (pa_cons (pv 2) (pa_cons pe_int pa_nil)))))))), ?_⟩
    refine ⟨(by show 0 ≤ sizeLine; decide), fun o no => ?_⟩
    have s0 := same_upd no (o := .lst [])
    refine ⟨_, rfl, a, _, rfl, .inl (Same.seq s0 hS), 31, _, rfl, rfl, .inl (by decide), 7, _, rfl, rfl, _, _, rfl, ?_⟩
    refine ⟨_, rfl, 60, rfl, a, _, rfl, Same.seq s0 hS, fun l nl2 => ⟨l, rfl, ⟨_, SqL.of upd_same⟩, ?_⟩⟩
    have s1 := same_upd nl2 (o := .lst (cutV (ns.map V.int) none (some 60)))
    have el : (upd (upd H o (.lst [])) l (.lst (cutV (ns.map V.int) none (some 60)))) l = some (.lst (cutV (ns.map V.int) none (some 60))) := upd_same
    have eo : (upd (upd H o (.lst [])) l (.lst (cutV (ns.map V.int) none (some 60)))) o = some (.lst []) := s1 _ _ upd_same
    have sA := s0.trans s1
    have ol : l ≠ o := fun z => by
      rw [z, upd_same] at nl2
      cases nl2
    obtain ⟨ms, ems, lms⟩ : ∃ ms : List Int, cutV (ns.map V.int) none (some 60) = ms.map V.int ∧ ms.length ≤ 63 := ⟨_, cut_ints ns none (some 60), Nat.le_trans (cut_len ns none (some 60)) nl⟩
    rw [ems] at el eo sA ⊢
    generalize upd (upd H o (.lst [])) l (.lst (ms.map V.int)) = H1 at el eo sA ⊢
    refine for_list (K := K) (a := l) (xs := ms.map V.int) (fun i σ Hi => ∃ (gs : List Int) (m : Int) (c3 : Option V), σ = [some (.ref a), some (.ref o), some (.int m), c3] ∧ Hi o = some (.lst (gs.map V.int)) ∧ gs.length ≤ i ∧ (∀ g ∈ gs, 0 ≤ g) ∧ 0 ≤ m ∧ m < 2305843009213693951 ∧ (∀ b x, b ≠ o → H1 b = some x → Hi b = some x)) ?_ ?_ ?_ ?_
    · refine ⟨[], _, none, rfl, eo, Nat.le_refl _, by simp, ?_, ?_, fun b x _ e => e⟩
      · rw [List.length_map]; omega
      · rw [List.length_map]; omega
    · rintro i σ Hi _ ⟨gs, m, c3, _, _, _, _, _, _, k⟩
      exact SqL.of (k _ _ ol el)
    · rintro i x σ Hi hx ⟨gs, m, c3, rfl, eoi, gl, g0, m0, m1, k⟩
      rw [List.getElem?_map] at hx
      obtain ⟨g, eg, rfl⟩ := Option.map_eq_some_iff.mp hx
      have il : i < ms.length := (List.getElem?_eq_some_iff.mp eg).1
      refine ⟨_, rfl, m, 1000003, rfl, rfl, .inr (by decide), _, rfl, g, 2305843009213693907, rfl, rfl, (by show (0 : Int) < 2305843009213693907; decide), _, _, rfl, rfl, _, 11, rfl, rfl, _, 2305843009213693951, rfl, rfl, (by show (0 : Int) < 2305843009213693951; decide), ?_⟩
      have p0 := Int.emod_nonneg (m * 1000003 + g % 2305843009213693907 + 11) (b := 2305843009213693951) (by decide)
      have p1 := Int.emod_lt_of_pos (m * 1000003 + g % 2305843009213693907 + 11) (b := 2305843009213693951) (by decide)
      refine ⟨_, rfl, 10, 18, rfl, rfl, ⟨by decide, by decide, by decide⟩, g, _, rfl, rfl, _, rfl, ite2 (fun e => ?_) (fun e => ?_)⟩
      · have e' : (10 : Int) ^ (18 : Int).toNat ≤ g := of_decide_eq_true e
        have g00 : 0 ≤ g := Int.le_trans (by decide) e'
        refine ⟨_, rfl, .inl ⟨rfl, _, SqL.of eoi⟩, _, rfl, o, _, _, rfl, rfl, eoi, ?_, ?_⟩
        · rw [List.length_map]
          exact Nat.lt_of_le_of_lt (show gs.length ≤ 100 by omega) (by decide)
        · refine ⟨gs ++ [g], _, _, rfl, by rw [upd_same, List.map_append]; rfl, by rw [List.length_append]; exact Nat.add_le_add_right gl 1, ?_, p0, p1, fun b x nb e => by rw [upd_ne nb]; exact k b x nb e⟩
          intro x hx
          rcases List.mem_append.mp hx with h | h
          · exact g0 x h
          · rw [List.mem_singleton.mp h]; exact g00
      · exact ⟨gs, _, _, rfl, eoi, Nat.le_succ_of_le gl, g0, p0, p1, k⟩
    · rintro σ Hi ⟨gs, m, c3, rfl, eoi, gl, g0, m0, m1, k⟩
      refine ⟨_, rfl, _, rfl, (by show 3 ≤ sizeLine; decide), fun h nh => ?_⟩
      have oh : o ≠ h := fun z => by
        rw [← z, eoi] at nh
        cases nh
      rw [List.length_map] at gl
      have sF : L2.Same H (upd Hi h (.lst [.ref o, .int m, .int 0])) := fun b x e => by
        have bo : b ≠ o := ne_of_none e no
        exact same_upd nh _ _ (k b x bo (sA b x e))
      refine q h o _ ⟨gs, m, 0, upd_same, by rw [upd_ne oh]; exact eoi, oh, g0, by omega, m0, m1, by omega, by omega⟩ sF ?_ no
      cases z : H h with
      | none => rfl
      | some x =>
        have w := k h x (Ne.symm oh) (sA h x z)
        rw [w] at nh
        cases nh
end
end K16
set_option Elab.async false
set_option linter.all false
set_option maxRecDepth 100000
set_option maxHeartbeats 4000000
set_option pp.maxSteps 400
set_option pp.deepTerms false
namespace K16
open PySem PySem.Spec PyProof.Rows L2
open Xk Az Xnp
section
variable {P : Program} {w : World} {K : PySem.W.Frag} {mg : Str → Option Value} {base : Heap}
abbrev N2 := W37.Nm
def key (n : N2) : List Key := [.inr n.1, .inr n.2]
/-- the pairs of a list -/
inductive PrL (H : Hp) : List V → List Pair → Prop
  | nil : PrL H [] []
  | cons {t : Addr} {a b : V} {p : Pair} {vs : List V} {es : List Pair} : H t = some (.tup [a, b]) → W37.NmV H a p.1 → W37.NmV H b p.2 → PrL H vs es → PrL H (.ref t :: vs) (p :: es)
/-- whom each leads to -/
structure Lnk (H0 H : Hp) (d : Addr) (ks : List N2) (es : List Pair) : Prop where
  ex : ∃ kvs : List (List Key × V), Rd H d (.dT kvs) ∧ kvs.map (·.1) = ks.map key ∧ ∀ a ∈ ks, ∃ (L : Addr) (ys : List V), valV kvs (key a) = some (.ref L) ∧ H L = some (.lst ys) ∧ W37.NmL H ys (nb es a) ∧ H0 L = none
theorem rd_same {H H' : Hp} (s : L2.Same H H') {d : Addr} {u : HO} (h : Rd H d u) : Rd H' d u := h.imp (s _ _) fun ⟨o, e⟩ => ⟨o, s _ _ e⟩
theorem rd_get {H : Hp} {a b : Addr} {kvs : List (List Key × V)} {k : List Key} (e : Rd H a (.dT kvs)) (eb : H b = some (.tup (k.map kV))) : DGet H a (.ref b) (valV kvs k) := .inr ⟨kvs, k, b, e, rfl, eb, rfl⟩
theorem key_inj {a b : N2} (h : key a = key b) : a = b := by
  unfold key at h
  simp only [List.cons.injEq, Sum.inr.injEq, and_true] at h
  exact Prod.ext h.1 h.2
def ins (ks : List N2) (a : N2) : List N2 := if a ∈ ks then ks else ks ++ [a]
theorem mem_ins {ks : List N2} {a b : N2} : b ∈ ins ks a ↔ b ∈ ks ∨ b = a := by
  unfold ins
  split
  · rename_i h
    exact ⟨.inl, fun z => z.elim id fun e => e ▸ h⟩
  · rw [List.mem_append, List.mem_singleton]
theorem ins_nd {ks : List N2} {a : N2} (h : ks.Nodup) : (ins ks a).Nodup := by
  unfold ins
  split
  · exact h
  · rename_i n
    rw [List.nodup_append]
    refine ⟨h, by simp, fun x hx y hy => ?_⟩
    rw [List.mem_singleton.mp hy]
    rintro rfl
    exact n hx
theorem keys_put {kvs : List (List Key × V)} {ks : List N2} {a : N2} {v : V} (h : kvs.map (·.1) = ks.map key) : (putK kvs (key a) v).map (·.1) = (ins ks a).map key := by
  have e : (kvs.any fun kv => decide (kv.1 = key a)) = decide (a ∈ ks) := by
    have e0 : (kvs.any fun kv => decide (kv.1 = key a)) = (kvs.map (·.1)).any fun k => decide (k = key a) := by rw [List.any_map]; rfl
    rw [e0, h, List.any_map, Bool.eq_iff_iff, List.any_eq_true, decide_eq_true_eq]
    constructor
    · rintro ⟨b, hb, e⟩
      rw [← key_inj (of_decide_eq_true e)]
      exact hb
    · exact fun m => ⟨a, m, decide_eq_true rfl⟩
  unfold putK ins
  rw [e]
  by_cases m : a ∈ ks
  · rw [decide_eq_true m, if_pos rfl, if_pos m, ← h, List.map_map]
    refine List.map_congr_left fun p _ => ?_
    show (if p.1 = key a then (p.1, v) else p).1 = p.1
    split <;> rfl
  · rw [decide_eq_false m, if_neg (by simp), if_neg m, List.map_append, h, List.map_append]
    rfl
theorem PrL.len {H : Hp} : ∀ {vs : List V} {es : List Pair}, PrL H vs es → vs.length = es.length
  | _, _, .nil => rfl
  | _, _, .cons _ _ _ r => by rw [List.length_cons, List.length_cons, r.len]
theorem PrL.get {H : Hp} : ∀ {vs : List V} {es : List Pair} {i : Nat} {v : V}, PrL H vs es → vs[i]? = some v → ∃ (p : Pair) (t : Addr) (a b : V), es[i]? = some p ∧ v = .ref t ∧ H t = some (.tup [a, b]) ∧ W37.NmV H a p.1 ∧ W37.NmV H b p.2
  | _, _, i, v, .nil, h => by simp at h
  | _, _, 0, v, .cons h1 h2 h3 r, h => by
    cases h
    exact ⟨_, _, _, _, rfl, rfl, h1, h2, h3⟩
  | _, _, i + 1, v, .cons h1 h2 h3 r, h => r.get (by simpa using h)
theorem PrL.tp {H H' : Hp} (s : W37.Tp H H') : ∀ {vs : List V} {es : List Pair}, PrL H vs es → PrL H' vs es
  | _, _, .nil => .nil
  | _, _, .cons h1 h2 h3 r => .cons (s _ _ h1) (h2.tp s) (h3.tp s) (r.tp s)
def spLinked (K : PySem.W.Frag) : Sp := fun vs H Q _ => ∃ (N P : Addr) (xs ps : List V) (es : List Pair), vs = [.ref N, .ref P] ∧ SqL K H N xs ∧ W37.NmL H xs (nodes es) ∧ SqL K H P ps ∧ PrL H ps es ∧ es.length ≤ 100 ∧
  ∀ (d : Addr) (ks : List N2) (lkvs : List (List Key × V)) H', L2.Same H H' → ks.Nodup → (∀ a, a ∈ ks ↔ a ∈ nodes es) → H' d = some (.dT lkvs) → Lnk H H' d ks es → Q (.ref d) H'
theorem nodes_len : ∀ es : List Pair, (nodes es).length = 2 * es.length
  | [] => rfl
  | p :: r => by
    have ih := nodes_len r
    unfold nodes at ih ⊢
    rw [List.flatMap_cons, List.length_append, ih, List.length_cons]
    show 2 + 2 * r.length = 2 * (r.length + 1)
    omega
theorem nd_len {l m : List N2} (h : l.Nodup) (s : ∀ a ∈ l, a ∈ m) : l.length ≤ m.length := by
  induction l generalizing m with
  | nil => exact Nat.zero_le _
  | cons x r ih =>
    have h2 := List.nodup_cons.mp h
    have xm := s x List.mem_cons_self
    have := ih (m := m.erase x) h2.2 fun a ha => by
      refine (List.mem_erase_of_ne fun e => ?_).mpr (s a (List.mem_cons_of_mem _ ha))
      exact h2.1 (e ▸ ha)
    rw [List.length_erase_of_mem xm] at this
    have := List.length_pos_of_mem xm
    rw [List.length_cons]
    omega
theorem ok_linked {f : Addr} {fd : FuncData} (D : Df K mg "linked" ["nodes", "pairs"] sLinked f fd) (T : Txt K mg) : FnOk P w K mg base CX0 1 f fd ["nodes", "pairs"] (spLinked K) := by
  refine D.fn.ok scLinked (fun vs H Q E h => ?_) (fun cdv A outer s H vs Q E hr h => ?_)
  · obtain ⟨N, P0, xs, ps, es, rfl, eN, nN, eP, pP, l100, q⟩ := h
    rfl
  · obtain ⟨N, P0, xs, ps, es, rfl, eN, nN, eP, pP, l100, q⟩ := h
    refine ⟨_, (pss_cons (Xd1.ps_setDc1 (i := 2) (own := [("node", 5)]) (g := gName 5) (tt := tYes) (tk := tVar 5) (ty := tLst tNil) (.dT []) (by simp) hr.units0 (by rfl) scLinked.nd rfl rfl (Xd1.sw_dc rfl rfl rfl (by decide +kernel)) (pi_list (pv 0)) (blkOk_by (own := [("node", 5)]) (N := ["nodes", "pairs", "links", "one", "other", "node"]) (sc := defScope sLinked) (by decide +kernel)) (fun _ _ _ _ _ => pg_name (i := 5) scLinked.nd rfl (.inl rfl)) (fun _ _ _ _ _ => pts_nil) (fun _ _ _ _ _ => pv 5) (fun _ _ _ _ _ => pe_lst pa_nil))
      (pss_cons (ps_for PassesOwn.never rfl (pi_list (pv 1)) (pg_tup (by rfl) (pgs_cons (pg_name (i := 3) scLinked.nd rfl (.inl rfl)) (pgs_cons (pg_name (i := 4) scLinked.nd rfl (.inl rfl)) pgs_nil))) (pss_cons (ps_expr (pe_bm PySem.F.plainAttrs_list PySem.F.slot_list_append PySem.F.type_list_append mt_append (pe_dget (hu_of hr) (pv 2) (pv 3) (fun _ _ => rfl)) (pa_cons (pv 4) pa_nil)))
      (pss_one (ps_expr (pe_bm PySem.F.plainAttrs_list PySem.F.slot_list_append PySem.F.type_list_append mt_append (pe_dget (hu_of hr) (pv 2) (pv 4) (fun _ _ => rfl)) (pa_cons (pv 3) pa_nil))))))
      (pss_one (ps_ret (pv 2))))), ?_⟩
    have nlen := nodes_len es
    refine ⟨_, rfl, N, rfl, ⟨_, eN⟩, fun D nD => ?_⟩
    refine Xdc.goes (g := gName 5) (tt := tYes) (B := fun N' σ H => tVar 5 σ H fun y H7 => tLst tNil σ H7 fun z H8 => ∃ H9, DPut H8 D y z H9 ∧ N' H9) (walk_list (K := K) (a := N) (xs := xs)) (fun i Hi => L2.Same H Hi ∧ ∃ (ks : List N2) (kvs : List (List Key × V)) (ad : N2 → Addr), Hi D = some (.dT kvs) ∧ kvs.map (·.1) = ks.map key ∧ ks.Nodup ∧ (∀ a, a ∈ ks ↔ a ∈ (nodes es).take i) ∧
      (∀ a ∈ ks, valV kvs (key a) = some (.ref (ad a)) ∧ Hi (ad a) = some (.lst []) ∧ H (ad a) = none) ∧ (∀ a ∈ ks, ∀ b ∈ ks, ad a = ad b → a = b)) ⟨same_upd nD, [], [], fun _ => 0, upd_same, rfl, List.nodup_nil, by simp, by simp, by simp⟩ (fun i Hi _ z => z.1.seq eN) ?_ ?_
    · rintro i x Hi H' il ⟨sm, ks, kvs, ad, eD, ek, nd, mem, all, inj⟩ ⟨rfl, hx⟩
      obtain ⟨n, en, t, rfl, et⟩ := nN.get hx
      have et := sm _ _ et
      refine ⟨rfl, ?_⟩
      unfold tYes
      refine iteT ⟨_, rfl, (by show 0 ≤ sizeLine; decide), fun L nL => ?_⟩
      have sL := same_upd nL (o := .lst [])
      have eL : (L2.upd H' L (.lst [])) L = some (.lst []) := upd_same
      have eD2 := sL _ _ eD
      have et2 := sL _ _ et
      have DL : D ≠ L := ne_of_none eD nL
      have HL : H L = none := by
        cases e : H L with
        | none => rfl
        | some o => rw [sm _ _ e] at nL; cases nL
      have lk : kvs.length ≤ 200 := by
        have h1 := congrArg List.length ek
        rw [List.length_map, List.length_map] at h1
        have h2 := nd_len nd (m := nodes es) fun a ha => List.mem_of_mem_take ((mem a).mp ha)
        omega
      have il2 := (List.getElem?_eq_some_iff.mp en).1
      refine ⟨_, DPut.t eD2 (show (L2.upd H' L (.lst [])) t = some (.tup ((key n).map kV)) from et2) (Nat.lt_of_le_of_lt lk (by decide)), fun b o e => ?_, ins ks n, putK kvs (key n) (.ref L), fun a => if a = n then L else ad a, upd_same, keys_put ek, ins_nd nd, fun a => ?_, fun a ha => ?_, fun a ha b hb e => ?_⟩
      · rw [upd_ne (ne_of_none e nD)]
        exact sL _ _ (sm _ _ e)
      · rw [mem_ins, mem, List.take_add_one, en, List.mem_append]
        simp
      · rw [valV_put]
        by_cases c : a = n
        · subst c
          dsimp only
          rw [if_pos rfl, if_pos rfl]
          refine ⟨rfl, ?_, HL⟩
          rw [upd_ne (Ne.symm DL)]
          exact eL
        · dsimp only
          rw [if_neg (fun z => c (key_inj z)), if_neg c]
          obtain ⟨a1, a2, a3⟩ := all a ((mem_ins.mp ha).resolve_right c)
          refine ⟨a1, ?_, a3⟩
          rw [upd_ne (ne_of a2 eD (by intro z; cases z))]
          exact sL _ _ a2
      · have old : ∀ c, c ∈ ins ks n → c ≠ n → ad c ≠ L := fun c hc ne z => by
          have := (all c ((mem_ins.mp hc).resolve_right ne)).2.1
          rw [z, nL] at this
          cases this
        dsimp only at e
        by_cases c1 : a = n
        · by_cases c2 : b = n
          · rw [c1, c2]
          · rw [if_pos c1, if_neg c2] at e
            exact absurd e.symm (old b hb c2)
        · by_cases c2 : b = n
          · rw [if_neg c1, if_pos c2] at e
            exact absurd e (old a ha c1)
          · rw [if_neg c1, if_neg c2] at e
            exact inj a ((mem_ins.mp ha).resolve_right c1) b ((mem_ins.mp hb).resolve_right c2) e
    rintro H1 ⟨sm, ks, kvs, ad, eD, ek, nd, mem, all, inj⟩
    rw [List.take_of_length_le (by rw [← nN.len]; exact Nat.le_refl _)] at mem
    have inks : ∀ p ∈ es, p.1 ∈ ks ∧ p.2 ∈ ks := fun p hp => ⟨(mem _).mpr (mem_nodes.mpr ⟨p.2, .inl hp⟩), (mem _).mpr (mem_nodes.mpr ⟨p.1, .inr hp⟩)⟩
    -- one name put into one list
    have ap : ∀ (Hx : Hp) (m : N2 → List N2) (a0 n : N2) (v : V), a0 ∈ ks → W37.NmV Hx v n → Hx D = some (.dT kvs) → (∀ a ∈ ks, ∃ ys, Hx (ad a) = some (.lst ys) ∧ W37.NmL Hx ys (m a)) →
        ∃ ys, Hx (ad a0) = some (.lst ys) ∧ ys.length = (m a0).length ∧ (L2.upd Hx (ad a0) (.lst (ys ++ [v]))) D = some (.dT kvs) ∧ W37.Tp Hx (L2.upd Hx (ad a0) (.lst (ys ++ [v]))) ∧
          ∀ a ∈ ks, ∃ zs, (L2.upd Hx (ad a0) (.lst (ys ++ [v]))) (ad a) = some (.lst zs) ∧ W37.NmL (L2.upd Hx (ad a0) (.lst (ys ++ [v]))) zs (m a ++ if a0 = a then [n] else []) := fun Hx m a0 n v ma nv eD al => by
      obtain ⟨ys, ey, ny⟩ := al a0 ma
      have up : W37.Tp Hx (L2.upd Hx (ad a0) (.lst (ys ++ [v]))) := W37.tp_upd fun us z => by rw [ey] at z; cases z
      refine ⟨ys, ey, ny.len, by rw [upd_ne (ne_of eD ey (by intro z; cases z))]; exact eD, up, fun a ha => ?_⟩
      by_cases c : a0 = a
      · subst c
        refine ⟨_, upd_same, ?_⟩
        rw [if_pos rfl]
        exact (ny.tp up).snoc (nv.tp up)
      · obtain ⟨zs, ez, nz⟩ := al a ha
        refine ⟨zs, ?_, ?_⟩
        · rw [upd_ne (fun z => c (inj a ha a0 ma z).symm)]
          exact ez
        · rw [if_neg c, List.append_nil]
          exact nz.tp up
    have nbl : ∀ (fs : List Pair) (a : N2), (nb fs a).length ≤ 2 * fs.length := fun fs a => by
      unfold nb
      rw [List.length_flatMap]
      induction fs with
      | nil => simp
      | cons p r ih =>
        rw [List.map_cons, List.sum_cons, List.length_cons, List.length_append]
        have h1 : (if p.1 = a then [p.2] else []).length ≤ 1 := by split <;> simp
        have h2 : (if p.2 = a then [p.1] else []).length ≤ 1 := by split <;> simp
        omega
    refine ⟨_, rfl, P0, rfl, ⟨_, sm.seq eP⟩, for_list (K := K) (a := P0) (xs := ps) (fun i σ Hx => ∃ c3 c4 : Option V, σ = [some (.ref N), some (.ref P0), some (.ref D), c3, c4, none] ∧ L2.Same H Hx ∧ Hx D = some (.dT kvs) ∧ ∀ a ∈ ks, ∃ ys, Hx (ad a) = some (.lst ys) ∧ W37.NmL Hx ys (nb (es.take i) a)) ⟨none, none, rfl, sm, eD, fun a ha => ⟨[], (all a ha).2.1, .nil⟩⟩ (fun i σ Hi _ z => by obtain ⟨_, _, _, z, _⟩ := z; exact z.seq eP) ?_ ?_⟩
    · rintro i x σ Hx hx ⟨c3, c4, rfl, sx, eDx, al⟩
      obtain ⟨p, t, va, vb, ep, rfl, et, ⟨ta, rfl, eta⟩, ⟨tb, rfl, etb⟩⟩ := pP.get hx
      have il := (List.getElem?_eq_some_iff.mp ep).1
      obtain ⟨m1, m2⟩ := inks p (List.mem_of_getElem? ep)
      have na : W37.NmV Hx (.ref ta) p.1 := ⟨ta, rfl, sx _ _ eta⟩
      have nb' : W37.NmV Hx (.ref tb) p.2 := ⟨tb, rfl, sx _ _ etb⟩
      refine ⟨t, _, rfl, SqT.of (sx _ _ et), rfl, _, _, rfl, _, _, rfl, rfl, ?_⟩
      have tl : (es.take i).length ≤ 100 := by rw [List.length_take]; omega
      obtain ⟨ys, ey, ly, eD1, up1, al1⟩ := ap Hx (nb (es.take i)) p.1 p.2 (.ref tb) m1 nb' eDx al
      have g1 := DGet.t (b := ta) (k := key p.1) eDx (sx _ _ eta)
      rw [(all p.1 m1).1] at g1
      have free : ∀ a ∈ ks, ∀ (Hy : Hp) (o : HO), L2.Same H Hy → L2.Same H (L2.upd Hy (ad a) o) := fun a ha Hy o s b u e => by
        rw [upd_ne (ne_of_none e (all a ha).2.2)]
        exact s b u e
      have s1 := free p.1 m1 Hx (.lst (ys ++ [.ref tb])) sx
      have z1 : ys.length < sizeLine := by
        rw [ly]
        exact Nat.lt_of_le_of_lt (show _ ≤ 200 by have := nbl (es.take i) p.1; omega) (by decide)
      refine ⟨_, rfl, _, rfl, D, .ref (ad p.1), rfl, g1, .inl ⟨rfl, _, SqL.of ey⟩, _, rfl, ad p.1, ys, _, rfl, rfl, ey, z1, ?_⟩
      obtain ⟨zs, ez, lz, eD2, up2, al2⟩ := ap _ (fun a => nb (es.take i) a ++ if p.1 = a then [p.2] else []) p.2 p.1 (.ref ta) m2 (na.tp up1) eD1 al1
      have g2 := DGet.t (b := tb) (k := key p.2) eD1 (up1 _ _ (sx _ _ etb))
      rw [(all p.2 m2).1] at g2
      have z2 : zs.length < sizeLine := by
        rw [lz, List.length_append]
        have h2 : (if p.1 = p.2 then [p.2] else []).length ≤ 1 := by split <;> simp
        exact Nat.lt_of_le_of_lt (show _ ≤ 300 by have := nbl (es.take i) p.2; omega) (by decide)
      refine ⟨_, rfl, _, rfl, D, .ref (ad p.2), rfl, g2, .inl ⟨rfl, _, SqL.of ez⟩, _, rfl, ad p.2, zs, _, rfl, rfl, ez, z2, _, _, rfl, free p.2 m2 _ _ s1, eD2, fun a ha => ?_⟩
      obtain ⟨ws, ew, nw⟩ := al2 a ha
      refine ⟨ws, ew, ?_⟩
      rw [List.take_add_one, ep]
      show W37.NmL _ ws (nb (es.take i ++ [p]) a)
      rw [nb_snoc, ← List.append_assoc]
      exact nw
    · rintro σ He ⟨c3, c4, rfl, se, eDe, al⟩
      rw [List.take_of_length_le (by rw [← pP.len]; exact Nat.le_refl _)] at al
      refine ⟨_, rfl, q D ks kvs He se nd mem eDe ⟨kvs, .inl eDe, ek, fun a ha => ?_⟩⟩
      obtain ⟨ys, ey, ny⟩ := al a ha
      exact ⟨ad a, ys, (all a ha).1, ey, ny, (all a ha).2.2⟩
end
end K16
set_option Elab.async false
set_option linter.all false
set_option maxRecDepth 100000
set_option maxHeartbeats 4000000
set_option pp.maxSteps 400
set_option pp.deepTerms false
namespace K16
open PySem PySem.Spec PyProof.Rows L2
open Xk Az Xnp
section
variable {P : Program} {w : World} {K : PySem.W.Frag} {mg : Str → Option Value} {base : Heap}
theorem rch_in {es : List Pair} {a b : N2} (h : Rch es a b) : b = a ∨ b ∈ nodes es := by
  cases h with
  | refl => exact .inl rfl
  | step _ j => exact .inr (mem_nodes.mpr ⟨_, j.symm⟩)
/-- a way of so many steps -/
inductive Wk (es : List Pair) (a : N2) : Nat → N2 → Prop
  | zero : Wk es a 0 a
  | step {n : Nat} {b c : N2} : Wk es a n b → Adj es b c → Wk es a (n + 1) c
/-- how many steps it is at least -/
def Far (es : List Pair) (a b : N2) (n : Nat) : Prop := Wk es a n b ∧ ∀ m, m < n → ¬ Wk es a m b
theorem Far.uniq {es : List Pair} {a b : N2} {n m : Nat} (h : Far es a b n) (k : Far es a b m) : n = m := by
  rcases Nat.lt_trichotomy n m with c | c | c
  · exact absurd h.1 (k.2 n c)
  · exact c
  · exact absurd k.1 (h.2 m c)
theorem Wk.rch {es : List Pair} {a b : N2} {n : Nat} (h : Wk es a n b) : Rch es a b := by
  induction h with
  | zero => exact .refl _
  | step _ j ih => exact .step ih j
theorem rch_wk {es : List Pair} {a b : N2} (h : Rch es a b) : ∃ n, Wk es a n b := by
  induction h with
  | refl => exact ⟨0, .zero⟩
  | step _ j ih => exact ih.imp' (· + 1) fun n w => .step w j
theorem Wk.far {es : List Pair} {a b : N2} : ∀ {n : Nat}, Wk es a n b → ∃ m, m ≤ n ∧ Far es a b m := fun {n} => by
  induction n using Nat.strongRecOn with
  | ind n ih =>
    intro w
    by_cases c : ∃ m, m < n ∧ Wk es a m b
    · obtain ⟨m, lt, wm⟩ := c
      obtain ⟨k, le, f⟩ := ih m lt wm
      exact ⟨k, by omega, f⟩
    · exact ⟨n, Nat.le_refl _, w, fun m lt wm => c ⟨m, lt, wm⟩⟩
theorem far_zero (es : List Pair) (a : N2) : Far es a a 0 := ⟨.zero, fun m h => absurd h (Nat.not_lt_zero _)⟩
/-- one step back is nearer by one -/
theorem Far.back {es : List Pair} {a b : N2} {n : Nat} (h : Far es a b (n + 1)) : ∃ c, Adj es c b ∧ Far es a c n := by
  obtain ⟨w, least⟩ := h
  cases w with
  | @step _ c _ w j => exact ⟨c, j, w, fun m lt wm => least (m + 1) (by omega) (.step wm j)⟩
/-- a dict whose keys are names -/
structure Kys (H : Hp) (t : Addr) (es : List Pair) (a : N2) (rs : List N2) : Prop where
  ex : ∃ kvs : List (List Key × V), H t = some (.dT kvs) ∧ kvs.map (·.1) = rs.map key ∧ ∀ b ∈ rs, ∃ n : Nat, valV kvs (key b) = some (.int n) ∧ Far es a b n
/-- while one row of names is looked through -/
structure Mid (k : Nat) (H : Hp) (S R : Addr) (es : List Pair) (a : N2) (rs : List N2) (Hy : Hp) (rs' ms : List N2) (kvs : List (List Key × V)) (zs : List V) : Prop where
  sm : L2.Same H Hy
  eS : Hy S = some (.dT kvs)
  ek : kvs.map (·.1) = rs'.map key
  vi : ∀ b ∈ rs', ∃ n : Nat, valV kvs (key b) = some (.int n) ∧ Far es a b n
  le : ∀ b ∈ rs', ∃ n, n ≤ k + 1 ∧ Wk es a n b
  ly : ∀ b ∈ ms, Far es a b (k + 1)
  nd : rs'.Nodup
  rr : ∀ b ∈ rs', Rch es a b
  eR : Hy R = some (.lst zs)
  nl : W37.NmL Hy zs ms
  mem : ∀ b, b ∈ rs' ↔ b ∈ rs ∨ b ∈ ms
  len : rs'.length = rs.length + ms.length
def spSteps : Sp := fun vs H Q _ => ∃ (H0 : Hp) (d : Addr) (v : V) (es : List Pair) (ks : List N2) (a : N2), vs = [.ref d, v] ∧ Lnk H0 H d ks es ∧ (∀ x, x ∈ ks ↔ x ∈ nodes es) ∧ es.length ≤ 100 ∧ W37.NmV H v a ∧
  ∀ (t : Addr) (rs : List N2) H', L2.Same H H' → Kys H' t es a rs → rs.Nodup → (∀ b, b ∈ rs ↔ Rch es a b) → Q (.ref t) H'
theorem ok_steps {f : Addr} {fd : FuncData} (D : Df K mg "steps_from" ["links", "start"] sStepsFrom f fd) (T : Txt K mg) : FnOk P w K mg base CX0 1 f fd ["links", "start"] spSteps := by
  refine D.fn.ok scStepsFrom (fun vs H Q E h => ?_) (fun cdv A outer s H vs Q E hr h => ?_)
  · obtain ⟨H0, d, v, es, ks, a, rfl, lk, mem, l100, nv, q⟩ := h
    rfl
  · obtain ⟨H0, d, v, es, ks, a, rfl, lk, mem, l100, nv, q⟩ := h
    refine ⟨_, (pss_cons (ps_set (i := 2) scStepsFrom.nd rfl (.inl rfl) (Xd1.pe_disp1 (.dT []) (.inr rfl) hr.units0 (pv 1) pe_int))
      (pss_cons (ps_set (i := 3) scStepsFrom.nd rfl (.inl rfl) (pe_lst (pa_cons (pv 1) pa_nil)))
      (pss_cons (ps_while PassesOwn.never (pt_cmpR op_gt (pe_callB call_len_seq (by rfl) T.len PySem.boot_len (pa_cons (pv 3) pa_nil)) pe_int (nomark _)) (pss_cons (ps_set (i := 4) scStepsFrom.nd rfl (.inl rfl) (pe_lst pa_nil))
      (pss_cons (ps_for PassesOwn.never rfl (pi_list (pv 3)) (pg_name (i := 5) scStepsFrom.nd rfl (.inl rfl)) (pss_one (ps_for PassesOwn.never rfl (pi_list (pe_dget2 (hu_of hr) (pv 0) (pv 5) (pe_lst pa_nil) ⟨rfl, rfl, rfl, rfl⟩)) (pg_name (i := 6) scStepsFrom.nd rfl (.inl rfl)) (pss_one (ps_if (pt_cmp (pc_dnotin (hu_of hr) (pv 6) (pv 2))) (pss_cons (ps_dput (hu_of hr) (pv 2) (pv 6) (pe_op op_add (pe_dget (hu_of hr) (pv 2) (pv 5) (fun _ _ => rfl)) pe_int) rfl)
      (pss_one (ps_expr (pe_bm PySem.F.plainAttrs_list PySem.F.slot_list_append PySem.F.type_list_append mt_append (pv 4) (pa_cons (pv 6) pa_nil))))) pss_nil)))))
      (pss_one (ps_set (i := 3) scStepsFrom.nd rfl (.inl rfl) (pv 4))))))
      (pss_one (ps_ret (pv 2)))))), ?_⟩
    obtain ⟨ta, rfl, eta⟩ := nv
    obtain ⟨lkvs, eD, eDk, lal⟩ := lk.ex
    have nlen := nodes_len es
    have nbl : ∀ b, (nb es b).length ≤ 200 := fun b => by
      have : ∀ fs : List Pair, (nb fs b).length ≤ 2 * fs.length := fun fs => by
        unfold nb
        rw [List.length_flatMap]
        induction fs with
        | nil => simp
        | cons p r ih =>
          rw [List.map_cons, List.sum_cons, List.length_cons, List.length_append]
          have h1 : (if p.1 = b then [p.2] else []).length ≤ 1 := by split <;> simp
          have h2 : (if p.2 = b then [p.1] else []).length ≤ 1 := by split <;> simp
          omega
      have := this es
      omega
    -- what is reached, and how much there can be
    have few : ∀ rs : List N2, rs.Nodup → (∀ b ∈ rs, Rch es a b) → rs.length ≤ 201 := fun rs nd rr => by
      have := nd_len nd (m := a :: nodes es) fun b hb => by
        rcases rch_in (rr b hb) with rfl | z
        · exact List.mem_cons_self
        · exact List.mem_cons_of_mem _ z
      rw [List.length_cons] at this
      omega
    refine fun S nS => ⟨_, rfl, _, DPut.t upd_same (show (L2.upd H S (.dT [])) ta = some (.tup ((key a).map kV)) from same_upd nS _ _ eta) (by decide), ?_⟩
    have sS : L2.Same H (L2.upd (L2.upd H S (.dT [])) S (.dT (putK [] (key a) (.int 0)))) := fun b o e => by
      rw [upd_ne (ne_of_none e nS)]
      exact same_upd nS _ _ e
    have eS : (L2.upd (L2.upd H S (.dT [])) S (.dT (putK [] (key a) (.int 0)))) S = some (.dT (putK [] (key a) (.int 0))) := upd_same
    generalize L2.upd (L2.upd H S (.dT [])) S (.dT (putK [] (key a) (.int 0))) = H1 at sS eS ⊢
    refine ⟨_, rfl, (by show 1 ≤ sizeLine; decide), fun L0 nL0 => ?_⟩
    have sL := same_upd nL0 (o := .lst [.ref ta])
    have eL : (L2.upd H1 L0 (.lst [.ref ta])) L0 = some (.lst [.ref ta]) := upd_same
    have eS2 := sL _ _ eS
    have s02 := sS.trans sL
    generalize L2.upd H1 L0 (.lst [.ref ta]) = H2 at eL eS2 s02 ⊢
    clear sS eS sL
    refine ⟨fun m σ Hx => ∃ (c4 c5 c6 : Option V) (kk : Nat) (Lr : Addr) (rs ls : List N2) (kvs : List (List Key × V)) (xs : List V), σ = [some (.ref d), some (.ref ta), some (.ref S), some (.ref Lr), c4, c5, c6] ∧ m = 2 * (201 - rs.length) + (if ls = [] then 0 else 1) ∧ L2.Same H Hx ∧
      Hx S = some (.dT kvs) ∧ kvs.map (·.1) = rs.map key ∧ (∀ b ∈ rs, ∃ n : Nat, valV kvs (key b) = some (.int n) ∧ Far es a b n) ∧ rs.Nodup ∧ a ∈ rs ∧ (∀ b ∈ rs, Rch es a b) ∧ Hx Lr = some (.lst xs) ∧ W37.NmL Hx xs ls ∧ (∀ b ∈ ls, b ∈ rs) ∧ (∀ b, b ∈ rs ↔ ∃ n, n ≤ kk ∧ Wk es a n b) ∧ (∀ b ∈ ls, Far es a b kk) ∧ (∀ b, Far es a b kk → b ∈ ls),
      ⟨_, none, none, none, 0, L0, [a], [a], _, _, rfl, rfl, s02, eS2, rfl, fun b hb => ⟨0, by rw [List.mem_singleton.mp hb]; exact valV_pos rfl, by rw [List.mem_singleton.mp hb]; exact far_zero es a⟩, by simp, by simp, fun b hb => by rw [List.mem_singleton.mp hb]; exact .refl a, eL, .cons ⟨ta, rfl, s02 _ _ eta⟩ .nil, fun b hb => hb, fun b => ⟨fun hb => ⟨0, Nat.le_refl _, by rw [List.mem_singleton.mp hb]; exact .zero⟩, fun ⟨n, hn, w⟩ => by
        obtain rfl : n = 0 := by omega
        cases w
        exact List.mem_singleton.mpr rfl⟩, fun b hb => by rw [List.mem_singleton.mp hb]; exact far_zero es a, fun b f => by
        obtain ⟨w, _⟩ := f
        cases w
        exact List.mem_singleton.mpr rfl⟩, ?_⟩
    rintro m σ Hx ⟨c4, c5, c6, kk, Lr, rs, ls, kvs, xs, rfl, rfl, sx, eSx, ek, vi, nd, ha, rr, eLx, nl, sub, upto, lvl, lvl2⟩
    have xl := nl.len
    have lrs := few rs nd rr
    refine ⟨_, rfl, Lr, xs, rfl, .inl (SqL.of eLx), _, 0, rfl, rfl, _, rfl, ?_⟩
    by_cases c0 : ls = []
    · subst c0
      have x0 : xs = [] := List.eq_nil_of_length_eq_zero (by simpa using xl)
      subst x0
      refine iteF ⟨_, rfl, q S rs Hx sx ⟨kvs, eSx, ek, vi⟩ nd fun b => ⟨rr b, fun r => ?_⟩⟩
      refine r.shut (S := fun b => b ∈ rs) ha fun x y hx j => ?_
      obtain ⟨n, hn, w⟩ := (upto x).mp hx
      obtain ⟨m2, hm, f⟩ := w.far
      have : m2 ≠ kk := fun z => by
        have := lvl2 x (z ▸ f)
        simp at this
      exact (upto y).mpr ⟨m2 + 1, by omega, .step f.1 j⟩
    have pos : 0 < xs.length := by
      rw [xl]
      exact List.length_pos_iff.mpr c0
    rw [decide_eq_true (show ((xs.length : Nat) : Int) > 0 by omega)]
    refine iteT ?_
    refine ⟨fun σ' Hy => ∃ (c4 c5 c6 : Option V) (R : Addr) (rs' ms : List N2) (kvs' : List (List Key × V)) (zs : List V), σ' = [some (.ref d), some (.ref ta), some (.ref S), some (.ref R), c4, c5, c6] ∧ Mid kk H S R es a rs Hy rs' ms kvs' zs ∧ ∀ b ∈ ls, ∀ c, Adj es b c → c ∈ rs', fun σ' Hy h => ?_, ?_⟩
    · obtain ⟨c4, c5, c6, R, rs', ms, kvs', zs, rfl, M, cl⟩ := h
      have l' := few rs' M.nd M.rr
      have len := M.len
      refine ⟨_, ?_, c4, c5, c6, kk + 1, R, rs', ms, kvs', zs, rfl, rfl, M.sm, M.eS, M.ek, M.vi, M.nd, (M.mem a).mpr (.inl ha), M.rr, M.eR, M.nl, fun b hb => (M.mem b).mpr (.inr hb), fun b => ⟨M.le b, fun ⟨n, hn, w⟩ => ?_⟩, M.ly, fun b f => ?_⟩
      · rw [if_neg c0]
        by_cases m0 : ms = []
        · rw [if_pos m0]
          omega
        · rw [if_neg m0]
          have := List.length_pos_iff.mpr m0
          omega
      · have reach : ∀ c, Far es a c (kk + 1) → c ∈ rs' := fun c f => by
          obtain ⟨x, jx, fx⟩ := f.back
          exact cl x (lvl2 x fx) c jx
        obtain ⟨m2, hm, f⟩ := w.far
        by_cases z : m2 ≤ kk
        · exact (M.mem b).mpr (.inl ((upto b).mpr ⟨m2, z, f.1⟩))
        · have : m2 = kk + 1 := by omega
          exact reach b (this ▸ f)
      · obtain ⟨x, jx, fx⟩ := f.back
        rcases (M.mem b).mp (cl x (lvl2 x fx) b jx) with z | z
        · obtain ⟨n, hn, w⟩ := (upto b).mp z
          exact absurd w (f.2 n (by omega))
        · exact z
    refine ⟨(by show 0 ≤ sizeLine; decide), fun R nR => ?_⟩
    have sR := same_upd nR (o := .lst [])
    have eR : (L2.upd Hx R (.lst [])) R = some (.lst []) := upd_same
    have eS3 := sR _ _ eSx
    have eL3 := sR _ _ eLx
    have sx3 := sx.trans sR
    have nl3 := nl.tp (W37.tp_same sR)
    have HR : H R = none := by
      cases e : H R with
      | none => rfl
      | some o => rw [sx _ _ e] at nR; cases nR
    have LR : Lr ≠ R := ne_of_none eLx nR
    have SR : S ≠ R := ne_of_none eSx nR
    have LS : Lr ≠ S := ne_of eLx eSx (by intro z; cases z)
    generalize L2.upd Hx R (.lst []) = H3 at eR eS3 eL3 sx3 nl3 ⊢
    have M0 : Mid kk H S R es a rs H3 rs [] kvs [] := ⟨sx3, eS3, ek, vi, fun b hb => ((upto b).mp hb).imp fun n w => ⟨by omega, w.2⟩, by simp, nd, rr, eR, .nil, fun b => by simp, by simp⟩
    refine ⟨_, rfl, Lr, rfl, ⟨_, SqL.of eL3⟩, for_list (K := K) (a := Lr) (xs := xs) (fun i σ' Hy => ∃ (c5 c6 : Option V) (rs' ms : List N2) (kvs' : List (List Key × V)) (zs : List V), σ' = [some (.ref d), some (.ref ta), some (.ref S), some (.ref Lr), some (.ref R), c5, c6] ∧ Mid kk H S R es a rs Hy rs' ms kvs' zs ∧ Hy Lr = some (.lst xs) ∧ W37.Tp H3 Hy ∧ ∀ b ∈ ls.take i, ∀ c, Adj es b c → c ∈ rs') ⟨c5, c6, rs, [], kvs, [], rfl, M0, eL3, fun _ _ e => e, fun b hb => by simp at hb⟩ (fun i σ Hi _ z => by obtain ⟨_, _, _, _, _, _, _, _, z, _⟩ := z; exact SqL.of z) ?_ ?_⟩
    · rintro i x σ' Hy hx ⟨c5, c6, rs', ms, kvs', zs, rfl, M, eLy, tpy, cl⟩
      obtain ⟨b, eb, tb, rfl, etb⟩ := nl3.get hx
      have etb := tpy _ _ etb
      have brs : b ∈ rs := sub b (List.mem_of_getElem? eb)
      have eDy := rd_same M.sm eD
      refine ⟨_, rfl, d, rfl, .inr ⟨lkvs, eDy⟩, _, rfl, (by show 0 ≤ sizeLine; decide), fun Z nZ => ?_⟩
      have sZ := same_upd nZ (o := .lst [])
      have eZ : (L2.upd Hy Z (.lst [])) Z = some (.lst []) := upd_same
      have eDz := rd_same sZ eDy
      have etz := sZ _ _ etb
      have eLz := sZ _ _ eLy
      have ZS : Z ≠ S := fun e => by rw [e, M.eS] at nZ; cases nZ
      have ZR : Z ≠ R := fun e => by rw [e, M.eR] at nZ; cases nZ
      have tz := tpy.trans (W37.tp_same sZ)
      have M1 : Mid kk H S R es a rs (L2.upd Hy Z (.lst [])) rs' ms kvs' zs := ⟨M.sm.trans sZ, sZ _ _ M.eS, M.ek, M.vi, M.le, M.ly, M.nd, M.rr, sZ _ _ M.eR, M.nl.tp (W37.tp_same sZ), M.mem, M.len⟩
      obtain ⟨Lb, ys, ev, eLb, nlb, LbS, LbR⟩ : ∃ (Lb : Addr) (ys : List V), (valV lkvs (key b)).getD (.ref Z) = .ref Lb ∧ (L2.upd Hy Z (.lst [])) Lb = some (.lst ys) ∧ W37.NmL (L2.upd Hy Z (.lst [])) ys (nb es b) ∧ Lb ≠ S ∧ Lb ≠ R := by
        by_cases bk : b ∈ ks
        · obtain ⟨Lb, ys, e1, e2, e3, _⟩ := lal b bk
          have e4 := sZ _ _ (M.sm _ _ e2)
          refine ⟨Lb, ys, by rw [e1]; rfl, e4, e3.tp ((W37.tp_same M.sm).trans (W37.tp_same sZ)), fun e => ?_, fun e => ?_⟩
          · rw [e, nS] at e2; cases e2
          · rw [e, HR] at e2; cases e2
        · have e1 : valV lkvs (key b) = none := by
            cases e : valV lkvs (key b) with
            | none => rfl
            | some v =>
              have := valV_in e
              rw [eDk] at this
              obtain ⟨b2, hb2, e2⟩ := List.mem_map.mp this
              exact absurd (key_inj e2 ▸ hb2) bk
          have e2 : nb es b = [] := by
            cases e : nb es b with
            | nil => rfl
            | cons c r => exact absurd ((mem b).mpr (mem_nodes.mpr ⟨c, mem_nb.mp (by rw [e]; exact List.mem_cons_self)⟩)) bk
          exact ⟨Z, [], by rw [e1]; rfl, eZ, by rw [e2]; exact .nil, ZS, ZR⟩
      refine ⟨_, rd_get (b := tb) (k := key b) eDz etz, ?_⟩
      rw [ev]
      generalize L2.upd Hy Z (.lst []) = H4 at M1 eLb nlb eLz etz tz ⊢
      clear M eDy eLy tpy etb sZ eZ eDz ev nZ ZS ZR
      have LrR : Lr ≠ R := LR
      refine ⟨Lb, rfl, ⟨_, SqL.of eLb⟩, for_list (K := K) (a := Lb) (xs := ys) (fun j σ' Hq => ∃ (c6 : Option V) (rs2 ms2 : List N2) (kvs2 : List (List Key × V)) (zs2 : List V), σ' = [some (.ref d), some (.ref ta), some (.ref S), some (.ref Lr), some (.ref R), some (.ref tb), c6] ∧ Mid kk H S R es a rs Hq rs2 ms2 kvs2 zs2 ∧ Hq Lr = some (.lst xs) ∧ W37.Tp H4 Hq ∧ Hq Lb = some (.lst ys) ∧ (∀ c ∈ (nb es b).take j, c ∈ rs2) ∧ ∀ c ∈ rs', c ∈ rs2) ⟨c6, rs', ms, kvs', zs, rfl, M1, eLz, fun _ _ e => e, eLb, fun c hc => by simp at hc, fun c hc => hc⟩ (fun i σ Hi _ z => by obtain ⟨_, _, _, _, _, _, _, _, _, z, _⟩ := z; exact SqL.of z) ?_ ?_⟩
      · rintro j y σ'' Hq hy ⟨c6', rs2, ms2, kvs2, zs2, rfl, M2, eLq, tq, eLbq, cl2, up⟩
        obtain ⟨c, ec, tc, rfl, etc⟩ := nlb.get hy
        have etc := tq _ _ etc
        have etbq := tq _ _ etz
        have lr2 := few rs2 M2.nd M2.rr
        have adj : Adj es b c := mem_nb.mp (List.mem_of_getElem? ec)
        have tk : (nb es b).take (j + 1) = (nb es b).take j ++ [c] := by rw [List.take_add_one, ec]; rfl
        refine ⟨_, rfl, _, rfl, S, _, rfl, DGet.t (b := tc) (k := key c) M2.eS etc, _, rfl, ?_⟩
        have isn : (valV kvs2 (key c)).isSome = decide (c ∈ rs2) := by
          by_cases m : c ∈ rs2
          · obtain ⟨n, e, _⟩ := M2.vi c m
            rw [e, decide_eq_true m]
            rfl
          · rw [decide_eq_false m]
            cases e : valV kvs2 (key c) with
            | none => rfl
            | some v =>
              have := valV_in e
              rw [M2.ek] at this
              obtain ⟨b2, hb2, e2⟩ := List.mem_map.mp this
              exact absurd (key_inj e2 ▸ hb2) m
        rw [isn]
        by_cases m : c ∈ rs2
        · rw [decide_eq_true m]
          refine iteF ⟨_, rs2, ms2, kvs2, zs2, rfl, M2, eLq, tq, eLbq, fun x hx => ?_, up⟩
          rw [tk] at hx
          rcases List.mem_append.mp hx with z | z
          · exact cl2 x z
          · rw [List.mem_singleton.mp z]; exact m
        · rw [decide_eq_false m]
          obtain ⟨n, en, fb⟩ := M2.vi b ((M2.mem b).mpr (.inl brs))
          have nk : n = kk := fb.uniq (lvl b (List.mem_of_getElem? eb))
          have fc : Far es a c (kk + 1) := by
            refine ⟨.step (nk ▸ fb.1) adj, fun m2 lt w => m ?_⟩
            exact (M2.mem c).mpr (.inl ((upto c).mpr ⟨m2, by omega, w⟩))
          have g := DGet.t (b := tb) (k := key b) M2.eS etbq
          rw [en] at g
          have kl : kvs2.length ≤ 201 := by
            have h1 := congrArg List.length M2.ek
            rw [List.length_map, List.length_map] at h1
            omega
          refine iteT ⟨_, rfl, _, rfl, S, .int (n : Int), rfl, g, (n : Int), 1, rfl, rfl, _, rfl, _, rfl, S, _, rfl, DPut.t (b := tc) (k := key c) M2.eS etc (Nat.lt_of_le_of_lt kl (by decide)), ?_⟩
          have RS : R ≠ S := Ne.symm SR
          have eRp : (L2.upd Hq S (.dT (putK kvs2 (key c) (.int ((n : Int) + 1))))) R = some (.lst zs2) := by rw [upd_ne RS]; exact M2.eR
          have zl : zs2.length < sizeLine := by
            have h1 := M2.nl.len
            have h2 := M2.len
            exact Nat.lt_of_le_of_lt (show _ ≤ 300 by omega) (by decide)
          refine ⟨_, rfl, .inl ⟨rfl, _, SqL.of eRp⟩, _, rfl, R, zs2, _, rfl, rfl, eRp, zl, ?_⟩
          have tp1 : W37.Tp Hq (L2.upd Hq S (.dT (putK kvs2 (key c) (.int ((n : Int) + 1))))) := W37.tp_upd fun us z => by rw [M2.eS] at z; cases z
          have tp2 := tp1.trans (W37.tp_upd (x := .lst (zs2 ++ [.ref tc])) fun us z => by rw [eRp] at z; cases z)
          refine ⟨_, rs2 ++ [c], ms2 ++ [c], putK kvs2 (key c) (.int ((n : Int) + 1)), zs2 ++ [.ref tc], rfl, ⟨fun b2 o e => ?_, ?_, ?_, fun x hx => ?_, fun x hx => ?_, fun x hx => ?_, ?_, fun x hx => ?_, upd_same, ?_, fun x => ?_, ?_⟩, ?_, tq.trans tp2, ?_, fun x hx => ?_, fun x hx => List.mem_append_left _ (up x hx)⟩
          · rw [upd_ne (ne_of_none e HR), upd_ne (ne_of_none e nS)]
            exact M2.sm _ _ e
          · rw [upd_ne SR]
            exact upd_same
          · have := keys_put (v := .int (n + 1)) (a := c) M2.ek
            unfold ins at this
            rw [if_neg m] at this
            exact this
          · rw [valV_put]
            by_cases c1 : x = c
            · rw [if_pos (by rw [c1])]
              exact ⟨n + 1, rfl, by rw [c1, nk]; exact fc⟩
            · rw [if_neg fun z => c1 (key_inj z)]
              rcases List.mem_append.mp hx with z | z
              · exact M2.vi x z
              · exact absurd (List.mem_singleton.mp z) c1
          · rcases List.mem_append.mp hx with z | z
            · exact M2.le x z
            · rw [List.mem_singleton.mp z]
              exact ⟨kk + 1, Nat.le_refl _, fc.1⟩
          · rcases List.mem_append.mp hx with z | z
            · exact M2.ly x z
            · rw [List.mem_singleton.mp z]
              exact fc
          · have := ins_nd (a := c) M2.nd
            unfold ins at this
            rw [if_neg m] at this
            exact this
          · rcases List.mem_append.mp hx with z | z
            · exact M2.rr x z
            · rw [List.mem_singleton.mp z]
              exact .step (M2.rr b ((M2.mem b).mpr (.inl brs))) adj
          · exact (M2.nl.tp tp2).snoc (W37.NmV.tp ⟨tc, rfl, etc⟩ tp2)
          · rw [List.mem_append, List.mem_append, M2.mem, or_assoc]
          · rw [List.length_append, List.length_append, M2.len]
            show _ + 1 = _ + (_ + 1)
            omega
          · rw [upd_ne LrR, upd_ne LS]
            exact eLq
          · rw [upd_ne LbR, upd_ne LbS]
            exact eLbq
          · rw [tk] at hx
            rcases List.mem_append.mp hx with z | z
            · exact List.mem_append_left _ (cl2 x z)
            · exact List.mem_append_right _ z
      · rintro σ'' Hq ⟨c6', rs2, ms2, kvs2, zs2, rfl, M2, eLq, tq, eLbq, cl2, up⟩
        rw [List.take_of_length_le (by rw [← nlb.len]; exact Nat.le_refl _)] at cl2
        refine ⟨_, _, rs2, ms2, kvs2, zs2, rfl, M2, eLq, tz.trans tq, fun x hx c j => ?_⟩
        rw [List.take_add_one, eb] at hx
        rcases List.mem_append.mp hx with z | z
        · exact up c (cl x z c j)
        · have z : x ∈ [b] := z
          rw [List.mem_singleton.mp z] at j
          exact cl2 c (mem_nb.mpr j)
    · rintro σ' Hy ⟨c5, c6, rs', ms, kvs', zs, rfl, M, eLy, tpy, cl⟩
      rw [List.take_of_length_le (by omega)] at cl
      exact ⟨_, rfl, _, _, _, R, rs', ms, kvs', zs, rfl, M, cl⟩
end
end K16
set_option Elab.async false
set_option linter.all false
set_option maxRecDepth 100000
set_option maxHeartbeats 4000000
set_option pp.maxSteps 400
set_option pp.deepTerms false
namespace K16
open PySem PySem.Spec PyProof.Rows L2
open Xk Az Xnp
section
variable {P : Program} {w : World} {K : PySem.W.Frag} {mg : Str → Option Value} {base : Heap}
theorem alike_nD (a b : N2) : PySem.W.alike (W37.nD a) (W37.nD b) = true := by
  simp [W37.nD, PySem.W.alike, PySem.W.alikeAll]
theorem dep_nD (a : N2) : (W37.nD a).depth ≤ 50 := by
  simp [W37.nD, PyData.depth, PyData.depthAll]
/-- rows of names -/
inductive GrL (H : Hp) : List V → List (List N2) → Prop
  | nil : GrL H [] []
  | cons {t : Addr} {ys : List V} {l : List N2} {vs : List V} {gs : List (List N2)} : H t = some (.tup ys) → W37.NmL H ys l → GrL H vs gs → GrL H (.ref t :: vs) (l :: gs)
theorem GrL.tp {H H' : Hp} (s : W37.Tp H H') : ∀ {vs : List V} {gs : List (List N2)}, GrL H vs gs → GrL H' vs gs
  | _, _, .nil => .nil
  | _, _, .cons h1 h2 r => .cons (s _ _ h1) (h2.tp s) (r.tp s)
theorem GrL.len {H : Hp} : ∀ {vs : List V} {gs : List (List N2)}, GrL H vs gs → vs.length = gs.length
  | _, _, .nil => rfl
  | _, _, .cons _ _ r => by rw [List.length_cons, List.length_cons, r.len]
theorem GrL.snoc {H : Hp} {t : Addr} {ys : List V} {l : List N2} (h1 : H t = some (.tup ys)) (h2 : W37.NmL H ys l) : ∀ {vs : List V} {gs : List (List N2)}, GrL H vs gs → GrL H (vs ++ [.ref t]) (gs ++ [l])
  | _, _, .nil => .cons h1 h2 .nil
  | _, _, .cons a b r => .cons a b (r.snoc h1 h2)
/-- the classes of all names, each once -/
structure Grp (es : List Pair) (gs : List (List N2)) : Prop where
  cls : ∀ l ∈ gs, ∃ a, a ∈ nodes es ∧ Cls es a l
  nd : gs.Nodup
  all : ∀ a ∈ nodes es, ∃ l ∈ gs, a ∈ l
theorem nml_of {H : Hp} : ∀ {bs : List Xsd.Kb} {l : List N2}, (∀ b ∈ bs, H b.2 = some (.tup (b.1.map kV))) → bs.map (·.1) = l.map key → W37.NmL H (bs.map fun b => V.ref b.2) l
  | [], [], _, _ => .nil
  | [], _ :: _, _, h => by simp at h
  | _ :: _, [], _, h => by simp at h
  | b :: bs, a :: l, h, e => by
    rw [List.map_cons, List.map_cons] at e
    injection e with e1 e2
    have h1 := h b List.mem_cons_self
    have e1 : b.1 = key a := e1
    rw [e1] at h1
    exact .cons ⟨b.2, rfl, h1⟩ (nml_of (fun c hc => h c (List.mem_cons_of_mem _ hc)) e2)
theorem keys_any {kvs : List (List Key × V)} {ks : List N2} {a : N2} (h : kvs.map (·.1) = ks.map key) : (valV kvs (key a)).isSome = decide (a ∈ ks) := by
  have e0 : (kvs.any fun kv => decide (kv.1 = key a)) = (kvs.map (·.1)).any fun k => decide (k = key a) := by rw [List.any_map]; rfl
  rw [← valV_any, e0, h, List.any_map, Bool.eq_iff_iff, List.any_eq_true, decide_eq_true_eq]
  constructor
  · rintro ⟨b, hb, e⟩
    rw [← key_inj (of_decide_eq_true e)]
    exact hb
  · exact fun m => ⟨a, m, decide_eq_true rfl⟩
abbrev Gt := V × List N2
abbrev gD (l : List N2) : PyData := .tuple (l.map W37.nD)
theorem GrL.split {H : Hp} : ∀ {vs : List V} {gs : List (List N2)}, GrL H vs gs → ∃ ts : List Gt, ts.map (·.1) = vs ∧ ts.map (·.2) = gs ∧ ∀ p ∈ ts, ∃ t ys, p.1 = .ref t ∧ H t = some (.tup ys) ∧ W37.NmL H ys p.2
  | _, _, .nil => ⟨[], rfl, rfl, fun p hp => by cases hp⟩
  | _, _, @GrL.cons _ t ys l _ _ h1 h2 r => by
    obtain ⟨ts, e1, e2, h⟩ := r.split
    refine ⟨(.ref t, l) :: ts, by rw [List.map_cons, e1], by rw [List.map_cons, e2], fun p hp => ?_⟩
    rcases List.mem_cons.mp hp with rfl | z
    · exact ⟨t, ys, rfl, h1, h2⟩
    · exact h p z
theorem grl_join {H : Hp} : ∀ {ts : List Gt}, (∀ p ∈ ts, ∃ t ys, p.1 = .ref t ∧ H t = some (.tup ys) ∧ W37.NmL H ys p.2) → GrL H (ts.map (·.1)) (ts.map (·.2))
  | [], _ => .nil
  | (v, l) :: ts, h => by
    obtain ⟨t, ys, e, h1, h2⟩ := h (v, l) List.mem_cons_self
    have e : v = .ref t := e
    subst e
    exact .cons h1 h2 (grl_join fun p hp => h p (List.mem_cons_of_mem _ hp))
theorem nml_dp {H : Hp} : ∀ {ys : List V} {l : List N2}, W37.NmL H ys l → DpAll K H ys (l.map W37.nD)
  | _, _, .nil => .nil
  | _, _, .cons ⟨t, e, h⟩ r => by
    subst e
    exact .cons (.tup (SqT.of h) (.cons (.str _) (.cons (.str _) .nil))) (nml_dp r)
theorem alike_all : ∀ l m : List N2, PySem.W.alikeAll (l.map W37.nD) (m.map W37.nD) = true
  | [], _ => by simp [PySem.W.alikeAll]
  | _ :: _, [] => by simp [PySem.W.alikeAll]
  | a :: l, b :: m => by
    rw [List.map_cons, List.map_cons]
    simp only [PySem.W.alikeAll, alike_nD, alike_all l m, Bool.and_self]
theorem dep_all : ∀ l : List N2, PyData.depthAll (l.map W37.nD) ≤ 3
  | [] => by simp [PyData.depthAll]
  | a :: l => by
    have := dep_all l
    rw [List.map_cons]
    simp only [PyData.depthAll, W37.nD, PyData.depth]
    omega
def spGroups : Sp := fun vs H Q _ => ∃ (H0 : Hp) (d : Addr) (es : List Pair) (ks : List N2) (lkvs : List (List Key × V)), vs = [.ref d] ∧ Lnk H0 H d ks es ∧ H d = some (.dT lkvs) ∧ ks.Nodup ∧ (∀ x, x ∈ ks ↔ x ∈ nodes es) ∧ es.length ≤ 100 ∧
  ∀ (t : Addr) (xs : List V) (gs : List (List N2)) H', L2.Same H H' → H' t = some (.tup xs) → GrL H' xs gs → Grp es gs → Q (.ref t) H'
theorem ok_groups {f : Addr} {fd : FuncData} (D : Df K mg "groups_in" ["links"] sGroupsIn f fd) (T : Txt K mg) (cSt : Ca P w K mg base 1 "steps_from" ["links", "start"] spSteps) : FnOk P w K mg base CX0 4 f fd ["links"] spGroups := by
  refine D.fn.ok scGroupsIn (fun vs H Q E h => ?_) (fun cdv A outer s H vs Q E hr h => ?_)
  · obtain ⟨H0, d, es, ks, lkvs, rfl, lk, eD, ndk, mem, l100, q⟩ := h
    rfl
  · obtain ⟨H0, d, es, ks, lkvs, rfl, lk, eD, ndk, mem, l100, q⟩ := h
    refine ⟨_, (pss_cons (ps_set (i := 1) scGroupsIn.nd rfl (.inl rfl) pe_dnewT)
      (pss_cons (ps_set (i := 2) scGroupsIn.nd rfl (.inl rfl) (pe_lst pa_nil))
      (pss_cons (ps_lock (ps_for PassesOwn.never rfl (pi_keys (pv 0)) (pg_name (i := 3) scGroupsIn.nd rfl (.inl rfl)) (pss_one (ps_if (pt_cmp (pc_dnotin (hu_of hr) (pv 3) (pv 1))) (pss_cons (ps_set (i := 4) scGroupsIn.nd rfl (.inl rfl) (pe_callTy call_tuple_of (by rfl) T.tuple (by decide +kernel) (pa_cons (pe_callB (Xsd.cr_sortK (k := 0) (by rfl) (hr.mono (by decide))) (by rfl) T.sorted (by decide +kernel) (pa_cons (pe_ca cSt hr (by decide) (by rfl) (pa_cons (pv 0) (pa_cons (pv 3) pa_nil))) pa_nil)) pa_nil)))
      (pss_cons (ps_expr (pe_bm PySem.F.plainAttrs_list PySem.F.slot_list_append PySem.F.type_list_append mt_append (pv 2) (pa_cons (pv 4) pa_nil)))
      (pss_one (ps_for PassesOwn.never rfl (pi_tup (pv 4)) (pg_name (i := 5) scGroupsIn.nd rfl (.inl rfl)) (pss_one (ps_dput (hu_of hr) (pv 1) (pv 5) pe_bl rfl)))))) pss_nil))))
      (pss_one (ps_ret (pe_callTy call_tuple_of (by rfl) T.tuple (by decide +kernel) (pa_cons (pe_callB (Xsd.cr_sortD (k := 0) (hr.mono (by decide))) (by rfl) T.sorted (by decide +kernel) (pa_cons (pv 2) pa_nil)) pa_nil))))))), ?_⟩
    obtain ⟨lkvs', rD, eDk, lal⟩ := lk.ex
    have e0 : lkvs' = lkvs := by
      rcases rD with z | ⟨o, z⟩
      · rw [eD] at z; cases z; rfl
      · rw [eD] at z; cases z
    subst e0
    refine fun S nS => ?_
    have sS := same_upd nS (o := .dT [])
    have eS : (L2.upd H S (.dT [])) S = some (.dT []) := upd_same
    have eD1 := sS _ _ eD
    generalize L2.upd H S (.dT []) = H1 at sS eS eD1 ⊢
    refine ⟨(by show 0 ≤ sizeLine; decide), fun G nG => ?_⟩
    have sG := same_upd nG (o := .lst [])
    have eG : (L2.upd H1 G (.lst [])) G = some (.lst []) := upd_same
    have eS2 := sG _ _ eS
    have eD2 := sG _ _ eD1
    have s02 := sS.trans sG
    have HG : H G = none := by
      cases e : H G with
      | none => rfl
      | some o => rw [sS _ _ e] at nG; cases nG
    generalize L2.upd H1 G (.lst []) = H2 at eG eS2 eD2 s02 ⊢
    refine ⟨d, .dT lkvs', eD2, True.intro, fun od => ?_⟩
    have eF : (L2.upd H2 d (.frz od (.dT lkvs'))) d = some (.frz od (.dT lkvs')) := upd_same
    have bF : ∀ b o, b ≠ d → H b = some o → (L2.upd H2 d (.frz od (.dT lkvs'))) b = some o := fun b o n e => by rw [upd_ne n]; exact s02 _ _ e
    have SD : S ≠ d := fun e => by rw [e, eD] at nS; cases nS
    have GD : G ≠ d := fun e => by rw [e, eD] at HG; cases HG
    have SG : S ≠ G := fun e => by rw [e, eG] at eS2; cases eS2
    have eS3 : (L2.upd H2 d (.frz od (.dT lkvs'))) S = some (.dT []) := by rw [upd_ne SD]; exact eS2
    have eG3 : (L2.upd H2 d (.frz od (.dT lkvs'))) G = some (.lst []) := by rw [upd_ne GD]; exact eG
    generalize L2.upd H2 d (.frz od (.dT lkvs')) = H3 at eF bF eS3 eG3 ⊢
    have lk0 : lkvs'.length = ks.length := by
      have := congrArg List.length eDk
      rwa [List.length_map, List.length_map] at this
    have ksl : ks.length ≤ 200 := by
      have := nd_len ndk (m := nodes es) fun a h => (mem a).mp h
      have := nodes_len es
      omega
    refine ⟨_, rfl, d, od, rfl, .inr ⟨lkvs', eF, ?_⟩⟩
    have wk : Walk (Itkt d od lkvs') lkvs'.length (fun Hx => Hx d = some (.frz od (.dT lkvs'))) (fun i Hx x H' => H' = Hx ∧ ∃ (k : List Key) (v : V) (q : Addr), lkvs'[i]? = some (k, v) ∧ x = .ref q ∧ Hx q = some (.tup (k.map kV))) :=
      ⟨fun i Hx hi h => ⟨h, hi⟩, fun Hx h => ⟨h, Nat.le_refl _⟩, fun i Hx x H' _ _ y => y⟩
    refine for_it wk (fun i σ Hx => ∃ (c3 c4 c5 : Option V) (ss : List N2) (skvs : List (List Key × V)) (xs : List V) (gs : List (List N2)), σ = [some (.ref d), some (.ref S), some (.ref G), c3, c4, c5] ∧ Hx d = some (.frz od (.dT lkvs')) ∧ (∀ b o, b ≠ d → H b = some o → Hx b = some o) ∧
      Hx S = some (.dT skvs) ∧ skvs.map (·.1) = ss.map key ∧ ss.Nodup ∧ Hx G = some (.lst xs) ∧ GrL Hx xs gs ∧ (∀ l ∈ gs, ∃ a, a ∈ nodes es ∧ Cls es a l) ∧ gs.Nodup ∧ (∀ b, b ∈ ss ↔ ∃ l ∈ gs, b ∈ l) ∧ gs.length ≤ i ∧ ∀ a ∈ ks.take i, a ∈ ss) ⟨none, none, none, [], [], [], [], rfl, eF, bF, eS3, rfl, List.nodup_nil, eG3, .nil, (fun l hl => by cases hl), List.nodup_nil, (fun b => by simp), Nat.le_refl _, (fun a h => by simp at h)⟩ (fun i σ Hi _ z => by obtain ⟨_, _, _, _, _, _, _, _, z, _⟩ := z; exact z) ?_ ?_
    · rintro i x σ Hx H' il ⟨c3, c4, c5, ss, skvs, xs, gs, rfl, eDx, bx, eSx, ek, nds, eGx, gr, cls, ndg, ms, gi, cov⟩ ⟨rfl, kk, vv, qa, eki, rfl, eqa⟩
      obtain ⟨a, ea, rfl⟩ : ∃ a, ks[i]? = some a ∧ kk = key a := by
        have h := congrArg (fun l => l[i]?) eDk
        rw [List.getElem?_map, List.getElem?_map, eki] at h
        obtain ⟨a, e1, e2⟩ := Option.map_eq_some_iff.mp h.symm
        exact ⟨a, e1, e2.symm⟩
      have an : a ∈ nodes es := (mem a).mp (List.mem_of_getElem? ea)
      have gl := gr.len
      have tpH : W37.Tp H H' := fun b ys e => bx b _ (fun z => by rw [z, eD] at e; cases e) e
      refine ⟨_, rfl, _, rfl, S, _, rfl, DGet.t (b := qa) (k := key a) eSx eqa, _, rfl, ?_⟩
      rw [keys_any ek]
      by_cases m : a ∈ ss
      · rw [decide_eq_true m]
        refine iteF ⟨_, c4, c5, ss, skvs, xs, gs, rfl, eDx, bx, eSx, ek, nds, eGx, gr, cls, ndg, ms, by omega, fun b hb => ?_⟩
        rw [List.take_add_one, ea] at hb
        rcases List.mem_append.mp hb with z | z
        · exact cov b z
        · have z : b ∈ [a] := z
          rw [List.mem_singleton.mp z]
          exact m
      · rw [decide_eq_false m]
        have LF : Lnk H0 H' d ks es := ⟨lkvs', .inr ⟨od, eDx⟩, eDk, fun b hb => by
          obtain ⟨L, ys, e1, e2, e3, e4⟩ := lal b hb
          exact ⟨L, ys, e1, bx L _ (fun z => by rw [z, eD] at e2; cases e2) e2, e3.tp tpH, e4⟩⟩
        refine iteT ⟨_, rfl, _, rfl, H0, d, .ref qa, es, ks, a, rfl, LF, mem, l100, ⟨qa, rfl, eqa⟩, fun t rs H4 s4 ky nd4 rch => ?_⟩
        obtain ⟨kvs4, e4, ek4, _⟩ := ky.ex
        have isn : (kvs4.map fun p => Xsd.kyT p.1) = rs.map W37.nD := by
          have := congrArg (List.map Xsd.kyT) ek4
          rw [List.map_map, List.map_map] at this
          exact this
        refine ⟨t, kvs4, rfl, Rd.of e4, ?_, ?_, ?_, fun p bs np hb eb => ?_⟩
        · rw [isn]
          intro x hx y hy
          obtain ⟨x', _, rfl⟩ := List.mem_map.mp hx
          obtain ⟨y', _, rfl⟩ := List.mem_map.mp hy
          exact alike_nD x' y'
        · rw [isn]
          refine .inl fun x hx => ?_
          obtain ⟨x', _, rfl⟩ := List.mem_map.mp hx
          exact ⟨_, _, rfl⟩
        · intro x hx
          have : Xsd.kyT x.1 ∈ rs.map W37.nD := by rw [← isn]; exact List.mem_map.mpr ⟨x, hx, rfl⟩
          obtain ⟨x', _, e⟩ := List.mem_map.mp this
          rw [← e]
          exact dep_nD x'
        obtain ⟨l, el⟩ : ∃ l, l = rs.mergeSort nmLe := ⟨_, rfl⟩
        have eb2 : bs.map (·.1) = l.map key := by
          rw [eb, ek4, el]
          exact (List.map_mergeSort (r := nmLe) (s := PySem.W.dataLe false Xsd.kyT) fun a _ b _ => rfl).symm
        have pm : l.Perm rs := by rw [el]; exact List.mergeSort_perm rs nmLe
        have cl : Cls es a l := ⟨pm.nodup_iff.mpr nd4, fun b => pm.mem_iff.trans (rch b), by rw [el]; exact rise_sort rs⟩
        have s5 := same_upd np (o := .lst (bs.map fun b => V.ref b.2))
        have n5 := nml_of (fun b m => s5 _ _ (hb b m)) eb2
        refine ⟨p, _, rfl, .inl ⟨SqL.of upd_same, fun u nu => ?_⟩⟩
        have s6 := same_upd nu (o := .tup (bs.map fun b => V.ref b.2))
        have eu : (L2.upd (L2.upd H4 p (.lst (bs.map fun b => V.ref b.2))) u (.tup (bs.map fun b => V.ref b.2))) u = some (.tup (bs.map fun b => V.ref b.2)) := upd_same
        have n6 := n5.tp (W37.tp_same s6)
        have s46 := s4.trans (s5.trans s6)
        generalize L2.upd (L2.upd H4 p (.lst (bs.map fun b => V.ref b.2))) u (.tup (bs.map fun b => V.ref b.2)) = H6 at eu n6 s46 ⊢
        obtain ⟨ns, ens⟩ : ∃ ns, ns = bs.map fun b => V.ref b.2 := ⟨_, rfl⟩
        rw [← ens] at eu n6
        have eG6 := s46 _ _ eGx
        have ll : l.length ≤ 201 := by
          have := nd_len cl.nd (m := a :: nodes es) fun b hb => by
            rcases rch_in ((cl.mem b).mp hb) with rfl | z
            · exact List.mem_cons_self
            · exact List.mem_cons_of_mem _ z
          have := nodes_len es
          rw [List.length_cons] at *
          omega
        have lnew : l ∉ gs := fun h => m ((ms a).mpr ⟨l, h, cl.self⟩)
        have gsl : gs.length ≤ 200 := by omega
        have xz : xs.length < sizeLine := by
          rw [gl]
          exact Nat.lt_of_le_of_lt gsl (by decide)
        refine ⟨_, rfl, .inl ⟨rfl, _, SqL.of eG6⟩, _, rfl, G, xs, _, rfl, rfl, eG6, xz, ?_⟩
        have tp7 : W37.Tp H6 (L2.upd H6 G (.lst (xs ++ [.ref u]))) := W37.tp_upd fun us z => by rw [eG6] at z; cases z
        have eG7 : (L2.upd H6 G (.lst (xs ++ [.ref u]))) G = some (.lst (xs ++ [.ref u])) := upd_same
        have eS7 : (L2.upd H6 G (.lst (xs ++ [.ref u]))) S = some (.dT skvs) := by rw [upd_ne SG]; exact s46 _ _ eSx
        have eD7 : (L2.upd H6 G (.lst (xs ++ [.ref u]))) d = some (.frz od (.dT lkvs')) := by rw [upd_ne (Ne.symm GD)]; exact s46 _ _ eDx
        have b7 : ∀ b o, b ≠ d → H b = some o → (L2.upd H6 G (.lst (xs ++ [.ref u]))) b = some o := fun b o n e => by
          rw [upd_ne (ne_of_none e HG)]
          exact s46 _ _ (bx b o n e)
        have gr7 := (gr.tp ((W37.tp_same s46).trans tp7)).snoc (tp7 _ _ eu) (n6.tp tp7)
        have eu7 := tp7 _ _ eu
        have n7 := n6.tp tp7
        generalize L2.upd H6 G (.lst (xs ++ [.ref u])) = H7 at eG7 eS7 eD7 b7 gr7 eu7 n7 ⊢
        clear tp7 eG6 eu n6 s46 s6 s5 n5
        refine ⟨_, rfl, u, rfl, ⟨_, SqT.of eu7⟩, for_tup (K := K) (a := u) (xs := ns) (fun j σ' Hy => ∃ (c5 : Option V) (ss2 : List N2) (sk2 : List (List Key × V)), σ' = [some (.ref d), some (.ref S), some (.ref G), some (.ref qa), some (.ref u), c5] ∧ Hy d = some (.frz od (.dT lkvs')) ∧ (∀ b o, b ≠ d → H b = some o → Hy b = some o) ∧
          Hy S = some (.dT sk2) ∧ sk2.map (·.1) = ss2.map key ∧ ss2.Nodup ∧ Hy G = some (.lst (xs ++ [.ref u])) ∧ W37.Tp H7 Hy ∧ ∀ b, b ∈ ss2 ↔ b ∈ ss ∨ b ∈ l.take j) ⟨c5, ss, skvs, rfl, eD7, b7, eS7, ek, nds, eG7, fun _ _ e => e, fun b => by simp⟩ (fun i σ Hi _ z => by obtain ⟨_, _, _, _, _, _, _, _, _, _, z, _⟩ := z; exact SqT.of (z _ _ eu7)) ?_ ?_⟩
        · rintro j y σ'' Hy hy ⟨c5', ss2, sk2, rfl, eDy, by_, eSy, ek2, nd2, eGy, ty, ms2⟩
          obtain ⟨b, eb3, tb, rfl, etb⟩ := n7.get hy
          have inn : ∀ b ∈ ss2, b ∈ nodes es := fun b hb => by
            rcases (ms2 b).mp hb with z | z
            · obtain ⟨l', h1, h2⟩ := (ms b).mp z
              obtain ⟨a', ha', c'⟩ := cls l' h1
              rcases rch_in ((c'.mem b).mp h2) with rfl | w
              · exact ha'
              · exact w
            · rcases rch_in ((cl.mem b).mp (List.mem_of_mem_take z)) with rfl | w
              · exact an
              · exact w
          have kl : sk2.length ≤ 2000 := by
            have h1 := congrArg List.length ek2
            rw [List.length_map, List.length_map] at h1
            have h2 := nd_len nd2 inn
            have h3 := nodes_len es
            omega
          refine ⟨_, rfl, _, rfl, S, _, rfl, DPut.t (b := tb) (k := key b) eSy (ty _ _ etb) (Nat.lt_of_le_of_lt kl (by decide)), _, ins ss2 b, putK sk2 (key b) (.bl true), rfl, ?_, fun c o n e => ?_, upd_same, keys_put ek2, ins_nd nd2, ?_, ty.trans (W37.tp_upd fun us z => by rw [eSy] at z; cases z), fun c => ?_⟩
          · rw [upd_ne (Ne.symm SD)]; exact eDy
          · rw [upd_ne (ne_of_none e nS)]; exact by_ c o n e
          · rw [upd_ne (Ne.symm SG)]; exact eGy
          · rw [mem_ins, ms2, List.take_add_one, eb3, List.mem_append]
            show _ ↔ c ∈ ss ∨ (c ∈ l.take j ∨ c ∈ [b])
            rw [List.mem_singleton, or_assoc]
        · rintro σ'' Hy ⟨c5', ss2, sk2, rfl, eDy, by_, eSy, ek2, nd2, eGy, ty, ms2⟩
          rw [List.take_of_length_le (by rw [← n7.len]; exact Nat.le_refl _)] at ms2
          refine ⟨_, _, _, ss2, sk2, xs ++ [.ref u], gs ++ [l], rfl, eDy, by_, eSy, ek2, nd2, eGy, gr7.tp ty, fun l' h => ?_, ?_, fun b => ?_, by rw [List.length_append]; show _ + 1 ≤ _; omega, fun b hb => ?_⟩
          · rcases List.mem_append.mp h with z | z
            · exact cls l' z
            · rw [List.mem_singleton.mp z]
              exact ⟨a, an, cl⟩
          · rw [List.nodup_append]
            refine ⟨ndg, by simp, fun x hx y hy => ?_⟩
            rw [List.mem_singleton.mp hy]
            rintro rfl
            exact lnew hx
          · rw [ms2, ms]
            constructor
            · rintro (⟨l', h1, h2⟩ | h)
              · exact ⟨l', List.mem_append_left _ h1, h2⟩
              · exact ⟨l, List.mem_append_right _ (List.mem_singleton.mpr rfl), h⟩
            · rintro ⟨l', h1, h2⟩
              rcases List.mem_append.mp h1 with z | z
              · exact .inl ⟨l', z, h2⟩
              · rw [List.mem_singleton.mp z] at h2
                exact .inr h2
          · rw [List.take_add_one, ea] at hb
            rcases List.mem_append.mp hb with z | z
            · exact (ms2 b).mpr (.inl (cov b z))
            · have z : b ∈ [a] := z
              rw [List.mem_singleton.mp z]
              exact (ms2 a).mpr (.inr cl.self)
    · rintro σ Hx ⟨c3, c4, c5, ss, skvs, xs, gs, rfl, eDx, bx, eSx, ek, nds, eGx, gr, cls, ndg, ms, gi, cov⟩
      refine ⟨eDx, ?_⟩
      have SF : L2.Same H (L2.upd Hx d (.dT lkvs')) := fun b o e => by
        by_cases c : b = d
        · subst c
          rw [eD] at e
          rw [upd_same]
          exact e
        · rw [upd_ne c]
          exact bx b o c e
      have tpf : W37.Tp Hx (L2.upd Hx d (.dT lkvs')) := W37.tp_upd fun us z => by rw [eDx] at z; cases z
      have eGz : (L2.upd Hx d (.dT lkvs')) G = some (.lst xs) := by rw [upd_ne GD]; exact eGx
      have grz := gr.tp tpf
      generalize L2.upd Hx d (.dT lkvs') = Hz at SF eGz grz ⊢
      obtain ⟨ts, et1, et2, hts⟩ := grz.split
      have ebs : (ts.map fun p : Gt => ((p.1, gD p.2) : Xsd.Pd)).map (·.1) = xs := by rw [List.map_map, ← et1]; rfl
      have ebd : (ts.map fun p : Gt => ((p.1, gD p.2) : Xsd.Pd)).map (·.2) = gs.map gD := by rw [List.map_map, ← et2, List.map_map]; rfl
      refine ⟨_, rfl, G, ts.map fun p : Gt => ((p.1, gD p.2) : Xsd.Pd), rfl, .inl (by rw [ebs]; exact SqL.of eGz), fun b hb => ?_, ?_, ?_, fun b hb => ?_, fun p np => ?_⟩
      · obtain ⟨x, hx, rfl⟩ := List.mem_map.mp hb
        obtain ⟨t, ys, e, h1, h2⟩ := hts x hx
        show Dp K Hz x.1 (gD x.2)
        rw [e]
        exact .tup (SqT.of h1) (nml_dp h2)
      · rw [ebd]
        intro x hx y hy
        obtain ⟨x', _, rfl⟩ := List.mem_map.mp hx
        obtain ⟨y', _, rfl⟩ := List.mem_map.mp hy
        show PySem.W.alike (.tuple (x'.map W37.nD)) (.tuple (y'.map W37.nD)) = true
        simp only [PySem.W.alike, alike_all]
      · rw [ebd]
        refine .inl fun x hx => ?_
        obtain ⟨l, hl, rfl⟩ := List.mem_map.mp hx
        obtain ⟨a, _, c⟩ := cls l hl
        cases l with
        | nil => exact absurd c.self (by simp)
        | cons y r => exact ⟨_, _, rfl⟩
      · obtain ⟨x, hx, rfl⟩ := List.mem_map.mp hb
        have := dep_all x.2
        show (PyData.tuple (x.2.map W37.nD)).depth ≤ 50
        simp only [PyData.depth]
        omega
      have em : ((ts.map fun p : Gt => ((p.1, gD p.2) : Xsd.Pd)).mergeSort (PySem.W.dataLe false fun b : Xsd.Pd => b.2)).map (·.1) = (ts.mergeSort (PySem.W.dataLe false fun p : Gt => gD p.2)).map (·.1) := by
        rw [← List.map_mergeSort (r := PySem.W.dataLe false fun p : Gt => gD p.2) (s := PySem.W.dataLe false fun b : Xsd.Pd => b.2) (f := fun p : Gt => ((p.1, gD p.2) : Xsd.Pd)) fun a _ b _ => rfl, List.map_map]
        rfl
      rw [em]
      have pts : (ts.mergeSort (PySem.W.dataLe false fun p : Gt => gD p.2)).Perm ts := List.mergeSort_perm _ _
      have gj := grl_join (H := Hz) (ts := ts.mergeSort (PySem.W.dataLe false fun p : Gt => gD p.2)) fun p hp => hts p (pts.mem_iff.mp hp)
      have pg : ((ts.mergeSort (PySem.W.dataLe false fun p : Gt => gD p.2)).map (·.2)).Perm gs := by rw [← et2]; exact pts.map _
      generalize (ts.mergeSort (PySem.W.dataLe false fun p : Gt => gD p.2)).map (·.1) = xs2 at gj ⊢
      generalize (ts.mergeSort (PySem.W.dataLe false fun p : Gt => gD p.2)).map (·.2) = gs2 at gj pg
      have sp := same_upd np (o := .lst xs2)
      refine ⟨p, _, rfl, .inl ⟨SqL.of upd_same, fun t nt => ?_⟩⟩
      have st := same_upd nt (o := .tup xs2)
      refine q t xs2 gs2 _ (SF.trans (sp.trans st)) upd_same (gj.tp (W37.tp_same (sp.trans st))) ⟨fun l hl => cls l (pg.mem_iff.mp hl), pg.nodup_iff.mpr ndg, fun a ha => ?_⟩
      have : a ∈ ss := cov a (by rw [List.take_of_length_le (by omega)]; exact (mem a).mpr ha)
      obtain ⟨l, h1, h2⟩ := (ms a).mp this
      exact ⟨l, pg.mem_iff.mpr h1, h2⟩
end
end K16
set_option Elab.async false
set_option linter.all false
set_option maxRecDepth 100000
set_option maxHeartbeats 4000000
set_option pp.maxSteps 400
set_option pp.deepTerms false
namespace K16
open PySem PySem.Spec PyProof.Rows L2
open Xk Az Xnp
section
variable {P : Program} {w : World} {K : PySem.W.Frag} {mg : Str → Option Value} {base : Heap}
/-- the class of each name -/
def Gps (H : Hp) (g : Addr) (es : List Pair) : Prop := ∃ gkvs : List (List Key × V), H g = some (.dT gkvs) ∧ (∀ a ∈ nodes es, ∃ (t : Addr) (ys : List V) (l : List N2), valV gkvs (key a) = some (.ref t) ∧ H t = some (.tup ys) ∧ W37.NmL H ys l ∧ Xnp.Cls es a l) ∧ ∀ a, a ∉ nodes es → valV gkvs (key a) = none
/-- the links that a book keeps: lists that are fr -/
def Lks (H : Hp) (d : Addr) (es : List Pair) (fr : Addr → Prop) : Prop := ∃ (ks : List N2) (lkvs : List (List Key × V)), H d = some (.dT lkvs) ∧ ks.Nodup ∧ (∀ a, a ∈ ks ↔ a ∈ nodes es) ∧ lkvs.map (·.1) = ks.map key ∧
  ∀ a ∈ ks, ∃ (L : Addr) (ys : List V), valV lkvs (key a) = some (.ref L) ∧ H L = some (.lst ys) ∧ W37.NmL H ys (nb es a) ∧ fr L
def spSort (K : PySem.W.Frag) : Sp := fun vs H Q _ => ∃ (b C dx c : Addr) (fs : List (Str × V)) (kvs : List (Key × V)) (es : List Pair), vs = [.ref b] ∧ H b = some (.ins C dx fs) ∧ L2.Cls K C ∧ NoAttr K C "counting" ∧ NoAttr K C "links" ∧ NoAttr K C "groups" ∧ fs.length < 900 ∧ fs.lookup ("counting" : Str) = some (.ref c) ∧
  H c = some (.dK kvs) ∧ PrL H (kvs.map (·.2)) es ∧ es.length ≤ 100 ∧
  ∀ (d g : Addr) H', H' b = some (.ins C dx (putF "groups" (.ref g) (putF "links" (.ref d) fs))) → (∀ x o, x ≠ b → H x = some o → H' x = some o) → Gps H' g es → Lks H' d es (fun x => H x = none) → Q .non H'
theorem ok_sort {f : Addr} {fd : FuncData} (F : L2.Fun K "sort_out" "Names.sort_out" sNamesSortOut f fd) (T : Txt K mg) (cLi : Ca P w K mg base 1 "linked" ["nodes", "pairs"] (spLinked K)) (cGr : Ca P w K mg base 4 "groups_in" ["links"] spGroups) : FnOk P w K mg base CX0 5 f fd ["self"] (spSort K) := by
  refine F.ok scNamesSortOut (fun vs H Q E h => ?_) (fun cdv A outer s H vs Q E hr h => ?_)
  · obtain ⟨b, C, dx, c, fs, kvs, es, rfl, eb, hC, n1, n2, n3, lf, lc, ec, pP, l100, q⟩ := h
    rfl
  · obtain ⟨b, C, dx, c, fs, kvs, es, rfl, eb, hC, n1, n2, n3, lf, lc, ec, pP, l100, q⟩ := h
    refine ⟨_, (pss_cons (ps_set (i := 1) scNamesSortOut.nd rfl (.inl rfl) (Xvl.pe_listVals (by rfl) (by rfl) T.list (pe_fld (pv 0) rfl)))
      (pss_cons (ps_fld (pv 0) (pe_ca cLi hr (by decide) (by rfl) (pa_cons (pe_lc2 (own := [("pair", 2), ("name", 3)]) (vs1 := [3]) (g := gName 2) (g1 := gName 3) (tt := tYes) (tt1 := tYes) (wi1 := iTup K (tVar 2)) (te := tVar 3) (by rfl) scNamesSortOut.nd (pi_list (pv 1)) (blkOk_by (own := [("pair", 2), ("name", 3)]) (N := ["self", "pairs", "pair", "name", "group"]) (sc := defScope sNamesSortOut) (by decide +kernel)) (by decide) (fun _ _ _ _ _ => pg_name (i := 2) scNamesSortOut.nd rfl (.inl rfl)) (fun _ _ _ _ _ => pts_nil) (fun _ _ _ _ _ => pi_tup (pv 2)) (fun _ _ _ _ _ => pg_name (i := 3) scNamesSortOut.nd rfl (.inl rfl)) (fun _ _ _ _ _ => pts_nil) (fun _ _ _ _ _ => pv 3)) (pa_cons (pv 1) pa_nil))) rfl)
      (pss_one (ps_fld (pv 0) (Xdc.pe_dc2 (own := [("group", 4), ("name", 3)]) (us := [3]) (g := gName 4) (gj := gName 3) (tt := tYes) (tj := tYes) (wj := iTup K (tVar 4)) (tk := tVar 3) (ty := tVar 4) (.dT []) (by simp) hr.units0 (by rfl) scNamesSortOut.nd (pi_tup (pe_ca cGr hr (by decide) (by rfl) (pa_cons (pe_fld (pv 0) rfl) pa_nil))) (blkOk_by (own := [("group", 4), ("name", 3)]) (N := ["self", "pairs", "pair", "name", "group"]) (sc := defScope sNamesSortOut) (by decide +kernel)) (by decide) (fun _ _ _ _ _ => pg_name (i := 4) scNamesSortOut.nd rfl (.inl rfl)) (fun _ _ _ _ _ => pts_nil) (fun _ _ _ _ _ => pi_tup (pv 4)) (fun _ _ _ _ _ => pg_name (i := 3) scNamesSortOut.nd rfl (.inl rfl)) (fun _ _ _ _ _ => pts_nil) (fun _ _ _ _ _ => pv 3) (fun _ _ _ _ _ => pv 4)) rfl)))), ?_⟩
    refine ⟨_, rfl, b, C, dx, fs, .ref c, rfl, eb, hC, n1, lc, c, kvs, rfl, ec, fun P1 nP _ => ?_⟩
    obtain ⟨ps, eps⟩ : ∃ ps, ps = kvs.map (·.2) := ⟨_, rfl⟩
    rw [← eps] at pP
    rw [show kvs.map (fun x => x.2) = ps from eps.symm]
    have sP := same_upd nP (o := .lst ps)
    have eP : (L2.upd H P1 (.lst ps)) P1 = some (.lst ps) := upd_same
    have eb1 := sP _ _ eb
    have pP1 := pP.tp (W37.tp_same sP)
    generalize L2.upd H P1 (.lst ps) = H1 at sP eP eb1 pP1 ⊢
    have pl := pP1.len
    -- all names of the pairs
    refine ⟨_, rfl, P1, rfl, ⟨_, SqL.of eP⟩, fun D nD => ?_⟩
    refine Xdc.goes (walk_list (K := K) (a := P1) (xs := ps)) (fun i Hi => L2.Same H1 Hi ∧ ∃ ys, Hi D = some (.lst ys) ∧ W37.NmL Hi ys (nodes (es.take i))) ⟨same_upd nD, [], upd_same, .nil⟩ (fun i Hi _ z => SqL.of (z.1 _ _ eP)) ?_ ?_
    · rintro i x Hi H' il ⟨sm, ys, eD, ny⟩ ⟨rfl, hx⟩
      obtain ⟨p, t, va, vb, ep, rfl, et, na, nb'⟩ := pP1.get hx
      have et1 := sm _ _ et
      have na := na.tp (W37.tp_same sm)
      have nb' := nb'.tp (W37.tp_same sm)
      have yl := ny.len
      have nl := nodes_len (es.take i)
      have tl : (es.take i).length ≤ 100 := by rw [List.length_take]; omega
      refine ⟨rfl, ?_⟩
      unfold tYes
      refine iteT ?_
      refine ⟨_, rfl, t, rfl, ⟨_, SqT.of et1⟩, ?_⟩
      refine Xdc.goes (g := gName 3) (tt := tYes) (B := fun N σ H => tVar 3 σ H fun y H7 => ∃ acc, H7 D = some (.lst acc) ∧ acc.length < sizeLine ∧ N (upd H7 D (.lst (acc ++ [y])))) (walk_tup (K := K) (a := t) (xs := [va, vb])) (fun j Hj => L2.Same H1 Hj ∧ W37.Tp H' Hj ∧ Hj D = some (.lst (ys ++ [va, vb].take j))) ⟨sm, fun _ _ e => e, by simpa using eD⟩ (fun j Hj _ z => SqT.of (z.1 _ _ et)) ?_ ?_
      · rintro j x Hj H'' jl ⟨sj, tj, eDj⟩ ⟨rfl, hxj⟩
        refine ⟨rfl, ?_⟩
        unfold tYes
        refine iteT ⟨_, rfl, _, eDj, ?_, fun b2 o e => ?_, tj.trans (W37.tp_upd fun us z => by rw [eDj] at z; cases z), ?_⟩
        · rw [List.length_append, List.length_take]
          have q1 : min j [va, vb].length ≤ 2 := Nat.min_le_right _ _
          exact Nat.lt_of_le_of_lt (show _ ≤ 300 by omega) (by decide)
        · rw [upd_ne (ne_of_none e nD)]
          exact sj _ _ e
        · rw [upd_same, List.take_add_one, hxj, List.append_assoc]
          rfl
      · rintro Hj ⟨sj, tj, eDj⟩
        refine ⟨sj, _, eDj, ?_⟩
        rw [List.take_add_one, ep]
        show W37.NmL Hj (ys ++ [va, vb]) (nodes (es.take i ++ [p]))
        unfold nodes
        rw [List.flatMap_append]
        exact (ny.tp tj).app (.cons (na.tp tj) (.cons (nb'.tp tj) .nil))
    rintro H2 ⟨s2, ys, eD, ny⟩
    rw [List.take_of_length_le (by omega)] at ny
    have eP2 := s2 _ _ eP
    have eb2 := s2 _ _ eb1
    refine ⟨_, rfl, D, P1, ys, ps, es, rfl, SqL.of eD, ny, SqL.of eP2, pP1.tp (W37.tp_same s2), l100, fun d ks lkvs H3 s3 nd mem ed3 lk => ?_⟩
    have eb3 := s3 _ _ eb2
    refine ⟨_, rfl, b, C, dx, fs, rfl, eb3, hC, n2, by omega, ?_⟩
    obtain ⟨fs2, efs⟩ : ∃ fs2, fs2 = putF "links" (.ref d) fs := ⟨_, rfl⟩
    replace q := q d
    rw [← efs] at q ⊢
    have lf2 : fs2.length ≤ 901 := by
      have := length_putF "links" (.ref d) fs
      rw [efs]
      omega
    have ll2 : fs2.lookup ("links" : Str) = some (.ref d) := by
      rw [efs, lookup_putF, if_pos rfl]
    have s03 : L2.Same H H3 := (sP.trans s2).trans s3
    have n02 : ∀ x, H2 x = none → H x = none := fun x nx => by
      cases e : H x with
      | none => rfl
      | some o => rw [(sP.trans s2) _ _ e] at nx; cases nx
    have nt : ∀ xs, H3 b ≠ some (.tup xs) := fun xs z => by rw [eb3] at z; cases z
    have tp4 : W37.Tp H3 (L2.upd H3 b (.ins C dx fs2)) := W37.tp_upd nt
    have eb4 : (L2.upd H3 b (.ins C dx fs2)) b = some (.ins C dx fs2) := upd_same
    have ed4 : (L2.upd H3 b (.ins C dx fs2)) d = some (.dT lkvs) := by rw [upd_ne (ne_of ed3 eb3 (by intro z; cases z))]; exact ed3
    have lk4 : Lnk H2 (L2.upd H3 b (.ins C dx fs2)) d ks es := by
      obtain ⟨kv0, r0, e0, al⟩ := lk.ex
      have : kv0 = lkvs := by
        rcases r0 with z | ⟨o, z⟩
        · rw [ed3] at z; cases z; rfl
        · rw [ed3] at z; cases z
      subst this
      refine ⟨kv0, .inl ed4, e0, fun a ha => ?_⟩
      obtain ⟨L, ys, h1, h2, h3, h4⟩ := al a ha
      exact ⟨L, ys, h1, by rw [upd_ne (ne_of h2 eb3 (by intro z; cases z))]; exact h2, h3.tp tp4, h4⟩
    have b04 : ∀ x o, x ≠ b → H x = some o → (L2.upd H3 b (.ins C dx fs2)) x = some o := fun x o n e => by rw [upd_ne n]; exact s03 _ _ e
    generalize L2.upd H3 b (.ins C dx fs2) = H4 at eb4 ed4 lk4 b04 ⊢
    refine ⟨_, rfl, b, C, dx, fs2, .ref d, rfl, eb4, hC, n2, ll2, H2, d, es, ks, lkvs, rfl, lk4, ed4, nd, mem, l100, fun t xs gs H5 s5 et gr grp => ⟨t, rfl, ⟨_, SqT.of et⟩, fun G nG => ?_⟩⟩
    obtain ⟨ts, et1, et2, hts⟩ := gr.split
    have inn : ∀ l ∈ gs, ∀ a ∈ l, a ∈ nodes es ∧ Xnp.Cls es a l := fun l hl a ha => by
      obtain ⟨a0, h0, c⟩ := grp.cls l hl
      have r := (c.mem a).mp ha
      refine ⟨?_, c.of r⟩
      rcases rch_in r with rfl | z
      · exact h0
      · exact z
    have gxl := gr.len
    refine Xdc.goes (walk_tup (K := K) (a := t) (xs := xs)) (fun i Hi => L2.Same H5 Hi ∧ ∃ (gkvs : List (List Key × V)) (gks : List N2), Hi G = some (.dT gkvs) ∧ gkvs.map (·.1) = gks.map key ∧ gks.Nodup ∧ (∀ a, a ∈ gks ↔ ∃ l ∈ gs.take i, a ∈ l) ∧
      ∀ a ∈ gks, ∃ (u : Addr) (zs : List V) (l : List N2), valV gkvs (key a) = some (.ref u) ∧ H5 u = some (.tup zs) ∧ W37.NmL H5 zs l ∧ Xnp.Cls es a l) ⟨same_upd nG, [], [], upd_same, rfl, List.nodup_nil, fun a => by simp, fun a h => by cases h⟩ (fun i Hi _ z => SqT.of (z.1 _ _ et)) ?_ ?_
    · rintro i x Hi H' il ⟨sm, gkvs, gks, eG, ek, ndk, mk, al⟩ ⟨rfl, hx⟩
      obtain ⟨p, hp, rfl⟩ : ∃ p, ts[i]? = some p ∧ x = p.1 := by
        rw [← et1, List.getElem?_map] at hx
        obtain ⟨p, h1, h2⟩ := Option.map_eq_some_iff.mp hx
        exact ⟨p, h1, h2.symm⟩
      obtain ⟨u, zs, e1, e2, e3⟩ := hts p (List.mem_of_getElem? hp)
      obtain ⟨v0, l⟩ := p
      have e1 : v0 = .ref u := e1
      have e3 : W37.NmL H5 zs l := e3
      subst e1
      have gl : gs[i]? = some l := by rw [← et2, List.getElem?_map, hp]; rfl
      have lg := List.mem_of_getElem? gl
      have e2' := sm _ _ e2
      refine ⟨rfl, ?_⟩
      unfold tYes
      refine iteT ⟨_, rfl, u, rfl, ⟨_, SqT.of e2'⟩, ?_⟩
      refine Xdc.goes (g := gName 3) (tt := tYes) (B := fun N σ H => tVar 3 σ H fun y H7 => tVar 4 σ H7 fun z H8 => ∃ H9, DPut H8 G y z H9 ∧ N H9) (walk_tup (K := K) (a := u) (xs := zs)) (fun j Hj => L2.Same H5 Hj ∧ ∃ (gk2 : List (List Key × V)) (ks2 : List N2), Hj G = some (.dT gk2) ∧ gk2.map (·.1) = ks2.map key ∧ ks2.Nodup ∧ (∀ a, a ∈ ks2 ↔ a ∈ gks ∨ a ∈ l.take j) ∧
        ∀ a ∈ ks2, ∃ (u : Addr) (zs : List V) (l : List N2), valV gk2 (key a) = some (.ref u) ∧ H5 u = some (.tup zs) ∧ W37.NmL H5 zs l ∧ Xnp.Cls es a l) ⟨sm, gkvs, gks, eG, ek, ndk, fun a => by simp, al⟩ (fun j Hj _ z => SqT.of (z.1 _ _ e2)) ?_ ?_
      · rintro j y Hj H'' jl ⟨sj, gk2, ks2, eGj, ek2, nd2, mk2, al2⟩ ⟨rfl, hy⟩
        obtain ⟨c2, ec2, tc, rfl, etc⟩ := e3.get hy
        have ks2n : ∀ a ∈ ks2, a ∈ nodes es := fun a ha => by
          obtain ⟨_, _, l', _, _, _, c'⟩ := al2 a ha
          rcases (mk2 a).mp ha with z | z
          · obtain ⟨l2, h1, h2⟩ := (mk a).mp z
            exact (inn l2 (List.mem_of_mem_take h1) a h2).1
          · exact (inn l lg a (List.mem_of_mem_take z)).1
        have kl : gk2.length ≤ 200 := by
          have h1 := congrArg List.length ek2
          rw [List.length_map, List.length_map] at h1
          have h2 := nd_len nd2 ks2n
          have h3 := nodes_len es
          omega
        refine ⟨rfl, ?_⟩
        unfold tYes
        refine iteT ⟨_, rfl, _, rfl, _, DPut.t (b := tc) (k := key c2) eGj (sj _ _ etc) (Nat.lt_of_le_of_lt kl (by decide)), fun x o e => ?_, putK gk2 (key c2) (.ref u), ins ks2 c2, upd_same, keys_put ek2, ins_nd nd2, fun a => ?_, fun a ha => ?_⟩
        · rw [upd_ne (ne_of_none e nG)]
          exact sj _ _ e
        · rw [mem_ins, mk2, List.take_add_one, ec2, List.mem_append]
          show _ ↔ a ∈ gks ∨ (a ∈ l.take j ∨ a ∈ [c2])
          rw [List.mem_singleton, or_assoc]
        · rw [valV_put]
          by_cases c : a = c2
          · subst c
            rw [if_pos rfl]
            exact ⟨u, zs, l, rfl, e2, e3, (inn l lg a (List.mem_of_getElem? ec2)).2⟩
          · rw [if_neg fun z => c (key_inj z)]
            exact al2 a ((mem_ins.mp ha).resolve_right c)
      · rintro Hj ⟨sj, gk2, ks2, eGj, ek2, nd2, mk2, al2⟩
        rw [List.take_of_length_le (by rw [← e3.len]; exact Nat.le_refl _)] at mk2
        refine ⟨sj, gk2, ks2, eGj, ek2, nd2, fun a => ?_, al2⟩
        rw [mk2, mk, List.take_add_one, gl]
        constructor
        · rintro (⟨l', h1, h2⟩ | h)
          · exact ⟨l', List.mem_append_left _ h1, h2⟩
          · exact ⟨l, List.mem_append_right _ (by simp), h⟩
        · rintro ⟨l', h1, h2⟩
          rcases List.mem_append.mp h1 with z | z
          · exact .inl ⟨l', z, h2⟩
          · have z : l' ∈ [l] := z
            rw [List.mem_singleton.mp z] at h2
            exact .inr h2
    rintro He ⟨se, gkvs, gks, eG, ek, ndk, mk, al⟩
    rw [List.take_of_length_le (by omega)] at mk
    have eb6 := se _ _ (s5 _ _ eb4)
    refine ⟨_, rfl, b, C, dx, fs2, rfl, eb6, hC, n3, by omega, q G _ upd_same (fun x o n e => by rw [upd_ne n]; exact se _ _ (s5 _ _ (b04 x o n e))) ⟨gkvs, ?_, fun a ha => ?_, fun a ha => ?_⟩ ?_⟩
    · rw [upd_ne (ne_of eG eb6 (by intro z; cases z))]
      exact eG
    · obtain ⟨l, h1, h2⟩ := grp.all a ha
      obtain ⟨u, zs, l', e1, e2, e3, c⟩ := al a ((mk a).mpr ⟨l, h1, h2⟩)
      have tpe : W37.Tp He (L2.upd He b (.ins C dx (putF "groups" (.ref G) fs2))) := W37.tp_upd fun us z => by rw [eb6] at z; cases z
      exact ⟨u, zs, l', e1, tpe _ _ (se _ _ e2), e3.tp ((W37.tp_same se).trans tpe), c⟩
    · cases e : valV gkvs (key a) with
      | none => rfl
      | some v =>
        have h := keys_any (a := a) ek
        rw [e] at h
        have h : true = decide (a ∈ gks) := h
        have : a ∈ gks := of_decide_eq_true h.symm
        obtain ⟨l, h1, h2⟩ := (mk a).mp this
        exact absurd (inn l h1 a h2).1 ha
    · obtain ⟨kv0, r0, e0, al4⟩ := lk4.ex
      have ed6 : (L2.upd He b (.ins C dx (putF "groups" (.ref G) fs2))) d = some (.dT lkvs) := by
        rw [upd_ne (ne_of (se _ _ (s5 _ _ ed4)) eb6 (by intro z; cases z))]
        exact se _ _ (s5 _ _ ed4)
      have : kv0 = lkvs := by
        rcases r0 with z | ⟨o, z⟩
        · rw [ed4] at z; cases z; rfl
        · rw [ed4] at z; cases z
      subst this
      refine ⟨ks, kv0, ed6, nd, mem, e0, fun a ha => ?_⟩
      obtain ⟨L, ys, h1, h2, h3, h4⟩ := al4 a ha
      have h2' := se _ _ (s5 _ _ h2)
      have tpe : W37.Tp He (L2.upd He b (.ins C dx (putF "groups" (.ref G) fs2))) := W37.tp_upd fun us z => by rw [eb6] at z; cases z
      exact ⟨L, ys, h1, by rw [upd_ne (ne_of h2' eb6 (by intro z; cases z))]; exact h2', h3.tp (((W37.tp_same s5).trans (W37.tp_same se)).trans tpe), n02 L h4⟩
end
end K16
set_option Elab.async false
set_option linter.all false
set_option maxRecDepth 100000
set_option maxHeartbeats 4000000
set_option pp.maxSteps 400
set_option pp.deepTerms false
namespace K16
open PySem PySem.Spec PyProof.Rows L2
open Xk Az Xnp
section
variable {P : Program} {w : World} {K : PySem.W.Frag} {mg : Str → Option Value} {base : Heap}
/-- a method of the class at C -/
structure Mt (P : Program) (w : World) (K : PySem.W.Frag) (mg : Str → Option Value) (base : Heap) (k : Nat) (C : Addr) (m : Str) (ps : List Str) (sp : Sp) : Prop where
  ex : ∃ (f : Addr) (fd : FuncData), Meth K C m f ∧ FnOk P w K mg base CX0 k f fd ps sp ∧ Binds K fd ps []
def spClassOf (C : Addr) : Sp := fun vs H Q _ => ∃ (b dx g : Addr) (fs : List (Str × V)) (v : V) (es : List Pair) (a : N2), vs = [.ref b, v] ∧ H b = some (.ins C dx fs) ∧ fs.lookup ("groups" : Str) = some (.ref g) ∧ Gps H g es ∧ W37.NmV H v a ∧
  ∀ (t : Addr) (ys : List V) (l : List N2) H', L2.Same H H' → H' t = some (.tup ys) → W37.NmL H' ys l → Xnp.Cls es a l → Q (.ref t) H'
theorem ok_cof {f : Addr} {fd : FuncData} {C : Addr} (F : L2.Fun K "class_of" "Names.class_of" sNamesClassOf f fd) (hC : L2.Cls K C) (n3 : NoAttr K C "groups") : FnOk P w K mg base CX0 1 f fd ["self", "name"] (spClassOf C) := by
  refine F.ok scNamesClassOf (fun vs H Q E h => ?_) (fun cdv A outer s H vs Q E hr h => ?_)
  · obtain ⟨b, dx, g, fs, v, es, a, rfl, eb, lg, gp, nv, q⟩ := h
    rfl
  · obtain ⟨b, dx, g, fs, v, es, a, rfl, eb, lg, gp, nv, q⟩ := h
    refine ⟨_, (pss_one (ps_ret ((pe_dget2 (hu_of hr) (pe_fld (pv 0) rfl) (pv 1) (pe_tup (pa_cons (pv 1) pa_nil)) ⟨rfl, rfl, rfl, rfl⟩)))), ?_⟩
    obtain ⟨gkvs, eg, gall, gno⟩ := gp
    obtain ⟨ta, rfl, eta⟩ := nv
    refine ⟨_, rfl, b, C, dx, fs, .ref g, rfl, eb, hC, n3, lg, g, rfl, .inr ⟨gkvs, Rd.of eg⟩, _, rfl, _, rfl, (by show 1 ≤ sizeLine; decide), fun T1 nT => ?_⟩
    have sT := same_upd nT (o := .tup [.ref ta])
    have eT : (L2.upd H T1 (.tup [.ref ta])) T1 = some (.tup [.ref ta]) := upd_same
    refine ⟨_, DGet.t (b := ta) (k := key a) (sT _ _ eg) (sT _ _ eta), ?_⟩
    by_cases m : a ∈ nodes es
    · obtain ⟨t, ys, l, e1, e2, e3, c⟩ := gall a m
      rw [e1]
      exact q t ys l _ sT (sT _ _ e2) (e3.tp (W37.tp_same sT)) c
    · rw [gno a m]
      exact q T1 [.ref ta] [a] _ sT eT (.cons ⟨ta, rfl, sT _ _ eta⟩ .nil) (Cls.alone m)
end
end K16
set_option Elab.async false
set_option linter.all false
set_option maxRecDepth 100000
set_option maxHeartbeats 4000000
set_option pp.maxSteps 400
set_option pp.deepTerms false
namespace K16
open PySem PySem.Spec PyProof.Rows L2
open Xk Az
section
variable {P : Program} {w : World} {K : PySem.W.Frag} {mg : Str → Option Value} {base : Heap}
section
variable {X : Cx}
theorem cr_alt {f : Value} {r1 r2 : List V → Hp → VK → Prop} (h1 : CallR X f r1) (h2 : CallR X f r2) : CallR X f (fun xs H Q => r1 xs H Q ∨ r2 xs H Q) :=
  fun pins s σ H xs us Q I r h => h.elim (h1 pins s σ H xs us Q I r) (h2 pins s σ H xs us Q I r)
end
def spPick : Sp := fun vs H Q _ => ∃ (h o : Addr) (n : Int) (s : V), vs = [.ref h, s] ∧ Hd h o n H ∧ n ≤ far ∧
  ((∃ (l : Addr) (xs : List V), s = .ref l ∧ H l = some (.lst xs) ∧ l ∉ [h, o] ∧ xs ≠ [] ∧ xs.length < 1000 ∧ ∀ v H', v ∈ xs → Hd h o (n + 1) H' → Bt [h, o] H H' → Q v H') ∨
   (∃ x : Str, s = .str x ∧ 0 < x.length ∧ x.length < 1000 ∧ ∀ c H', c ∈ x.cps.toList → Hd h o (n + 1) H' → Bt [h, o] H H' → Q (.str ⟨#[c]⟩) H') ∨
   (∃ (l : Addr) (xs : List V), s = .ref l ∧ H l = some (.tup xs) ∧ xs ≠ [] ∧ xs.length < 1000 ∧ ∀ v H', v ∈ xs → Hd h o (n + 1) H' → Bt [h, o] H H' → Q v H'))
theorem ok_pick {f : Addr} {fd : FuncData} (D : Df K mg "_law_pick" ["_law_hand_here", "_law_some"] sPick f fd) (T : Txt K mg) (cT : Ca P w K mg base 1 "_law_take" ["_law_hand_here", "_law_many"] spTake) : FnOk P w K mg base CX0 2 f fd ["_law_hand_here", "_law_some"] spPick := by
  refine D.fn.ok scPick (fun vs H Q E h => ?_) (fun cdv A outer s H vs Q E hr h => ?_)
  · obtain ⟨h, o, n, s, rfl, hd, hn, q⟩ := h
    rfl
  · obtain ⟨h, o, n, s, rfl, hd, hn, q⟩ := h
    refine ⟨_, (pss_one (ps_ret (pe_ix ix_seq (pv 1) (pe_ca cT hr (by decide) (by rfl) (pa_cons (pv 0) (pa_cons (pe_callB (cr_alt call_len_seq call_len_str) (by rfl) T.len PySem.boot_len (pa_cons (pv 1) pa_nil)) pa_nil))) (fun _ _ => rfl)))), ?_⟩
    refine ⟨_, rfl, _, rfl, _, rfl, ?_⟩
    rcases q with ⟨l, xs, rfl, hl, nl, ne, few, q⟩ | ⟨x, rfl, pos, few, q⟩ | ⟨l, xs, rfl, hl, ne, few, q⟩
    · have pos : 0 < xs.length := List.length_pos_iff.mpr ne
      refine .inl ⟨l, xs, rfl, .inl (SqL.of hl), h, o, (xs.length : Int), n, rfl, by omega, by omega, hd, hn, fun d H' d0 d1 hh' bt => ?_⟩
      obtain ⟨j, rfl⟩ : ∃ j : Nat, d = (j : Int) := ⟨d.toNat, by omega⟩
      have hj : j < xs.length := by omega
      refine .inl ⟨l, xs, _, xs[j], rfl, rfl, SqL.of (bt _ _ nl hl), atI_nat (List.getElem?_eq_getElem hj), ?_⟩
      exact q _ H' (List.getElem_mem hj) hh' bt
    · have sz : x.length ≤ sizeLine := Nat.le_trans (show x.length ≤ 1000 by omega) (by decide)
      refine .inr ⟨x, rfl, sz, h, o, (x.length : Int), n, rfl, by omega, by omega, hd, hn, fun d H' d0 d1 hh' bt => ?_⟩
      obtain ⟨j, rfl⟩ : ∃ j : Nat, d = (j : Int) := ⟨d.toNat, by omega⟩
      have hj : j < x.cps.toList.length := by
        have : x.length = x.cps.toList.length := by rw [Array.length_toList]; rfl
        omega
      refine .inr (.inr ⟨x, _, x.cps.toList[j], rfl, rfl, sz, atI_nat (List.getElem?_eq_getElem hj), ?_⟩)
      exact q _ H' (List.getElem_mem hj) hh' bt
    · have pos : 0 < xs.length := List.length_pos_iff.mpr ne
      have nl : l ∉ [h, o] := fun m => by
        obtain ⟨gs, m', c', r1, r2, _⟩ := hd
        simp only [List.mem_cons, List.not_mem_nil, or_false] at m
        rcases m with z | z
        · rw [z, r1] at hl; cases hl
        · rw [z, r2] at hl; cases hl
      refine .inl ⟨l, xs, rfl, .inr (SqT.of hl), h, o, (xs.length : Int), n, rfl, by omega, by omega, hd, hn, fun d H' d0 d1 hh' bt => ?_⟩
      obtain ⟨j, rfl⟩ : ∃ j : Nat, d = (j : Int) := ⟨d.toNat, by omega⟩
      have hj : j < xs.length := by omega
      refine .inr (.inl ⟨l, xs, _, xs[j], rfl, rfl, SqT.of (bt _ _ nl hl), atI_nat (List.getElem?_eq_getElem hj), ?_⟩)
      exact q _ H' (List.getElem_mem hj) hh' bt
theorem join_cps' : ∀ ys : List Str, (Str.join "" ys).cps.toList = (ys.map fun y => y.cps.toList).flatten
  | [] => rfl
  | [x] => by simp [Str.join]
  | x :: z :: r => by
    show (x ++ "" ++ Str.join "" (z :: r)).cps.toList = _
    rw [Str.cps_append, Array.toList_append, Str.cps_append, Array.toList_append, join_cps' (z :: r)]
    have e0 : (("" : Str)).cps.toList = [] := rfl
    rw [e0, List.append_nil]
    rfl
theorem join_cps (ys : List Str) : (Txt.join "" ys).cps.toList = (ys.map fun y => y.cps.toList).flatten := by
  rw [TL.join_eq]
  exact join_cps' ys
theorem len_cps (x : Str) : x.length = x.cps.toList.length := by
  rw [Array.length_toList]
  rfl
theorem join_len (ys : List Str) : (Txt.join "" ys).length = (ys.map (·.length)).sum := by
  rw [len_cps, join_cps, List.length_flatten, List.map_map]
  congr 1
theorem ones_sum : ∀ ys : List Str, (∀ y ∈ ys, y.length = 1) → (ys.map (·.length)).sum = ys.length
  | [], _ => rfl
  | y :: r, h => by
    rw [List.map_cons, List.sum_cons, h y List.mem_cons_self, ones_sum r (fun z hz => h z (List.mem_cons_of_mem _ hz)), List.length_cons]
    omega
def letts (x : Str) : Prop := ∀ c ∈ x.cps.toList, c ∈ small.cps.toList
def spWord : Sp := fun vs H Q _ => ∃ (h o : Addr) (n a b : Int), vs = [.ref h, .int a, .int b] ∧ 0 ≤ a ∧ a ≤ b ∧ b ≤ 50 ∧ Hd h o n H ∧ n + 100 ≤ far ∧
  ∀ (x : Str) H', a ≤ x.length → x.length ≤ b → letts x → Hd h o (n + 60) H' → Bt [h, o] H H' → Q (.str x) H'
theorem ok_word {f : Addr} {fd : FuncData} (D : Df K mg "_law_word" ["_law_hand_here", "_law_least", "_law_most"] sWord f fd) (T : Txt K mg) (cT : Ca P w K mg base 1 "_law_take" ["_law_hand_here", "_law_many"] spTake) (cP : Ca P w K mg base 2 "_law_pick" ["_law_hand_here", "_law_some"] spPick) : FnOk P w K mg base CX0 3 f fd ["_law_hand_here", "_law_least", "_law_most"] spWord := by
  refine D.fn.ok scWord (fun vs H Q E h => ?_) (fun cdv A outer s H vs Q E hr h => ?_)
  · obtain ⟨h, o, n, a, b, rfl, a0, ab, b50, hd, hn, q⟩ := h
    rfl
  · obtain ⟨h, o, n, a, b, rfl, a0, ab, b50, hd, hn, q⟩ := h
    refine ⟨_, (pss_cons (ps_set (i := 3) scWord.nd rfl (.inr rfl) pe_str)
      (pss_one (ps_ret (pe_m1 F.slot_str_join F.type_str_join mt_join pe_str (pe_lc (own := [("_law_k", 4)]) (g := gName 4) (tt := tYes) (by rfl) scWord.nd (pi_range1 (by rfl) T.range (pa_cons (pe_op op_add (pv 1) (pe_ca cT hr (by decide) (by rfl) (pa_cons (pv 0) (pa_cons (pe_op op_add (pe_op op_sub (pv 2) (pv 1)) pe_int) pa_nil)))) pa_nil)) (blkOk_by (own := [("_law_k", 4)]) (N := ["_law_hand_here", "_law_least", "_law_most", "_law_letters", "_law_k"]) (sc := defScope sWord) (by decide +kernel)) (fun _ _ _ _ _ => pg_name (i := 4) scWord.nd rfl (.inl rfl)) (fun _ _ _ _ _ => pts_nil) (fun _ _ _ _ _ => pe_ca cP hr (by decide) (by rfl) (pa_cons (pv 0) (pa_cons (pv 3) pa_nil)))))))), ?_⟩
    have fr : n + 100 ≤ 1000000 := hn
    have lf : small.length = 26 := by decide +kernel
    refine ⟨⟨_, rfl⟩, ?_⟩
    refine ⟨_, rfl, _, rfl, _, rfl, _, rfl, b, a, rfl, rfl, _, 1, rfl, rfl, h, o, b - a + 1, n, rfl, by omega, by omega, hd, by show n ≤ 1000000; omega, fun d H1 d0 d1 h1 b1 => ?_⟩
    refine ⟨a, d, rfl, rfl, _, rfl, by omega, by omega, fun L nL => ?_⟩
    have s1 := same_upd nL (o := .lst [])
    refine lc_range (lo := 0) (fun i Hi => ∃ ys : List Str, Hi L = some (.lst (ys.map V.str)) ∧ ys.length = i ∧ (∀ y ∈ ys, ∃ c ∈ small.cps.toList, y = ⟨#[c]⟩) ∧ Hd h o (n + 1 + i) Hi ∧ Bt [h, o] H1 Hi) ?_ ?_ ?_
    · exact ⟨[], upd_same, rfl, by simp, (h1.same s1).mono (by omega), Bt.of s1⟩
    · rintro i Hi hi ⟨ys, eL, ly, cy, hdi, bi⟩
      have hi' : i < (a + d).toNat := hi
      refine ⟨rfl, ?_⟩
      unfold tYes
      refine iteT ?_
      refine ⟨_, rfl, _, rfl, h, o, n + 1 + i, _, rfl, hdi, by show n + 1 + (i : Int) ≤ 1000000; omega, .inr (.inl ⟨small, rfl, by rw [lf]; decide, by rw [lf]; decide, fun c H2 mc h2 b2 => ?_⟩)⟩
      have nLo : L ∉ [h, o] := h1.fresh nL
      have oth : ∀ b ∈ [h, o], b ≠ L := fun b mb z => nLo (by rw [← z]; exact mb)
      refine ⟨_, b2 _ _ nLo eL, ?_, ys ++ [⟨#[c]⟩], ?_, by rw [List.length_append, ly]; rfl, ?_, ?_, ?_⟩
      · rw [List.length_map, ly]
        exact Nat.lt_of_le_of_lt (show i ≤ 100 by omega) (by decide)
      · rw [upd_same, List.map_append]
        rfl
      · intro y hy
        rcases List.mem_append.mp hy with z | z
        · exact cy y z
        · exact ⟨c, mc, List.mem_singleton.mp z⟩
      · exact (h2.upd nLo).mono (by omega)
      · intro b x nb e
        have bL : b ≠ L := ne_of_none e nL
        rw [upd_ne bL]
        exact b2 b x nb (bi b x nb e)
    · rintro He ⟨ys, eL, ly, cy, hde, be⟩
      have le : (ys.map (·.length)).sum = ys.length := ones_sum ys (fun y hy => by obtain ⟨c, _, e⟩ := cy y hy; rw [e]; rfl)
      have ly' : (ys.length : Int) = a + d := by
        have : ys.length = (a + d).toNat := ly
        omega
      refine ⟨_, L, ys, rfl, rfl, .inl (SqL.of eL), ?_, ?_⟩
      · rw [le]
        have e0 : (("" : Str)).length = 0 := rfl
        rw [e0]
        omega
      · have jl : (Txt.join "" ys).length = ys.length := by rw [join_len, le]
        refine q _ _ (by rw [jl]; omega) (by rw [jl]; omega) ?_ (hde.mono ?_) (b1.trans be)
        · intro c hc
          rw [join_cps] at hc
          obtain ⟨l, ml, hcl⟩ := List.mem_flatten.mp hc
          obtain ⟨y, my, rfl⟩ := List.mem_map.mp ml
          obtain ⟨c', mc', e⟩ := cy y my
          rw [e] at hcl
          have : c = c' := by simpa using hcl
          rw [this]
          exact mc'
        · have : (((a + d).toNat : Nat) : Int) ≤ 50 := by omega
          show n + 1 + (((a + d).toNat : Nat) : Int) ≤ n + 60
          omega
end
end K16
set_option Elab.async false
set_option linter.all false
set_option maxRecDepth 100000
set_option maxHeartbeats 4000000
set_option pp.maxSteps 400
set_option pp.deepTerms false
namespace K16
open PySem PySem.Spec PyProof.Rows L2
open Xk Az
section
variable {P : Program} {w : World} {K : PySem.W.Frag} {mg : Str → Option Value} {base : Heap}
def lawSigns : Str := "abcdefghijklmnopqrstuvwxyzABCDEFGHIJKLMNOPQRSTUVWXYZ0123456789'-.     "
theorem lawSigns_in : ∀ c ∈ lawSigns.cps.toList, c ∈ signs.cps.toList := by decide +kernel
/-- a text of a name as far as it is written -/
def Half (l : List Nat) : Prop := (∀ c ∈ l, c ∈ signs.cps.toList) ∧ l.head? ≠ some 32 ∧ ∀ i, ¬ (l[i]? = some 32 ∧ l[i + 1]? = some 32)
def Clean (l : List Nat) : Prop := Half l ∧ l.getLast? ≠ some 32
theorem half_nil : Half [] := ⟨by simp, by simp, by simp⟩
theorem Half.snoc {l : List Nat} {c : Nat} (h : Half l) (m : c ∈ signs.cps.toList) (e : c = 32 → l ≠ [] ∧ l.getLast? ≠ some 32) : Half (l ++ [c]) := by
  obtain ⟨h1, h2, h3⟩ := h
  refine ⟨fun d hd => ?_, ?_, fun i => ?_⟩
  · rcases List.mem_append.mp hd with z | z
    · exact h1 d z
    · rw [List.mem_singleton.mp z]; exact m
  · cases l with
    | nil =>
      intro z
      have : c = 32 := by simpa using z
      exact (e this).1 rfl
    | cons a r => simpa using h2
  · rintro ⟨e1, e2⟩
    by_cases il : i + 1 < l.length
    · rw [List.getElem?_append_left (by omega)] at e1
      rw [List.getElem?_append_left il] at e2
      exact h3 i ⟨e1, e2⟩
    · by_cases ie : i + 1 = l.length
      · rw [List.getElem?_append_right (by omega)] at e2
        rw [List.getElem?_append_left (by omega)] at e1
        have z : i + 1 - l.length = 0 := by omega
        rw [z] at e2
        have : c = 32 := by simpa using e2
        refine (e this).2 ?_
        rw [List.getLast?_eq_getElem?, show l.length - 1 = i by omega]
        exact e1
      · rw [List.getElem?_eq_none (by simp; omega)] at e2
        cases e2
theorem at_last {l : List Nat} (h : l ≠ []) : atI l (-1) = l.getLast? := by
  have p : 0 < l.length := List.length_pos_iff.mpr h
  unfold atI ixN
  rw [if_neg (by omega), if_pos (by omega)]
  rw [List.getLast?_eq_getElem?]
  simp only [Option.bind_some]
  congr 1
  omega
theorem one_inj {c d : Nat} (h : (⟨#[c]⟩ : Str) = ⟨#[d]⟩) : c = d := by
  injection h with h
  simpa using h
theorem str_nil {x : Str} (h : x.cps.toList = []) : x = "" := by
  obtain ⟨a⟩ := x
  have : a = #[] := by simpa using h
  rw [this]
  rfl
def spText : Sp := fun vs H Q _ => ∃ (h o : Addr) (n many : Int), vs = [.ref h, .int many] ∧ 0 ≤ many ∧ many ≤ 60 ∧ Hd h o n H ∧ n + 200 ≤ far ∧
  ∀ (x : Str) H', (x.length : Int) = many → Clean x.cps.toList → Hd h o (n + 60) H' → Bt [h, o] H H' → Q (.str x) H'
theorem ok_text {f : Addr} {fd : FuncData} (D : Df K mg "_law_text" ["_law_hand_here", "_law_many"] sText f fd) (T : Txt K mg) (cT : Ca P w K mg base 1 "_law_take" ["_law_hand_here", "_law_many"] spTake) (cP : Ca P w K mg base 2 "_law_pick" ["_law_hand_here", "_law_some"] spPick) : FnOk P w K mg base CX0 3 f fd ["_law_hand_here", "_law_many"] spText := by
  refine D.fn.ok scText (fun vs H Q E h => ?_) (fun cdv A outer s H vs Q E hr h => ?_)
  · obtain ⟨h, o, n, many, rfl, m0, m60, hd, hn, q⟩ := h
    rfl
  · obtain ⟨h, o, n, many, rfl, m0, m60, hd, hn, q⟩ := h
    refine ⟨_, (pss_cons (ps_set (i := 2) scText.nd rfl (.inl rfl) pe_str)
      (pss_cons (ps_set (i := 3) scText.nd rfl (.inl rfl) pe_str)
      (pss_cons (ps_for PassesOwn.never rfl (pi_range1 (by rfl) T.range (pa_cons (pv 1) pa_nil)) (pg_name (i := 4) scText.nd rfl (.inl rfl)) (pss_cons (ps_set (i := 5) scText.nd rfl (.inl rfl) (pe_ca cP hr (by decide) (by rfl) (pa_cons (pv 0) (pa_cons (pv 2) pa_nil))))
      (pss_cons (ps_if (PW.pt (pw_and (pt_cmpR op_eq (pv 5) pe_str (nomark _)) (pw_and1 (PW.pt (pw_or (pt_cmpR op_eq (pv 3) pe_str (nomark _)) (pw_or (pt_cmpR op_eq (pe_ix ix_str (pv 3) (pe_un un_neg pe_int) (fun _ _ => rfl)) pe_str (nomark _)) (pw_or1 (pt_cmpR op_eq (pv 4) (pe_op op_sub (pv 1) pe_int) (nomark _))))))))) (pss_one (ps_set (i := 5) scText.nd rfl (.inl rfl) pe_str)) pss_nil)
      (pss_one (ps_set (i := 3) scText.nd rfl (.inl rfl) (pe_op op_add_str (pv 3) (pv 5)))))))
      (pss_one (ps_ret (pv 3)))))), ?_⟩
    have fr : n + 200 ≤ 1000000 := hn
    refine ⟨_, rfl, many, rfl, by omega, by omega, for_range (lo := 0) (n := many.toNat) (fun k σ Hi => ∃ (x : Str) (c4 c5 : Option V), σ = [some (.ref h), some (.int many), some (.str lawSigns), some (.str x), c4, c5] ∧ x.length = k ∧ Half x.cps.toList ∧ ((k : Int) = many → x.cps.toList.getLast? ≠ some 32) ∧ Hd h o (n + k) Hi ∧ Bt [h, o] H Hi) ?_ ?_ ?_⟩
    · exact ⟨"", none, none, rfl, rfl, half_nil, fun _ => by decide, hd.mono (by omega), Bt.refl _ _⟩
    · rintro k σ Hi hk ⟨x, c4, c5, rfl, lx, hf, _, hdi, bi⟩
      have km : (k : Int) < many := by omega
      refine ⟨_, rfl, _, rfl, h, o, n + k, _, rfl, hdi, by show n + (k : Int) ≤ 1000000; omega, .inr (.inl ⟨lawSigns, rfl, by decide +kernel, by decide +kernel, fun c H2 mc h2 b2 => ?_⟩)⟩
      have sx : x.length ≤ 100 := by omega
      have fit : x.length + 1 ≤ sizeLine := Nat.le_trans (show x.length + 1 ≤ 200 by omega) (by decide)
      have bt := bi.trans b2
      have nx : ∀ (c' : Nat), c' ∈ signs.cps.toList → (c' = 32 → x.cps.toList ≠ [] ∧ x.cps.toList.getLast? ≠ some 32 ∧ (k : Int) ≠ many - 1) → ∀ c4 c5 : Option V, ∃ (x' : Str) (c4' c5' : Option V), [some (V.ref h), some (.int many), some (.str lawSigns), some (.str (x ++ ⟨#[c']⟩)), c4, c5] = [some (V.ref h), some (.int many), some (.str lawSigns), some (.str x'), c4', c5'] ∧ x'.length = k + 1 ∧ Half x'.cps.toList ∧ (((k + 1 : Nat) : Int) = many → x'.cps.toList.getLast? ≠ some 32) ∧ Hd h o (n + ((k + 1 : Nat) : Int)) H2 ∧ Bt [h, o] H H2 := fun c' m1 m2 c4 c5 => by
        refine ⟨x ++ ⟨#[c']⟩, c4, c5, rfl, ?_, ?_, fun ek => ?_, h2.mono (by omega), bt⟩
        · rw [strLen_append, lx]; rfl
        · rw [Str.cps_append, Array.toList_append]
          exact hf.snoc m1 (fun e => ⟨(m2 e).1, (m2 e).2.1⟩)
        · rw [Str.cps_append, Array.toList_append]
          intro e
          have : c' = 32 := by simpa using e
          exact (m2 this).2.2 (by omega)
      have qm : (113 : Nat) ∈ signs.cps.toList := by decide +kernel
      have mc' : c ∈ signs.cps.toList := lawSigns_in c mc
      refine ⟨_, rfl, rfl, _, rfl, ite2 (fun e => ?_) (fun e => ?_)⟩
      · have ec : c = 32 := one_inj (V.str.inj (of_decide_eq_true e))
        have go : ∀ c5 : Option V, _ := fun c5 => nx 113 qm (fun z => by cases z) (some (.int (0 + (k : Int)))) c5
        refine ⟨_, rfl, rfl, _, rfl, ite2 (fun e1 => ?_) (fun e1 => ?_)⟩
        · exact ⟨_, rfl, _, rfl, x, "q", rfl, rfl, fit, go _⟩
        · have xn : x.cps.toList ≠ [] := fun z => e1 (decide_eq_true (by rw [str_nil z]))
          obtain ⟨d, ed⟩ : ∃ d, x.cps.toList.getLast? = some d := by
            cases z : x.cps.toList.getLast? with
            | none => exact absurd (List.getLast?_eq_none_iff.mp z) xn
            | some d => exact ⟨d, rfl⟩
          refine ⟨_, rfl, 1, rfl, x, -1, d, rfl, rfl, Nat.le_trans (Nat.le_succ _) fit, (at_last xn).trans ed, rfl, _, rfl, ite2 (fun e2 => ?_) (fun e2 => ?_)⟩
          · exact ⟨_, rfl, _, rfl, x, "q", rfl, rfl, fit, go _⟩
          · refine ⟨_, rfl, _, rfl, many, 1, rfl, rfl, rfl, _, rfl, ite2 (fun e3 => ?_) (fun e3 => ?_)⟩
            · exact ⟨_, rfl, _, rfl, x, "q", rfl, rfl, fit, go _⟩
            · refine ⟨_, rfl, _, rfl, x, _, rfl, rfl, fit, nx c mc' (fun _ => ⟨xn, fun z => e2 ?_, fun z => e3 ?_⟩) _ _⟩
              · rw [ed] at z
                exact decide_eq_true (by rw [Option.some.inj z]; rfl)
              · exact decide_eq_true (show V.int (0 + (k : Int)) = V.int (many - 1) by congr 1; omega)
      · refine ⟨_, rfl, _, rfl, x, _, rfl, rfl, fit, nx c mc' (fun z => absurd (decide_eq_true (by rw [z]; rfl)) e) _ _⟩
    rintro σ He ⟨x, c4, c5, rfl, lx, hf, la, hde, be⟩
    have lx' : (x.length : Int) = many := by
      have : x.length = many.toNat := lx
      omega
    refine ⟨_, rfl, q x He lx' ⟨hf, la (by omega)⟩ (hde.mono ?_) be⟩
    show n + ((many.toNat : Nat) : Int) ≤ n + 60
    omega
end
end K16
set_option Elab.async false
set_option linter.all false
set_option maxRecDepth 100000
set_option maxHeartbeats 4000000
set_option pp.maxSteps 400
set_option pp.deepTerms false
namespace K16
open PySem PySem.Spec PyProof.Rows L2
open Xk Az
section
variable {P : Program} {w : World} {K : PySem.W.Frag} {mg : Str → Option Value} {base : Heap}
section
variable {X : Cx}
theorem vals_map {α : Type} (g : α → V) (R : α → Value → Prop) (hR : ∀ a v, R a v → RelV (g a) v) : ∀ (as : List α) (us : List Value), as.length = us.length → (∀ (i : Nat) (a : α) (u : Value), as[i]? = some a → us[i]? = some u → R a u) → Vals (as.map g) us
  | [], [], _, _ => .nil
  | a :: as, u :: us, hl, h => .cons (hR a u (h 0 a u rfl rfl)) (vals_map g R hR as us (by simpa using hl) fun i b v e1 e2 => h (i + 1) b v (by simpa using e1) (by simpa using e2))
  | [], _ :: _, hl, _ => by simp at hl
  | _ :: _, [], hl, _ => by simp at hl
def sg1 (c : Nat) : V := .str ⟨#[c]⟩
theorem cr_listS (hc : X.calm = true) : CallR X (.type "list") (fun xs H Q => ∃ x : Str, xs = [.str x] ∧ x.length ≤ sizeLine ∧ ∀ l, H l = none → Q (.ref l) (upd H l (.lst (x.cps.toList.map sg1)))) := by
  intro pins s σ H xs us Q I r h
  obtain ⟨x, rfl, hz, q⟩ := h
  obtain ⟨u, rfl, rx⟩ := vals1 r
  obtain ⟨t, rfl⟩ := rx
  refine call_list_str (I.ok.hd hc) x t (fun h' tk acc c kp e it => ?_) hz
  have v : Vals (x.cps.toList.map sg1) acc.toList := by
    refine vals_map sg1 (fun c u => ∃ t, u = Value.str ⟨#[c]⟩ t) (fun a v ⟨t, e⟩ => ⟨t, e⟩) _ _ (by rw [Array.length_toList, Array.length_toList, it.1]) fun i a u e1 e2 => ?_
    obtain ⟨c', t', q1, q2⟩ := it.2 i u (by rw [← Array.getElem?_toList]; exact e2)
    rw [← Array.getElem?_toList, e1] at q1
    exact ⟨t', by rw [Option.some.inj q1]; exact q2⟩
  have hl : (x.cps.toList.map sg1).length ≤ sizeLine := by rw [List.length_map, Array.length_toList]; exact hz
  exact ⟨.ref s.heap.objs.size, _, I.laid (t' := tk) kp (Nat.le_refl _) (show ObjOk X.prog X.w _ h' _ (.lst (x.cps.toList.map sg1)) from ⟨hl, acc.toList, c, v, by simpa using e⟩), rfl, q _ (I.hok.fresh (Nat.le_refl _))⟩
end
theorem Bt.none {A : List Addr} {H H' : Hp} {p : Addr} (b : Bt A H H') (m : p ∉ A) (e : H' p = none) : H p = none := by
  cases z : H p with
  | none => rfl
  | some x =>
    rw [b p x m z] at e
    cases e
/-- tuples stand -/
def Tp (H H' : Hp) : Prop := ∀ b xs, H b = some (.tup xs) → H' b = some (.tup xs)
theorem Hd.tp {h o : Addr} {n : Int} {H H' : Hp} (a : Hd h o n H) (s : Bt [h, o] H H') : Tp H H' := fun b xs e => by
  obtain ⟨gs, m, c, r1, r2, _⟩ := a
  refine s b _ (fun mb => ?_) e
  simp only [List.mem_cons, List.not_mem_nil, or_false] at mb
  rcases mb with z | z
  · rw [z, r1] at e; cases e
  · rw [z, r2] at e; cases e
theorem tp_upd {H : Hp} {p : Addr} {xs : List V} {x : HO} (e : H p = some (.lst xs)) : Tp H (upd H p x) := fun b ys eb => by
  rw [upd_ne (fun z => by rw [z, e] at eb; cases eb)]
  exact eb
theorem tp_same {H H' : Hp} (s : L2.Same H H') : Tp H H' := fun b ys e => s b _ e
theorem Tp.trans {H H1 H2 : Hp} (p : Tp H H1) (q : Tp H1 H2) : Tp H H2 := fun b xs e => q b xs (p b xs e)
def Nm (H : Hp) (v : V) : Prop := ∃ (t : Addr) (a b : Str), v = .ref t ∧ H t = some (.tup [.str a, .str b]) ∧ letts a ∧ 2 ≤ a.length ∧ a.length ≤ 3 ∧ Clean b.cps.toList ∧ 1 ≤ b.length ∧ b.length ≤ 40
theorem Nm.tp {H H' : Hp} {v : V} (a : Nm H v) (s : Tp H H') : Nm H' v := by
  obtain ⟨t, x, y, e, r1, r⟩ := a
  exact ⟨t, x, y, e, s _ _ r1, r⟩
def alnum : Str := "abcdefghijklmnopqrstuvwxyzABCDEFGHIJKLMNOPQRSTUVWXYZ0123456789"
theorem alnum_ok : ∀ c ∈ alnum.cps.toList, c ∈ signs.cps.toList ∧ c ≠ 32 := by decide +kernel
theorem ins_cps {st : Str} {k c : Nat} (h : k ≤ st.cps.toList.length) : (cutS st none (some (k : Int)) ++ ⟨#[c]⟩ ++ cutS st (some (k : Int)) none).cps.toList = st.cps.toList.take k ++ c :: st.cps.toList.drop k := by
  rw [len_cps st |>.symm] at h
  rw [Str.cps_append, Array.toList_append, Str.cps_append, Array.toList_append]
  have e1 : HT.sIx st.length 0 (some (k : Int)) = k := by rw [HT.sIx_nat]; omega
  have e2 : HT.sIx st.length st.length (some (k : Int)) = k := by rw [HT.sIx_nat]; omega
  have e3 : HT.sIx st.length 0 none = 0 := rfl
  have e4 : HT.sIx st.length st.length none = st.length := rfl
  unfold cutS
  rw [e1, e2, e3, e4]
  simp only [List.drop_zero, Nat.sub_zero, List.append_assoc, List.singleton_append]
  congr 2
  rw [List.take_of_length_le (by rw [List.length_drop, ← len_cps]; omega)]
theorem ins_len {st : Str} {k c : Nat} (h : k ≤ st.cps.toList.length) : (cutS st none (some (k : Int))).length + (cutS st (some (k : Int)) none).length ≤ st.length ∧ (cutS st none (some (k : Int))).length ≤ st.length ∧ (cutS st none (some (k : Int)) ++ ⟨#[c]⟩ ++ cutS st (some (k : Int)) none).length = st.length + 1 := by
  have e := congrArg List.length (ins_cps (c := c) h)
  have l1 : (cutS st none (some (k : Int)) ++ ⟨#[c]⟩ ++ cutS st (some (k : Int)) none).length = st.length + 1 := by
    rw [len_cps, e, List.length_append, List.length_cons, List.length_take, List.length_drop, len_cps st]
    omega
  rw [strLen_append, strLen_append] at l1
  have o1 : (⟨#[c]⟩ : Str).length = 1 := rfl
  rw [strLen_append, strLen_append]
  omega
theorem ins_at {l : List Nat} {k c : Nat} (hk : k ≤ l.length) (i : Nat) : (l.take k ++ c :: l.drop k)[i]? = if i < k then l[i]? else if i = k then some c else l[i - 1]? := by
  rw [List.getElem?_append, List.length_take, Nat.min_eq_left hk]
  split
  · rename_i h
    rw [List.getElem?_take, if_pos h]
  · split
    · rename_i h
      rw [h, Nat.sub_self]
      rfl
    · rw [show i - k = (i - 1 - k) + 1 by omega, List.getElem?_cons_succ, List.getElem?_drop]
      congr 1
      omega
theorem Clean.ins {l : List Nat} {k c : Nat} (h : Clean l) (hk : k ≤ l.length) (m : c ∈ signs.cps.toList) (ne : c ≠ 32) : Clean (l.take k ++ c :: l.drop k) := by
  obtain ⟨⟨h1, h2, h3⟩, h4⟩ := h
  have nc : some c ≠ some 32 := fun z => ne (Option.some.inj z)
  refine ⟨⟨fun d hd => ?_, ?_, fun i => ?_⟩, ?_⟩
  · rcases List.mem_append.mp hd with z | z
    · exact h1 d (List.mem_of_mem_take z)
    · rcases List.mem_cons.mp z with z | z
      · rw [z]; exact m
      · exact h1 d (List.mem_of_mem_drop z)
  · rw [List.head?_eq_getElem?, ins_at hk]
    rw [List.head?_eq_getElem?] at h2
    split
    · exact h2
    · split
      · exact nc
      · omega
  · rw [ins_at hk, ins_at hk]
    rintro ⟨e1, e2⟩
    by_cases a : i + 1 < k
    · rw [if_pos (by omega)] at e1
      rw [if_pos a] at e2
      exact h3 i ⟨e1, e2⟩
    · by_cases b : i + 1 = k
      · rw [if_neg (by omega), if_pos b] at e2
        exact nc e2
      · by_cases d : i = k
        · rw [if_neg (by omega), if_pos d] at e1
          exact nc e1
        · rw [if_neg (by omega), if_neg d] at e1
          rw [if_neg (by omega), if_neg (by omega), show i + 1 - 1 = (i - 1) + 1 by omega] at e2
          exact h3 (i - 1) ⟨e1, e2⟩
  · rw [List.getLast?_eq_getElem?, List.length_append, List.length_cons, List.length_take, List.length_drop, Nat.min_eq_left hk, show k + (l.length - k + 1) - 1 = l.length by omega, ins_at hk]
    rw [List.getLast?_eq_getElem?] at h4
    rw [if_neg (by omega)]
    split
    · exact nc
    · exact h4
theorem erase_map {α β : Type} (f : α → β) : ∀ (l : List α) (j : Nat), (l.map f).eraseIdx j = (l.eraseIdx j).map f
  | [], _ => rfl
  | _ :: _, 0 => rfl
  | a :: r, j + 1 => by
    show f a :: (r.map f).eraseIdx j = f a :: (r.eraseIdx j).map f
    rw [erase_map f r j]
def Asc7 (x : Str) : Prop := ∀ c ∈ x.cps.toList, c < 128
theorem Asc7.ok {x : Str} (h : Asc7 x) : PyData.strOk x = true := by
  unfold PyData.strOk
  rw [← Array.all_toList, List.all_eq_true]
  intro c hc
  exact decide_eq_true (Nat.lt_of_lt_of_le (h c hc) (by decide))
theorem small7 : ∀ c ∈ small.cps.toList, c < 128 := by decide +kernel
theorem signs7 : ∀ c ∈ signs.cps.toList, c < 128 := by decide +kernel
theorem letts.asc {x : Str} (h : letts x) : Asc7 x := fun c hc => small7 c (h c hc)
theorem Clean.asc {x : Str} (h : Clean x.cps.toList) : Asc7 x := fun c hc => signs7 c (h.1.1 c hc)
theorem names_dp {H : Hp} : ∀ xs : List V, (∀ v ∈ xs, Nm H v) → ∃ ds, DpAll K H xs ds ∧ PyData.canLayAll0 ds = true ∧ PyData.depthAll ds ≤ 3
  | [], _ => ⟨[], .nil, by simp [PyData.canLayAll0], by simp [PyData.depthAll]⟩
  | v :: r, h => by
    obtain ⟨ds, q1, q2, q3⟩ := names_dp r (fun w hw => h w (List.mem_cons_of_mem _ hw))
    obtain ⟨t, a, b, rfl, e, la, _, _, lb, _⟩ := h v List.mem_cons_self
    refine ⟨.tuple [.str a, .str b] :: ds, .cons (.tup (SqT.of e) (.cons (.str a) (.cons (.str b) .nil))) q1, ?_, ?_⟩
    · simp [PyData.canLayAll0, PyData.canLay0, q2, la.asc.ok, lb.asc.ok]
    · simp only [PyData.depthAll, PyData.depth]
      omega
theorem shaped_two {a b : Str} (ha : Asc7 a) (hb : Asc7 b) : SeqAt.shaped (.tuple [.str a, .str b]) = true := by
  unfold SeqAt.shaped
  have h1 : (PyData.tuple [.str a, .str b]).canLay0 = true := by simp [PyData.canLay0, PyData.canLayAll0, ha.ok, hb.ok]
  have h2 : (PyData.tuple [.str a, .str b]).depth ≤ 64 := by simp only [PyData.depth, PyData.depthAll]; omega
  rw [h1, decide_eq_true h2]
  rfl
theorem shaped_list {ds : List PyData} (q1 : PyData.canLayAll0 ds = true) (q2 : PyData.depthAll ds ≤ 3) : SeqAt.shaped (.list ds) = true := by
  unfold SeqAt.shaped
  have h1 : (PyData.list ds).canLay0 = true := by simp only [PyData.canLay0]; exact q1
  have h2 : (PyData.list ds).depth ≤ 64 := by simp only [PyData.depth]; omega
  rw [h1, decide_eq_true h2]
  rfl
theorem r65 {k : Nat} {A : Around} (r : Room k A) : A.units + 65 < cLine := by have := r.un; omega
def spNames : Sp := fun vs H Q _ => ∃ (h o : Addr) (n : Int), vs = [.ref h, .int 10] ∧ Hd h o n H ∧ n + 1000 ≤ far ∧
  ∀ (L : Addr) (xs : List V) H', H' L = some (.lst xs) → L ∉ [h, o] → xs.length = 10 → (∀ v ∈ xs, Nm H' v) → Hd h o (n + 700) H' → Bt [h, o] H H' → Q (.ref L) H'
end
end K16
set_option Elab.async false
set_option linter.all false
set_option maxRecDepth 100000
set_option maxHeartbeats 4000000
set_option pp.maxSteps 400
set_option pp.deepTerms false
namespace K16
open PySem PySem.Spec PyProof.Rows L2
open Xk Az
section
variable {P : Program} {w : World} {K : PySem.W.Frag} {mg : Str → Option Value} {base : Heap}
def isStr : PyData → Bool
  | .str _ => true
  | _ => false
def isTup : PyData → Bool
  | .tuple _ => true
  | _ => false
theorem z_str : ∀ d : PyData, PySem.W.kitOne K (.type (kindD d)) (.type "str") = some (isStr d)
  | .none => kit_ty (a := "NoneType") (b := "str") (r := false) (by decide +kernel)
  | .bool _ => kit_ty (a := "bool") (b := "str") (r := false) (by decide +kernel)
  | .int _ => kit_ty (a := "int") (b := "str") (r := false) (by decide +kernel)
  | .str _ => kit_ty (a := "str") (b := "str") (r := true) (by decide +kernel)
  | .list _ => kit_ty (a := "list") (b := "str") (r := false) (by decide +kernel)
  | .tuple _ => kit_ty (a := "tuple") (b := "str") (r := false) (by decide +kernel)
  | .dict _ => kit_ty (a := "dict") (b := "str") (r := false) (by decide +kernel)
theorem z_tup : ∀ d : PyData, PySem.W.kitOne K (.type (kindD d)) (.type "tuple") = some (isTup d)
  | .none => kit_ty (a := "NoneType") (b := "tuple") (r := false) (by decide +kernel)
  | .bool _ => kit_ty (a := "bool") (b := "tuple") (r := false) (by decide +kernel)
  | .int _ => kit_ty (a := "int") (b := "tuple") (r := false) (by decide +kernel)
  | .str _ => kit_ty (a := "str") (b := "tuple") (r := false) (by decide +kernel)
  | .list _ => kit_ty (a := "list") (b := "tuple") (r := false) (by decide +kernel)
  | .tuple _ => kit_ty (a := "tuple") (b := "tuple") (r := true) (by decide +kernel)
  | .dict _ => kit_ty (a := "dict") (b := "tuple") (r := false) (by decide +kernel)
def chk (x sg : Str) : Bool := x.cps.toList.all fun c => decide (c ∈ sg.cps.toList)
def ofT (d : PyData) (sg : Str) (a b : Int) : Bool := match d with
  | .str x => decide (a ≤ (x.length : Int)) && decide ((x.length : Int) ≤ b) && chk x sg
  | _ => false
def spTextOf (K : PySem.W.Frag) : Sp := fun vs H Q _ => ∃ (v : V) (d : PyData) (sg : Str) (a b : Int), vs = [v, .str sg, .int a, .int b] ∧ Dz K H v d ∧ (∀ x, d = .str x → x.length ≤ 2000) ∧ ∀ H', L2.Same H H' → Q (.bl (ofT d sg a b)) H'
theorem ok_of {f : Addr} {fd : FuncData} (D : Df K mg "is_text_of" ["thing", "signs", "least", "most"] sIsTextOf f fd) (T : Txt K mg) : FnOk P w K mg base CX0 1 f fd ["thing", "signs", "least", "most"] (spTextOf K) := by
  refine D.fn.ok scIsTextOf (fun vs H Q E h => ?_) (fun cdv A outer s H vs Q E hr h => ?_)
  · obtain ⟨v, d, sg, a, b, rfl, hz, sz, q⟩ := h
    rfl
  · obtain ⟨v, d, sg, a, b, rfl, hz, sz, q⟩ := h
    refine ⟨_, (pss_cons (ps_if (PW.pt (pw_or (pt_not (pt_val (pe_callB call_isi (by rfl) T.isi (by decide +kernel) (pa_cons (pv 0) (pa_cons (pe_bltn (v := .ty "str") (by rfl) T.str (by decide +kernel) rfl) pa_nil))))) (pw_or1 (pt_not (pt_chain op_le op_le (pv 2) (pe_callB call_len_str (by rfl) T.len PySem.boot_len (pa_cons (pv 0) pa_nil)) (pv 3)))))) (pss_one (ps_ret pe_bl)) pss_nil)
      (pss_one (ps_ret (pe_callB (cr_all (by rfl)) (by rfl) T.all (by decide +kernel) (pa_cons (pe_lc (own := [("sign", 4)]) (g := gName 4) (tt := tYes) (by rfl) scIsTextOf.nd (pi_str (pv 0)) (blkOk_by (own := [("sign", 4)]) (N := ["thing", "signs", "least", "most", "sign"]) (sc := defScope sIsTextOf) (by decide +kernel)) (fun _ _ _ _ _ => pg_name (i := 4) scIsTextOf.nd rfl (.inl rfl)) (fun _ _ _ _ _ => pts_nil) (fun _ _ _ _ _ => pe_cmpR op_in_sign (pv 4) (pv 1) (by rfl))) pa_nil))))), ?_⟩
    refine ⟨_, rfl, _, _, _, _, isStr d, rfl, .ty _, hz.ty, z_str d, _, rfl, ?_⟩
    have qf : ofT d sg a b = false → Q (.bl false) H := fun e => by
      have w := q H (Same.refl H)
      rw [e] at w
      exact w
    cases hz with
    | str x =>
      have lx := sz x rfl
      have fit : x.length ≤ sizeLine := Nat.le_trans lx (by decide)
      refine iteF ⟨_, rfl, _, rfl, x, rfl, fit, a, _, rfl, rfl, _, rfl, ?_⟩
      have eo : ofT (.str x) sg a b = (decide (a ≤ (x.length : Int)) && decide ((x.length : Int) ≤ b) && chk x sg) := rfl
      cases c1 : decide (a ≤ (x.length : Int)) with
      | false => exact iteF ⟨_, rfl, iteT (qf (by rw [eo, c1]; rfl))⟩
      | true =>
        refine iteT ⟨_, rfl, _, b, rfl, rfl, _, rfl, ?_⟩
        cases c2 : decide ((x.length : Int) ≤ b) with
        | false => exact iteT (qf (by rw [eo, c1, c2]; rfl))
        | true =>
          refine iteF ⟨_, rfl, x, rfl, fun L nL => ?_⟩
          have sL := same_upd nL (o := .lst [])
          refine lc_it (walk_str (z := x)) (fun i Hi => ∃ bs : List Bool, bs = (x.cps.toList.take i).map (fun c => decide (c ∈ sg.cps.toList)) ∧ Hi L = some (.lst (bs.map V.bl)) ∧ L2.Same H Hi) ?_ (fun _ _ _ _ => trivial) ?_ ?_
          · exact ⟨[], rfl, upd_same, sL⟩
          · rintro i v Hi Hi' _ ⟨bs, eb, eL, sm⟩ ⟨rfl, c, ec, rfl⟩
            rw [← Array.getElem?_toList] at ec
            refine ⟨rfl, ?_⟩
            unfold tYes
            refine iteT ⟨_, rfl, _, rfl, c, sg, rfl, rfl, ?_⟩
            have il : i < x.cps.toList.length := (List.getElem?_eq_some_iff.mp ec).1
            refine ⟨_, eL, ?_, bs ++ [decide (c ∈ sg.cps.toList)], ?_, ?_, fun b o e => ?_⟩
            · rw [List.length_map, eb, List.length_map, List.length_take]
              refine Nat.lt_of_le_of_lt (show min i x.cps.toList.length ≤ 2000 from ?_) (by decide)
              rw [← len_cps]
              omega
            · rw [List.take_succ, ec, List.map_append, eb]
              rfl
            · rw [upd_same, List.map_append]
              rfl
            · rw [upd_ne (ne_of_none e nL)]
              exact sm _ _ e
          · rintro He ⟨bs, eb, eL, sm⟩
            refine ⟨L, _, rfl, SqL.of eL, ?_⟩
            have w := q He sm
            rw [eo, c1, c2] at w
            rw [eb, List.take_of_length_le (by rw [Array.length_toList]; exact Nat.le_refl _), List.all_map]
            exact w
    | _ => exact iteT (qf rfl)
end
end K16
set_option Elab.async false
set_option linter.all false
set_option maxRecDepth 100000
set_option maxHeartbeats 4000000
set_option pp.maxSteps 400
set_option pp.deepTerms false
namespace K16
open PySem PySem.Spec PyProof.Rows L2
open Xk Az
section
variable {P : Program} {w : World} {K : PySem.W.Frag} {mg : Str → Option Value} {base : Heap}
def sk (x : Str) : Bool := decide (V.str x = V.str (Txt.stripChars x " "))
def db (x : Str) : Bool := !(Builtin.Str.occurrences x "  " 0 x.length 1).isEmpty
def ntx (d : PyData) : Bool := match d with
  | .str x => ofT (.str x) signs 1 40 && (sk x && !db x)
  | _ => false
def nmD (d : PyData) : Bool := match d with
  | .tuple [a, b] => ofT a small 2 3 && ntx b
  | _ => false
def Tx (d : PyData) : Prop := ∀ x, d = .str x → x.length ≤ 2000 ∧ Asc7 x
def T2 (d : PyData) : Prop := ∀ ds, d = .tuple ds → ∀ e ∈ ds, Tx e
theorem ofT_str {d : PyData} {sg : Str} {a b : Int} (h : ofT d sg a b = true) : ∃ x, d = .str x := by
  cases d with
  | str x => exact ⟨x, rfl⟩
  | _ => cases h
theorem ntx_no {d : PyData} (h : ofT d signs 1 40 = false) : ntx d = false := by
  cases d with
  | str x =>
    show (ofT (.str x) signs 1 40 && (sk x && !db x)) = false
    rw [h]
    rfl
  | _ => rfl
theorem len3 {α : Type} {a b c : α} {r : List α} (e : ¬(!decide (V.int (((a :: b :: c :: r).length : Nat) : Int) = V.int 2)) = true) : (0 : Nat) ≠ 0 := fun _ => by
  have n : ¬ V.int (((a :: b :: c :: r).length : Nat) : Int) = V.int 2 := fun z => by
    have := V.int.inj z
    simp at this
    omega
  rw [decide_eq_false n] at e
  exact e rfl
def spSmall (K : PySem.W.Frag) : Sp := fun vs H Q _ => ∃ (v : V) (d : PyData) (a b : Int), vs = [v, .int a, .int b] ∧ Dz K H v d ∧ (∀ x, d = .str x → x.length ≤ 2000) ∧ ∀ H', L2.Same H H' → Q (.bl (ofT d small a b)) H'
def spTongue (K : PySem.W.Frag) : Sp := fun vs H Q _ => ∃ (v : V) (d : PyData), vs = [v] ∧ Dz K H v d ∧ (∀ x, d = .str x → x.length ≤ 2000) ∧ ∀ H', L2.Same H H' → Q (.bl (ofT d small 2 3)) H'
def spNT (K : PySem.W.Frag) : Sp := fun vs H Q _ => ∃ (v : V) (d : PyData), vs = [v] ∧ Dz K H v d ∧ (∀ x, d = .str x → x.length ≤ 2000) ∧ ∀ H', L2.Same H H' → Q (.bl (ntx d)) H'
def spIsName (K : PySem.W.Frag) : Sp := fun vs H Q _ => ∃ (v : V) (d : PyData), vs = [v] ∧ Dz K H v d ∧ T2 d ∧ ∀ H', L2.Same H H' → Q (.bl (nmD d)) H'
theorem ok_small {f : Addr} {fd : FuncData} (D : Df K mg "is_small_text" ["thing", "least", "most"] sIsSmallText f fd) (T : Txt K mg) (cO : Ca P w K mg base 1 "is_text_of" ["thing", "signs", "least", "most"] (spTextOf K)) : FnOk P w K mg base CX0 2 f fd ["thing", "least", "most"] (spSmall K) := by
  obtain ⟨_, gS⟩ := T.sm
  obtain ⟨_, gG⟩ := T.sg
  obtain ⟨_, gA⟩ := T.st
  obtain ⟨_, gB⟩ := T.lt
  obtain ⟨_, gX⟩ := T.lx
  refine D.fn.ok scIsSmallText (fun vs H Q E h => ?_) (fun cdv A outer s H vs Q E hr h => ?_)
  · obtain ⟨v, d, a, b, rfl, hz, sz, q⟩ := h
    rfl
  · obtain ⟨v, d, a, b, rfl, hz, sz, q⟩ := h
    refine ⟨_, (pss_one (ps_ret (pe_ca cO hr (by decide) (by rfl) (pa_cons (pv 0) (pa_cons (pe_glob (v := .str small) (by rfl) gS ⟨_, rfl⟩) (pa_cons (pv 1) (pa_cons (pv 2) pa_nil))))))), ?_⟩
    exact ⟨_, rfl, _, rfl, _, rfl, v, d, small, a, b, rfl, hz, sz, q⟩
theorem ok_tongue {f : Addr} {fd : FuncData} (D : Df K mg "is_tongue" ["thing"] sIsTongue f fd) (T : Txt K mg) (cS : Ca P w K mg base 2 "is_small_text" ["thing", "least", "most"] (spSmall K)) : FnOk P w K mg base CX0 3 f fd ["thing"] (spTongue K) := by
  obtain ⟨_, gS⟩ := T.sm
  obtain ⟨_, gG⟩ := T.sg
  obtain ⟨_, gA⟩ := T.st
  obtain ⟨_, gB⟩ := T.lt
  obtain ⟨_, gX⟩ := T.lx
  refine D.fn.ok scIsTongue (fun vs H Q E h => ?_) (fun cdv A outer s H vs Q E hr h => ?_)
  · obtain ⟨v, d, rfl, hz, sz, q⟩ := h
    rfl
  · obtain ⟨v, d, rfl, hz, sz, q⟩ := h
    refine ⟨_, (pss_one (ps_ret (pe_ca cS hr (by decide) (by rfl) (pa_cons (pv 0) (pa_cons (pe_glob (v := .int 2) (by rfl) gA ⟨_, rfl⟩) (pa_cons (pe_glob (v := .int 3) (by rfl) gB ⟨_, rfl⟩) pa_nil)))))), ?_⟩
    exact ⟨_, rfl, v, d, 2, 3, rfl, hz, sz, q⟩
theorem ok_nt {f : Addr} {fd : FuncData} (D : Df K mg "is_name_text" ["thing"] sIsNameText f fd) (T : Txt K mg) (cO : Ca P w K mg base 1 "is_text_of" ["thing", "signs", "least", "most"] (spTextOf K)) : FnOk P w K mg base CX0 2 f fd ["thing"] (spNT K) := by
  obtain ⟨_, gS⟩ := T.sm
  obtain ⟨_, gG⟩ := T.sg
  obtain ⟨_, gA⟩ := T.st
  obtain ⟨_, gB⟩ := T.lt
  obtain ⟨_, gX⟩ := T.lx
  refine D.fn.ok scIsNameText (fun vs H Q E h => ?_) (fun cdv A outer s H vs Q E hr h => ?_)
  · obtain ⟨v, d, rfl, hz, sz, q⟩ := h
    rfl
  · obtain ⟨v, d, rfl, hz, sz, q⟩ := h
    refine ⟨_, (pss_cons (ps_if (pt_not (pt_val (pe_ca cO hr (by decide) (by rfl) (pa_cons (pv 0) (pa_cons (pe_glob (v := .str signs) (by rfl) gG ⟨_, rfl⟩) (pa_cons pe_int (pa_cons (pe_glob (v := .int 40) (by rfl) gX ⟨_, rfl⟩) pa_nil))))))) (pss_one (ps_ret pe_bl)) pss_nil)
      (pss_one (ps_ret (pe_and (pe_cmpR op_eq (pv 0) (pe_m1 F.slot_str_strip F.type_str_strip mt_stripChars (pv 0) pe_str) (nomark _)) (pe_one (pe_cmpR op_notin_str pe_str (pv 0) (by rfl))))))), ?_⟩
    refine ⟨_, rfl, v, d, signs, 1, 40, rfl, hz, sz, fun H1 s1 => ⟨_, rfl, ?_⟩⟩
    have w := q H1 s1
    cases c : ofT d signs 1 40 with
    | false =>
      rw [ntx_no c] at w
      exact iteT w
    | true =>
      obtain ⟨x, rfl⟩ := ofT_str c
      obtain ⟨x', rfl⟩ : ∃ x', v = .str x' := by cases hz; exact ⟨_, rfl⟩
      have ex : x' = x := by cases hz; rfl
      subst ex
      have fit : x'.length ≤ sizeLine := Nat.le_trans (sz x' rfl) (by decide)
      have e : ntx (.str x') = (sk x' && !db x') := by
        show (ofT (.str x') signs 1 40 && (sk x' && !db x')) = _
        rw [c]
        rfl
      rw [e] at w
      refine iteF ⟨_, rfl, _, rfl, ⟨_, rfl⟩, x', " ", rfl, rfl, fit, rfl, _, rfl, ?_⟩
      refine ite2 (fun c2 => ?_) (fun c2 => ?_)
      · have cs : sk x' = true := c2
        rw [cs] at w
        exact ⟨_, rfl, "  ", x', rfl, rfl, w⟩
      · have cs : sk x' = false := Bool.eq_false_iff.mpr c2
        rw [cs] at w
        exact w
theorem ok_name {f : Addr} {fd : FuncData} (D : Df K mg "is_name" ["thing"] sIsName f fd) (T : Txt K mg) (cTo : Ca P w K mg base 3 "is_tongue" ["thing"] (spTongue K)) (cN : Ca P w K mg base 2 "is_name_text" ["thing"] (spNT K)) : FnOk P w K mg base CX0 4 f fd ["thing"] (spIsName K) := by
  refine D.fn.ok scIsName (fun vs H Q E h => ?_) (fun cdv A outer s H vs Q E hr h => ?_)
  · obtain ⟨v, d, rfl, hz, t2, q⟩ := h
    rfl
  · obtain ⟨v, d, rfl, hz, t2, q⟩ := h
    refine ⟨_, (pss_cons (ps_if (PW.pt (pw_or (pt_not (pt_val (pe_callB call_isi (by rfl) T.isi (by decide +kernel) (pa_cons (pv 0) (pa_cons (pe_bltn (v := .ty "tuple") (by rfl) T.tuple (by decide +kernel) rfl) pa_nil))))) (pw_or1 (pt_cmpR op_ne (pe_callB call_len_seq (by rfl) T.len PySem.boot_len (pa_cons (pv 0) pa_nil)) pe_int (nomark _))))) (pss_one (ps_ret pe_bl)) pss_nil)
      (pss_one (ps_ret (pe_and (pe_ca cTo hr (by decide) (by rfl) (pa_cons (pe_ix ix_tup (pv 0) pe_int (fun _ _ => rfl)) pa_nil)) (pe_one (pe_ca cN hr (by decide) (by rfl) (pa_cons (pe_ix ix_tup (pv 0) pe_int (fun _ _ => rfl)) pa_nil))))))), ?_⟩
    refine ⟨_, rfl, _, _, _, _, isTup d, rfl, .ty _, hz.ty, z_tup d, _, rfl, ?_⟩
    have qf : nmD d = false → Q (.bl false) H := fun e => by
      have w := q H (Same.refl H)
      rw [e] at w
      exact w
    cases hz with
    | @tup t xs ds et ra =>
      refine iteF ⟨_, rfl, t, xs, rfl, .inr (SqT.of et), rfl, _, rfl, ?_⟩
      match xs, ds, ra with
      | [], _, .nil => exact iteT (qf rfl)
      | [_], _, .cons _ .nil => exact iteT (qf rfl)
      | _ :: _ :: _ :: r, _, .cons _ (.cons _ (.cons _ _)) => exact ite2 (fun _ => qf rfl) (fun e => absurd rfl (len3 e))
      | [va, vb], _, .cons (d := a) ha (.cons (d := b) hb .nil) =>
        obtain ⟨ta, tb⟩ : Tx a ∧ Tx b := ⟨t2 _ rfl a (by simp), t2 _ rfl b (by simp)⟩
        refine iteF ⟨_, rfl, t, _, 0, va, rfl, rfl, SqT.of et, atI_nat (j := 0) rfl, va, a, rfl, ha, fun x e => (ta x e).1, fun H1 s1 => ⟨_, rfl, ?_⟩⟩
        have w := fun H' sm => q H' sm
        cases c : ofT a small 2 3 with
        | false =>
          have w := q H1 s1
          rw [show nmD (.tuple [a, b]) = false by show (ofT a small 2 3 && ntx b) = false; rw [c]; rfl] at w
          exact iteF w
        | true =>
          refine iteT ⟨_, rfl, t, _, 1, vb, rfl, rfl, SqT.of (s1 _ _ et), atI_nat (j := 1) rfl, vb, b, rfl, hb.same s1, fun x e => (tb x e).1, fun H2 s2 => ?_⟩
          have w := q H2 (s1.trans s2)
          rw [show nmD (.tuple [a, b]) = ntx b by show (ofT a small 2 3 && ntx b) = _; rw [c]; rfl] at w
          exact w
    | _ => exact iteT (qf rfl)
end
end K16
set_option Elab.async false
set_option linter.all false
set_option maxRecDepth 100000
set_option maxHeartbeats 4000000
set_option pp.maxSteps 400
set_option pp.deepTerms false
namespace K16
open PySem PySem.Spec PyProof.Rows L2
open Xk Az Xnp
section
variable {P : Program} {w : World} {K : PySem.W.Frag} {mg : Str → Option Value} {base : Heap}
theorem tw0 {l : List Nat} {g : Nat → Bool} (h : ∀ c, l.head? = some c → g c = false) : l.takeWhile g = [] := by
  cases l with
  | nil => rfl
  | cons a r => rw [List.takeWhile_cons, h a rfl]; rfl
theorem sp32 (c : Nat) : ((" " : Str)).cps.contains c = decide (c = 32) := by
  have e : ((" " : Str)).cps = #[32] := by decide +kernel
  rw [e]
  by_cases h : c = 32
  · subst h; simp
  · rw [decide_eq_false h]
    simpa using h
theorem sk_clean {x : Str} (h : Clean x.cps.toList) : sk x = true := by
  obtain ⟨⟨_, h2, _⟩, h4⟩ := h
  have g : ∀ c : Nat, c ≠ 32 → ((" " : Str)).cps.contains c = false := fun c n => by rw [sp32, decide_eq_false n]
  have lo : stripLo ((" " : Str)).cps.contains true x = 0 := by
    unfold stripLo
    rw [if_pos rfl, tw0 (fun c e => g c (fun z => h2 (by rw [e, z])))]
    rfl
  have hi : stripHi ((" " : Str)).cps.contains true x 0 = x.length := by
    unfold stripHi
    rw [if_pos rfl, List.drop_zero, tw0 (fun c e => g c (fun z => h4 (by rw [List.head?_reverse] at e; rw [e, z])))]
    rfl
  have s : stripSame ((" " : Str)).cps.contains true true x = true := by
    unfold stripSame
    rw [lo, hi]
    simp
  unfold sk Txt.stripChars Txt.stripBy
  rw [if_pos s]
  exact decide_eq_true rfl
theorem db_clean {x : Str} (h : Clean x.cps.toList) : db x = false := by
  obtain ⟨⟨_, _, h3⟩, _⟩ := h
  unfold db
  rw [Bool.eq_false_iff]
  intro z
  obtain ⟨i, hi, hs⟩ := (PySem.StrLaws.found_iff x "  ").mp z
  have l2 : (("  " : Str)).length = 2 := by decide +kernel
  rw [l2] at hi
  unfold Builtin.Str.subAt at hs
  rw [l2] at hs
  have e : x.cps.extract i (i + 2) = #[32, 32] := by
    have : (("  " : Str)).cps = #[32, 32] := by decide +kernel
    rw [this] at hs
    exact eq_of_beq hs
  have e' : (x.cps.toList.drop i).take 2 = [32, 32] := by
    have := congrArg Array.toList e
    rw [Array.toList_extract] at this
    simpa [List.extract_eq_take_drop] using this
  have a0 : x.cps.toList[i]? = some 32 := by
    have := congrArg (fun l : List Nat => l[0]?) e'
    simpa [List.getElem?_take, List.getElem?_drop] using this
  have a1 : x.cps.toList[i + 1]? = some 32 := by
    have := congrArg (fun l : List Nat => l[1]?) e'
    simpa [List.getElem?_take, List.getElem?_drop] using this
  exact h3 i ⟨a0, a1⟩
theorem nm_true {a b : Str} (ha : letts a) (a2 : 2 ≤ a.length) (a3 : a.length ≤ 3) (hb : Clean b.cps.toList) (b1 : 1 ≤ b.length) (b4 : b.length ≤ 40) : nmD (.tuple [.str a, .str b]) = true := by
  have c1 : chk a small = true := List.all_eq_true.mpr fun c hc => decide_eq_true (ha c hc)
  have c2 : chk b signs = true := List.all_eq_true.mpr fun c hc => decide_eq_true (hb.1.1 c hc)
  show ((decide ((2 : Int) ≤ a.length) && decide ((a.length : Int) ≤ 3) && chk a small) && ((decide ((1 : Int) ≤ b.length) && decide ((b.length : Int) ≤ 40) && chk b signs) && (sk b && !db b))) = true
  rw [c1, c2, sk_clean hb, db_clean hb, decide_eq_true (show (2 : Int) ≤ a.length by omega), decide_eq_true (show (a.length : Int) ≤ 3 by omega), decide_eq_true (show (1 : Int) ≤ b.length by omega), decide_eq_true (show (b.length : Int) ≤ 40 by omega)]
  rfl
theorem tx_s {x : Str} (h : Asc7 x) (l : x.length ≤ 2000) : Tx (.str x) := fun y e => by
  cases e
  exact ⟨l, h⟩
theorem t2_2 {d e : PyData} (h : Tx d) (h' : Tx e) : T2 (.tuple [d, e]) := fun ds q => by
  cases q
  intro x hx
  rcases List.mem_cons.mp hx with z | z
  · rw [z]; exact h
  · rw [List.mem_singleton.mp z]; exact h'
theorem eqv_nD (a b : W37.Nm) : PyData.eqv (W37.nD a) (W37.nD b) = decide (a = b) := by
  obtain ⟨a1, a2⟩ := a
  obtain ⟨b1, b2⟩ := b
  unfold W37.nD
  simp only [PyData.eqv, PyData.eqvAll, Bool.and_true]
  by_cases h1 : a1 = b1
  · by_cases h2 : a2 = b2
    · subst h1 h2
      simp
    · rw [decide_eq_false (fun z => h2 (congrArg Prod.snd z))]
      rw [beq_eq_false_iff_ne.mpr h2, Bool.and_false]
  · rw [decide_eq_false (fun z => h1 (congrArg Prod.fst z))]
    rw [beq_eq_false_iff_ne.mpr h1, Bool.false_and]
theorem ps_no {X : Cx} {st : Stmt} : PS X st (fun _ _ _ => False) := ⟨fun _ _ _ _ _ _ h => False.elim h⟩
/-- a good name -/
structure Gd (n : N2) : Prop where
  l1 : letts n.1
  l2 : 2 ≤ n.1.length
  l3 : n.1.length ≤ 3
  c : Clean n.2.cps.toList
  c1 : 1 ≤ n.2.length
  c2 : n.2.length ≤ 40
theorem Gd.yes {n : N2} (h : Gd n) : nmD (W37.nD n) = true := nm_true h.l1 h.l2 h.l3 h.c h.c1 h.c2
theorem Gd.t2 {n : N2} (h : Gd n) : T2 (W37.nD n) := t2_2 (tx_s h.l1.asc (by have := h.l3; omega)) (tx_s h.c.asc (by have := h.c2; omega))
theorem Gd.sh {n : N2} (h : Gd n) : SeqAt.shaped (W37.nD n) = true := shaped_two h.l1.asc h.c.asc
def spRefuse : Sp := fun vs H Q _ => ∃ (u v : V) (a b : N2), vs = [u, v] ∧ W37.NmV H u a ∧ W37.NmV H v b ∧ Gd a ∧ Gd b ∧ a ≠ b ∧ ∀ H', L2.Same H H' → Q .non H'
theorem ok_refuse {f : Addr} {fd : FuncData} (D : Df K mg "refuse_unless_two_names" ["one", "other"] sRefuseUnlessTwoNames f fd) (T : Txt K mg) (cNm : Ca P w K mg base 4 "is_name" ["thing"] (spIsName K)) : FnOk P w K mg base CX0 5 f fd ["one", "other"] spRefuse := by
  refine D.fn.ok scRefuseUnlessTwoNames (fun vs H Q E h => ?_) (fun cdv A outer s H vs Q E hr h => ?_)
  · obtain ⟨u, v, a, b, rfl, na, nb, ga, gb, ne, q⟩ := h
    rfl
  · obtain ⟨u, v, a, b, rfl, na, nb, ga, gb, ne, q⟩ := h
    refine ⟨_, (pss_cons (ps_for PassesOwn.never rfl (pi_tup (pe_tup (pa_cons (pv 0) (pa_cons (pv 1) pa_nil)))) (pg_name (i := 2) scRefuseUnlessTwoNames.nd rfl (.inl rfl)) (pss_one (ps_if (pt_not (pt_val (pe_ca cNm hr (by decide) (by rfl) (pa_cons (pv 2) pa_nil)))) (pss_one ps_no) pss_nil)))
      (pss_one (ps_if (pt_cmpR (op_eqD hr.units) (pv 0) (pv 1) (nomark _)) (pss_one ps_no) pss_nil))), ?_⟩
    refine ⟨_, rfl, _, rfl, (by show 2 ≤ sizeLine; decide), fun Z nZ => ?_⟩
    have sZ := same_upd nZ (o := .tup [u, v])
    have eZ : (L2.upd H Z (.tup [u, v])) Z = some (.tup [u, v]) := upd_same
    generalize L2.upd H Z (.tup [u, v]) = H1 at sZ eZ ⊢
    have both : ∀ x ∈ [u, v], ∃ n, W37.NmV H1 x n ∧ Gd n := fun x hx => by
      simp only [List.mem_cons, List.not_mem_nil, or_false] at hx
      rcases hx with rfl | rfl
      · exact ⟨a, na.tp (W37.tp_same sZ), ga⟩
      · exact ⟨b, nb.tp (W37.tp_same sZ), gb⟩
    refine ⟨Z, rfl, ⟨_, SqT.of eZ⟩, for_tup (K := K) (a := Z) (xs := [u, v]) (fun i σ Hx => ∃ c2, σ = [some u, some v, c2] ∧ L2.Same H1 Hx) ⟨none, rfl, Same.refl _⟩ (fun i σ Hi _ z => by obtain ⟨_, _, z⟩ := z; exact SqT.of (z _ _ eZ)) ?_ ?_⟩
    · rintro i x σ Hx hx ⟨c2, rfl, sx⟩
      obtain ⟨n, nv, g⟩ := both x (List.mem_of_getElem? hx)
      have nv := nv.tp (W37.tp_same sx)
      refine ⟨_, rfl, x, W37.nD n, rfl, nv.dz, g.t2, fun H2 s2 => ?_⟩
      rw [g.yes]
      exact ⟨_, rfl, iteF ⟨_, rfl, sx.trans s2⟩⟩
    · rintro σ Hx ⟨c2, rfl, sx⟩
      have st := sZ.trans sx
      have na2 := na.tp (W37.tp_same st)
      have nb2 := nb.tp (W37.tp_same st)
      obtain ⟨ta, rfl, eta⟩ := na2
      obtain ⟨tb, rfl, etb⟩ := nb2
      refine ⟨_, rfl, _, rfl, W37.nD a, W37.nD b, .tup (SqT.of eta) (.cons (.str _) (.cons (.str _) .nil)), .tup (SqT.of etb) (.cons (.str _) (.cons (.str _) .nil)), ga.sh, gb.sh, _, rfl, ?_⟩
      rw [eqv_nD, decide_eq_false ne]
      exact iteF (q Hx st)
end
end K16
set_option Elab.async false
set_option linter.all false
set_option maxRecDepth 100000
set_option maxHeartbeats 4000000
set_option pp.maxSteps 400
set_option pp.deepTerms false
namespace K16
open PySem PySem.Spec PyProof.Rows L2
open Xk Az Xnp
section
variable {P : Program} {w : World} {K : PySem.W.Frag} {mg : Str → Option Value} {base : Heap}
def fsN (m : Int) (c l g : Addr) : List (Str × V) := [("many", .int m), ("counting", .ref c), ("links", .ref l), ("groups", .ref g)]
/-- a book of names: what is told and counts, by its number -/
structure Nb (H : Hp) (C b c : Addr) (m : Int) (es : List (Int × Pair)) (fr : Addr → Prop) : Prop where
  ex : ∃ (dx l g : Addr) (kvs : List (Key × V)), H b = some (.ins C dx (fsN m c l g)) ∧ H c = some (.dK kvs) ∧ kvs.map (·.1) = es.map (fun e => Sum.inl e.1) ∧ PrL H (kvs.map (·.2)) (es.map (·.2)) ∧ Gps H g (es.map (·.2)) ∧ Lks H l (es.map (·.2)) fr
theorem put_many (m n : Int) (c l g : Addr) : putF "many" (.int n) (fsN m c l g) = fsN n c l g := by
  unfold fsN putF
  rw [if_pos rfl]
theorem put_both (m : Int) (c l g d h : Addr) : putF "groups" (.ref h) (putF "links" (.ref d) (fsN m c l g)) = fsN m c d h := by
  unfold fsN
  simp only [putF, show ¬ (("many" : Str) = "links") by decide +kernel, show ¬ (("counting" : Str) = "links") by decide +kernel, show ¬ (("many" : Str) = "groups") by decide +kernel, show ¬ (("counting" : Str) = "groups") by decide +kernel, show ¬ (("links" : Str) = "groups") by decide +kernel, if_false, if_true]
/-- what a class of books has not -/
structure NbC (K : PySem.W.Frag) (C : Addr) : Prop where
  cls : L2.Cls K C
  many : NoAttr K C "many"
  cnt : NoAttr K C "counting"
  lnk : NoAttr K C "links"
  grp : NoAttr K C "groups"
def B2n (b c : Addr) (H H' : Hp) : Prop := ∀ x o, x ≠ b → x ≠ c → H x = some o → H' x = some o
def spTell (C : Addr) : Sp := fun vs H Q _ => ∃ (fr : Addr → Prop) (b c : Addr) (u v : V) (m : Int) (es : List (Int × Pair)) (x y : N2), vs = [.ref b, u, v] ∧ Nb H C b c m es fr ∧ W37.NmV H u x ∧ W37.NmV H v y ∧ Gd x ∧ Gd y ∧ x ≠ y ∧ (∀ e ∈ es, e.1 < m) ∧ es.length ≤ 90 ∧
  ∀ H', Nb H' C b c (m + 1) (es ++ [(m, (x, y))]) (fun x => H x = none) → B2n b c H H' → Q (.int m) H'
theorem Lks.imp {H : Hp} {d : Addr} {es : List Pair} {fr fr' : Addr → Prop} (h : Lks H d es fr) (s : ∀ x ys, H x = some (.lst ys) → fr x → fr' x) : Lks H d es fr' := by
  obtain ⟨ks, kv, e1, e2, e3, e4, al⟩ := h
  refine ⟨ks, kv, e1, e2, e3, e4, fun a ha => ?_⟩
  obtain ⟨L, ys, q1, q2, q3, q4⟩ := al a ha
  exact ⟨L, ys, q1, q2, q3, s L ys q2 q4⟩
theorem Lks.keep {H H' : Hp} {d : Addr} {es : List Pair} {fr : Addr → Prop} (h : Lks H d es fr) (s : ∀ kv, H d = some (.dT kv) → H' d = some (.dT kv)) (k : ∀ x ys, fr x → H x = some (.lst ys) → H' x = some (.lst ys)) (tp : W37.Tp H H') : Lks H' d es fr := by
  obtain ⟨ks, kv, e1, e2, e3, e4, al⟩ := h
  refine ⟨ks, kv, s _ e1, e2, e3, e4, fun a ha => ?_⟩
  obtain ⟨L, ys, q1, q2, q3, q4⟩ := al a ha
  exact ⟨L, ys, q1, k L ys q4 q2, q3.tp tp, q4⟩
theorem Lks.same {H H' : Hp} {d : Addr} {es : List Pair} {fr : Addr → Prop} (h : Lks H d es fr) (s : L2.Same H H') : Lks H' d es fr := h.keep (fun kv e => s _ _ e) (fun x ys _ e => s _ _ e) (W37.tp_same s)
theorem PrL.app {H : Hp} : ∀ {vs ws : List V} {es fs : List Pair}, PrL H vs es → PrL H ws fs → PrL H (vs ++ ws) (es ++ fs)
  | _, _, _, _, .nil, h => h
  | _, _, _, _, .cons a b c r, h => .cons a b c (r.app h)
theorem ok_tell {f : Addr} {fd : FuncData} {C : Addr} (F : L2.Fun K "tell" "Names.tell" sNamesTell f fd) (N : NbC K C) (cRf : Ca P w K mg base 5 "refuse_unless_two_names" ["one", "other"] spRefuse) (cSo : Mt P w K mg base 5 C "sort_out" ["self"] (spSort K)) : FnOk P w K mg base CX0 6 f fd ["self", "one", "other"] (spTell C) := by
  obtain ⟨fS, fdS, mtS, okS, bdS⟩ := cSo.ex
  refine F.ok scNamesTell (fun vs H Q E h => ?_) (fun cdv A outer s H vs Q E hr h => ?_)
  · obtain ⟨fr0, b, c, u, v, m, es, x, y, rfl, nb0, nu, nv, gx, gy, ne, lt, l90, q⟩ := h
    rfl
  · obtain ⟨fr0, b, c, u, v, m, es, x, y, rfl, nb0, nu, nv, gx, gy, ne, lt, l90, q⟩ := h
    refine ⟨_, (pss_cons (ps_expr (pe_ca cRf hr (by decide) (by rfl) (pa_cons (pv 1) (pa_cons (pv 2) pa_nil))))
      (pss_cons (ps_set (i := 3) scNamesTell.nd rfl (.inl rfl) (pe_fld (pv 0) rfl))
      (pss_cons (ps_fldaug (pv 0) pe_int in_add)
      (pss_cons (ps_dput (hu_of hr) (pe_fld (pv 0) rfl) (pv 3) (pe_tup (pa_cons (pv 1) (pa_cons (pv 2) pa_nil))) rfl)
      (pss_cons (ps_expr ((pe_meth0 (pv 0) N.cls mtS okS (hr.mono (by decide)) bdS .nil pass0)))
      (pss_one (ps_ret (pv 3)))))))), ?_⟩
    obtain ⟨dx, l0, g0, kvs, eb, ec, ek, pr, gp, lks0⟩ := nb0.ex
    refine ⟨_, rfl, _, rfl, u, v, x, y, rfl, nu, nv, gx, gy, ne, fun H1 s1 => ?_⟩
    have eb1 := s1 _ _ eb
    refine ⟨_, rfl, b, C, dx, _, .int m, rfl, eb1, N.cls, N.many, rfl, ?_⟩
    refine ⟨_, rfl, b, C, dx, _, .int m, rfl, eb1, N.cls, N.many, rfl, m, 1, rfl, rfl, dx, _, eb1, by show 4 < 1000; decide, ?_⟩
    rw [put_many]
    have pr1 := pr.tp (W37.tp_same s1)
    have ec1 := s1 _ _ ec
    have cb : c ≠ b := ne_of ec eb (by intro z; cases z)
    have tpb : W37.Tp H1 (L2.upd H1 b (.ins C dx (fsN (m + 1) c l0 g0))) := W37.tp_upd fun us z => by rw [eb1] at z; cases z
    have eb2 : (L2.upd H1 b (.ins C dx (fsN (m + 1) c l0 g0))) b = some (.ins C dx (fsN (m + 1) c l0 g0)) := upd_same
    have ec2 : (L2.upd H1 b (.ins C dx (fsN (m + 1) c l0 g0))) c = some (.dK kvs) := by rw [upd_ne cb]; exact ec1
    have pr2 := pr1.tp tpb
    have t12 := (W37.tp_same s1).trans tpb
    have fr2 : B2n b c H (L2.upd H1 b (.ins C dx (fsN (m + 1) c l0 g0))) := fun z o n1 n2 e => by rw [upd_ne n1]; exact s1 _ _ e
    generalize L2.upd H1 b (.ins C dx (fsN (m + 1) c l0 g0)) = H2 at eb2 ec2 pr2 t12 fr2 ⊢
    refine ⟨_, rfl, _, rfl, (by show 2 ≤ sizeLine; decide), fun T1 nT => ?_⟩
    have sT := same_upd nT (o := .tup [u, v])
    have eT : (L2.upd H2 T1 (.tup [u, v])) T1 = some (.tup [u, v]) := upd_same
    have eb3 := sT _ _ eb2
    have ec3 := sT _ _ ec2
    have pr3 := pr2.tp (W37.tp_same sT)
    have t13 := t12.trans (W37.tp_same sT)
    have fr3 : B2n b c H (L2.upd H2 T1 (.tup [u, v])) := fun z o n1 n2 e => sT _ _ (fr2 z o n1 n2 e)
    generalize L2.upd H2 T1 (.tup [u, v]) = H3 at sT eT eb3 ec3 pr3 t13 fr3 ⊢
    have kl : kvs.length = es.length := by
      have := congrArg List.length ek
      rwa [List.length_map, List.length_map] at this
    have new : valV kvs (.inl m) = none := by
      cases e : valV kvs (.inl m) with
      | none => rfl
      | some w =>
        have h := valV_in e
        rw [ek] at h
        obtain ⟨z, hz, e2⟩ := List.mem_map.mp h
        injection e2 with e2
        have := lt z hz
        omega
    refine ⟨_, rfl, b, C, dx, _, .ref c, rfl, eb3, N.cls, N.cnt, rfl, _, rfl, c, _, rfl, DPut.k (k := .inl m) ec3 (Nat.lt_of_le_of_lt (show kvs.length ≤ 100 by omega) (by decide)), ?_⟩
    rw [putK_new _ new]
    have tpc : W37.Tp H3 (L2.upd H3 c (.dK (kvs ++ [(.inl m, .ref T1)]))) := W37.tp_upd fun us z => by rw [ec3] at z; cases z
    have eb4 : (L2.upd H3 c (.dK (kvs ++ [(.inl m, .ref T1)]))) b = some (.ins C dx (fsN (m + 1) c l0 g0)) := by rw [upd_ne (Ne.symm cb)]; exact eb3
    have ec4 : (L2.upd H3 c (.dK (kvs ++ [(.inl m, .ref T1)]))) c = some (.dK (kvs ++ [(.inl m, .ref T1)])) := upd_same
    have pr4 : PrL (L2.upd H3 c (.dK (kvs ++ [(.inl m, .ref T1)]))) ((kvs ++ [((Sum.inl m, V.ref T1) : Key × V)]).map fun e : Key × V => e.2) ((es ++ [((m, (x, y)) : Int × Pair)]).map fun e : Int × Pair => e.2) := by
      rw [List.map_append, List.map_append]
      exact (pr3.tp tpc).app (.cons (p := (x, y)) (tpc _ _ eT) (nu.tp (t13.trans tpc)) (nv.tp (t13.trans tpc)) .nil)
    have fr4 : B2n b c H (L2.upd H3 c (.dK (kvs ++ [(.inl m, .ref T1)]))) := fun z o n1 n2 e => by rw [upd_ne n2]; exact fr3 z o n1 n2 e
    generalize L2.upd H3 c (.dK (kvs ++ [(.inl m, .ref T1)])) = H4 at eb4 ec4 pr4 fr4 ⊢
    refine ⟨_, rfl, b, dx, _, rfl, eb4, rfl, b, C, dx, c, _, _, (es ++ [((m, (x, y)) : Int × Pair)]).map (fun e : Int × Pair => e.2), rfl, eb4, N.cls, N.cnt, N.lnk, N.grp, by show 4 < 900; decide, rfl, ec4, pr4, by rw [List.length_map, List.length_append]; show es.length + 1 ≤ 100; omega, fun d g H5 eb5 fr gp5 lk5 => ?_⟩
    rw [put_both] at eb5
    have ec5 := fr c _ cb ec4
    have tp5 : W37.Tp H4 H5 := fun z us e => fr z _ (fun w => by rw [w, eb4] at e; cases e) e
    have n04 : ∀ x, H4 x = none → H x = none := fun x nx => by
      cases e : H x with
      | none => rfl
      | some o =>
        by_cases c1 : x = b
        · rw [c1, eb4] at nx; cases nx
        · by_cases c2 : x = c
          · rw [c2, ec4] at nx; cases nx
          · rw [fr4 x o c1 c2 e] at nx; cases nx
    refine ⟨_, rfl, q H5 ⟨dx, d, g, _, eb5, ec5, ?_, pr4.tp tp5, gp5, lk5.imp fun x _ _ z => n04 x z⟩ fun z o n1 n2 e => fr z o n1 (fr4 z o n1 n2 e)⟩
    rw [List.map_append, List.map_append, ek]
    rfl
end
end K16
set_option Elab.async false
set_option linter.all false
set_option maxRecDepth 100000
set_option maxHeartbeats 4000000
set_option pp.maxSteps 400
set_option pp.deepTerms false
namespace K16
open PySem PySem.Spec PyProof.Rows L2
open Xk Az Xnp
section
variable {P : Program} {w : World} {K : PySem.W.Frag} {mg : Str → Option Value} {base : Heap}
def spInit (C : Addr) : Sp := fun vs H Q _ => ∃ (b dx : Addr), vs = [.ref b] ∧ H b = some (.ins C dx []) ∧ ∀ c H', Nb H' C b c 0 [] (fun _ => False) → (∀ x o, x ≠ b → H x = some o → H' x = some o) → H c = none → Q .non H'
theorem ok_init {f : Addr} {fd : FuncData} {C : Addr} (F : L2.Fun K "__init__" "Names.__init__" sNamesInit f fd) (N : NbC K C) : FnOk P w K mg base CX0 1 f fd ["self"] (spInit C) := by
  refine F.ok scNamesInit (fun vs H Q E h => ?_) (fun cdv A outer s H vs Q E hr h => ?_)
  · obtain ⟨b, dx, rfl, eb, q⟩ := h
    rfl
  · obtain ⟨b, dx, rfl, eb, q⟩ := h
    refine ⟨_, (pss_cons (ps_fld (pv 0) pe_int rfl)
      (pss_cons (ps_fld (pv 0) pe_dnewK rfl)
      (pss_cons (ps_fld (pv 0) pe_dnewT rfl)
      (pss_one (ps_fld (pv 0) pe_dnewT rfl))))), ?_⟩
    refine ⟨_, rfl, b, C, dx, [], rfl, eb, N.cls, N.many, by decide, ?_⟩
    have e1 : (L2.upd H b (.ins C dx (putF "many" (.int 0) []))) b = some (.ins C dx [("many", .int 0)]) := upd_same
    have f1 : ∀ x o, x ≠ b → H x = some o → (L2.upd H b (.ins C dx (putF "many" (.int 0) []))) x = some o := fun x o n e => by rw [upd_ne n]; exact e
    have g1 : ∀ p, (L2.upd H b (.ins C dx (putF "many" (.int 0) []))) p = none → H p = none := fun p n => by
      rw [upd_ne (fun z => by rw [z, upd_same] at n; cases n)] at n
      exact n
    generalize L2.upd H b (.ins C dx (putF "many" (.int 0) [])) = H1 at e1 f1 g1 ⊢
    refine fun c nc => ⟨_, rfl, b, C, dx, _, rfl, same_upd nc _ _ e1, N.cls, N.cnt, by show 1 < 1000; decide, ?_⟩
    have cb : c ≠ b := fun z => by rw [z, e1] at nc; cases nc
    have ec2 : (L2.upd (L2.upd H1 c (.dK [])) b (.ins C dx (putF "counting" (.ref c) [("many", .int 0)]))) c = some (.dK []) := by rw [upd_ne cb]; exact upd_same
    have e2 : (L2.upd (L2.upd H1 c (.dK [])) b (.ins C dx (putF "counting" (.ref c) [("many", .int 0)]))) b = some (.ins C dx [("many", .int 0), ("counting", .ref c)]) := by
      rw [upd_same]
      simp only [putF, show ¬ (("many" : Str) = "counting") by decide +kernel, if_false]
    have f2 : ∀ x o, x ≠ b → H x = some o → (L2.upd (L2.upd H1 c (.dK [])) b (.ins C dx (putF "counting" (.ref c) [("many", .int 0)]))) x = some o := fun x o n e => by rw [upd_ne n]; exact same_upd nc _ _ (f1 x o n e)
    have hc := g1 c nc
    generalize L2.upd (L2.upd H1 c (.dK [])) b (.ins C dx (putF "counting" (.ref c) [("many", .int 0)])) = H2 at ec2 e2 f2 ⊢
    refine fun l nl => ⟨_, rfl, b, C, dx, _, rfl, same_upd nl _ _ e2, N.cls, N.lnk, by show 2 < 1000; decide, ?_⟩
    have e3 : (L2.upd (L2.upd H2 l (.dT [])) b (.ins C dx (putF "links" (.ref l) [("many", .int 0), ("counting", .ref c)]))) b = some (.ins C dx [("many", .int 0), ("counting", .ref c), ("links", .ref l)]) := by
      rw [upd_same]
      simp only [putF, show ¬ (("many" : Str) = "links") by decide +kernel, show ¬ (("counting" : Str) = "links") by decide +kernel, if_false]
    have el3 : (L2.upd (L2.upd H2 l (.dT [])) b (.ins C dx (putF "links" (.ref l) [("many", .int 0), ("counting", .ref c)]))) l = some (.dT []) := by rw [upd_ne (fun z => by rw [z, e2] at nl; cases nl)]; exact upd_same
    have ec3 : (L2.upd (L2.upd H2 l (.dT [])) b (.ins C dx (putF "links" (.ref l) [("many", .int 0), ("counting", .ref c)]))) c = some (.dK []) := by rw [upd_ne cb]; exact same_upd nl _ _ ec2
    have f3 : ∀ x o, x ≠ b → H x = some o → (L2.upd (L2.upd H2 l (.dT [])) b (.ins C dx (putF "links" (.ref l) [("many", .int 0), ("counting", .ref c)]))) x = some o := fun x o n e => by rw [upd_ne n]; exact same_upd nl _ _ (f2 x o n e)
    generalize L2.upd (L2.upd H2 l (.dT [])) b (.ins C dx (putF "links" (.ref l) [("many", .int 0), ("counting", .ref c)])) = H3 at ec3 e3 f3 el3 ⊢
    refine fun g ng => ⟨_, rfl, b, C, dx, _, rfl, same_upd ng _ _ e3, N.cls, N.grp, by show 3 < 1000; decide, ?_⟩
    have gb : g ≠ b := fun z => by rw [z, e3] at ng; cases ng
    have e4 : (L2.upd (L2.upd H3 g (.dT [])) b (.ins C dx (putF "groups" (.ref g) [("many", .int 0), ("counting", .ref c), ("links", .ref l)]))) b = some (.ins C dx (fsN 0 c l g)) := by
      rw [upd_same]
      simp only [putF, fsN, show ¬ (("many" : Str) = "groups") by decide +kernel, show ¬ (("counting" : Str) = "groups") by decide +kernel, show ¬ (("links" : Str) = "groups") by decide +kernel, if_false]
    refine q c _ ⟨dx, l, g, [], e4, ?_, rfl, .nil, ⟨[], ?_, (fun a h => by cases h), (fun a _ => rfl)⟩, [], [], ?_, List.nodup_nil, fun a => Iff.rfl, rfl, fun a ha => by cases ha⟩ (fun x o n e => ?_) hc
    · rw [upd_ne cb]
      exact same_upd ng _ _ ec3
    · rw [upd_ne gb]
      exact upd_same
    · have lb : l ≠ b := fun z => by rw [z, e2] at nl; cases nl
      rw [upd_ne lb]
      refine same_upd ng _ _ ?_
      exact el3
    · rw [upd_ne n]
      exact same_upd ng _ _ (f3 x o n e)
end
end K16
set_option Elab.async false
set_option linter.all false
set_option maxRecDepth 100000
set_option maxHeartbeats 4000000
set_option pp.maxSteps 400
set_option pp.deepTerms false
namespace K16
open PySem PySem.Spec PyProof.Rows L2
open Xk Az Xnp
section
variable {P : Program} {w : World} {K : PySem.W.Frag} {mg : Str → Option Value} {base : Heap}
/-- what is told in the law, and whether it counts -/
abbrev Tl := Pair × Bool
def cnt (tl : List Tl) : List Pair := (tl.filter fun t => t.2).map fun t => t.1
inductive TlL (H : Hp) : List V → List Tl → Prop
  | nil : TlL H [] []
  | cons {r : Addr} {u v : V} {t : Tl} {vs : List V} {tl : List Tl} : H r = some (.lst [u, v, .bl t.2]) → W37.NmV H u t.1.1 → W37.NmV H v t.1.2 → TlL H vs tl → TlL H (.ref r :: vs) (t :: tl)
theorem TlL.len {H : Hp} : ∀ {vs : List V} {tl : List Tl}, TlL H vs tl → vs.length = tl.length
  | _, _, .nil => rfl
  | _, _, .cons _ _ _ r => by rw [List.length_cons, List.length_cons, r.len]
theorem TlL.get {H : Hp} : ∀ {vs : List V} {tl : List Tl} {i : Nat} {v : V}, TlL H vs tl → vs[i]? = some v → ∃ (t : Tl) (r : Addr) (a b : V), tl[i]? = some t ∧ v = .ref r ∧ H r = some (.lst [a, b, .bl t.2]) ∧ W37.NmV H a t.1.1 ∧ W37.NmV H b t.1.2
  | _, _, i, v, .nil, h => by simp at h
  | _, _, 0, v, .cons h1 h2 h3 r, h => by
    cases h
    exact ⟨_, _, _, _, rfl, rfl, h1, h2, h3⟩
  | _, _, i + 1, v, .cons h1 h2 h3 r, h => r.get (by simpa using h)
theorem mem_cnt {tl : List Tl} {p : Pair} : p ∈ cnt tl ↔ (p, true) ∈ tl := by
  unfold cnt
  rw [List.mem_map]
  constructor
  · rintro ⟨⟨p', b⟩, h, rfl⟩
    have h := List.mem_filter.mp h
    have : b = true := h.2
    rw [← this]
    exact h.1
  · exact fun h => ⟨(p, true), List.mem_filter.mpr ⟨h, rfl⟩, rfl⟩
theorem any_nD (ms : List N2) (m : N2) : ((ms.map W37.nD).any fun z => PyData.eqv z (W37.nD m)) = decide (m ∈ ms) := by
  rw [List.any_map, Bool.eq_iff_iff, List.any_eq_true, decide_eq_true_eq]
  constructor
  · rintro ⟨z, hz, e⟩
    have e : PyData.eqv (W37.nD z) (W37.nD m) = true := e
    rw [eqv_nD] at e
    rw [← of_decide_eq_true e]
    exact hz
  · exact fun h => ⟨m, h, by show PyData.eqv (W37.nD m) (W37.nD m) = true; rw [eqv_nD]; exact decide_eq_true rfl⟩
theorem lay_all : ∀ ns : List N2, (∀ n ∈ ns, Gd n) → PyData.canLayAll0 (ns.map W37.nD) = true
  | [], _ => by simp [PyData.canLayAll0]
  | n :: r, h => by
    have h1 := h n List.mem_cons_self
    rw [List.map_cons]
    simp [PyData.canLayAll0, W37.nD, PyData.canLay0, h1.l1.asc.ok, h1.c.asc.ok, lay_all r fun m hm => h m (List.mem_cons_of_mem _ hm)]
theorem dep_rows : ∀ l : List N2, PyData.depthAll (l.map W37.nD) ≤ 3 := dep_all
theorem shaped_tup {ns : List N2} (h : ∀ n ∈ ns, Gd n) : SeqAt.shaped (.tuple (ns.map W37.nD)) = true := by
  unfold SeqAt.shaped
  have h1 : (PyData.tuple (ns.map W37.nD)).canLay0 = true := by simp only [PyData.canLay0]; exact lay_all ns h
  have h2 : (PyData.tuple (ns.map W37.nD)).depth ≤ 64 := by
    have := dep_all ns
    simp only [PyData.depth]
    omega
  rw [h1, decide_eq_true h2]
  rfl
abbrev Nt := V × N2
theorem nml_split {H : Hp} : ∀ {vs : List V} {ns : List N2}, W37.NmL H vs ns → ∃ ts : List Nt, ts.map (·.1) = vs ∧ ts.map (·.2) = ns ∧ ∀ p ∈ ts, W37.NmV H p.1 p.2
  | _, _, .nil => ⟨[], rfl, rfl, fun p hp => by cases hp⟩
  | v :: _, n :: _, .cons h r => by
    obtain ⟨ts, e1, e2, h2⟩ := nml_split r
    refine ⟨(v, n) :: ts, by rw [List.map_cons, e1], by rw [List.map_cons, e2], fun p hp => ?_⟩
    rcases List.mem_cons.mp hp with rfl | z
    · exact h
    · exact h2 p z
theorem nml_join {H : Hp} : ∀ {ts : List Nt}, (∀ p ∈ ts, W37.NmV H p.1 p.2) → W37.NmL H (ts.map (·.1)) (ts.map (·.2))
  | [], _ => .nil
  | p :: ts, h => .cons (h p List.mem_cons_self) (nml_join fun q hq => h q (List.mem_cons_of_mem _ hq))
def spHeap : Sp := fun vs H Q _ => ∃ (TL : Addr) (v : V) (ts : List V) (tl : List Tl) (a : N2), vs = [.ref TL, v] ∧ H TL = some (.lst ts) ∧ TlL H ts tl ∧ tl.length ≤ 60 ∧ W37.NmV H v a ∧ Gd a ∧ (∀ t ∈ tl, Gd t.1.1 ∧ Gd t.1.2) ∧
  ∀ (t : Addr) (ys : List V) (l : List N2) H', L2.Same H H' → H' t = some (.tup ys) → W37.NmL H' ys l → Xnp.Cls (cnt tl) a l → Q (.ref t) H'
theorem ok_heap {f : Addr} {fd : FuncData} (D : Df K mg "_law_heap" ["_law_tellings", "_law_name"] sHeap f fd) (T : Txt K mg) : FnOk P w K mg base CX0 4 f fd ["_law_tellings", "_law_name"] spHeap := by
  refine D.fn.ok scHeap (fun vs H Q E h => ?_) (fun cdv A outer s H vs Q E hr h => ?_)
  · obtain ⟨TL, v, ts, tl, a, rfl, eT, tL, l60, nv, ga, gt, q⟩ := h
    rfl
  · obtain ⟨TL, v, ts, tl, a, rfl, eT, tL, l60, nv, ga, gt, q⟩ := h
    refine ⟨_, (pss_cons (ps_par (i := 2) (j := 3) (by rfl) scHeap.nd rfl rfl (by decide) rfl rfl (pa_cons (pe_lst (pa_cons (pv 1) pa_nil)) (pa_cons pe_int pa_nil)) (by rfl))
      (pss_cons (ps_while PassesOwn.never (pt_cmpR op_lt (pv 3) (pe_callB call_len_seq (by rfl) T.len PySem.boot_len (pa_cons (pv 2) pa_nil)) (nomark _)) (pss_cons (ps_for PassesOwn.never rfl (pi_list (pv 0)) (pg_lst (by rfl) (pgs_cons (pg_name (i := 4) scHeap.nd rfl (.inl rfl)) (pgs_cons (pg_name (i := 5) scHeap.nd rfl (.inl rfl)) (pgs_cons (pg_name (i := 6) scHeap.nd rfl (.inl rfl)) pgs_nil)))) (pss_one (ps_if (PW.pt (pw_and (pt_val (pv 6)) (pw_and1 (pt_cmpR (Xsd.op_inTD (r65 hr)) (pe_ix ix_list (pv 2) (pv 3) (fun _ _ => rfl)) (pe_tup (pa_cons (pv 4) (pa_cons (pv 5) pa_nil))) (by rfl))))) (pss_cons (ps_set (i := 7) scHeap.nd rfl (.inl rfl) (pe_ifExp (pt_cmpR (op_eqD hr.units) (pe_ix ix_list (pv 2) (pv 3) (fun _ _ => rfl)) (pv 4) (nomark _)) (pv 5) (pv 4)))
      (pss_one (ps_if (pt_cmpR (op_notInD (r65 hr)) (pv 7) (pv 2) (by rfl)) (pss_one (ps_expr (pe_bm PySem.F.plainAttrs_list PySem.F.slot_list_append PySem.F.type_list_append mt_append (pv 2) (pa_cons (pv 7) pa_nil)))) pss_nil))) pss_nil)))
      (pss_one (ps_set (i := 3) scHeap.nd rfl (.inl rfl) (pe_op op_add (pv 3) pe_int)))))
      (pss_one (ps_ret (pe_callTy call_tuple_of (by rfl) T.tuple (by decide +kernel) (pa_cons (pe_callB (Xsd.cr_sortD (k := 0) (hr.mono (by decide))) (by rfl) T.sorted (by decide +kernel) (pa_cons (pv 2) pa_nil)) pa_nil)))))), ?_⟩
    obtain ⟨ta, rfl, eta⟩ := nv
    refine ⟨_, rfl, (by show 1 ≤ sizeLine; decide), fun F nF => ?_⟩
    have sF := same_upd nF (o := .lst [.ref ta])
    have eF : (L2.upd H F (.lst [.ref ta])) F = some (.lst [.ref ta]) := upd_same
    generalize L2.upd H F (.lst [.ref ta]) = H1 at sF eF ⊢
    have few : ∀ fs : List N2, fs.Nodup → (∀ b ∈ fs, Rch (cnt tl) a b) → fs.length ≤ 121 := fun fs nd rr => by
      have := nd_len nd (m := a :: nodes (cnt tl)) fun b hb => by
        rcases rch_in (rr b hb) with rfl | z
        · exact List.mem_cons_self
        · exact List.mem_cons_of_mem _ z
      have h2 := nodes_len (cnt tl)
      have h3 : (cnt tl).length ≤ tl.length := by unfold cnt; rw [List.length_map]; exact List.length_filter_le _ _
      rw [List.length_cons] at this
      omega
    have good : ∀ b, Rch (cnt tl) a b → Gd b := fun b r => by
      rcases rch_in r with rfl | z
      · exact ga
      · obtain ⟨c, j⟩ := mem_nodes.mp z
        rcases j with j | j
        · exact (gt _ (mem_cnt.mp j)).1
        · exact (gt _ (mem_cnt.mp j)).2
    refine ⟨_, _, rfl, ?_⟩
    refine ⟨fun m σ Hx => ∃ (c4 c5 c6 c7 : Option V) (at_ : Nat) (fs : List N2) (xs : List V), σ = [some (.ref TL), some (.ref ta), some (.ref F), some (.int (at_ : Int)), c4, c5, c6, c7] ∧ m = 122 - at_ ∧ L2.Same H Hx ∧ Hx F = some (.lst xs) ∧ W37.NmL Hx xs fs ∧ fs.Nodup ∧ a ∈ fs ∧ (∀ b ∈ fs, Rch (cnt tl) a b) ∧ at_ ≤ fs.length ∧
      ∀ (i : Nat) (b : N2), i < at_ → fs[i]? = some b → ∀ c, Adj (cnt tl) b c → c ∈ fs, ⟨_, none, none, none, none, 0, [a], _, rfl, rfl, sF, eF, .cons ⟨ta, rfl, sF _ _ eta⟩ .nil, by simp, by simp, fun b hb => by rw [List.mem_singleton.mp hb]; exact .refl a, by simp, fun i b h => by omega⟩, ?_⟩
    rintro m σ Hx ⟨c4, c5, c6, c7, at_, fs, xs, rfl, rfl, sx, eFx, nl, nd, ha, rr, al, shut⟩
    have xl := nl.len
    have lfs := few fs nd rr
    refine ⟨_, rfl, _, rfl, F, xs, rfl, .inl (SqL.of eFx), _, _, rfl, rfl, _, rfl, ?_⟩
    by_cases c0 : at_ < fs.length
    · rw [decide_eq_true (show (at_ : Int) < ((xs.length : Nat) : Int) by omega)]
      refine iteT ?_
      obtain ⟨x0, ex0⟩ : ∃ x0, fs[at_]? = some x0 := ⟨_, List.getElem?_eq_getElem c0⟩
      refine ⟨fun σ' Hy => ∃ (c4 c5 c6 c7 : Option V) (fs' : List N2) (xs' ms : List V) (ns : List N2), σ' = [some (.ref TL), some (.ref ta), some (.ref F), some (.int ((at_ + 1 : Nat) : Int)), c4, c5, c6, c7] ∧ fs' = fs ++ ns ∧ L2.Same H Hy ∧ Hy F = some (.lst xs') ∧ W37.NmL Hy xs' fs' ∧ fs'.Nodup ∧ (∀ b ∈ fs', Rch (cnt tl) a b) ∧
        ∀ c, Adj (cnt tl) x0 c → c ∈ fs', fun σ' Hy h => ?_, ?_⟩
      · obtain ⟨c4, c5, c6, c7, fs', xs', ms, ns, rfl, rfl, sy, eFy, nl', nd', rr', cl⟩ := h
        refine ⟨122 - (at_ + 1), by omega, c4, c5, c6, c7, at_ + 1, fs ++ ns, xs', rfl, rfl, sy, eFy, nl', nd', List.mem_append_left _ ha, rr', by rw [List.length_append]; omega, fun i b hi eb c j => ?_⟩
        by_cases ci : i < at_
        · rw [List.getElem?_append_left (by omega)] at eb
          exact List.mem_append_left _ (shut i b ci eb c j)
        · have : i = at_ := by omega
          subst this
          rw [List.getElem?_append_left (by omega), ex0] at eb
          cases eb
          exact cl c j
      have eTx := sx _ _ eT
      refine ⟨_, rfl, TL, rfl, ⟨_, SqL.of eTx⟩, for_list (K := K) (a := TL) (xs := ts) (fun j σ' Hy => ∃ (c4 c5 c6 c7 : Option V) (xs' : List V) (ns : List N2), σ' = [some (.ref TL), some (.ref ta), some (.ref F), some (.int (at_ : Int)), c4, c5, c6, c7] ∧ L2.Same H Hy ∧ Hy F = some (.lst xs') ∧ W37.NmL Hy xs' (fs ++ ns) ∧ (fs ++ ns).Nodup ∧ (∀ b ∈ fs ++ ns, Rch (cnt tl) a b) ∧
        ∀ t ∈ tl.take j, t.2 = true → (t.1.1 = x0 → t.1.2 ∈ fs ++ ns) ∧ (t.1.2 = x0 → t.1.1 ∈ fs ++ ns)) ⟨c4, c5, c6, c7, xs, [], rfl, sx, eFx, by rw [List.append_nil]; exact nl, by rw [List.append_nil]; exact nd, by rw [List.append_nil]; exact rr, fun t h => by simp at h⟩ (fun i σ Hi _ z => by obtain ⟨_, _, _, _, _, _, _, z, _⟩ := z; exact SqL.of (z _ _ eT)) ?_ ?_⟩
      · rintro j x σ' Hy hx ⟨c4, c5, c6, c7, xs', ns, rfl, sy, eFy, nl', nd', rr', cl⟩
        obtain ⟨t, r, va, vb, et, rfl, er, na, nb⟩ := tL.get hx
        have er := sy _ _ er
        obtain ⟨g1, g2⟩ := gt t (List.mem_of_getElem? et)
        obtain ⟨tna, rfl, ena⟩ := na.tp (W37.tp_same sy)
        obtain ⟨tnb, rfl, enb⟩ := nb.tp (W37.tp_same sy)
        refine ⟨r, _, rfl, SqL.of er, rfl, _, _, rfl, _, _, rfl, _, _, rfl, rfl, ?_⟩
        have tk : tl.take (j + 1) = tl.take j ++ [t] := by rw [List.take_add_one, et]; rfl
        have lfn := few _ nd' rr'
        have xl' := nl'.len
        have atl : at_ < xs'.length := by rw [xl', List.length_append]; omega
        obtain ⟨n0, en0, t0, ev0, et0⟩ := nl'.get (List.getElem?_eq_getElem atl)
        have : n0 = x0 := by
          rw [List.getElem?_append_left c0, ex0] at en0
          cases en0
          rfl
        subst this
        have ex' : xs'[at_]? = some (.ref t0) := by rw [List.getElem?_eq_getElem atl, ev0]
        have g0 : Gd n0 := good n0 (rr n0 (List.mem_of_getElem? ex0))
        have dpn : ∀ {Hz : Hp} {z : Addr} {n : N2}, Hz z = some (.tup [.str n.1, .str n.2]) → Dp K Hz (.ref z) (W37.nD n) := fun e => .tup (SqT.of e) (.cons (.str _) (.cons (.str _) .nil))
        -- nothing new
        have keep : ∀ (Hz : Hp) (c7' : Option V), L2.Same Hy Hz → (t.2 = true → (t.1.1 = n0 → t.1.2 ∈ fs ++ ns) ∧ (t.1.2 = n0 → t.1.1 ∈ fs ++ ns)) → ∃ (c4 c5 c6 c7 : Option V) (xs' : List V) (ns : List N2), [some (V.ref TL), some (.ref ta), some (.ref F), some (.int (at_ : Int)), some (.ref tna), some (.ref tnb), some (.bl t.2), c7'] = [some (V.ref TL), some (.ref ta), some (.ref F), some (.int (at_ : Int)), c4, c5, c6, c7] ∧ L2.Same H Hz ∧ Hz F = some (.lst xs') ∧ W37.NmL Hz xs' (fs ++ ns) ∧ (fs ++ ns).Nodup ∧ (∀ b ∈ fs ++ ns, Rch (cnt tl) a b) ∧
            ∀ t ∈ tl.take (j + 1), t.2 = true → (t.1.1 = n0 → t.1.2 ∈ fs ++ ns) ∧ (t.1.2 = n0 → t.1.1 ∈ fs ++ ns) := fun Hz c7' sz ok => by
          refine ⟨_, _, _, _, xs', ns, rfl, sy.trans sz, sz _ _ eFy, nl'.tp (W37.tp_same sz), nd', rr', fun t' h => ?_⟩
          rw [tk] at h
          rcases List.mem_append.mp h with z | z
          · exact cl t' z
          · rw [List.mem_singleton.mp z]
            exact ok
        refine ⟨_, rfl, _, rfl, ite2 (fun e => ?_) (fun e => ?_)⟩
        · refine ⟨_, rfl, _, rfl, F, xs', (at_ : Int), .ref t0, rfl, rfl, SqL.of eFy, atI_nat ex', _, rfl, _, rfl, (by show 2 ≤ sizeLine; decide), fun Z nZ => ?_⟩
          have sZ := same_upd nZ (o := .tup [.ref tna, .ref tnb])
          have eZ : (L2.upd Hy Z (.tup [.ref tna, .ref tnb])) Z = some (.tup [.ref tna, .ref tnb]) := upd_same
          have eF4 := sZ _ _ eFy
          have ea4 := sZ _ _ ena
          have eb4 := sZ _ _ enb
          have e04 := sZ _ _ et0
          have nl4 := nl'.tp (W37.tp_same sZ)
          generalize L2.upd Hy Z (.tup [.ref tna, .ref tnb]) = H4 at sZ eZ eF4 ea4 eb4 e04 nl4 ⊢
          refine ⟨W37.nD n0, [t.1.1, t.1.2].map W37.nD, dpn e04, .tup (SqT.of eZ) (.cons (dpn ea4) (.cons (dpn eb4) .nil)), g0.sh, shaped_tup (fun n hn => ?_), _, rfl, ?_⟩
          · simp only [List.mem_cons, List.not_mem_nil, or_false] at hn
            rcases hn with rfl | rfl
            · exact g1
            · exact g2
          rw [any_nD]
          by_cases m : n0 ∈ [t.1.1, t.1.2]
          · rw [decide_eq_true m]
            have m2 : n0 = t.1.1 ∨ n0 = t.1.2 := by simpa using m
            refine iteT ?_
            refine ⟨_, rfl, _, rfl, F, xs', (at_ : Int), .ref t0, rfl, rfl, SqL.of eF4, atI_nat ex', _, rfl, W37.nD n0, W37.nD t.1.1, dpn e04, dpn ea4, g0.sh, g1.sh, _, rfl, ?_⟩
            rw [eqv_nD]
            by_cases c1 : n0 = t.1.1
            · rw [decide_eq_true c1]
              refine iteT ?_
              have rn : Rch (cnt tl) a t.1.2 := .step (rr n0 (List.mem_of_getElem? ex0)) (.inl (by rw [c1]; exact mem_cnt.mpr (by rw [← e]; exact List.mem_of_getElem? et)))
              refine ⟨_, rfl, ?_⟩
              refine ⟨_, rfl, _, rfl, W37.nD t.1.2, (fs ++ ns).map W37.nD, dpn eb4, .lst (SqL.of eF4) (nml_dp nl4), g2.sh, shaped_list (lay_all _ fun n hn => good n (rr' n hn)) (dep_all _), _, rfl, ?_⟩
              rw [any_nD]
              by_cases m3 : t.1.2 ∈ fs ++ ns
              · rw [decide_eq_true m3]
                refine iteF (keep H4 _ sZ fun _ => ?_)
                exact ⟨fun _ => m3, fun w => by rw [show t.1.1 = n0 from c1.symm]; exact List.mem_append_left _ (List.mem_of_getElem? ex0)⟩
              · rw [decide_eq_false m3]
                have zl : xs'.length < sizeLine := Nat.lt_of_le_of_lt (show xs'.length ≤ 200 by omega) (by decide)
                have tpF : W37.Tp H4 (L2.upd H4 F (.lst (xs' ++ [.ref tnb]))) := W37.tp_upd fun us z => by rw [eF4] at z; cases z
                refine iteT ⟨_, rfl, .inl ⟨rfl, _, SqL.of eF4⟩, _, rfl, F, xs', _, rfl, rfl, eF4, zl, _, _, _, _, xs' ++ [.ref tnb], ns ++ [t.1.2], rfl, fun b2 o eo => ?_, upd_same, ?_, ?_, fun b2 hb2 => ?_, fun t' h => ?_⟩
                · rw [upd_ne (ne_of_none eo nF)]
                  exact sZ _ _ (sy _ _ eo)
                · rw [← List.append_assoc]
                  exact (nl4.tp tpF).snoc (W37.NmV.tp ⟨tnb, rfl, eb4⟩ tpF)
                · rw [← List.append_assoc, List.nodup_append]
                  refine ⟨nd', by simp, fun x hx y hy => ?_⟩
                  rw [List.mem_singleton.mp hy]
                  rintro rfl
                  exact m3 hx
                · rw [← List.append_assoc] at hb2
                  rcases List.mem_append.mp hb2 with z | z
                  · exact rr' b2 z
                  · rw [List.mem_singleton.mp z]
                    exact rn
                · have up : ∀ z, z ∈ fs ++ ns → z ∈ fs ++ (ns ++ [t.1.2]) := fun z hz => by rw [← List.append_assoc]; exact List.mem_append_left _ hz
                  have new : t.1.2 ∈ fs ++ (ns ++ [t.1.2]) := by simp
                  rw [tk] at h
                  rcases List.mem_append.mp h with z | z
                  · intro e3
                    obtain ⟨q1, q2⟩ := cl t' z e3
                    exact ⟨fun w => up _ (q1 w), fun w => up _ (q2 w)⟩
                  · rw [List.mem_singleton.mp z]
                    intro _
                    exact ⟨fun _ => new, fun w => by rw [show t.1.1 = n0 from c1.symm]; exact up _ (List.mem_append_left _ (List.mem_of_getElem? ex0))⟩
            · rw [decide_eq_false c1]
              refine iteF ?_
              have rn : Rch (cnt tl) a t.1.1 := .step (rr n0 (List.mem_of_getElem? ex0)) (.inr (by rw [m2.resolve_left c1]; exact mem_cnt.mpr (by rw [← e]; exact List.mem_of_getElem? et)))
              refine ⟨_, rfl, ?_⟩
              refine ⟨_, rfl, _, rfl, W37.nD t.1.1, (fs ++ ns).map W37.nD, dpn ea4, .lst (SqL.of eF4) (nml_dp nl4), g1.sh, shaped_list (lay_all _ fun n hn => good n (rr' n hn)) (dep_all _), _, rfl, ?_⟩
              rw [any_nD]
              by_cases m3 : t.1.1 ∈ fs ++ ns
              · rw [decide_eq_true m3]
                refine iteF (keep H4 _ sZ fun _ => ?_)
                exact ⟨fun w => absurd w.symm c1, fun _ => m3⟩
              · rw [decide_eq_false m3]
                have zl : xs'.length < sizeLine := Nat.lt_of_le_of_lt (show xs'.length ≤ 200 by omega) (by decide)
                have tpF : W37.Tp H4 (L2.upd H4 F (.lst (xs' ++ [.ref tna]))) := W37.tp_upd fun us z => by rw [eF4] at z; cases z
                refine iteT ⟨_, rfl, .inl ⟨rfl, _, SqL.of eF4⟩, _, rfl, F, xs', _, rfl, rfl, eF4, zl, _, _, _, _, xs' ++ [.ref tna], ns ++ [t.1.1], rfl, fun b2 o eo => ?_, upd_same, ?_, ?_, fun b2 hb2 => ?_, fun t' h => ?_⟩
                · rw [upd_ne (ne_of_none eo nF)]
                  exact sZ _ _ (sy _ _ eo)
                · rw [← List.append_assoc]
                  exact (nl4.tp tpF).snoc (W37.NmV.tp ⟨tna, rfl, ea4⟩ tpF)
                · rw [← List.append_assoc, List.nodup_append]
                  refine ⟨nd', by simp, fun x hx y hy => ?_⟩
                  rw [List.mem_singleton.mp hy]
                  rintro rfl
                  exact m3 hx
                · rw [← List.append_assoc] at hb2
                  rcases List.mem_append.mp hb2 with z | z
                  · exact rr' b2 z
                  · rw [List.mem_singleton.mp z]
                    exact rn
                · have up : ∀ z, z ∈ fs ++ ns → z ∈ fs ++ (ns ++ [t.1.1]) := fun z hz => by rw [← List.append_assoc]; exact List.mem_append_left _ hz
                  have new : t.1.1 ∈ fs ++ (ns ++ [t.1.1]) := by simp
                  rw [tk] at h
                  rcases List.mem_append.mp h with z | z
                  · intro e3
                    obtain ⟨q1, q2⟩ := cl t' z e3
                    exact ⟨fun w => up _ (q1 w), fun w => up _ (q2 w)⟩
                  · rw [List.mem_singleton.mp z]
                    intro _
                    exact ⟨fun w => absurd w.symm c1, fun _ => new⟩
          · rw [decide_eq_false m]
            refine iteF (keep H4 c7 sZ fun _ => ⟨fun z => absurd (by rw [← z]; simp) m, fun z => absurd (by rw [← z]; simp) m⟩)
        · exact iteF (keep Hy c7 (Same.refl _) fun z => absurd z e)
      · rintro σ' Hy ⟨c4, c5, c6, c7, xs', ns, rfl, sy, eFy, nl', nd', rr', cl⟩
        rw [List.take_of_length_le (by rw [← tL.len]; exact Nat.le_refl _)] at cl
        refine ⟨_, rfl, _, 1, rfl, rfl, c4, c5, c6, c7, fs ++ ns, xs', [], ns, rfl, rfl, sy, eFy, nl', nd', rr', fun c j => ?_⟩
        rcases j with j | j
        · exact (cl _ (mem_cnt.mp j) rfl).1 rfl
        · exact (cl _ (mem_cnt.mp j) rfl).2 rfl
    · rw [decide_eq_false (show ¬ (at_ : Int) < ((xs.length : Nat) : Int) by omega)]
      refine iteF ?_
      obtain ⟨ps, ep1, ep2, hps⟩ := nml_split nl
      have ebs : (ps.map fun p : Nt => ((p.1, W37.nD p.2) : Xsd.Pd)).map (·.1) = xs := by rw [List.map_map, ← ep1]; rfl
      have ebd : (ps.map fun p : Nt => ((p.1, W37.nD p.2) : Xsd.Pd)).map (·.2) = fs.map W37.nD := by rw [List.map_map, ← ep2, List.map_map]; rfl
      refine ⟨_, rfl, F, ps.map fun p : Nt => ((p.1, W37.nD p.2) : Xsd.Pd), rfl, .inl (by rw [ebs]; exact SqL.of eFx), fun b hb => ?_, ?_, ?_, fun b hb => ?_, fun p np => ?_⟩
      · obtain ⟨x, hx, rfl⟩ := List.mem_map.mp hb
        obtain ⟨z, e1, e2⟩ := hps x hx
        show Dp K Hx x.1 (W37.nD x.2)
        rw [e1]
        exact .tup (SqT.of e2) (.cons (.str _) (.cons (.str _) .nil))
      · rw [ebd]
        intro x hx y hy
        obtain ⟨x', _, rfl⟩ := List.mem_map.mp hx
        obtain ⟨y', _, rfl⟩ := List.mem_map.mp hy
        exact alike_nD x' y'
      · rw [ebd]
        refine .inl fun x hx => ?_
        obtain ⟨x', _, rfl⟩ := List.mem_map.mp hx
        exact ⟨_, _, rfl⟩
      · obtain ⟨x, hx, rfl⟩ := List.mem_map.mp hb
        exact dep_nD x.2
      have em : ((ps.map fun p : Nt => ((p.1, W37.nD p.2) : Xsd.Pd)).mergeSort (PySem.W.dataLe false fun b : Xsd.Pd => b.2)).map (·.1) = (ps.mergeSort (PySem.W.dataLe false fun p : Nt => W37.nD p.2)).map (·.1) := by
        rw [← List.map_mergeSort (r := PySem.W.dataLe false fun p : Nt => W37.nD p.2) (s := PySem.W.dataLe false fun b : Xsd.Pd => b.2) (f := fun p : Nt => ((p.1, W37.nD p.2) : Xsd.Pd)) fun a _ b _ => rfl, List.map_map]
        rfl
      have es : (ps.mergeSort (PySem.W.dataLe false fun p : Nt => W37.nD p.2)).map (·.2) = fs.mergeSort nmLe := by
        rw [← ep2]
        exact List.map_mergeSort (r := PySem.W.dataLe false fun p : Nt => W37.nD p.2) (s := nmLe) (f := fun p : Nt => p.2) fun a _ b _ => rfl
      rw [em]
      have gj := nml_join (H := Hx) (ts := ps.mergeSort (PySem.W.dataLe false fun p : Nt => W37.nD p.2)) fun p hp => hps p ((List.mergeSort_perm _ _).mem_iff.mp hp)
      rw [es] at gj
      have pm := List.mergeSort_perm fs nmLe
      generalize (ps.mergeSort (PySem.W.dataLe false fun p : Nt => W37.nD p.2)).map (·.1) = xs2 at gj ⊢
      have sp := same_upd np (o := .lst xs2)
      refine ⟨p, _, rfl, .inl ⟨SqL.of upd_same, fun t nt => ?_⟩⟩
      have st := same_upd nt (o := .tup xs2)
      refine q t xs2 (fs.mergeSort nmLe) _ (sx.trans (sp.trans st)) upd_same (gj.tp (W37.tp_same (sp.trans st))) ⟨pm.nodup_iff.mpr nd, fun b => pm.mem_iff.trans ⟨rr b, fun r => ?_⟩, rise_sort fs⟩
      refine r.shut (S := fun b => b ∈ fs) ha fun x y hx j => ?_
      obtain ⟨i, hi⟩ := List.getElem?_of_mem hx
      exact shut i x (by have := (List.getElem?_eq_some_iff.mp hi).1; omega) hi y j
end
end K16
set_option Elab.async false
set_option linter.all false
set_option maxRecDepth 100000
set_option maxHeartbeats 4000000
set_option pp.maxSteps 400
set_option pp.deepTerms false
namespace K16
open PySem PySem.Spec PyProof.Rows L2
open Xk Az Xnp
section
variable {P : Program} {w : World} {K : PySem.W.Frag} {mg : Str → Option Value} {base : Heap}
noncomputable def oneB (es : List Pair) (a b : N2) : Bool := open Classical in decide (Rch es a b)
def spAreOne (C : Addr) : Sp := fun vs H Q _ => ∃ (b dx g : Addr) (fs : List (Str × V)) (u v : V) (es : List Pair) (x y : N2), vs = [.ref b, u, v] ∧ H b = some (.ins C dx fs) ∧ fs.lookup ("groups" : Str) = some (.ref g) ∧ fs.lookup ("class_of" : Str) = none ∧ Gps H g es ∧ W37.NmV H u x ∧ W37.NmV H v y ∧ Gd x ∧ Gd y ∧ (∀ n ∈ nodes es, Gd n) ∧
  ∀ H', L2.Same H H' → Q (.bl (oneB es x y)) H'
theorem Gps.same {H H' : Hp} {g : Addr} {es : List Pair} (h : Gps H g es) (s : L2.Same H H') : Gps H' g es := by
  obtain ⟨kv, e, al, no⟩ := h
  refine ⟨kv, s _ _ e, fun a ha => ?_, no⟩
  obtain ⟨t, ys, l, e1, e2, e3, c⟩ := al a ha
  exact ⟨t, ys, l, e1, s _ _ e2, e3.tp (W37.tp_same s), c⟩
theorem ok_one {f : Addr} {fd : FuncData} {C : Addr} (F : L2.Fun K "are_one" "Names.are_one" sNamesAreOne f fd) (T : Txt K mg) (hC : L2.Cls K C) (n3 : NoAttr K C "groups") (cCo : Mt P w K mg base 1 C "class_of" ["self", "name"] (spClassOf C)) : FnOk P w K mg base CX0 2 f fd ["self", "one", "other"] (spAreOne C) := by
  obtain ⟨fC, fdC, mtC, okC, bdC⟩ := cCo.ex
  refine F.ok scNamesAreOne (fun vs H Q E h => ?_) (fun cdv A outer s H vs Q E hr h => ?_)
  · obtain ⟨b, dx, g, fs, u, v, es, x, y, rfl, eb, lg, lno, gp, nu, nv, gx, gy, gall, q⟩ := h
    rfl
  · obtain ⟨b, dx, g, fs, u, v, es, x, y, rfl, eb, lg, lno, gp, nu, nv, gx, gy, gall, q⟩ := h
    refine ⟨_, (pss_one (ps_ret (pe_cmpR (op_eqD hr.units) (pe_ix ix_tup (pe_meth (pv 0) hC mtC okC (hr.mono (by decide)) bdC .nil pass0 (pa_cons (pv 1) pa_nil)) pe_int (fun _ _ => rfl)) (pe_ix ix_tup (pe_meth (pv 0) hC mtC okC (hr.mono (by decide)) bdC .nil pass0 (pa_cons (pv 2) pa_nil)) pe_int (fun _ _ => rfl)) (nomark _)))), ?_⟩
    refine ⟨_, rfl, b, dx, fs, rfl, eb, lno, _, rfl, b, dx, g, fs, u, es, x, rfl, eb, lg, gp, nu, fun t ys l H1 s1 et nl c => ?_⟩
    have first : ∀ {H : Hp} {ys : List V} {l : List N2} {a : N2}, W37.NmL H ys l → Xnp.Cls es a l → Gd a → ∃ v n, ys[0]? = some v ∧ l[0]? = some n ∧ W37.NmV H v n ∧ Gd n := fun {H ys l a} nl c ga => by
      cases nl with
      | nil => exact absurd c.self (by simp)
      | cons h r =>
        refine ⟨_, _, rfl, rfl, h, ?_⟩
        rcases rch_in ((c.mem _).mp List.mem_cons_self) with z | z
        · rw [z]; exact ga
        · exact gall _ z
    obtain ⟨v1, n1, e1, f1, nv1, g1⟩ := first nl c gx
    refine ⟨t, _, 0, v1, rfl, rfl, SqT.of et, atI_nat (j := 0) e1, ?_⟩
    refine ⟨_, rfl, b, dx, fs, rfl, s1 _ _ eb, lno, _, rfl, b, dx, g, fs, v, es, y, rfl, s1 _ _ eb, lg, gp.same s1, nv.tp (W37.tp_same s1), fun t2 ys2 l2 H2 s2 et2 nl2 c2 => ?_⟩
    obtain ⟨v2, n2, e2, f2, nv2, g2⟩ := first nl2 c2 gy
    refine ⟨t2, _, 0, v2, rfl, rfl, SqT.of et2, atI_nat (j := 0) e2, ?_⟩
    obtain ⟨a1, rfl, ea1⟩ := nv1.tp (W37.tp_same s2)
    obtain ⟨a2, rfl, ea2⟩ := nv2
    refine ⟨W37.nD n1, W37.nD n2, .tup (SqT.of ea1) (.cons (.str _) (.cons (.str _) .nil)), .tup (SqT.of ea2) (.cons (.str _) (.cons (.str _) .nil)), g1.sh, g2.sh, ?_⟩
    rw [eqv_nD]
    have ed : decide (n1 = n2) = oneB es x y := by
      have r1 := (c.mem n1).mp (List.mem_of_getElem? f1)
      have r2 := (c2.mem n2).mp (List.mem_of_getElem? f2)
      by_cases r : Rch es x y
      · have e3 : oneB es x y = true := by unfold oneB; exact @decide_eq_true _ (_) r
        have := (c.of r).uniq c2
        rw [this, f2] at f1
        rw [e3, decide_eq_true (Option.some.inj f1).symm]
      · have e3 : oneB es x y = false := by unfold oneB; exact @decide_eq_false _ (_) r
        rw [e3, decide_eq_false]
        rintro rfl
        exact r (r1.trans r2.symm)
    rw [ed]
    exact q H2 (s1.trans s2)
end
end K16
set_option Elab.async false
set_option linter.all false
set_option maxRecDepth 100000
set_option maxHeartbeats 4000000
set_option pp.maxSteps 400
set_option pp.deepTerms false
namespace K16
open PySem PySem.Spec PyProof.Rows L2
open Xk Az Xnp
section
variable {P : Program} {w : World} {K : PySem.W.Frag} {mg : Str → Option Value} {base : Heap}
def spWiI : Sp := fun vs H Q _ => ∃ (n a b : Int), vs = [.int n, .int a, .int b] ∧ Q (.bl (decide (a ≤ n ∧ n ≤ b))) H
def spStrike (C : Addr) : Sp := fun vs H Q _ => ∃ (fr : Addr → Prop) (b c : Addr) (m k : Int) (es : List (Int × Pair)) (x y : N2), vs = [.ref b, .int k] ∧ Nb H C b c m es fr ∧ 0 ≤ k ∧ k < m ∧ (k, (x, y)) ∈ es ∧ (es.map (·.1)).Nodup ∧ (∀ e ∈ es, Gd e.2.1 ∧ Gd e.2.2) ∧ es.length ≤ 100 ∧
  ∀ r H', Nb H' C b c m (es.filter fun e => decide (e.1 ≠ k)) (fun x => H x = none) → B2n b c H H' → Q r H'
theorem drop_sync {H : Hp} (k : Int) : ∀ {kvs : List (Key × V)} {es : List (Int × Pair)}, kvs.map (·.1) = es.map (fun e => Sum.inl e.1) → PrL H (kvs.map (·.2)) (es.map (·.2)) →
    (dropK kvs (.inl k)).map (·.1) = (es.filter fun e => decide (e.1 ≠ k)).map (fun e => Sum.inl e.1) ∧ PrL H ((dropK kvs (.inl k)).map (·.2)) ((es.filter fun e => decide (e.1 ≠ k)).map (·.2))
  | [], [], _, _ => ⟨rfl, .nil⟩
  | [], _ :: _, h, _ => by simp at h
  | _ :: _, [], h, _ => by simp at h
  | (key0, v0) :: kvs, (n, p) :: es, h, pr => by
    rw [List.map_cons, List.map_cons] at h
    injection h with h1 h2
    have h1 : key0 = .inl n := h1
    subst h1
    rw [List.map_cons, List.map_cons] at pr
    cases pr with
    | @cons t a b _ _ _ q1 q2 q3 q4 =>
      obtain ⟨i1, i2⟩ := drop_sync k h2 q4
      unfold dropK at i1 i2 ⊢
      by_cases c : n = k
      · subst c
        rw [List.filter_cons_of_neg (by simp), List.filter_cons_of_neg (by simp)]
        exact ⟨i1, i2⟩
      · have c2 : ¬ (Sum.inl n : Key) = Sum.inl k := fun z => c (Sum.inl.inj z)
        rw [List.filter_cons_of_pos (by simpa using c2), List.filter_cons_of_pos (by simpa using c)]
        exact ⟨by rw [List.map_cons, List.map_cons, i1], .cons q1 q2 q3 i2⟩
theorem get_sync {H : Hp} {k : Int} {p : Pair} : ∀ {kvs : List (Key × V)} {es : List (Int × Pair)}, kvs.map (·.1) = es.map (fun e => Sum.inl e.1) → PrL H (kvs.map (·.2)) (es.map (·.2)) → (es.map (·.1)).Nodup → (k, p) ∈ es →
    ∃ (t : Addr) (a b : V), valV kvs (.inl k) = some (.ref t) ∧ H t = some (.tup [a, b]) ∧ W37.NmV H a p.1 ∧ W37.NmV H b p.2
  | _, [], _, _, _, h => by cases h
  | [], _ :: _, h, _, _, _ => by simp at h
  | (key0, v0) :: kvs, (n, p0) :: es, h, pr, nd, hin => by
    rw [List.map_cons, List.map_cons] at h
    injection h with h1 h2
    have h1 : key0 = .inl n := h1
    subst h1
    rw [List.map_cons, List.map_cons] at pr
    rw [List.map_cons] at nd
    have nd := List.nodup_cons.mp nd
    cases pr with
    | @cons t a b _ _ _ q1 q2 q3 q4 =>
      rcases List.mem_cons.mp hin with z | z
      · cases z
        refine ⟨t, a, b, ?_, q1, q2, q3⟩
        unfold valV
        rw [List.find?_cons_of_pos (by simp)]
        rfl
      · have ne : ¬ (Sum.inl n : Key) = Sum.inl k := fun w => nd.1 (by
          rw [Sum.inl.inj w]
          exact List.mem_map.mpr ⟨_, z, rfl⟩)
        obtain ⟨t', a', b', r⟩ := get_sync h2 q4 nd.2 z
        refine ⟨t', a', b', ?_, r.2⟩
        have r1 := r.1
        unfold valV at r1 ⊢
        rw [List.find?_cons_of_neg (by simpa using ne)]
        exact r1
theorem Nb.same {H H' : Hp} {C b c : Addr} {m : Int} {es : List (Int × Pair)} {fr : Addr → Prop} (h : Nb H C b c m es fr) (s : L2.Same H H') : Nb H' C b c m es fr := by
  obtain ⟨dx, l, g, kvs, e1, e2, e3, e4, e5, e6⟩ := h.ex
  exact ⟨dx, l, g, kvs, s _ _ e1, s _ _ e2, e3, e4.tp (W37.tp_same s), e5.same s, e6.same s⟩
theorem Nb.imp {H : Hp} {C b c : Addr} {m : Int} {es : List (Int × Pair)} {fr fr' : Addr → Prop} (h : Nb H C b c m es fr) (s : ∀ x ys, H x = some (.lst ys) → fr x → fr' x) : Nb H C b c m es fr' := by
  obtain ⟨dx, l, g, kvs, e1, e2, e3, e4, e5, e6⟩ := h.ex
  exact ⟨dx, l, g, kvs, e1, e2, e3, e4, e5, e6.imp s⟩
theorem ok_strike {f : Addr} {fd : FuncData} {C : Addr} (F : L2.Fun K "strike" "Names.strike" sNamesStrike f fd) (T : Txt K mg) (N : NbC K C) (cWi : Ca P w K mg base 2 "is_within" ["thing", "least", "most"] spWiI) (cSo : Mt P w K mg base 5 C "sort_out" ["self"] (spSort K)) (cCo : Mt P w K mg base 1 C "class_of" ["self", "name"] (spClassOf C)) (cAo : Mt P w K mg base 2 C "are_one" ["self", "one", "other"] (spAreOne C)) : FnOk P w K mg base CX0 6 f fd ["self", "number"] (spStrike C) := by
  obtain ⟨fS, fdS, mtS, okS, bdS⟩ := cSo.ex
  obtain ⟨fC, fdC, mtC, okC, bdC⟩ := cCo.ex
  obtain ⟨fA, fdA, mtA, okA, bdA⟩ := cAo.ex
  refine F.ok scNamesStrike (fun vs H Q E h => ?_) (fun cdv A outer s H vs Q E hr h => ?_)
  · obtain ⟨fr0, b, c, m, k, es, x, y, rfl, nb0, k0, k1, hin, nd, gd, l100, q⟩ := h
    rfl
  · obtain ⟨fr0, b, c, m, k, es, x, y, rfl, nb0, k0, k1, hin, nd, gd, l100, q⟩ := h
    refine ⟨_, (pss_cons (ps_if (pt_not (pt_val (pe_ca cWi hr (by decide) (by rfl) (pa_cons (pv 1) (pa_cons pe_int (pa_cons (pe_op op_sub (pe_fld (pv 0) rfl) pe_int) pa_nil)))))) (pss_one ps_no) pss_nil)
      (pss_cons (ps_if (pt_cmp (pc_dnotin (hu_of hr) (pv 1) (pe_fld (pv 0) rfl))) (pss_one ps_no) pss_nil)
      (pss_cons (ps_asg (pe_dget (hu_of hr) (pe_fld (pv 0) rfl) (pv 1) (fun _ _ => rfl)) (pg_tup (by rfl) (pgs_cons (pg_name (i := 2) scNamesStrike.nd rfl (.inl rfl)) (pgs_cons (pg_name (i := 3) scNamesStrike.nd rfl (.inl rfl)) pgs_nil))))
      (pss_cons (ps_set (i := 4) scNamesStrike.nd rfl (.inl rfl) ((pe_meth (pv 0) N.cls mtC okC (hr.mono (by decide)) bdC .nil pass0 (pa_cons (pv 2) pa_nil))))
      (pss_cons (ps_ddel (pe_fld (pv 0) rfl) (pv 1))
      (pss_cons (ps_expr ((pe_meth0 (pv 0) N.cls mtS okS (hr.mono (by decide)) bdS .nil pass0)))
      (pss_cons (ps_if (pt_val ((pe_meth (pv 0) N.cls mtA okA (hr.mono (by decide)) bdA .nil pass0 (pa_cons (pv 2) (pa_cons (pv 3) pa_nil))))) (pss_one (ps_ret (pe_tup pa_nil))) pss_nil)
      (pss_one (ps_ret (pe_tup (pa_cons (pe_tup (pa_cons (pv 4) (pa_cons (pe_callTy call_tuple_of (by rfl) T.tuple (by decide +kernel) (pa_cons (pe_callB (Xsd.cr_sortD (k := 0) (hr.mono (by decide))) (by rfl) T.sorted (by decide +kernel) (pa_cons (pe_lst (pa_cons (pe_meth (pv 0) N.cls mtC okC (hr.mono (by decide)) bdC .nil pass0 (pa_cons (pv 2) pa_nil)) (pa_cons (pe_meth (pv 0) N.cls mtC okC (hr.mono (by decide)) bdC .nil pass0 (pa_cons (pv 3) pa_nil)) pa_nil))) pa_nil)) pa_nil)) pa_nil))) pa_nil))))))))))), ?_⟩
    obtain ⟨dx, l0, g0, kvs, eb, ec, ek, pr, gp, lks0⟩ := nb0.ex
    obtain ⟨t0, va, vb, hv, et, na, nbv⟩ := get_sync ek pr nd hin
    have hs : (valV kvs (.inl k)).isSome = true := by rw [hv]; rfl
    obtain ⟨gx, gy⟩ := gd _ hin
    refine ⟨_, rfl, _, rfl, b, C, dx, _, .int m, rfl, eb, N.cls, N.many, rfl, m, 1, rfl, rfl, k, 0, m - 1, rfl, ?_⟩
    rw [decide_eq_true (show (0 : Int) ≤ k ∧ k ≤ m - 1 by omega)]
    refine ⟨_, rfl, iteF ?_⟩
    refine ⟨_, rfl, _, rfl, b, C, dx, _, .ref c, rfl, eb, N.cls, N.cnt, rfl, c, _, rfl, DGet.k (k := .inl k) ec, _, rfl, ?_⟩
    rw [hs]
    refine iteF ?_
    refine ⟨_, rfl, b, C, dx, _, .ref c, rfl, eb, N.cls, N.cnt, rfl, _, rfl, c, .ref t0, rfl, hv ▸ DGet.k (k := .inl k) ec, ?_⟩
    refine ⟨t0, _, rfl, SqT.of et, rfl, _, _, rfl, _, _, rfl, rfl, ?_⟩
    refine ⟨_, rfl, b, dx, _, rfl, eb, rfl, _, rfl, b, dx, g0, _, va, es.map (·.2), x, rfl, eb, rfl, gp, na, fun tw yw lw H1 s1 etw nlw cw => ?_⟩
    have eb1 := s1 _ _ eb
    have ec1 := s1 _ _ ec
    have cb : c ≠ b := ne_of ec eb (by intro z; cases z)
    refine ⟨_, rfl, b, C, dx, _, .ref c, rfl, eb1, N.cls, N.cnt, rfl, _, rfl, c, kvs, .inl k, rfl, ec1, rfl, hs, ?_⟩
    obtain ⟨dk, dp⟩ := drop_sync k ek (pr.tp (W37.tp_same s1))
    have tpc : W37.Tp H1 (L2.upd H1 c (.dK (dropK kvs (.inl k)))) := W37.tp_upd fun us z => by rw [ec1] at z; cases z
    have t12 := (W37.tp_same s1).trans tpc
    have eb2 : (L2.upd H1 c (.dK (dropK kvs (.inl k)))) b = some (.ins C dx (fsN m c l0 g0)) := by rw [upd_ne (Ne.symm cb)]; exact eb1
    have ec2 : (L2.upd H1 c (.dK (dropK kvs (.inl k)))) c = some (.dK (dropK kvs (.inl k))) := upd_same
    have pr2 := dp.tp tpc
    have fr2 : B2n b c H (L2.upd H1 c (.dK (dropK kvs (.inl k)))) := fun z o n1 n2 e => by rw [upd_ne n2]; exact s1 _ _ e
    generalize L2.upd H1 c (.dK (dropK kvs (.inl k))) = H2 at eb2 ec2 pr2 t12 fr2 ⊢
    obtain ⟨es2, ees⟩ : ∃ es2, es2 = es.filter fun e => decide (e.1 ≠ k) := ⟨_, rfl⟩
    rw [← ees] at dk pr2
    have l2 : es2.length ≤ 100 := by rw [ees]; exact Nat.le_trans (List.length_filter_le _ _) l100
    refine ⟨_, rfl, b, dx, _, rfl, eb2, rfl, b, C, dx, c, _, _, es2.map (·.2), rfl, eb2, N.cls, N.cnt, N.lnk, N.grp, by show 4 < 900; decide, rfl, ec2, pr2, by rw [List.length_map]; exact l2, fun d g H3 eb3 fr gp3 lk3 => ?_⟩
    rw [put_both] at eb3
    have ec3 := fr c _ cb ec2
    have tp3 : W37.Tp H2 H3 := fun z us e => fr z _ (fun w => by rw [w, eb2] at e; cases e) e
    have t13 := t12.trans tp3
    have fr3 : B2n b c H H3 := fun z o n1 n2 e => fr z o n1 (fr2 z o n1 n2 e)
    have n02 : ∀ x, H2 x = none → H x = none := fun x nx => by
      cases e : H x with
      | none => rfl
      | some o =>
        by_cases c1 : x = b
        · rw [c1, eb2] at nx; cases nx
        · by_cases c2 : x = c
          · rw [c2, ec2] at nx; cases nx
          · rw [fr2 x o c1 c2 e] at nx; cases nx
    have nb3 : Nb H3 C b c m es2 (fun x => H x = none) := ⟨dx, d, g, _, eb3, ec3, dk, pr2.tp tp3, gp3, lk3.imp fun x _ _ z => n02 x z⟩
    have na3 := na.tp t13
    have nbv3 := nbv.tp t13
    have gall : ∀ n ∈ nodes (es2.map (·.2)), Gd n := fun n hn => by
      obtain ⟨n2, j⟩ := mem_nodes.mp hn
      have sub : ∀ p ∈ es2.map (fun e : Int × Pair => e.2), ∃ e ∈ es, e.2 = p := fun p hp => by
        obtain ⟨e, he, rfl⟩ := List.mem_map.mp hp
        rw [ees] at he
        exact ⟨e, (List.mem_filter.mp he).1, rfl⟩
      rcases j with j | j
      · obtain ⟨e, he, z⟩ := sub _ j
        have := (gd e he).1
        rw [z] at this
        exact this
      · obtain ⟨e, he, z⟩ := sub _ j
        have := (gd e he).2
        rw [z] at this
        exact this
    rw [← ees] at q
    clear tp3 t12 tpc fr2 dp ec3 pr2 ec2 eb2 fr
    refine ⟨_, rfl, b, dx, _, rfl, eb3, rfl, _, rfl, _, rfl, b, dx, g, _, va, vb, _, x, y, rfl, eb3, rfl, rfl, gp3, na3, nbv3, gx, gy, gall, fun H4 s4 => ⟨_, rfl, ite2 (fun e => ?_) (fun e => ?_)⟩⟩
    · refine ⟨(by show 0 ≤ sizeLine; decide), fun T1 nT => ?_⟩
      have sT := s4.trans (same_upd nT (o := .tup []))
      exact q _ _ (nb3.same sT) fun z o n1 n2 e => sT _ _ (fr3 z o n1 n2 e)
    · have eb4 := s4 _ _ eb3
      refine ⟨_, rfl, _, rfl, b, dx, _, rfl, eb4, rfl, _, rfl, b, dx, g, _, va, _, x, rfl, eb4, rfl, gp3.same s4, na3.tp (W37.tp_same s4), fun t1 y1 l1 H5 s5 et1 nl1 c1 => ?_⟩
      have eb5 := s5 _ _ eb4
      refine ⟨_, rfl, b, dx, _, rfl, eb5, rfl, _, rfl, b, dx, g, _, vb, _, y, rfl, eb5, rfl, (gp3.same s4).same s5, (nbv3.tp (W37.tp_same s4)).tp (W37.tp_same s5), fun t2 y2 l2 H6 s6 et2 nl2 c2 => ?_⟩
      refine ⟨(by show 2 ≤ sizeLine; decide), fun LL nLL => ?_⟩
      have sL := same_upd nLL (o := .lst [.ref t1, .ref t2])
      have eL : (L2.upd H6 LL (.lst [.ref t1, .ref t2])) LL = some (.lst [.ref t1, .ref t2]) := upd_same
      have q1 := sL _ _ (s6 _ _ et1)
      have q2 := sL _ _ et2
      have q3 := nl1.tp (W37.tp_same (s6.trans sL))
      have q4 := nl2.tp (W37.tp_same sL)
      have sA := ((s4.trans s5).trans s6).trans sL
      generalize L2.upd H6 LL (.lst [.ref t1, .ref t2]) = H7 at eL q1 q2 q3 q4 sA ⊢
      refine ⟨LL, [((.ref t1, gD l1) : Xsd.Pd), (.ref t2, gD l2)], rfl, .inl (SqL.of eL), fun z hz => ?_, ?_, ?_, fun z hz => ?_, fun p np => ?_⟩
      · simp only [List.mem_cons, List.not_mem_nil, or_false] at hz
        rcases hz with rfl | rfl
        · exact .tup (SqT.of q1) (nml_dp q3)
        · exact .tup (SqT.of q2) (nml_dp q4)
      · intro u hu v hv
        have al : ∀ z ∈ [gD l1, gD l2], ∃ l, z = gD l := fun z hz => by
          simp only [List.mem_cons, List.not_mem_nil, or_false] at hz
          rcases hz with rfl | rfl
          · exact ⟨_, rfl⟩
          · exact ⟨_, rfl⟩
        obtain ⟨lu, rfl⟩ := al u hu
        obtain ⟨lv, rfl⟩ := al v hv
        show PySem.W.alike (.tuple (lu.map W37.nD)) (.tuple (lv.map W37.nD)) = true
        simp only [PySem.W.alike, alike_all]
      · refine .inl fun z hz => ?_
        simp only [List.map_cons, List.map_nil, List.mem_cons, List.not_mem_nil, or_false] at hz
        rcases hz with rfl | rfl
        · cases l1 with
          | nil => exact absurd c1.self (by simp)
          | cons y r => exact ⟨_, _, rfl⟩
        · cases l2 with
          | nil => exact absurd c2.self (by simp)
          | cons y r => exact ⟨_, _, rfl⟩
      · simp only [List.mem_cons, List.not_mem_nil, or_false] at hz
        have dd : ∀ l : List N2, (gD l).depth ≤ 50 := fun l => by
          have := dep_all l
          show (PyData.tuple (l.map W37.nD)).depth ≤ 50
          simp only [PyData.depth]
          omega
        rcases hz with rfl | rfl
        · exact dd _
        · exact dd _
      refine ⟨p, _, rfl, .inl ⟨SqL.of upd_same, fun t nt => ?_⟩⟩
      refine ⟨(by show 2 ≤ sizeLine; decide), fun T2 n2 => ⟨(by show 1 ≤ sizeLine; decide), fun T3 n3 => ?_⟩⟩
      have go : ∀ Hz, L2.Same H7 Hz → Q (.ref T3) Hz := fun Hz sz => q _ _ (nb3.same (sA.trans sz)) fun z o m1 m2 e => (sA.trans sz) _ _ (fr3 z o m1 m2 e)
      exact go _ ((same_upd np).trans ((same_upd nt).trans ((same_upd n2).trans (same_upd n3))))
end
end K16
set_option Elab.async false
set_option linter.all false
set_option maxRecDepth 100000
set_option maxHeartbeats 4000000
set_option pp.maxSteps 400
set_option pp.deepTerms false
namespace K16
open PySem PySem.Spec PyProof.Rows L2
open Xk Az Xnp
section
variable {P : Program} {w : World} {K : PySem.W.Frag} {mg : Str → Option Value} {base : Heap}
/-- a name whose text is the stem with one sign put in, a sign that is not left -/
def Of (st : Str) (k : Nat) (sg : List Nat) (a : N2) : Prop := ∃ c, c ∉ sg ∧ a.2.cps.toList = st.cps.toList.take k ++ c :: st.cps.toList.drop k
theorem Of.less {st : Str} {k : Nat} {sg sg' : List Nat} {a : N2} (h : Of st k sg a) (s : ∀ c ∈ sg', c ∈ sg) : Of st k sg' a := by
  obtain ⟨c, n, e⟩ := h
  exact ⟨c, fun m => n (s c m), e⟩
theorem alnum_nd : alnum.cps.toList.Nodup := by decide +kernel
theorem put_mem {ns : List N2} {nn a : N2} {i : Nat} (h : a ∈ ns.take i ++ [nn] ++ ns.drop i) : a ∈ ns ∨ a = nn := by
  rcases List.mem_append.mp h with z | z
  · rcases List.mem_append.mp z with z | z
    · exact .inl (List.mem_of_mem_take z)
    · exact .inr (List.mem_singleton.mp z)
  · exact .inl (List.mem_of_mem_drop z)
theorem put_nodup {ns : List N2} {nn : N2} {i : Nat} (h : ns.Nodup) (n : nn ∉ ns) : (ns.take i ++ [nn] ++ ns.drop i).Nodup := by
  have p : (ns.take i ++ [nn] ++ ns.drop i).Perm (nn :: ns) := by
    rw [List.append_assoc]
    refine (List.perm_middle (a := nn) (l₁ := ns.take i) (l₂ := ns.drop i)).trans ?_
    rw [List.take_append_drop]
  exact p.nodup_iff.mpr (List.nodup_cons.mpr ⟨n, h⟩)
theorem not_erased : ∀ {sg : List Nat} (h : sg.Nodup) {j : Nat} (l : j < sg.length), sg[j] ∉ sg.eraseIdx j
  | [], _, j, l => absurd l (by simp)
  | a :: r, h, 0, _ => (List.nodup_cons.mp h).1
  | a :: r, h, j + 1, l => fun m => by
    have h2 := List.nodup_cons.mp h
    have l2 : j < r.length := by simpa using l
    have m2 : r[j] ∈ a :: r.eraseIdx j := m
    rcases List.mem_cons.mp m2 with z | z
    · exact h2.1 (z ▸ List.getElem_mem l2)
    · exact not_erased h2.2 l2 z
def spNames16 : Sp := fun vs H Q _ => ∃ (h o : Addr) (n m : Int), vs = [.ref h, .int m] ∧ 2 ≤ m ∧ m ≤ 30 ∧ Hd h o n H ∧ n + 1000 ≤ far ∧
  ∀ (L : Addr) (xs : List V) (ns : List N2) H', H' L = some (.lst xs) → L ∉ [h, o] → (ns.length : Int) = m → W37.NmL H' xs ns → ns.Nodup → (∀ a ∈ ns, Gd a) → Hd h o (n + 700) H' → Bt [h, o] H H' → H L = none → Q (.ref L) H'
theorem ok_names16 {f : Addr} {fd : FuncData} (D : Df K mg "_law_names" ["_law_hand_here", "_law_many"] sNames f fd) (T : Txt K mg) (cT : Ca P w K mg base 1 "_law_take" ["_law_hand_here", "_law_many"] spTake) (cP : Ca P w K mg base 2 "_law_pick" ["_law_hand_here", "_law_some"] spPick) (cW : Ca P w K mg base 3 "_law_word" ["_law_hand_here", "_law_least", "_law_most"] spWord) (cX : Ca P w K mg base 3 "_law_text" ["_law_hand_here", "_law_many"] spText) : FnOk P w K mg base CX0 4 f fd ["_law_hand_here", "_law_many"] spNames16 := by
  refine D.fn.ok scNames (fun vs H Q E h => ?_) (fun cdv A outer s H vs Q E hr h => ?_)
  · obtain ⟨h, o, n, m, rfl, m3, m14, hd, hn, q⟩ := h
    rfl
  · obtain ⟨h, o, n, m, rfl, m3, m14, hd, hn, q⟩ := h
    refine ⟨_, (pss_cons (ps_set (i := 2) scNames.nd rfl (.inl rfl) (pe_callTy (cr_listS (by rfl)) (by rfl) T.list (by decide +kernel) (pa_cons pe_str pa_nil)))
      (pss_cons (ps_setLc (i := 4) (own := [("_law_k", 3)]) (g := gName 3) (tt := tYes) (by rfl) scNames.nd rfl rfl (sw_true rfl rfl rfl (by decide +kernel)) (pi_range1 (by rfl) T.range (pa_cons (pe_op op_add pe_int (pe_ca cT hr (by decide) (by rfl) (pa_cons (pv 0) (pa_cons pe_int pa_nil)))) pa_nil)) (blkOk_by (own := [("_law_k", 3)]) (N := ["_law_hand_here", "_law_many", "_law_signs", "_law_k", "_law_tongues", "_law_stem", "_law_at", "_law_found", "_law_name", "_law_twin"]) (sc := defScope sNames) (by decide +kernel)) (fun _ _ _ _ _ => pg_name (i := 3) scNames.nd rfl (.inl rfl)) (fun _ _ _ _ _ => pts_nil) (fun _ _ _ _ _ => pe_ca cW hr (by decide) (by rfl) (pa_cons (pv 0) (pa_cons pe_int (pa_cons pe_int pa_nil)))))
      (pss_cons (ps_set (i := 5) scNames.nd rfl (.inl rfl) (pe_ca cX hr (by decide) (by rfl) (pa_cons (pv 0) (pa_cons (pe_ca cP hr (by decide) (by rfl) (pa_cons (pv 0) (pa_cons (pe_lst (pa_cons pe_int (pa_cons pe_int (pa_cons pe_int (pa_cons pe_int (pa_cons pe_int pa_nil)))))) pa_nil))) pa_nil))))
      (pss_cons (ps_par (i := 6) (j := 7) (by rfl) scNames.nd rfl rfl (by decide) rfl rfl (pa_cons (pe_ca cT hr (by decide) (by rfl) (pa_cons (pv 0) (pa_cons (pe_op op_add (pe_callB call_len_str (by rfl) T.len PySem.boot_len (pa_cons (pv 5) pa_nil)) pe_int) pa_nil))) (pa_cons (pe_lst pa_nil) pa_nil)) (by rfl))
      (pss_cons (ps_for PassesOwn.never rfl (pi_range1 (by rfl) T.range (pa_cons (pv 1) pa_nil)) (pg_name (i := 3) scNames.nd rfl (.inl rfl)) (pss_cons (ps_set (i := 8) scNames.nd rfl (.inl rfl) (pe_tup (pa_cons (pe_ca cP hr (by decide) (by rfl) (pa_cons (pv 0) (pa_cons (pv 4) pa_nil))) (pa_cons (pe_op op_add_str (pe_op op_add_str (pe_slice sl_str (pv 5) po_none (po_some (pv 6))) (pe_bm PySem.F.plainAttrs_list PySem.F.slot_list_pop PySem.F.type_list_pop mt_popAt (pv 2) (pa_cons (pe_ca cT hr (by decide) (by rfl) (pa_cons (pv 0) (pa_cons (pe_callB call_len_seq (by rfl) T.len PySem.boot_len (pa_cons (pv 2) pa_nil)) pa_nil))) pa_nil))) (pe_slice sl_str (pv 5) (po_some (pv 6)) po_none)) pa_nil))))
      (pss_cons (ps_if (PW.pt (pw_and (pt_cmpR op_gt (pv 3) pe_int (nomark _)) (pw_and1 (pt_cmpR op_eq (pe_ca cT hr (by decide) (by rfl) (pa_cons (pv 0) (pa_cons pe_int pa_nil))) pe_int (nomark _))))) (pss_cons (ps_set (i := 9) scNames.nd rfl (.inl rfl) (pe_tup (pa_cons (pe_ca cP hr (by decide) (by rfl) (pa_cons (pv 0) (pa_cons (pv 4) pa_nil))) (pa_cons (pe_ix ix_tup (pe_ca cP hr (by decide) (by rfl) (pa_cons (pv 0) (pa_cons (pv 7) pa_nil))) pe_int (fun _ _ => rfl)) pa_nil))))
      (pss_one (ps_set (i := 8) scNames.nd rfl (.inl rfl) (pe_ifExp (pt_cmpR (op_notInD (r65 hr)) (pv 9) (pv 7) (by rfl)) (pv 9) (pv 8))))) pss_nil)
      (pss_one (ps_expr (pe_bm PySem.F.plainAttrs_list PySem.F.slot_list_insert PySem.F.type_list_insert mt_insert (pv 7) (pa_cons (pe_ca cT hr (by decide) (by rfl) (pa_cons (pv 0) (pa_cons (pe_op op_add (pv 3) pe_int) pa_nil))) (pa_cons (pv 8) pa_nil))))))))
      (pss_one (ps_ret (pv 7)))))))), ?_⟩
    have fr : n + 1000 ≤ 1000000 := hn
    refine ⟨alnum, rfl, (Nat.le_trans (show alnum.length ≤ 100 by decide +kernel) (by decide)), fun S nS => ?_⟩
    have sS := same_upd nS (o := .lst (alnum.cps.toList.map sg1))
    have eS : (upd H S (.lst (alnum.cps.toList.map sg1))) S = some (.lst (alnum.cps.toList.map sg1)) := upd_same
    have hS := hd.same sS
    have So := hd.fresh nS
    have bS : Bt [h, o] H (upd H S (.lst (alnum.cps.toList.map sg1))) := Bt.of sS
    generalize upd H S (.lst (alnum.cps.toList.map sg1)) = H1 at eS hS bS ⊢
    -- tongues
    refine ⟨_, rfl, h, o, 3, n, rfl, by decide, by decide, hS, by show n ≤ 1000000; omega, fun d H2 d0 d1 h2 b2 => ?_⟩
    refine ⟨1, d, rfl, rfl, _, rfl, by omega, by omega, fun T' nT => ?_⟩
    have To := h2.fresh nT
    have sT := same_upd nT (o := .lst [])
    have eS2 := b2 _ _ So eS
    have ST : S ≠ T' := ne_of_none eS2 nT
    refine lc_range (lo := 0) (fun i Hi => ∃ ts : List Str, Hi T' = some (.lst (ts.map V.str)) ∧ ts.length = i ∧ (∀ t ∈ ts, letts t ∧ 2 ≤ t.length ∧ t.length ≤ 3) ∧ Hd h o (n + 1 + 60 * i) Hi ∧ Bt [h, o] H2 Hi) ?_ ?_ ?_
    · exact ⟨[], upd_same, rfl, by simp, (h2.same sT).mono (by omega), Bt.of sT⟩
    · rintro i Hi hi ⟨ts, eT, lt, ct, hdi, bi⟩
      have hi' : i < (1 + d).toNat := hi
      refine ⟨rfl, ?_⟩
      unfold tYes
      refine iteT ?_
      refine ⟨_, rfl, h, o, n + 1 + 60 * i, 2, 3, rfl, by decide, by decide, by decide, hdi, by show n + 1 + 60 * (i : Int) + 100 ≤ 1000000; omega, fun x H3 x0 x1 lx h3 b3 => ?_⟩
      refine ⟨_, b3 _ _ To eT, ?_, ts ++ [x], ?_, by rw [List.length_append, lt]; rfl, ?_, ?_, ?_⟩
      · rw [List.length_map, lt]
        exact Nat.lt_of_le_of_lt (show i ≤ 100 by omega) (by decide)
      · rw [upd_same, List.map_append]
        rfl
      · intro y hy
        rcases List.mem_append.mp hy with z | z
        · exact ct y z
        · rw [List.mem_singleton.mp z]
          exact ⟨lx, by omega, by omega⟩
      · exact (h3.upd To).mono (by omega)
      · intro b x nb e
        rw [upd_ne (ne_of_none e nT)]
        exact b3 b x nb (bi b x nb e)
    rintro H3 ⟨ts, eT, lt, ct, h3, b3⟩
    have lt' : ts.length = (1 + d).toNat := lt
    have tne : ts ≠ [] := fun z => by rw [z] at lt'; simp at lt'; omega
    have h3' : Hd h o (n + 200) H3 := h3.mono (by
      show n + 1 + 60 * (((1 + d).toNat : Nat) : Int) ≤ n + 200
      omega)
    have eS3 := b3 _ _ So eS2
    have bH3 : Bt [h, o] H H3 := bS.trans (b2.trans b3)
    clear h3 b3 eS2 eS b2 bS sS sT h2 hS
    -- stem
    refine ⟨_, rfl, _, rfl, (by show 5 ≤ sizeLine; decide), fun l5 n5 => ?_⟩
    have s5 := same_upd n5 (o := .lst [.int 0, .int 1, .int 3, .int 8, .int 39])
    refine ⟨h, o, n + 200, _, rfl, h3'.same s5, by show n + 200 ≤ 1000000; omega, .inl ⟨l5, _, rfl, upd_same, h3'.fresh n5, by simp, by show 5 < 1000; decide, fun v H4 mv h4 b4 => ?_⟩⟩
    obtain ⟨r, rfl, r1, r2⟩ : ∃ r : Int, v = .int r ∧ 0 ≤ r ∧ r ≤ 39 := by
      simp only [List.mem_cons, List.not_mem_nil, or_false] at mv
      rcases mv with e | e | e | e | e
      · exact ⟨_, e, by decide, by decide⟩
      · exact ⟨_, e, by decide, by decide⟩
      · exact ⟨_, e, by decide, by decide⟩
      · exact ⟨_, e, by decide, by decide⟩
      · exact ⟨_, e, by decide, by decide⟩
    refine ⟨h, o, n + 200 + 1, r, rfl, r1, by omega, h4, by show n + 200 + 1 + 200 ≤ 1000000; omega, fun st H5 ls cl h5 b5 => ?_⟩
    have bb : Bt [h, o] H3 H5 := (Bt.of s5).trans (b4.trans b5)
    have eS5 := bb _ _ So eS3
    have eT5 := bb _ _ To eT
    have bH5 := bH3.trans bb
    have lsz : st.length ≤ sizeLine := Nat.le_trans (show st.length ≤ 100 by omega) (by decide)
    -- at, found
    refine ⟨_, rfl, _, rfl, st, rfl, lsz, _, 1, rfl, rfl, h, o, (st.length : Int) + 1, n + 261, rfl, by omega, by omega, h5.mono (by omega), by show n + 261 ≤ 1000000; omega, fun at' H6 a0 a1 h6 b6 => ?_⟩
    refine ⟨(by show 0 ≤ sizeLine; decide), fun F nF => ⟨_, _, rfl, ?_⟩⟩
    have sF := same_upd nF (o := .lst [])
    have eS6 := b6 _ _ So eS5
    have eT6 := b6 _ _ To eT5
    have bH6 := bH5.trans b6
    have Fo := h6.fresh nF
    have SF : S ≠ F := ne_of_none eS6 nF
    have TF : T' ≠ F := ne_of_none eT6 nF
    have HS : H S = none := nS
    have HF : H F = none := bH6.none Fo nF
    have eF : (upd H6 F (.lst [])) F = some (.lst []) := upd_same
    have eS7 := sF _ _ eS6
    have eT7 := sF _ _ eT6
    have h7 := h6.same sF
    have bH7 := bH6.trans (Bt.of (A := [h, o]) sF)
    generalize upd H6 F (.lst []) = H7 at eF eS7 eT7 h7 bH7 ⊢
    clear eS6 eT6 bH6 eS5 eT5 bH5 eS3 eT bH3 h3' h4 b4 h5 b5 b6 sF s5 h6
    obtain ⟨k0, rfl⟩ : ∃ k0 : Nat, at' = (k0 : Int) := ⟨at'.toNat, by omega⟩
    refine ⟨_, rfl, m, rfl, by omega, by omega, for_range (lo := 0) (n := m.toNat) (fun k σ Hi => ∃ (sg : List Nat) (xs : List V) (ns : List N2) (c3 c8 c9 : Option V), σ = [some (.ref h), some (.int m), some (.ref S), c3, some (.ref T'), some (.str st), some (.int (k0 : Int)), some (.ref F), c8, c9] ∧
      Hi S = some (.lst (sg.map sg1)) ∧ sg.length + k = 62 ∧ (∀ c ∈ sg, c ∈ alnum.cps.toList) ∧ Hi T' = some (.lst (ts.map V.str)) ∧ Hi F = some (.lst xs) ∧ xs.length = k ∧ W37.NmL Hi xs ns ∧ ns.Nodup ∧ sg.Nodup ∧ (∀ a ∈ ns, Gd a ∧ Of st k0 sg a) ∧ Hd h o (n + 262 + 6 * k) Hi ∧ Bt [h, o] H Hi) ?_ ?_ ?_⟩
    · exact ⟨_, [], [], none, none, none, rfl, eS7, (by decide +kernel), fun c hc => hc, eT7, eF, rfl, .nil, by simp, alnum_nd, by simp, h7.mono (by omega), bH7⟩
    · rintro k σ Hi hk ⟨sg, xs, ns, c3, c8, c9, rfl, eSi, lsg, csg, eTi, eFi, lxs, cxs, nds, sgn, gds, hdi, bi⟩
      have k10 : k < 30 := by have : k < m.toNat := hk; omega
      have nkb : n + 262 + 6 * (k : Int) + 10 ≤ 1000000 := by omega
      have tl : (ts.map V.str).length < 1000 := by rw [List.length_map]; omega
      have tne' : ts.map V.str ≠ [] := fun z => tne (List.map_eq_nil_iff.mp z)
      have kst : k0 ≤ st.cps.toList.length := by rw [← len_cps]; omega
      -- what the turn leaves
      have fin : ∀ (v : V) (nn : N2) (Hx : Hp) (i : Nat) (sg' : List Nat) (c3 c8 c9 : Option V), Hx S = some (.lst (sg'.map sg1)) → sg'.length + (k + 1) = 62 → (∀ c ∈ sg', c ∈ alnum.cps.toList) → Hx T' = some (.lst (ts.map V.str)) → Hx F = some (.lst xs) → Tp Hi Hx → W37.NmV Hx v nn → nn ∉ ns → sg'.Nodup → (∀ c ∈ sg', c ∈ sg) → Gd nn → Of st k0 sg' nn → Hd h o (n + 262 + 6 * ((k + 1 : Nat) : Int)) Hx → Bt [h, o] H Hx →
          ∃ (sg : List Nat) (xs' : List V) (ns' : List N2) (c3' c8' c9' : Option V), [some (V.ref h), some (.int m), some (.ref S), c3, some (.ref T'), some (.str st), some (.int (k0 : Int)), some (.ref F), c8, c9] = [some (V.ref h), some (.int m), some (.ref S), c3', some (.ref T'), some (.str st), some (.int (k0 : Int)), some (.ref F), c8', c9'] ∧
            (upd Hx F (.lst (xs.take i ++ [v] ++ xs.drop i))) S = some (.lst (sg.map sg1)) ∧ sg.length + (k + 1) = 62 ∧ (∀ c ∈ sg, c ∈ alnum.cps.toList) ∧ (upd Hx F (.lst (xs.take i ++ [v] ++ xs.drop i))) T' = some (.lst (ts.map V.str)) ∧ (upd Hx F (.lst (xs.take i ++ [v] ++ xs.drop i))) F = some (.lst xs') ∧ xs'.length = k + 1 ∧
            W37.NmL (upd Hx F (.lst (xs.take i ++ [v] ++ xs.drop i))) xs' ns' ∧ ns'.Nodup ∧ sg.Nodup ∧ (∀ a ∈ ns', Gd a ∧ Of st k0 sg a) ∧ Hd h o (n + 262 + 6 * ((k + 1 : Nat) : Int)) (upd Hx F (.lst (xs.take i ++ [v] ++ xs.drop i))) ∧ Bt [h, o] H (upd Hx F (.lst (xs.take i ++ [v] ++ xs.drop i))) := fun v nn Hx i sg' c3 c8 c9 q1 q2 q3 q4 q5 q6 q7 u1 u2 u3 u4 u5 q8 q9 => by
        have nl : W37.NmL (upd Hx F (.lst (xs.take i ++ [v] ++ xs.drop i))) (xs.take i ++ [v] ++ xs.drop i) (ns.take i ++ [nn] ++ ns.drop i) := by
          have c := (cxs.tp (fun b ys e => q6 b ys e)).tp (tp_upd q5 (x := .lst (xs.take i ++ [v] ++ xs.drop i)))
          exact ((c.take i).app (.cons (q7.tp (tp_upd q5)) .nil)).app (c.drop i)
        refine ⟨sg', _, _, _, _, _, rfl, by rw [upd_ne SF]; exact q1, q2, q3, by rw [upd_ne TF]; exact q4, upd_same, ?_, nl, ?_, u2, ?_, q8.upd Fo, fun b x nb e => ?_⟩
        · rw [List.length_append, List.length_append, List.length_take, List.length_drop, lxs]
          show min i k + 1 + (k - i) = k + 1
          omega
        · exact put_nodup nds u1
        · intro a ha
          rcases put_mem ha with z | z
          · exact ⟨(gds a z).1, (gds a z).2.less u3⟩
          · rw [z]
            exact ⟨u4, u5⟩
        · rw [upd_ne (ne_of_none e HF)]
          exact q9 b x nb e
      -- name
      refine ⟨_, rfl, _, rfl, h, o, n + 262 + 6 * k, _, rfl, hdi, by show n + 262 + 6 * (k : Int) ≤ 1000000; omega, .inl ⟨T', _, rfl, eTi, To, tne', tl, fun v1 Ha mv1 ha ba => ?_⟩⟩
      obtain ⟨t1, mt1, rfl⟩ := List.mem_map.mp mv1
      have eSa := ba _ _ So eSi
      have eTa := ba _ _ To eTi
      have eFa := ba _ _ Fo eFi
      have pa : Tp Hi Ha := hdi.tp ba
      have sgl : 0 < sg.length := by omega
      refine ⟨_, rfl, _, rfl, (k0 : Int), rfl, st, rfl, lsz, _, rfl, .inl ⟨rfl, _, SqL.of eSa⟩, _, rfl, _, rfl, S, _, rfl, .inl (SqL.of eSa), h, o, ((sg.map sg1).length : Int), n + 262 + 6 * k + 1, rfl, by rw [List.length_map]; omega, by rw [List.length_map]; omega, ha, by show n + 262 + 6 * (k : Int) + 1 ≤ 1000000; omega, fun j Hb j0 j1 hb bb => ?_⟩
      rw [List.length_map] at j1
      obtain ⟨jn, rfl⟩ : ∃ jn : Nat, j = (jn : Int) := ⟨j.toNat, by omega⟩
      have jl : jn < sg.length := by omega
      have eSb := bb _ _ So eSa
      have eTb := bb _ _ To eTa
      have eFb := bb _ _ Fo eFa
      refine ⟨S, _, (jn : Int), jn, sg1 sg[jn], rfl, rfl, eSb, by omega, by omega, by rw [List.length_map, seqIndex_of (by omega) (by omega)]; rfl, by rw [List.getElem?_map, List.getElem?_eq_getElem jl]; rfl, ?_⟩
      have er : (sg.map sg1).eraseIdx jn = (sg.eraseIdx jn).map sg1 := erase_map sg1 sg jn
      rw [er]
      have mj := csg _ (List.getElem_mem jl)
      have mjs : sg[jn] ∈ sg := List.getElem_mem jl
      have nj : sg[jn] ∉ sg.eraseIdx jn := not_erased sgn jl
      generalize sg[jn] = cj at mj mjs nj ⊢
      have eSc : (upd Hb S (.lst ((sg.eraseIdx jn).map sg1))) S = some (.lst ((sg.eraseIdx jn).map sg1)) := upd_same
      have eTc : (upd Hb S (.lst ((sg.eraseIdx jn).map sg1))) T' = some (.lst (ts.map V.str)) := by rw [upd_ne (Ne.symm ST)]; exact eTb
      have eFc : (upd Hb S (.lst ((sg.eraseIdx jn).map sg1))) F = some (.lst xs) := by rw [upd_ne (Ne.symm SF)]; exact eFb
      have hc := hb.upd So (x := .lst ((sg.eraseIdx jn).map sg1))
      have pc : Tp Hi (upd Hb S (.lst ((sg.eraseIdx jn).map sg1))) := (pa.trans (ha.tp bb)).trans (tp_upd eSb)
      have bc : Bt [h, o] H (upd Hb S (.lst ((sg.eraseIdx jn).map sg1))) := fun b x nb e => by
        rw [upd_ne (ne_of_none e HS)]
        exact bb b x nb (ba b x nb (bi b x nb e))
      have lsg' : (sg.eraseIdx jn).length + (k + 1) = 62 := by
        rw [List.length_eraseIdx_of_lt jl]
        omega
      have csg' : ∀ c ∈ sg.eraseIdx jn, c ∈ alnum.cps.toList := fun c hc => csg c (List.mem_of_mem_eraseIdx hc)
      have sub' : ∀ c ∈ sg.eraseIdx jn, c ∈ sg := fun c hc => List.mem_of_mem_eraseIdx hc
      have nd' : (sg.eraseIdx jn).Nodup := sgn.eraseIdx jn
      generalize upd Hb S (.lst ((sg.eraseIdx jn).map sg1)) = Hc at eSc eTc eFc hc pc bc ⊢
      generalize sg.eraseIdx jn = sg' at eSc lsg' csg' sub' nd' nj ⊢
      clear eSb eTb eFb eSa eTa eFa ha hb bb ba pa er j0 j1
      have i1 := ins_cps (c := cj) kst
      obtain ⟨w1, w2, w3⟩ := ins_len (c := cj) kst
      have fitS : ∀ {a b : Nat}, a + b ≤ 200 → a + b ≤ sizeLine := fun h => Nat.le_trans h (by decide)
      have st40 : st.length ≤ 39 := by omega
      refine ⟨_, _, rfl, rfl, fitS (by show (cutS st none (some (k0 : Int))).length + 1 ≤ 200; omega), _, rfl, _, rfl, (k0 : Int), rfl, st, rfl, lsz, _, _, rfl, rfl, fitS (by rw [strLen_append]; show (cutS st none (some (k0 : Int))).length + 1 + (cutS st (some (k0 : Int)) none).length ≤ 200; omega), ?_⟩
      refine ⟨(by show 2 ≤ sizeLine; decide), fun p1 np1 => ?_⟩
      obtain ⟨bx, ebx⟩ : ∃ bx : Str, bx = cutS st none (some (k0 : Int)) ++ ⟨#[cj]⟩ ++ cutS st (some (k0 : Int)) none := ⟨_, rfl⟩
      rw [← ebx] at i1 w3 ⊢
      have sp := same_upd np1 (o := .tup [.str t1, .str bx])
      have nm1 : W37.NmV (upd Hc p1 (.tup [.str t1, .str bx])) (.ref p1) (t1, bx) := ⟨p1, rfl, upd_same⟩
      have of1 : Of st k0 sg' (t1, bx) := ⟨cj, nj, i1⟩
      have gd1 : Gd (t1, bx) := by
        obtain ⟨q1, q2, q3⟩ := ct t1 mt1
        refine ⟨q1, q2, q3, ?_, by show 1 ≤ bx.length; omega, by show bx.length ≤ 40; omega⟩
        show Clean bx.cps.toList
        rw [i1]
        exact cl.ins kst (alnum_ok cj mj).1 (alnum_ok cj mj).2
      have nn1 : (t1, bx) ∉ ns := fun z => by
        obtain ⟨c2, hc2, e2⟩ := (gds _ z).2
        have e2 : bx.cps.toList = st.cps.toList.take k0 ++ c2 :: st.cps.toList.drop k0 := e2
        rw [i1] at e2
        have := List.append_cancel_left e2
        injection this with this _
        exact hc2 (this ▸ mjs)
      have eSd := sp _ _ eSc
      have eTd := sp _ _ eTc
      have eFd := sp _ _ eFc
      have hd' := hc.same sp
      have pd := pc.trans (tp_same sp)
      have bd := bc.trans (Bt.of (A := [h, o]) sp)
      generalize upd Hc p1 (.tup [.str t1, .str bx]) = Hd1 at nm1 eSd eTd eFd hd' pd bd ⊢
      clear eSc eTc eFc hc pc bc sp np1
      have xfit : xs.length < sizeLine := Nat.lt_of_le_of_lt (show xs.length ≤ 100 by omega) (by decide)
      refine ⟨_, rfl, _, 0, rfl, rfl, _, rfl, ite2 (fun e => ?_) (fun e => ?_)⟩
      · have kp : 0 < k := by
          have : (0 : Int) < 0 + (k : Int) := of_decide_eq_true e
          omega
        refine ⟨_, rfl, h, o, 4, n + 262 + 6 * (k : Int) + 1 + 1, rfl, by decide, by decide, hd', by show n + 262 + 6 * (k : Int) + 1 + 1 ≤ 1000000; omega, fun u He u0 u1 he be => ⟨rfl, _, rfl, ite2 (fun e2 => ?_) (fun e2 => ?_)⟩⟩
        · have eSe := be _ _ So eSd
          have eTe := be _ _ To eTd
          have eFe := be _ _ Fo eFd
          have pe := pd.trans (hd'.tp be)
          have nme := nm1.tp (hd'.tp be)
          have bte := bd.trans be
          refine ⟨_, rfl, _, rfl, h, o, n + 262 + 6 * (k : Int) + 1 + 1 + 1, _, rfl, he, by show n + 262 + 6 * (k : Int) + 1 + 1 + 1 ≤ 1000000; omega, .inl ⟨T', _, rfl, eTe, To, tne', tl, fun v2 Hf mv2 hf bf => ?_⟩⟩
          obtain ⟨t2, mt2, rfl⟩ := List.mem_map.mp mv2
          have eSf := bf _ _ So eSe
          have eTf := bf _ _ To eTe
          have eFf := bf _ _ Fo eFe
          have pf := pe.trans (he.tp bf)
          have nmf := nme.tp (he.tp bf)
          refine ⟨_, rfl, _, rfl, h, o, n + 262 + 6 * (k : Int) + 1 + 1 + 1 + 1, _, rfl, hf, by show n + 262 + 6 * (k : Int) + 1 + 1 + 1 + 1 ≤ 1000000; omega, .inl ⟨F, xs, rfl, eFf, Fo, fun z => by rw [z] at lxs; simp at lxs; omega, by omega, fun v3 Hg mv3 hg bg => ?_⟩⟩
          have eSg := bg _ _ So eSf
          have eTg := bg _ _ To eTf
          have eFg := bg _ _ Fo eFf
          have pg := pf.trans (hf.tp bg)
          have nmg := nmf.tp (hf.tp bg)
          have btg := (bte.trans bf).trans bg
          obtain ⟨⟨a3, b3⟩, mn3, nv3⟩ := cxs.mem mv3
          obtain ⟨g3, o3⟩ := gds _ mn3
          obtain ⟨t3, rfl, e3⟩ := nv3.tp (fun b ys e => pg b ys e)
          refine ⟨t3, _, 1, .str b3, rfl, rfl, SqT.of e3, atI_nat (j := 1) rfl, (by show 2 ≤ sizeLine; decide), fun p2 np2 => ?_⟩
          have s2 := same_upd np2 (o := .tup [.str t2, .str b3])
          have nm2 : W37.NmV (upd Hg p2 (.tup [.str t2, .str b3])) (.ref p2) (t2, b3) := ⟨p2, rfl, upd_same⟩
          have gd2 : Gd (t2, b3) := by
            obtain ⟨r1, r2, r3⟩ := ct t2 mt2
            exact ⟨r1, r2, r3, g3.c, g3.c1, g3.c2⟩
          have of2 : Of st k0 sg' (t2, b3) := (show Of st k0 sg (t2, b3) from o3).less sub'
          have e2' : (upd Hg p2 (.tup [.str t2, .str b3])) p2 = some (.tup [.str t2, .str b3]) := upd_same
          have eSh := s2 _ _ eSg
          have eTh := s2 _ _ eTg
          have eFh := s2 _ _ eFg
          have hh := hg.same s2
          have ph := pg.trans (tp_same s2)
          have nmh := nmg.tp (tp_same s2)
          have bth := btg.trans (Bt.of (A := [h, o]) s2)
          generalize upd Hg p2 (.tup [.str t2, .str b3]) = Hh at nm2 e2' eSh eTh eFh hh ph nmh bth ⊢
          have dq1 := nml_dp (K := K) (cxs.tp (fun b ys e => ph b ys e))
          refine ⟨_, rfl, _, rfl, W37.nD (t2, b3), ns.map W37.nD, .tup (SqT.of e2') (.cons (.str t2) (.cons (.str b3) .nil)), .lst (SqL.of eFh) dq1, gd2.sh, shaped_list (lay_all ns fun a ha => (gds a ha).1) (dep_all ns), _, rfl, ?_⟩
          rw [any_nD]
          refine ite2 (fun e3 => ?_) (fun e3 => ?_)
          · refine ⟨_, rfl, ?_⟩
            refine ⟨_, rfl, .inl ⟨rfl, _, SqL.of eFh⟩, _, rfl, _, rfl, _, 1, rfl, rfl, h, o, 0 + (k : Int) + 1, n + 262 + 6 * (k : Int) + 1 + 1 + 1 + 1 + 1, rfl, by omega, by omega, hh, by show n + 262 + 6 * (k : Int) + 1 + 1 + 1 + 1 + 1 ≤ 1000000; omega, fun i Hy i0 i1 hy yb => ?_⟩
            refine ⟨_, rfl, F, xs, i, _, rfl, rfl, yb _ _ Fo eFh, xfit, i0, by omega, ?_⟩
            exact fin _ _ Hy i.toNat sg' _ _ _ (yb _ _ So eSh) lsg' csg' (yb _ _ To eTh) (yb _ _ Fo eFh) (ph.trans (hh.tp yb)) (nm2.tp (hh.tp yb)) (by simpa using e3) nd' sub' gd2 of2 (hy.mono (by omega)) (bth.trans yb)
          · refine ⟨_, rfl, ?_⟩
            refine ⟨_, rfl, .inl ⟨rfl, _, SqL.of eFh⟩, _, rfl, _, rfl, _, 1, rfl, rfl, h, o, 0 + (k : Int) + 1, n + 262 + 6 * (k : Int) + 1 + 1 + 1 + 1 + 1, rfl, by omega, by omega, hh, by show n + 262 + 6 * (k : Int) + 1 + 1 + 1 + 1 + 1 ≤ 1000000; omega, fun i Hy i0 i1 hy yb => ?_⟩
            refine ⟨_, rfl, F, xs, i, _, rfl, rfl, yb _ _ Fo eFh, xfit, i0, by omega, ?_⟩
            exact fin _ _ Hy i.toNat sg' _ _ _ (yb _ _ So eSh) lsg' csg' (yb _ _ To eTh) (yb _ _ Fo eFh) (ph.trans (hh.tp yb)) (nmh.tp (hh.tp yb)) nn1 nd' sub' gd1 of1 (hy.mono (by omega)) (bth.trans yb)
        · have eSe := be _ _ So eSd
          have eTe := be _ _ To eTd
          have eFe := be _ _ Fo eFd
          have pe := pd.trans (hd'.tp be)
          have nme := nm1.tp (hd'.tp be)
          have bte := bd.trans be
          refine ⟨_, rfl, .inl ⟨rfl, _, SqL.of eFe⟩, _, rfl, _, rfl, _, 1, rfl, rfl, h, o, 0 + (k : Int) + 1, n + 262 + 6 * (k : Int) + 1 + 1 + 1, rfl, by omega, by omega, he, by show n + 262 + 6 * (k : Int) + 1 + 1 + 1 ≤ 1000000; omega, fun i Hy i0 i1 hy yb => ?_⟩
          refine ⟨_, rfl, F, xs, i, _, rfl, rfl, yb _ _ Fo eFe, xfit, i0, by omega, ?_⟩
          exact fin _ _ Hy i.toNat sg' _ _ _ (yb _ _ So eSe) lsg' csg' (yb _ _ To eTe) (yb _ _ Fo eFe) (pe.trans (he.tp yb)) (nme.tp (he.tp yb)) nn1 nd' sub' gd1 of1 (hy.mono (by omega)) (bte.trans yb)
      · skip
        refine ⟨_, rfl, .inl ⟨rfl, _, SqL.of eFd⟩, _, rfl, _, rfl, _, 1, rfl, rfl, h, o, 0 + (k : Int) + 1, n + 262 + 6 * (k : Int) + 1 + 1, rfl, by omega, by omega, hd', by show n + 262 + 6 * (k : Int) + 1 + 1 ≤ 1000000; omega, fun i Hy i0 i1 hy yb => ?_⟩
        refine ⟨_, rfl, F, xs, i, _, rfl, rfl, yb _ _ Fo eFd, xfit, i0, by omega, ?_⟩
        exact fin _ _ Hy i.toNat sg' _ _ _ (yb _ _ So eSd) lsg' csg' (yb _ _ To eTd) (yb _ _ Fo eFd) (pd.trans (hd'.tp yb)) (nm1.tp (hd'.tp yb)) nn1 nd' sub' gd1 of1 (hy.mono (by omega)) (bd.trans yb)
    rintro σ He ⟨sg, xs, ns, c3, c8, c9, rfl, eSe, lsg, csg, eTe, eFe, lxs, cxs, nds, sgn, gds, hde, be⟩
    refine ⟨_, rfl, q F xs ns He eFe Fo (by rw [← cxs.len, lxs]; omega) cxs nds (fun a ha => (gds a ha).1) (hde.mono ?_) be HF⟩
    show n + 262 + 6 * ((m.toNat : Nat) : Int) ≤ n + 700
    omega
def isI : V → Bool
  | .int _ => true
  | _ => false
def spWhole (K : PySem.W.Frag) : Sp := fun vs H Q _ => ∃ (v : V) (d : PyData), vs = [v] ∧ Dz K H v d ∧ Q (.bl (isI v)) H
theorem ok_whole {f : Addr} {fd : FuncData} (D : Df K mg "is_whole" ["thing"] sIsWhole f fd) (T : Txt K mg) : FnOk P w K mg base CX0 1 f fd ["thing"] (spWhole K) := by
  refine D.fn.ok scIsWhole (fun vs H Q E h => ?_) (fun cdv A outer s H vs Q E hr h => ?_)
  · obtain ⟨v, d, rfl, h, q⟩ := h
    rfl
  · obtain ⟨v, d, rfl, h, q⟩ := h
    refine ⟨_, (pss_one (ps_ret (pe_and (pe_callB call_isi (by rfl) T.isi (by decide +kernel) (pa_cons (pv 0) (pa_cons (pe_bltn (v := .ty "int") (by rfl) T.int (by decide +kernel) rfl) pa_nil))) (pe_one (pe_not (pe_callB call_isi (by rfl) T.isi (by decide +kernel) (pa_cons (pv 0) (pa_cons (pe_bltn (v := .ty "bool") (by rfl) T.bool (by decide +kernel) rfl) pa_nil)))))))), ?_⟩
    cases h with
    | int i =>
      refine ⟨_, rfl, _, _, _, _, true, rfl, .ty _, (.base (.int i)), kit_ty (by decide +kernel), true, rfl, iteT ?_⟩
      exact ⟨_, rfl, _, _, _, _, false, rfl, .ty _, (.base (.int i)), kit_ty (by decide +kernel), false, rfl, q⟩
    | bl b =>
      refine ⟨_, rfl, _, _, _, _, true, rfl, .ty _, (.base (.bl b)), kit_ty (by decide +kernel), true, rfl, iteT ?_⟩
      exact ⟨_, rfl, _, _, _, _, true, rfl, .ty _, (.base (.bl b)), kit_ty (by decide +kernel), true, rfl, q⟩
    | non => exact ⟨_, rfl, _, _, _, _, false, rfl, .ty _, (.base .non : TyX K H .non (.type "NoneType")), kit_ty (by decide +kernel), false, rfl, iteF q⟩
    | str x => exact ⟨_, rfl, _, _, _, _, false, rfl, .ty _, (.base (.str x) : TyX K H (.str x) (.type "str")), kit_ty (by decide +kernel), false, rfl, iteF q⟩
    | lst e _ _ => exact ⟨_, rfl, _, _, _, _, false, rfl, .ty _, (.base (.lst e)), kit_ty (by decide +kernel), false, rfl, iteF q⟩
    | tup e _ => exact ⟨_, rfl, _, _, _, _, false, rfl, .ty _, (.base (.tup e)), kit_ty (by decide +kernel), false, rfl, iteF q⟩
    | dct e _ => exact ⟨_, rfl, _, _, _, _, false, rfl, .ty _, (.base (.dK e)), kit_ty (by decide +kernel), false, rfl, iteF q⟩
theorem ok_within {f : Addr} {fd : FuncData} (D : Df K mg "is_within" ["thing", "least", "most"] sIsWithin f fd) (T : Txt K mg) (cWh : Ca P w K mg base 1 "is_whole" ["thing"] (spWhole K)) : FnOk P w K mg base CX0 2 f fd ["thing", "least", "most"] spWiI := by
  refine D.fn.ok scIsWithin (fun vs H Q E h => ?_) (fun cdv A outer s H vs Q E hr h => ?_)
  · obtain ⟨n, a, b, rfl, q⟩ := h
    rfl
  · obtain ⟨n, a, b, rfl, q⟩ := h
    refine ⟨_, (pss_one (ps_ret (pe_and (pe_ca cWh hr (by decide) (by rfl) (pa_cons (pv 0) pa_nil)) (pe_one (pe_chain op_le op_le (pv 1) (pv 0) (pv 2)))))), ?_⟩
    refine ⟨_, rfl, .int n, .int n, rfl, .int n, _, rfl, iteT ⟨_, rfl, _, rfl, a, n, rfl, rfl, _, rfl, ?_⟩⟩
    by_cases c1 : a ≤ n
    · rw [decide_eq_true c1]
      refine iteT ⟨_, rfl, n, b, rfl, rfl, ?_⟩
      show Q (.bl (decide (n ≤ b))) H
      by_cases c2 : n ≤ b
      · rw [decide_eq_true c2]
        rw [decide_eq_true (show a ≤ n ∧ n ≤ b from ⟨c1, c2⟩)] at q
        exact q
      · rw [decide_eq_false c2]
        rw [decide_eq_false (show ¬ (a ≤ n ∧ n ≤ b) from fun z => c2 z.2)] at q
        exact q
    · rw [decide_eq_false c1]
      rw [decide_eq_false (show ¬ (a ≤ n ∧ n ≤ b) from fun z => c1 z.1)] at q
      exact iteF q
end
end K16
set_option Elab.async false
set_option linter.all false
set_option maxRecDepth 100000
set_option maxHeartbeats 4000000
set_option pp.maxSteps 400
set_option pp.deepTerms false
namespace K16
open PySem PySem.Spec PyProof.Rows L2
open Xk Az Xnp
section
variable {P : Program} {w : World} {K : PySem.W.Frag} {mg : Str → Option Value} {base : Heap}
/-- what counts, by its number -/
def live : Int → List Tl → List (Int × Pair)
  | _, [] => []
  | k, t :: r => (if t.2 = true then [(k, t.1)] else []) ++ live (k + 1) r
theorem live_snd : ∀ (k : Int) (tl : List Tl), (live k tl).map (·.2) = cnt tl
  | _, [] => rfl
  | k, (p, true) :: r => by
    have := live_snd (k + 1) r
    show p :: (live (k + 1) r).map (·.2) = p :: cnt r
    rw [this]
  | k, (p, false) :: r => live_snd (k + 1) r
theorem live_app : ∀ (k : Int) (tl : List Tl) (p : Pair), live k (tl ++ [(p, true)]) = live k tl ++ [(k + tl.length, p)]
  | k, [], p => by
    show [(k, p)] = [(k + ((0 : Nat) : Int), p)]
    rw [show k + ((0 : Nat) : Int) = k by omega]
  | k, t :: r, p => by
    show (if t.2 = true then [(k, t.1)] else []) ++ live (k + 1) (r ++ [(p, true)]) = ((if t.2 = true then [(k, t.1)] else []) ++ live (k + 1) r) ++ [(k + (((t :: r).length : Nat) : Int), p)]
    rw [live_app (k + 1) r p, List.append_assoc, List.length_cons, show k + 1 + (r.length : Int) = k + ((r.length + 1 : Nat) : Int) by omega]
theorem live_in : ∀ {k : Int} {tl : List Tl} {e : Int × Pair}, e ∈ live k tl → k ≤ e.1 ∧ e.1 < k + tl.length ∧ (e.2, true) ∈ tl
  | _, [], _, h => by cases h
  | k, t :: r, e, h => by
    rcases List.mem_append.mp h with z | z
    · split at z
      · rename_i c
        rw [List.mem_singleton.mp z]
        refine ⟨Int.le_refl _, ?_, ?_⟩
        · show k < k + ((r.length + 1 : Nat) : Int)
          omega
        · show (t.1, true) ∈ t :: r
          rw [← c]
          exact List.mem_cons_self
      · cases z
    · obtain ⟨a, b, c⟩ := live_in z
      refine ⟨by omega, ?_, List.mem_cons_of_mem _ c⟩
      show e.1 < k + ((r.length + 1 : Nat) : Int)
      omega
theorem live_nd : ∀ (k : Int) (tl : List Tl), ((live k tl).map (·.1)).Nodup
  | _, [] => by simp [live]
  | k, (p, false) :: r => live_nd (k + 1) r
  | k, (p, true) :: r => by
    show (k :: (live (k + 1) r).map (·.1)).Nodup
    refine List.nodup_cons.mpr ⟨fun m => ?_, live_nd (k + 1) r⟩
    obtain ⟨e, he, h⟩ := List.mem_map.mp m
    have := (live_in he).1
    omega
theorem live_mem : ∀ {k : Int} {tl : List Tl} {i : Nat} {p : Pair}, tl[i]? = some (p, true) → (k + (i : Int), p) ∈ live k tl
  | _, [], i, _, h => by simp at h
  | k, t :: r, 0, p, h => by
    cases h
    show (k + ((0 : Nat) : Int), p) ∈ [(k, p)] ++ live (k + 1) r
    rw [show k + ((0 : Nat) : Int) = k by omega]
    exact List.mem_append_left _ (List.mem_singleton.mpr rfl)
  | k, t :: r, i + 1, p, h => by
    have := live_mem (k := k + 1) (tl := r) (i := i) (p := p) (by simpa using h)
    rw [show k + ((i + 1 : Nat) : Int) = k + 1 + (i : Int) by omega]
    exact List.mem_append_right _ this
theorem filter_all {α : Type} {l : List α} {p : α → Bool} (h : ∀ x ∈ l, p x = true) : l.filter p = l := List.filter_eq_self.mpr h
theorem live_off : ∀ {k : Int} {tl : List Tl} {i : Nat} {p : Pair} {b : Bool}, tl[i]? = some (p, b) → live k (tl.set i (p, false)) = (live k tl).filter fun e => decide (e.1 ≠ k + (i : Int))
  | _, [], i, _, _, h => by simp at h
  | k, t :: r, 0, p, b, h => by
    cases h
    show live (k + 1) r = ((if b = true then [(k, p)] else []) ++ live (k + 1) r).filter fun e => decide (e.1 ≠ k + ((0 : Nat) : Int))
    have f1 : ((live (k + 1) r).filter fun e => decide (e.1 ≠ k + ((0 : Nat) : Int))) = live (k + 1) r := filter_all fun e he => by
      have := (live_in he).1
      exact decide_eq_true (by omega)
    rw [List.filter_append, f1]
    cases b with
    | true =>
      show live (k + 1) r = [(k, p)].filter (fun e => decide (e.1 ≠ k + ((0 : Nat) : Int))) ++ live (k + 1) r
      rw [List.filter_cons_of_neg (by simp)]
      rfl
    | false => rfl
  | k, t :: r, i + 1, p, b, h => by
    have ih := live_off (k := k + 1) (tl := r) (i := i) (p := p) (b := b) (by simpa using h)
    show (if t.2 = true then [(k, t.1)] else []) ++ live (k + 1) (r.set i (p, false)) = ((if t.2 = true then [(k, t.1)] else []) ++ live (k + 1) r).filter fun e => decide (e.1 ≠ k + ((i + 1 : Nat) : Int))
    rw [ih, List.filter_append, show k + 1 + (i : Int) = k + ((i + 1 : Nat) : Int) by omega]
    congr 1
    refine (filter_all fun e he => ?_).symm
    split at he
    · rw [List.mem_singleton.mp he]
      exact decide_eq_true (show k ≠ k + ((i + 1 : Nat) : Int) by omega)
    · cases he
theorem live_len : ∀ (k : Int) (tl : List Tl), (live k tl).length ≤ tl.length
  | _, [] => Nat.le_refl _
  | k, (p, true) :: r => by
    have := live_len (k + 1) r
    show (live (k + 1) r).length + 1 ≤ r.length + 1
    omega
  | k, (p, false) :: r => by
    have := live_len (k + 1) r
    show (live (k + 1) r).length ≤ r.length + 1
    omega
/-- where the law's tellings stand, apart from A -/
structure Tells (H : Hp) (A : List Addr) (TL : Addr) (tl : List Tl) : Prop where
  ex : ∃ ts, H TL = some (.lst ts) ∧ TlL H ts tl ∧ ts.Nodup ∧ ∀ a ∈ TL :: A, V.ref a ∉ ts
  off : TL ∉ A
def NoL (u : HO) : Prop := ∀ ys, u ≠ .lst ys
/-- all that is no list stays -/
def Nl (H H' : Hp) : Prop := ∀ x u, H x = some u → NoL u → H' x = some u
theorem Nl.tp {H H' : Hp} (s : Nl H H') : W37.Tp H H' := fun b xs e => s b _ e fun ys z => by cases z
theorem Nl.trans {H H1 H2 : Hp} (p : Nl H H1) (q : Nl H1 H2) : Nl H H2 := fun x u e n => q x u (p x u e n) n
theorem nl_same {H H' : Hp} (s : L2.Same H H') : Nl H H' := fun x u e _ => s x u e
theorem nl_upd {H : Hp} {p : Addr} {ys : List V} {u : HO} (e : H p = some (.lst ys)) : Nl H (L2.upd H p u) := fun x o ex n => by
  rw [upd_ne (fun z => by rw [z, e] at ex; cases ex; exact n ys rfl)]
  exact ex
theorem Hd.nl {h o : Addr} {n : Int} {H H' : Hp} (a : Hd h o n H) (s : Bt [h, o] H H') : Nl H H' := fun x u e nn => by
  obtain ⟨gs, m, c, r1, r2, _⟩ := a
  refine s x _ (fun mb => ?_) e
  simp only [List.mem_cons, List.not_mem_nil, or_false] at mb
  rcases mb with z | z
  · rw [z, r1] at e; cases e; exact nn _ rfl
  · rw [z, r2] at e; cases e; exact nn _ rfl
theorem PrL.nl {H H' : Hp} (s : Nl H H') {vs : List V} {es : List Pair} (h : PrL H vs es) : PrL H' vs es := h.tp s.tp
theorem Gps.nl {H H' : Hp} {g : Addr} {es : List Pair} (h : Gps H g es) (s : Nl H H') : Gps H' g es := by
  obtain ⟨kv, e, al, no⟩ := h
  refine ⟨kv, s _ _ e (fun ys z => by cases z), fun a ha => ?_, no⟩
  obtain ⟨t, ys, l, e1, e2, e3, c⟩ := al a ha
  exact ⟨t, ys, l, e1, s _ _ e2 (fun ys z => by cases z), e3.tp s.tp, c⟩
theorem Nb.keep {H H' : Hp} {C b c : Addr} {m : Int} {es : List (Int × Pair)} {fr : Addr → Prop} (h : Nb H C b c m es fr) (s : Nl H H') (k : ∀ x ys, fr x → H x = some (.lst ys) → H' x = some (.lst ys)) : Nb H' C b c m es fr := by
  obtain ⟨dx, l, g, kvs, e1, e2, e3, e4, e5, e6⟩ := h.ex
  exact ⟨dx, l, g, kvs, s _ _ e1 (fun ys z => by cases z), s _ _ e2 (fun ys z => by cases z), e3, e4.nl s, e5.nl s, e6.keep (fun kv e => s _ _ e (fun ys z => by cases z)) k s.tp⟩
/-- all lists stay, and all tuples -/
structure Ll (H H' : Hp) : Prop where
  ls : ∀ x ys, H x = some (.lst ys) → H' x = some (.lst ys)
  tp : W37.Tp H H'
theorem ll_same {H H' : Hp} (s : L2.Same H H') : Ll H H' := ⟨fun x ys e => s x _ e, W37.tp_same s⟩
theorem ll_book {H H' : Hp} {C b c : Addr} {m : Int} {es : List (Int × Pair)} {fr : Addr → Prop} (h : Nb H C b c m es fr) (s : B2n b c H H') : Ll H H' := by
  obtain ⟨dx, l, g, kvs, e1, e2, _⟩ := h.ex
  exact ⟨fun x ys e => s x _ (ne_of e e1 (by intro z; cases z)) (ne_of e e2 (by intro z; cases z)) e, fun x ys e => s x _ (ne_of e e1 (by intro z; cases z)) (ne_of e e2 (by intro z; cases z)) e⟩
theorem Hd.ll {h o : Addr} {n : Int} {H H' : Hp} (a : Hd h o n H) (s : Ll H H') : Hd h o n H' := by
  obtain ⟨gs, m, c, r1, r2, r⟩ := a
  exact ⟨gs, m, c, s.ls _ _ r1, s.ls _ _ r2, r⟩
theorem TlL.ll {H H' : Hp} (s : Ll H H') : ∀ {vs : List V} {tl : List Tl}, TlL H vs tl → TlL H' vs tl
  | _, _, .nil => .nil
  | _, _, .cons a b c r => .cons (s.ls _ _ a) (b.tp s.tp) (c.tp s.tp) (r.ll s)
theorem Tells.ll {H H' : Hp} {A : List Addr} {TL : Addr} {tl : List Tl} (a : Tells H A TL tl) (s : Ll H H') : Tells H' A TL tl := by
  obtain ⟨ts, e, t, n, f⟩ := a.ex
  exact ⟨⟨ts, s.ls _ _ e, t.ll s, n, f⟩, a.off⟩
theorem TlL.bt {H H' : Hp} {A : List Addr} (s : Bt A H H') (tp : W37.Tp H H') : ∀ {vs : List V} {tl : List Tl}, TlL H vs tl → (∀ a ∈ A, V.ref a ∉ vs) → TlL H' vs tl
  | _, _, .nil, _ => .nil
  | _, _, .cons a b c r, n => .cons (s _ _ (fun m => n _ m List.mem_cons_self) a) (b.tp tp) (c.tp tp) (r.bt s tp fun x hx m => n x hx (List.mem_cons_of_mem _ m))
theorem Tells.bt {H H' : Hp} {A B : List Addr} {TL : Addr} {tl : List Tl} (a : Tells H A TL tl) (s : Bt B H H') (tp : W37.Tp H H') (sub : ∀ x ∈ B, x ∈ A) : Tells H' A TL tl := by
  obtain ⟨ts, e, t, n, f⟩ := a.ex
  exact ⟨⟨ts, s _ _ (fun m => a.off (sub _ m)) e, t.bt s tp fun x hx m => f x (List.mem_cons_of_mem _ (sub x hx)) m, n, f⟩, a.off⟩
theorem TlL.app {H : Hp} : ∀ {vs ws : List V} {tl ul : List Tl}, TlL H vs tl → TlL H ws ul → TlL H (vs ++ ws) (tl ++ ul)
  | _, _, _, _, .nil, h => h
  | _, _, _, _, .cons a b c r, h => .cons a b c (r.app h)
/-- one more is told -/
theorem Tells.put {H : Hp} {A : List Addr} {TL r : Addr} {tl : List Tl} {ts : List V} {u v : V} {t : Tl} (a : Tells H A TL tl) (e : H TL = some (.lst ts)) (er : H r = some (.lst [u, v, .bl t.2])) (nu : W37.NmV H u t.1.1) (nv : W37.NmV H v t.1.2)
    (nr : V.ref r ∉ ts) (rA : r ∉ TL :: A) : Tells (L2.upd H TL (.lst (ts ++ [.ref r]))) A TL (tl ++ [t]) := by
  obtain ⟨ts', e', q, n, f⟩ := a.ex
  rw [e] at e'
  cases e'
  have tp : W37.Tp H (L2.upd H TL (.lst (ts ++ [.ref r]))) := W37.tp_upd fun us z => by rw [e] at z; cases z
  have bt : Bt [TL] H (L2.upd H TL (.lst (ts ++ [.ref r]))) := fun b x nb eb => by
    rw [upd_ne (fun z => nb (by rw [z]; exact List.mem_singleton.mpr rfl))]
    exact eb
  refine ⟨⟨_, upd_same, (q.bt bt tp fun x hx m => ?_).app (.cons (by rw [upd_ne (fun z => rA (by rw [z]; exact List.mem_cons_self))]; exact er) (nu.tp tp) (nv.tp tp) .nil), ?_, fun x hx hv => ?_⟩, a.off⟩
  · rw [List.mem_singleton.mp hx] at m
    exact f _ List.mem_cons_self m
  · rw [List.nodup_append]
    refine ⟨n, by simp, fun x hx y hy => ?_⟩
    rw [List.mem_singleton.mp hy]
    rintro rfl
    exact nr hx
  · rcases List.mem_append.mp hv with z | z
    · exact f x hx z
    · have z := List.mem_singleton.mp z
      injection z with z
      exact rA (z ▸ hx)
theorem TlL.off {H : Hp} : ∀ {vs : List V} {tl : List Tl} {i : Nat} {r : Addr} {u v : V} {p : Pair} {b : Bool}, TlL H vs tl → vs.Nodup → vs[i]? = some (.ref r) → tl[i]? = some (p, b) → H r = some (.lst [u, v, .bl b]) → TlL (L2.upd H r (.lst [u, v, .bl false])) vs (tl.set i (p, false))
  | _, _, i, _, _, _, _, _, .nil, _, h, _, _ => by simp at h
  | _, _, 0, r, u, v, p, b, .cons e1 e2 e3 q, nd, h, ht, er => by
    cases h
    cases ht
    have n2 := List.nodup_cons.mp nd
    have tp : W37.Tp H (L2.upd H r (.lst [u, v, .bl false])) := W37.tp_upd fun us z => by rw [er] at z; cases z
    have bt : Bt [r] H (L2.upd H r (.lst [u, v, .bl false])) := fun b x nb eb => by
      rw [upd_ne (fun z => nb (by rw [z]; exact List.mem_singleton.mpr rfl))]
      exact eb
    rw [e1] at er
    cases er
    exact .cons (t := (p, false)) upd_same (e2.tp tp) (e3.tp tp) (q.bt bt tp fun x hx m => n2.1 (by rw [List.mem_singleton.mp hx] at m; exact m))
  | _, _, i + 1, r, u, v, p, b, .cons e1 e2 e3 q, nd, h, ht, er => by
    have n2 := List.nodup_cons.mp nd
    have h2 : _ = _ := h
    rw [List.getElem?_cons_succ] at h2
    rw [List.getElem?_cons_succ] at ht
    have tp : W37.Tp H (L2.upd H r (.lst [u, v, .bl false])) := W37.tp_upd fun us z => by rw [er] at z; cases z
    refine .cons ?_ (e2.tp tp) (e3.tp tp) (q.off n2.2 h2 ht er)
    rw [upd_ne]
    · exact e1
    · rintro rfl
      exact n2.1 (List.mem_of_getElem? h2)
theorem Tells.offAt {H : Hp} {A : List Addr} {TL r : Addr} {tl : List Tl} {ts : List V} {u v : V} {p : Pair} {b : Bool} {i : Nat} (a : Tells H A TL tl) (e : H TL = some (.lst ts)) (ei : ts[i]? = some (.ref r)) (et : tl[i]? = some (p, b)) (er : H r = some (.lst [u, v, .bl b])) :
    Tells (L2.upd H r (.lst [u, v, .bl false])) A TL (tl.set i (p, false)) ∧ Bt [r] H (L2.upd H r (.lst [u, v, .bl false])) ∧ Nl H (L2.upd H r (.lst [u, v, .bl false])) ∧ r ∉ TL :: A := by
  obtain ⟨ts', e', q, n, f⟩ := a.ex
  rw [e] at e'
  cases e'
  have m := List.mem_of_getElem? ei
  have rt : r ∉ TL :: A := fun z => f _ z m
  refine ⟨⟨⟨ts, by rw [upd_ne (fun z => rt (by rw [z]; exact List.mem_cons_self))]; exact e, q.off n ei et er, n, f⟩, a.off⟩, fun b x nb eb => ?_, nl_upd er, rt⟩
  rw [upd_ne (fun z => nb (by rw [z]; exact List.mem_singleton.mpr rfl))]
  exact eb
theorem mem_set {tl : List Tl} {i : Nat} {p : Pair} {b c : Bool} (e : tl[i]? = some (p, b)) {t : Tl} (h : t ∈ tl.set i (p, c)) : ∃ d, (t.1, d) ∈ tl := by
  rcases List.mem_or_eq_of_mem_set h with z | z
  · exact ⟨t.2, z⟩
  · rw [z]
    exact ⟨b, List.mem_of_getElem? e⟩
end
end K16
set_option Elab.async false
set_option linter.all false
set_option maxRecDepth 100000
set_option maxHeartbeats 4000000
set_option pp.maxSteps 400
set_option pp.deepTerms false
namespace K16
open PySem PySem.Spec PyProof.Rows L2
open Xk Az Xnp
section
variable {P : Program} {w : World} {K : PySem.W.Frag} {mg : Str → Option Value} {base : Heap}
/-- apart from the law's own lists -/
def Av (ts : List V) (A : List Addr) (x : Addr) : Prop := x ∉ A ∧ V.ref x ∉ ts
/-- the law's state: the hand, the book (of ul), the tellings (tl), the names, one list more at G -/
structure St (H0 H : Hp) (C h o L b c TL : Addr) (n : Int) (xs : List V) (ns : List N2) (tl ul : List Tl) (G : Addr) (gs : List V) : Prop where
  hd : Hd h o n H
  nb : ∃ ts, H TL = some (.lst ts) ∧ Nb H C b c ul.length (live 0 ul) (Av ts (TL :: [h, o, L, G]))
  te : Tells H [h, o, L, G] TL tl
  eL : H L = some (.lst xs)
  nl : W37.NmL H xs ns
  bt : Bt [h, o] H0 H
  off : L ∉ [h, o]
  b0 : H0 b = none
  c0 : H0 c = none
  T0 : H0 TL = none
  eG : H G = some (.lst gs)
  offG : G ∉ [h, o]
section
variable {H0 H H' : Hp} {C h o L b c TL G : Addr} {n n' : Int} {xs gs : List V} {ns : List N2} {tl ul : List Tl}
theorem Av.off2 {ts : List V} {x : Addr} (a : Av ts (TL :: [h, o, L, G]) x) : x ∉ [h, o] := fun m => a.1 (by
  simp only [List.mem_cons, List.not_mem_nil, or_false] at m ⊢
  rcases m with z | z <;> simp [z])
theorem TlL.refs : ∀ {vs : List V} {tl : List Tl} {R : Addr}, TlL H vs tl → H R = none → V.ref R ∉ vs
  | _, _, _, .nil, _ => by simp
  | _, _, R, .cons e _ _ q, n => fun m => by
    rcases List.mem_cons.mp m with z | z
    · cases z
      rw [n] at e
      cases e
    · exact q.refs n z
theorem St.take (s : St H0 H C h o L b c TL n xs ns tl ul G gs) (hd : Hd h o n' H') (t : Bt [h, o] H H') : St H0 H' C h o L b c TL n' xs ns tl ul G gs := by
  obtain ⟨ts, eT, nb⟩ := s.nb
  have offh : TL ∉ [h, o] := fun m => s.te.off (by simp only [List.mem_cons, List.not_mem_nil, or_false] at m ⊢; exact m.elim .inl fun z => .inr (.inl z))
  exact ⟨hd, ⟨ts, t _ _ offh eT, nb.keep (s.hd.nl t) fun x ys a e => t _ _ a.off2 e⟩, s.te.bt t (s.hd.nl t).tp (fun x hx => by simp only [List.mem_cons, List.not_mem_nil, or_false] at hx ⊢; exact hx.elim .inl fun z => .inr (.inl z)), t _ _ s.off s.eL, s.nl.tp (s.hd.nl t).tp, s.bt.trans t, s.off, s.b0, s.c0, s.T0, t _ _ s.offG s.eG, s.offG⟩
theorem St.same (s : St H0 H C h o L b c TL n xs ns tl ul G gs) (t : L2.Same H H') : St H0 H' C h o L b c TL n xs ns tl ul G gs := s.take (s.hd.same t) (Bt.of t)
theorem St.mono (s : St H0 H C h o L b c TL n xs ns tl ul G gs) (l : n ≤ n') : St H0 H C h o L b c TL n' xs ns tl ul G gs := ⟨s.hd.mono l, s.nb, s.te, s.eL, s.nl, s.bt, s.off, s.b0, s.c0, s.T0, s.eG, s.offG⟩
theorem St.book {vl : List Tl} (s : St H0 H C h o L b c TL n xs ns tl ul G gs) (nb : Nb H' C b c vl.length (live 0 vl) (fun x => H x = none)) (fr : B2n b c H H') : St H0 H' C h o L b c TL n xs ns tl vl G gs := by
  obtain ⟨ts, eT, nb0⟩ := s.nb
  have ll := ll_book nb0 fr
  obtain ⟨ts', e', q, _⟩ := s.te.ex
  rw [eT] at e'
  cases e'
  refine ⟨s.hd.ll ll, ⟨ts, ll.ls _ _ eT, nb.imp fun x ys _ nx => ⟨fun m => ?_, q.refs nx⟩⟩, s.te.ll ll, ll.ls _ _ s.eL, s.nl.tp ll.tp, fun x u nx e => fr x u (ne_of_none e s.b0) (ne_of_none e s.c0) (s.bt x u nx e), s.off, s.b0, s.c0, s.T0, ll.ls _ _ s.eG, s.offG⟩
  simp only [List.mem_cons, List.not_mem_nil, or_false] at m
  rcases m with z | z | z | z | z
  · rw [z, eT] at nx; cases nx
  · exact s.hd.here x (by rw [z]; simp) nx
  · exact s.hd.here x (by rw [z]; simp) nx
  · rw [z, s.eL] at nx; cases nx
  · rw [z, s.eG] at nx; cases nx
theorem St.told {p : Pair} (s : St H0 H C h o L b c TL n xs ns tl ul G gs) (nb : Nb H' C b c ((ul.length : Int) + 1) (live 0 ul ++ [((ul.length : Int), p)]) (fun x => H x = none)) (fr : B2n b c H H') : St H0 H' C h o L b c TL n xs ns tl (ul ++ [(p, true)]) G gs := by
  refine s.book ?_ fr
  rw [live_app, List.length_append, Int.zero_add]
  exact nb
theorem St.struck {p : Pair} {i : Nat} {d : Bool} (s : St H0 H C h o L b c TL n xs ns tl ul G gs) (e : ul[i]? = some (p, d)) (nb : Nb H' C b c ul.length ((live 0 ul).filter fun e => decide (e.1 ≠ (i : Int))) (fun x => H x = none)) (fr : B2n b c H H') : St H0 H' C h o L b c TL n xs ns tl (ul.set i (p, false)) G gs := by
  refine s.book ?_ fr
  rw [live_off e, List.length_set, Int.zero_add]
  exact nb
theorem St.put {R : Addr} {u v : V} {p : Pair} {d : Bool} {ts : List V} (s : St H0 H C h o L b c TL n xs ns tl ul G gs) (nR : H R = none) (eT : H TL = some (.lst ts)) (nu : W37.NmV H u p.1) (nv : W37.NmV H v p.2) :
    St H0 (L2.upd (L2.upd H R (.lst [u, v, .bl d])) TL (.lst (ts ++ [.ref R]))) C h o L b c TL n xs ns (tl ++ [(p, d)]) ul G gs := by
  have sR := same_upd nR (o := .lst [u, v, .bl d])
  have s2 := s.same sR
  have er : (L2.upd H R (.lst [u, v, .bl d])) R = some (.lst [u, v, .bl d]) := upd_same
  have eT2 := sR _ _ eT
  have off := s2.te.off
  have rn : V.ref R ∉ ts := by
    obtain ⟨ts', e', q, _⟩ := s.te.ex
    rw [eT] at e'
    cases e'
    exact q.refs nR
  have rA : R ∉ TL :: [h, o, L, G] := fun m => by
    simp only [List.mem_cons, List.not_mem_nil, or_false] at m
    rcases m with z | z | z | z | z
    · rw [z, eT] at nR; cases nR
    · exact s.hd.here R (by rw [z]; simp) nR
    · exact s.hd.here R (by rw [z]; simp) nR
    · rw [z, s.eL] at nR; cases nR
    · rw [z, s.eG] at nR; cases nR
  have te := s2.te.put (t := (p, d)) eT2 er (nu.tp (W37.tp_same sR)) (nv.tp (W37.tp_same sR)) rn rA
  have nlu : Nl (L2.upd H R (.lst [u, v, .bl d])) (L2.upd (L2.upd H R (.lst [u, v, .bl d])) TL (.lst (ts ++ [.ref R]))) := nl_upd eT2
  have offh : TL ∉ [h, o] := fun m => off (by simp only [List.mem_cons, List.not_mem_nil, or_false] at m ⊢; exact m.elim .inl fun z => .inr (.inl z))
  have ne : L ≠ TL := fun z => off (by rw [← z]; simp)
  have ne2 : G ≠ TL := fun z => off (by rw [← z]; simp)
  obtain ⟨ts0, eT0, nb⟩ := s.nb
  rw [eT] at eT0
  cases eT0
  have nb2 : Nb (L2.upd (L2.upd H R (.lst [u, v, .bl d])) TL (.lst (ts ++ [.ref R]))) C b c ul.length (live 0 ul) (Av (ts ++ [.ref R]) (TL :: [h, o, L, G])) := by
    have k1 := (nb.imp (fr' := fun x => Av ts (TL :: [h, o, L, G]) x ∧ x ≠ R) fun x ys e a => ⟨a, fun z => by rw [z, nR] at e; cases e⟩).same sR
    have k2 := k1.keep nlu fun x ys a e => by rw [upd_ne (fun z => a.1.1 (by rw [z]; exact List.mem_cons_self))]; exact e
    refine k2.imp fun x ys _ a => ⟨a.1.1, fun m => ?_⟩
    rcases List.mem_append.mp m with z | z
    · exact a.1.2 z
    · have z := List.mem_singleton.mp z
      injection z with z
      exact a.2 z
  exact ⟨s2.hd.upd offh, ⟨_, upd_same, nb2⟩, te, by rw [upd_ne ne]; exact s2.eL, s2.nl.tp nlu.tp, fun x w nx e => by rw [upd_ne (ne_of_none e s.T0)]; exact s2.bt x w nx e, s.off, s.b0, s.c0, s.T0, by rw [upd_ne ne2]; exact s2.eG, s.offG⟩
theorem St.flag {r : Addr} {u v : V} {p : Pair} {d : Bool} {i : Nat} {ts : List V} (s : St H0 H C h o L b c TL n xs ns tl ul G gs) (eT : H TL = some (.lst ts)) (ei : ts[i]? = some (.ref r)) (et : tl[i]? = some (p, d)) (er : H r = some (.lst [u, v, .bl d])) (r0 : H0 r = none) :
    St H0 (L2.upd H r (.lst [u, v, .bl false])) C h o L b c TL n xs ns (tl.set i (p, false)) ul G gs := by
  obtain ⟨te, bt, nlu, rA⟩ := s.te.offAt eT ei et er
  have rh : r ∉ [h, o] := fun m => rA (by simp only [List.mem_cons, List.not_mem_nil, or_false] at m ⊢; exact .inr (m.elim .inl fun z => .inr (.inl z)))
  have ne : L ≠ r := fun z => rA (by rw [← z]; simp)
  have ne2 : G ≠ r := fun z => rA (by rw [← z]; simp)
  have neT : TL ≠ r := fun z => rA (by rw [← z]; simp)
  obtain ⟨ts0, eT0, nb⟩ := s.nb
  rw [eT] at eT0
  cases eT0
  exact ⟨s.hd.upd rh, ⟨ts, by rw [upd_ne neT]; exact eT, nb.keep nlu fun x ys a e => by rw [upd_ne (fun z => a.2 (by rw [z]; exact List.mem_of_getElem? ei))]; exact e⟩, te, by rw [upd_ne ne]; exact s.eL, s.nl.tp nlu.tp, fun x w nx e => by rw [upd_ne (ne_of_none e r0)]; exact s.bt x w nx e, s.off, s.b0, s.c0, s.T0, by rw [upd_ne ne2]; exact s.eG, s.offG⟩
theorem Tells.sub {A B : List Addr} (t : Tells H A TL tl) (s : ∀ x ∈ B, x ∈ A) : Tells H B TL tl := by
  obtain ⟨ts, e, q, n, f⟩ := t.ex
  exact ⟨⟨ts, e, q, n, fun a ha => f a ((List.mem_cons.mp ha).elim (fun z => by rw [z]; exact List.mem_cons_self) fun z => List.mem_cons_of_mem _ (s a z))⟩, fun m => t.off (s _ m)⟩
/-- another list of names in L's place, another one at G -/
theorem St.lists {L' G' : Addr} {xs' gs' : List V} {ns' : List N2} (s : St H0 H C h o L b c TL n xs ns tl ul G gs) (eL : H L' = some (.lst xs')) (nl : W37.NmL H xs' ns') (eG : H G' = some (.lst gs')) (oL : L' ∉ [h, o]) (oG : G' ∉ [h, o])
    (aL : ∀ ts, H TL = some (.lst ts) → L' ≠ TL ∧ V.ref L' ∉ ts ∧ G' ≠ TL ∧ V.ref G' ∉ ts) (aN : ∀ ts, Nb H C b c ul.length (live 0 ul) (Av ts (TL :: [h, o, L, G])) → Nb H C b c ul.length (live 0 ul) (Av ts (TL :: [h, o, L', G']))) : St H0 H C h o L' b c TL n xs' ns' tl ul G' gs' := by
  obtain ⟨ts, eT, nb⟩ := s.nb
  obtain ⟨ts', e', q, nd, f⟩ := s.te.ex
  rw [eT] at e'
  cases e'
  obtain ⟨a1, a2, a3, a4⟩ := aL ts eT
  have off := s.te.off
  refine ⟨s.hd, ⟨ts, eT, aN ts nb⟩, ⟨⟨ts, eT, q, nd, fun x hx => ?_⟩, fun m => ?_⟩, eL, nl, s.bt, oL, s.b0, s.c0, s.T0, eG, oG⟩
  · simp only [List.mem_cons, List.not_mem_nil, or_false] at hx
    rcases hx with z | z | z | z | z
    · exact f x (by rw [z]; simp)
    · exact f x (by rw [z]; simp)
    · exact f x (by rw [z]; simp)
    · rw [z]; exact a2
    · rw [z]; exact a4
  · simp only [List.mem_cons, List.not_mem_nil, or_false] at m
    rcases m with z | z | z | z
    · exact off (by rw [z]; simp)
    · exact off (by rw [z]; simp)
    · exact a1 z.symm
    · exact a3 z.symm
end
def allOn (tl : List Tl) : List Tl := tl.map fun t => (t.1, true)
/-- the tellings, those behind the i-th all counting -/
def mixed (tl : List Tl) (i : Nat) : List Tl := tl.take i ++ allOn (tl.drop i)
theorem mixed_len (tl : List Tl) (i : Nat) : (mixed tl i).length = tl.length := by
  unfold mixed allOn
  rw [List.length_append, List.length_map, List.length_take, List.length_drop]
  omega
theorem mixed_at {tl : List Tl} {i : Nat} {t : Tl} (e : tl[i]? = some t) : (mixed tl i)[i]? = some (t.1, true) := by
  have l := (List.getElem?_eq_some_iff.mp e).1
  unfold mixed allOn
  rw [List.getElem?_append_right (by rw [List.length_take]; omega), List.length_take, Nat.min_eq_left (by omega), Nat.sub_self, List.getElem?_map, List.getElem?_drop, Nat.add_zero, e]
  rfl
theorem drop_at {tl : List Tl} {i : Nat} {t : Tl} (e : tl[i]? = some t) : tl.drop i = t :: tl.drop (i + 1) := by
  have l := (List.getElem?_eq_some_iff.mp e).1
  rw [List.drop_eq_getElem_cons l]
  congr 1
  rw [List.getElem?_eq_getElem l] at e
  exact Option.some.inj e
theorem mixed_on {tl : List Tl} {i : Nat} {p : Pair} (e : tl[i]? = some (p, true)) : mixed tl (i + 1) = mixed tl i := by
  unfold mixed allOn
  rw [drop_at e, List.take_add_one, e, List.append_assoc]
  rfl
theorem mixed_off {tl : List Tl} {i : Nat} {p : Pair} (e : tl[i]? = some (p, false)) : mixed tl (i + 1) = (mixed tl i).set i (p, false) := by
  have l := (List.getElem?_eq_some_iff.mp e).1
  unfold mixed allOn
  rw [drop_at e, List.take_add_one, e, List.append_assoc, List.set_append_right _ _ (by rw [List.length_take]; omega), List.length_take, Nat.min_eq_left (by omega), Nat.sub_self]
  rfl
theorem mixed_end (tl : List Tl) : mixed tl tl.length = tl := by
  unfold mixed
  rw [List.take_length, List.drop_length]
  exact List.append_nil _
theorem mem_mixed {tl : List Tl} {i : Nat} {t : Tl} (h : t ∈ mixed tl i) : ∃ d, (t.1, d) ∈ tl := by
  unfold mixed allOn at h
  rcases List.mem_append.mp h with z | z
  · exact ⟨t.2, List.mem_of_mem_take z⟩
  · obtain ⟨t', h', rfl⟩ := List.mem_map.mp z
    exact ⟨t'.2, List.mem_of_mem_drop h'⟩
/-- of unlike names there is another one -/
theorem other_one {ns : List N2} (h : ns.Nodup) (l : 2 ≤ ns.length) (a : N2) : (ns.filter fun m => decide (m ≠ a)) ≠ [] := fun z => by
  match ns, h, l with
  | x :: y :: r, h, _ =>
    have h1 := List.nodup_cons.mp h
    have all : ∀ m ∈ x :: y :: r, m = a := fun m hm => by
      have := List.filter_eq_nil_iff.mp z m hm
      simpa using this
    have e1 := all x List.mem_cons_self
    have e2 := all y (List.mem_cons_of_mem _ List.mem_cons_self)
    exact h1.1 (by rw [e1, ← e2]; exact List.mem_cons_self)
def spBook (C : Addr) : Sp := fun vs H Q _ => ∃ (h o L : Addr) (n many : Int) (xs : List V) (ns : List N2), vs = [.ref h, .ref L, .int many] ∧ 0 ≤ many ∧ many ≤ 40 ∧ Hd h o n H ∧ n + 1000 ≤ far ∧ H L = some (.lst xs) ∧ L ∉ [h, o] ∧ W37.NmL H xs ns ∧ ns.Nodup ∧ (∀ a ∈ ns, Gd a) ∧ 2 ≤ ns.length ∧ ns.length ≤ 40 ∧
  ∀ (b c TL t : Addr) (tl : List Tl) H', H' t = some (.tup [.ref b, .ref TL]) → St H H' C h o L b c TL (n + 200) xs ns tl tl L xs → (∀ e ∈ tl, Gd e.1.1 ∧ Gd e.1.2) → (∀ e ∈ tl, e.1.1 ≠ e.1.2) → (tl.length : Int) = many → Q (.ref t) H'
structure Mn (P : Program) (w : World) (K : PySem.W.Frag) (mg : Str → Option Value) (base : Heap) (C f : Addr) (fd : FuncData) : Prop where
  mm : Mk K C f
  gl : mg "Names" = some (.ref C)
  ok : FnOk P w K mg base CX0 1 f fd ["self"] (spInit C)
  bd : Binds K fd ["self"] []
theorem ok_book {f : Addr} {fd : FuncData} {C fG : Addr} {fdG : FuncData} (D : Df K mg "_law_book" ["_law_hand_here", "_law_names_here", "_law_many"] sBook f fd) (T : Txt K mg) (N : NbC K C) (G : Mn P w K mg base C fG fdG) (cT : Ca P w K mg base 1 "_law_take" ["_law_hand_here", "_law_many"] spTake) (cP : Ca P w K mg base 2 "_law_pick" ["_law_hand_here", "_law_some"] spPick) (cTe : Mt P w K mg base 6 C "tell" ["self", "one", "other"] (spTell C)) (cSk : Mt P w K mg base 6 C "strike" ["self", "number"] (spStrike C)) : FnOk P w K mg base CX0 8 f fd ["_law_hand_here", "_law_names_here", "_law_many"] (spBook C) := by
  obtain ⟨fT, fdT, mtT, okT, bdT⟩ := cTe.ex
  obtain ⟨fK, fdK, mtK, okK, bdK⟩ := cSk.ex
  refine D.fn.ok scBook (fun vs H Q E h => ?_) (fun cdv A outer s H vs Q E hr h => ?_)
  · obtain ⟨h, o, L, n, many, xs, ns, rfl, m0, m40, hd, hn, eL, Lo, nl, nds, gd, l2, l40, q⟩ := h
    rfl
  · obtain ⟨h, o, L, n, many, xs, ns, rfl, m0, m40, hd, hn, eL, Lo, nl, nds, gd, l2, l40, q⟩ := h
    refine ⟨_, (pss_cons (ps_par (i := 3) (j := 4) (by rfl) scBook.nd rfl rfl (by decide) rfl rfl (pa_cons (pe_make0 G.mm G.ok (hr.mono (by decide)) (by rfl) G.gl G.bd .nil pass0) (pa_cons (pe_lst pa_nil) pa_nil)) (by rfl))
      (pss_cons (ps_for PassesOwn.never rfl (pi_range1 (by rfl) T.range (pa_cons (pv 2) pa_nil)) (pg_name (i := 5) scBook.nd rfl (.inl rfl)) (pss_cons (ps_set (i := 6) scBook.nd rfl (.inr rfl) (pe_ca cP hr (by decide) (by rfl) (pa_cons (pv 0) (pa_cons (pv 1) pa_nil))))
      (pss_cons (ps_set (i := 7) scBook.nd rfl (.inl rfl) (pe_ca cP hr (by decide) (by rfl) (pa_cons (pv 0) (pa_cons (pe_lc (own := [("_law_name", 10)]) (g := gName 10) (tt := tTest (tOp (rNeD K) (tVar 10) (tVar 6))) (by rfl) scBook.nd (pi_list (pv 1)) (blkOk_by (own := [("_law_name", 10)]) (N := ["_law_hand_here", "_law_names_here", "_law_many", "_law_book_here", "_law_tellings", "_law_k", "_law_one", "_law_other", "_law_number", "_law_row", "_law_name"]) (sc := defScope sBook) (by decide +kernel)) (fun _ _ _ _ _ => pg_name (i := 10) scBook.nd rfl (.inl rfl)) (fun _ _ _ _ _ => (pts_one (pt_cmpR (op_neD hr.units) (pv 10) (pv 6) (nomark _)))) (fun _ _ _ _ _ => pv 10)) pa_nil))))
      (pss_cons (ps_expr (pe_bm PySem.F.plainAttrs_list PySem.F.slot_list_append PySem.F.type_list_append mt_append (pv 4) (pa_cons (pe_lst (pa_cons (pv 6) (pa_cons (pv 7) (pa_cons (pe_cmpR op_gt (pe_ca cT hr (by decide) (by rfl) (pa_cons (pv 0) (pa_cons pe_int pa_nil))) pe_int (nomark _)) pa_nil)))) pa_nil)))
      (pss_one (ps_expr ((pe_meth (pv 3) N.cls mtT okT (hr.mono (by decide)) bdT .nil pass0 (pa_cons (pv 6) (pa_cons (pv 7) pa_nil))))))))))
      (pss_cons (ps_for PassesOwn.never rfl (pi_enum (by rfl) T.enumerate (pa_cons (pv 4) pa_nil)) (pg_tup (by rfl) (pgs_cons (pg_name (i := 8) scBook.nd rfl (.inl rfl)) (pgs_cons (pg_name (i := 9) scBook.nd rfl (.inl rfl)) pgs_nil))) (pss_one (ps_if (pt_not (pt_val (pe_ix ix_list (pv 9) pe_int (fun _ _ => rfl)))) (pss_one (ps_expr ((pe_meth (pv 3) N.cls mtK okK (hr.mono (by decide)) bdK .nil pass0 (pa_cons (pv 8) pa_nil))))) pss_nil)))
      (pss_one (ps_ret (pe_tup (pa_cons (pv 3) (pa_cons (pv 4) pa_nil)))))))), ?_⟩
    have fr : n + 1000 ≤ 1000000 := hn
    refine fun b dx nb0 ndx nex => ⟨b, dx, rfl, upd_same, fun c H1 nb1 fr1 nc => ⟨rfl, ?_⟩⟩
    have b0 : H b = none := nb0
    have c0 : H c = none := by
      have e : c ≠ b := fun z => by rw [z, upd_same] at nc; cases nc
      rw [upd_ne e] at nc
      have e2 : c ≠ dx := fun z => by rw [z, upd_same] at nc; cases nc
      rwa [upd_ne e2] at nc
    have s1 : L2.Same H H1 := fun x u e => fr1 x u (ne_of_none e nb0) (by rw [upd_ne (ne_of_none e nb0), upd_ne (ne_of_none e ndx)]; exact e)
    refine ⟨(by show 0 ≤ sizeLine; decide), fun TL nT => ⟨_, _, rfl, ?_⟩⟩
    have sT := same_upd nT (o := .lst [])
    have eT : (L2.upd H1 TL (.lst [])) TL = some (.lst []) := upd_same
    have st : St H (L2.upd H1 TL (.lst [])) C h o L b c TL n xs ns [] [] L xs := by
      have s2 := s1.trans sT
      refine ⟨hd.same s2, ⟨[], eT, (nb1.same sT).imp fun x _ _ f => f.elim⟩, ⟨⟨[], eT, .nil, by simp, by simp⟩, fun m => ?_⟩, s2 _ _ eL, nl.tp (W37.tp_same s2), Bt.of s2, Lo, b0, c0, ?_, s2 _ _ eL, Lo⟩
      · simp only [List.mem_cons, List.not_mem_nil, or_false] at m
        rcases m with z | z | z | z
        · exact (hd.same s1).here TL (by rw [z]; simp) nT
        · exact (hd.same s1).here TL (by rw [z]; simp) nT
        · rw [z, s1 _ _ eL] at nT; cases nT
        · rw [z, s1 _ _ eL] at nT; cases nT
      · cases e : H TL with
        | none => rfl
        | some u => rw [s1 _ _ e] at nT; cases nT
    generalize L2.upd H1 TL (.lst []) = H2 at st ⊢
    clear nb1 fr1 nc s1 sT eT nT
    have xne : xs ≠ [] := fun z => by have := nl.len; rw [z] at this; simp at this; omega
    have xl : xs.length < 1000 := by have := nl.len; omega
    refine ⟨_, rfl, many, rfl, by omega, by omega, for_range (lo := 0) (n := many.toNat) (fun k σ Hi => ∃ (c5 c6 c7 : Option V) (tl : List Tl), σ = [some (.ref h), some (.ref L), some (.int many), some (.ref b), some (.ref TL), c5, c6, c7, none, none, none] ∧ tl.length = k ∧ St H Hi C h o L b c TL (n + 3 * k) xs ns tl (allOn tl) L xs ∧ (∀ e ∈ tl, Gd e.1.1 ∧ Gd e.1.2) ∧ ∀ e ∈ tl, e.1.1 ≠ e.1.2) ?_ ?_ ?_⟩
    · exact ⟨none, none, none, [], rfl, rfl, st.mono (by omega), by simp, by simp⟩
    · rintro k σ Hi hk ⟨c5, c6, c7, tl, rfl, lk, si, gt, un⟩
      have k40 : k < 40 := by have : k < many.toNat := hk; omega
      have nkb : n + 3 * (k : Int) + 10 ≤ 1000000 := by omega
      refine ⟨_, rfl, _, rfl, h, o, n + 3 * k, _, rfl, si.hd, by show n + 3 * (k : Int) ≤ 1000000; omega, .inl ⟨L, xs, rfl, si.eL, Lo, xne, xl, fun v1 Ha mv1 ha ba => ?_⟩⟩
      have sa := si.take ha ba
      obtain ⟨n1, mn1, nv1⟩ := sa.nl.mem mv1
      have g1 := gd _ mn1
      refine ⟨_, rfl, _, rfl, L, rfl, ⟨_, SqL.of sa.eL⟩, fun D nD => ?_⟩
      refine lc_list (K := K) (a := L) (xs := xs) (fun i Hj => L2.Same Ha Hj ∧ ∃ zs, Hj D = some (.lst zs) ∧ W37.NmL Hj zs ((ns.take i).filter fun m => decide (m ≠ n1))) ⟨same_upd nD, [], upd_same, .nil⟩ (fun i Hj _ z => SqL.of (z.1 _ _ sa.eL)) ?_ ?_
      · rintro i x Hj hx ⟨sm, zs, eD, nz⟩
        obtain ⟨m1, em1, nm1⟩ := sa.nl.get hx
        have gm := gd _ (List.mem_of_getElem? em1)
        obtain ⟨tm, rfl, etm⟩ := nm1.tp (W37.tp_same sm)
        obtain ⟨tn, rfl, etn⟩ := nv1.tp (W37.tp_same sm)
        have zl := nz.len
        have fl := List.length_filter_le (fun m : N2 => decide (m ≠ n1)) (ns.take i)
        have tk : (ns.take i).length ≤ 40 := by rw [List.length_take]; omega
        refine ⟨rfl, _, rfl, _, rfl, W37.nD m1, W37.nD n1, .tup (SqT.of etm) (.cons (.str _) (.cons (.str _) .nil)), .tup (SqT.of etn) (.cons (.str _) (.cons (.str _) .nil)), gm.sh, g1.sh, _, rfl, ?_⟩
        rw [eqv_nD]
        by_cases e : m1 = n1
        · rw [decide_eq_true e]
          refine iteF ⟨sm, zs, eD, ?_⟩
          rw [List.take_add_one, em1, List.filter_append]
          have : ((some m1).toList.filter fun m : N2 => decide (m ≠ n1)) = [] := by simp [e]
          rw [this, List.append_nil]
          exact nz
        · rw [decide_eq_false e]
          have eDz : zs.length < sizeLine := by
            rw [zl]
            exact Nat.lt_of_le_of_lt (Nat.le_trans fl tk) (by decide)
          have up : W37.Tp Hj (L2.upd Hj D (.lst (zs ++ [.ref tm]))) := W37.tp_upd fun us z => by rw [eD] at z; cases z
          refine iteT ⟨_, rfl, zs, eD, eDz, fun b2 o2 eo => ?_, zs ++ [.ref tm], upd_same, ?_⟩
          · rw [upd_ne (ne_of_none eo nD)]
            exact sm _ _ eo
          · rw [List.take_add_one, em1, List.filter_append]
            have : ((some m1).toList.filter fun m : N2 => decide (m ≠ n1)) = [m1] := by simp [e]
            rw [this]
            exact (nz.tp up).snoc (W37.NmV.tp ⟨tm, rfl, etm⟩ up)
      rintro Hb ⟨sb, zs, eD, nz⟩
      rw [List.take_of_length_le (by have := nl.len; omega)] at nz
      have sB := sa.same sb
      have zl := nz.len
      have fl := List.length_filter_le (fun m : N2 => decide (m ≠ n1)) ns
      have zn : zs.length ≤ ns.length := by rw [zl]; exact List.length_filter_le _ _
      have fne := other_one nds l2 n1
      refine ⟨h, o, n + 3 * k + 1, _, rfl, sB.hd, by show n + 3 * (k : Int) + 1 ≤ 1000000; omega, .inl ⟨D, zs, rfl, eD, ha.fresh nD, fun z => ?_, Nat.lt_of_le_of_lt zn (by omega), fun v2 Hc mv2 hc bc => ?_⟩⟩
      · rw [z] at zl
        exact fne (List.eq_nil_of_length_eq_zero zl.symm)
      have sC := sB.take hc bc
      obtain ⟨n2, mn2, nv2⟩ := nz.mem mv2
      have nv2 := nv2.tp (sB.hd.nl bc).tp
      have nv1 := (nv1.tp (W37.tp_same sb)).tp (sB.hd.nl bc).tp
      obtain ⟨mn2, ne⟩ := List.mem_filter.mp mn2
      have ne : n2 ≠ n1 := by simpa using ne
      have g2 := gd _ mn2
      obtain ⟨ts, eT, tL, _⟩ := sC.te.ex
      have tsl := tL.len
      refine ⟨_, rfl, .inl ⟨rfl, _, SqL.of eT⟩, _, rfl, _, rfl, _, rfl, h, o, 5, n + 3 * k + 1 + 1, rfl, by decide, by decide, hc, by show n + 3 * (k : Int) + 1 + 1 ≤ 1000000; omega, fun d Hd d0 d1 hd2 bd => ⟨d, 0, rfl, rfl, (by show 3 ≤ sizeLine; decide), fun R nR => ?_⟩⟩
      have sD := sC.take hd2 bd
      have nv1 := nv1.tp (sC.hd.nl bd).tp
      have nv2 := nv2.tp (sC.hd.nl bd).tp
      have eT2 : Hd TL = some (.lst ts) := bd _ _ (fun m => sC.te.off (by simp only [List.mem_cons, List.not_mem_nil, or_false] at m ⊢; exact m.elim .inl fun z => .inr (.inl z))) eT
      have sE := sD.put (p := (n1, n2)) (d := decide (0 < d)) nR eT2 nv1 nv2
      refine ⟨TL, ts, _, rfl, rfl, same_upd nR _ _ eT2, Nat.lt_of_le_of_lt (show ts.length ≤ 100 by omega) (by decide), ?_⟩
      have tE : W37.Tp Hd (L2.upd (L2.upd Hd R (.lst [v1, v2, .bl (decide (0 < d))])) TL (.lst (ts ++ [.ref R]))) := (W37.tp_same (same_upd nR)).trans (W37.tp_upd fun us z => by rw [same_upd nR _ _ eT2] at z; cases z)
      have nv1 := nv1.tp tE
      have nv2 := nv2.tp tE
      generalize L2.upd (L2.upd Hd R (.lst [v1, v2, .bl (decide (0 < d))])) TL (.lst (ts ++ [.ref R])) = He at sE nv1 nv2 ⊢
      obtain ⟨_, _, nbE⟩ := sE.nb
      obtain ⟨dx2, l2', g2', kvs2, eb2, _⟩ := nbE.ex
      have la : (allOn tl).length = k := by unfold allOn; rw [List.length_map, lk]
      refine ⟨_, rfl, b, dx2, _, rfl, eb2, rfl, _, rfl, _, rfl, _, b, c, v1, v2, _, _, n1, n2, rfl, nbE, nv1, nv2, g1, g2, fun z => ne z.symm, fun e he => ?_, ?_, fun Hf nbf frf => ?_⟩
      · have := (live_in he).2.1
        omega
      · have := live_len 0 (allOn tl)
        omega
      refine ⟨_, _, _, tl ++ [((n1, n2), decide (0 < d))], rfl, by rw [List.length_append, lk]; rfl, ?_, fun e he => ?_, fun e he => ?_⟩
      · have sF := (sE.told nbf frf).mono (n' := n + 3 * ((k + 1 : Nat) : Int)) (by omega)
        have : allOn (tl ++ [((n1, n2), decide (0 < d))]) = allOn tl ++ [((n1, n2), true)] := by unfold allOn; rw [List.map_append]; rfl
        rw [this]
        exact sF
      · rcases List.mem_append.mp he with z | z
        · exact gt e z
        · rw [List.mem_singleton.mp z]
          exact ⟨g1, g2⟩
      · rcases List.mem_append.mp he with z | z
        · exact un e z
        · rw [List.mem_singleton.mp z]
          exact fun z => ne z.symm
    rintro σ Hi ⟨c5, c6, c7, tl, rfl, lk, si, gt, un⟩
    obtain ⟨ts, eT, tL, _⟩ := si.te.ex
    have tsl := tL.len
    have lm : tl.length = many.toNat := lk
    refine ⟨_, rfl, TL, ts, rfl, SqL.of eT, ?_⟩
    refine for_it (walk_enum (K := K) (a := TL) (xs := ts)) (fun i σ Hx => ∃ (c8 c9 : Option V), σ = [some (.ref h), some (.ref L), some (.int many), some (.ref b), some (.ref TL), c5, c6, c7, c8, c9, none] ∧ Hx TL = some (.lst ts) ∧ St H Hx C h o L b c TL (n + 130) xs ns tl (mixed tl i) L xs) ⟨none, none, rfl, eT, si.mono (by omega)⟩ (fun i σ Hx _ z => by obtain ⟨_, _, _, z, _⟩ := z; exact SqL.of z) ?_ ?_
    · rintro i x σ Hx H' il ⟨c8, c9, rfl, eTx, sx⟩ ⟨t, x1, y1, rfl, nt, rfl, ex1, ey1⟩
      replace ex1 : some (V.int (i : Nat)) = some x1 := ex1
      cases ex1
      replace ey1 : ts[i]? = some y1 := ey1
      have st := same_upd nt (o := .tup [.int (i : Nat), y1])
      have et : (L2.upd Hx t (.tup [.int (i : Nat), y1])) t = some (.tup [.int (i : Nat), y1]) := upd_same
      have s3 := sx.same st
      have eT3 := st _ _ eTx
      generalize L2.upd Hx t (.tup [.int (i : Nat), y1]) = H3 at et s3 eT3 ⊢
      obtain ⟨ts', e', tL3, _⟩ := s3.te.ex
      rw [eT3] at e'
      cases e'
      obtain ⟨t0, r, va, vb, et0, rfl, er, na, nb'⟩ := tL3.get ey1
      have gt0 := gt _ (List.mem_of_getElem? et0)
      refine ⟨t, _, rfl, SqT.of et, rfl, _, _, rfl, _, _, rfl, rfl, ?_⟩
      refine ⟨_, rfl, r, _, 2, .bl t0.2, rfl, rfl, SqL.of er, atI_nat (j := 2) rfl, ?_⟩
      obtain ⟨p0, d0⟩ := t0
      cases d0 with
      | true =>
        refine ⟨_, rfl, iteF ⟨_, _, rfl, eT3, ?_⟩⟩
        rw [mixed_on et0]
        exact s3
      | false =>
        refine ⟨_, rfl, iteT ?_⟩
        obtain ⟨_, _, nb3⟩ := s3.nb
        obtain ⟨dx2, l2', g2', kvs2, eb2, ec2, _⟩ := nb3.ex
        have lmx := mixed_len tl i
        have ll := live_len 0 (mixed tl i)
        have im : (mixed tl i)[i]? = some (p0, true) := mixed_at et0
        refine ⟨_, rfl, b, dx2, _, rfl, eb2, rfl, _, rfl, _, b, c, _, (i : Int), _, p0.1, p0.2, rfl, nb3, by omega, by omega, ?_, live_nd _ _, fun e he => ?_, by omega, fun rr H4 nb4 fr4 => ?_⟩
        · have := live_mem (k := 0) im
          rwa [Int.zero_add] at this
        · obtain ⟨dd, hm⟩ := mem_mixed (live_in he).2.2
          exact gt _ hm
        · refine ⟨_, _, rfl, (ll_book nb3 fr4).ls _ _ eT3, ?_⟩
          rw [mixed_off et0]
          exact s3.struck im nb4 fr4
    · rintro σ Hx ⟨c8, c9, rfl, eTx, sx⟩
      rw [tsl, mixed_end] at sx
      refine ⟨_, rfl, _, rfl, (by show 2 ≤ sizeLine; decide), fun t nt => ?_⟩
      have st := sx.same (same_upd nt (o := .tup [.ref b, .ref TL]))
      exact q b c TL t tl _ upd_same (st.mono (by omega)) gt un (by omega)
end
end K16
set_option Elab.async false
set_option linter.all false
set_option maxRecDepth 100000
set_option maxHeartbeats 4000000
set_option pp.maxSteps 400
set_option pp.deepTerms false
namespace K16
open PySem PySem.Spec PyProof.Rows L2
open Xk Az Xnp
section
variable {P : Program} {w : World} {K : PySem.W.Frag} {mg : Str → Option Value} {base : Heap}
def other (p : Pair) (n : N2) : N2 := if p.1 = n then p.2 else p.1
def spOther : Sp := fun vs H Q _ => ∃ (t : Addr) (a b v : V) (p : Pair) (n : N2), vs = [.ref t, v] ∧ H t = some (.tup [a, b]) ∧ W37.NmV H a p.1 ∧ W37.NmV H b p.2 ∧ W37.NmV H v n ∧ Gd p.1 ∧ Gd p.2 ∧ Gd n ∧ Q (if p.1 = n then b else a) H
theorem NmV.dp {H : Hp} {v : V} {n : N2} (h : W37.NmV H v n) : Dp K H v (W37.nD n) := by
  obtain ⟨t, rfl, e⟩ := h
  exact .tup (SqT.of e) (.cons (.str _) (.cons (.str _) .nil))
theorem ok_other {f : Addr} {fd : FuncData} (D : Df K mg "other_end" ["pair", "name"] sOtherEnd f fd)  : FnOk P w K mg base CX0 1 f fd ["pair", "name"] spOther := by
  refine D.fn.ok scOtherEnd (fun vs H Q E h => ?_) (fun cdv A outer s H vs Q E hr h => ?_)
  · obtain ⟨t, a, b, v, p, n, rfl, et, na, nb, nv, g1, g2, gn, q⟩ := h
    rfl
  · obtain ⟨t, a, b, v, p, n, rfl, et, na, nb, nv, g1, g2, gn, q⟩ := h
    refine ⟨_, (pss_one (ps_ret (pe_ifExp (pt_cmpR (op_eqD hr.units) (pe_ix ix_tup (pv 0) pe_int (fun _ _ => rfl)) (pv 1) (nomark _)) (pe_ix ix_tup (pv 0) pe_int (fun _ _ => rfl)) (pe_ix ix_tup (pv 0) pe_int (fun _ _ => rfl))))), ?_⟩
    refine ⟨_, rfl, t, _, 0, a, rfl, rfl, SqT.of et, atI_nat (j := 0) rfl, _, rfl, W37.nD p.1, W37.nD n, NmV.dp na, NmV.dp nv, g1.sh, gn.sh, _, rfl, ?_⟩
    rw [eqv_nD]
    by_cases c : p.1 = n
    · rw [decide_eq_true c]
      rw [if_pos c] at q
      exact iteT ⟨_, rfl, t, _, 1, b, rfl, rfl, SqT.of et, atI_nat (j := 1) rfl, q⟩
    · rw [decide_eq_false c]
      rw [if_neg c] at q
      exact iteF ⟨_, rfl, t, _, 0, a, rfl, rfl, SqT.of et, atI_nat (j := 0) rfl, q⟩
end
end K16
set_option Elab.async false
set_option linter.all false
set_option maxRecDepth 100000
set_option maxHeartbeats 4000000
set_option pp.maxSteps 400
set_option pp.deepTerms false
namespace K16
open PySem PySem.Spec PyProof.Rows L2
open Xk Az Xnp
section
variable {P : Program} {w : World} {K : PySem.W.Frag} {mg : Str → Option Value} {base : Heap}
/-- the number of the telling that leads nearer, the least of them -/
structure Nx (es : List (Int × Pair)) (goal n : N2) (k : Int) (p : Pair) : Prop where
  at_ : (k, p) ∈ es
  on : p.1 = n ∨ p.2 = n
  near : ∃ d, Far (es.map (·.2)) goal n (d + 1) ∧ Far (es.map (·.2)) goal (other p n) d
  least : ∀ e ∈ es, (e.2.1 = n ∨ e.2.2 = n) → (∀ d, Far (es.map (·.2)) goal n (d + 1) → ∃ m, m ≤ d ∧ Far (es.map (·.2)) goal (other e.2 n) m) → k ≤ e.1
def spNearer (C : Addr) : Sp := fun vs H Q _ => ∃ (fr : Addr → Prop) (b c t : Addr) (v : V) (m : Int) (d : Nat) (es : List (Int × Pair)) (goal n : N2) (rs : List N2), vs = [.ref b, v, .ref t] ∧ Nb H C b c m es fr ∧ W37.NmV H v n ∧ (∀ e ∈ es, Gd e.2.1 ∧ Gd e.2.2) ∧ Gd n ∧ es.length ≤ 100 ∧
  Kys H t (es.map (·.2)) goal rs ∧ (∀ x, x ∈ rs ↔ Rch (es.map (·.2)) goal x) ∧ Far (es.map (·.2)) goal n (d + 1) ∧ ∀ (k : Int) (p : Pair) H', L2.Same H H' → Nx es goal n k p → Q (.int k) H'
theorem ok_nearer {f : Addr} {fd : FuncData} {C : Addr} (F : L2.Fun K "first_nearer" "Names.first_nearer" sNamesFirstNearer f fd) (T : Txt K mg) (N : NbC K C) (cOt : Ca P w K mg base 1 "other_end" ["pair", "name"] spOther) : FnOk P w K mg base CX0 2 f fd ["self", "name", "steps"] (spNearer C) := by
  refine F.ok scNamesFirstNearer (fun vs H Q E h => ?_) (fun cdv A outer s H vs Q E hr h => ?_)
  · obtain ⟨fr, b, c, t, v, m, d, es, goal, n, rs, rfl, nb0, nv, gd, gn, l100, ky, mem, far, q⟩ := h
    rfl
  · obtain ⟨fr, b, c, t, v, m, d, es, goal, n, rs, rfl, nb0, nv, gd, gn, l100, ky, mem, far, q⟩ := h
    refine ⟨_, (pss_one (ps_ret (pe_lock (pe_callB (cr_min (by rfl)) (by rfl) T.min (by decide +kernel) (pa_cons (pe_lc (own := [("number", 3), ("pair", 4)]) (g := (gTup K 2 (gCons (gName 3) (gCons (gName 4) gNil)))) (tt := tAnd (tTest (tOp (Xsd.rInTD K) (tVar 1) (tVar 4))) (tTest (tOp (rI0 fun i j => V.bl (decide (i < j))) (tDGet (tVar 2) (tCall spOther [] E0 (tCons (tVar 4) (tCons (tVar 1) tNil)))) (tDGet (tVar 2) (tVar 1))))) (te := tVar 3) (by rfl) scNamesFirstNearer.nd (pi_items (pe_fld (pv 0) rfl)) (blkOk_by (own := [("number", 3), ("pair", 4)]) (N := ["self", "name", "steps", "number", "pair"]) (sc := defScope sNamesFirstNearer) (by decide +kernel)) (fun _ _ _ _ _ => pg_tup (by rfl) (pgs_cons (pg_name (i := 3) scNamesFirstNearer.nd rfl (.inl rfl)) (pgs_cons (pg_name (i := 4) scNamesFirstNearer.nd rfl (.inl rfl)) pgs_nil))) (fun _ _ _ _ _ => (pts_one (PW.pt (pw_and (pt_cmpR (Xsd.op_inTD (r65 hr)) (pv 1) (pv 4) (by rfl)) (pw_and1 (pt_cmpR op_lt (pe_dget (hu_of hr) (pv 2) (pe_ca cOt hr (by decide) (by rfl) (pa_cons (pv 4) (pa_cons (pv 1) pa_nil))) (fun _ _ => rfl)) (pe_dget (hu_of hr) (pv 2) (pv 1) (fun _ _ => rfl)) (nomark _))))))) (fun _ _ _ _ _ => pv 3)) pa_nil))))), ?_⟩
    obtain ⟨dx, l0, g0, kvs, eb, ec, ek, pr, gp, lks⟩ := nb0.ex
    obtain ⟨skvs, eS, esk, sv⟩ := ky.ex
    have cb : b ≠ c := ne_of eb ec (by intro z; cases z)
    have ct : t ≠ c := ne_of eS ec (by intro z; cases z)
    refine ⟨c, .dK kvs, ec, True.intro, fun od => ?_⟩
    have eF : (L2.upd H c (.frz od (.dK kvs))) c = some (.frz od (.dK kvs)) := upd_same
    have bF : ∀ x u, x ≠ c → H x = some u → (L2.upd H c (.frz od (.dK kvs))) x = some u := fun x u ne e => by rw [upd_ne ne]; exact e
    have nF : ∀ x, (L2.upd H c (.frz od (.dK kvs))) x = none → H x = none := fun x e => by
      by_cases z : x = c
      · rw [z, eF] at e; cases e
      · rw [upd_ne z] at e; exact e
    have tF : W37.Tp H (L2.upd H c (.frz od (.dK kvs))) := fun x us e => bF x _ (fun z => by rw [z, ec] at e; cases e) e
    have ebF := bF _ _ cb eb
    have eSF := bF _ _ ct eS
    have prF := pr.tp tF
    have nvF := nv.tp tF
    generalize L2.upd H c (.frz od (.dK kvs)) = F0 at eF bF nF tF ebF eSF prF nvF ⊢
    refine ⟨_, rfl, b, C, dx, _, .ref c, rfl, ebF, N.cls, N.cnt, rfl, c, od, kvs, rfl, eF, fun D nD => ?_⟩
    have kl : kvs.length = es.length := by
      have := congrArg List.length ek
      rwa [List.length_map, List.length_map] at this
    refine lc_it (walk_items (d := c) (o := od) (kvs := kvs)) (fun i Hi => L2.Same F0 Hi ∧ ∃ gs : List Int, Hi D = some (.lst (gs.map V.int)) ∧ gs.length ≤ i ∧ (∀ g ∈ gs, ∃ p, (g, p) ∈ es ∧ (p.1 = n ∨ p.2 = n) ∧ Far (es.map (·.2)) goal (other p n) d) ∧
      ∀ e ∈ es.take i, (e.2.1 = n ∨ e.2.2 = n) → (∃ m, m ≤ d ∧ Far (es.map (·.2)) goal (other e.2 n) m) → e.1 ∈ gs) ⟨same_upd nD, [], upd_same, Nat.le_refl _, by simp, by simp⟩ (fun i Hi _ z => z.1 _ _ eF) ?_ ?_
    · rintro i x Hi H' il ⟨sm, gs, eD, gl, all, cov⟩ ⟨T0, x1, y1, rfl, nt, rfl, ex1, ey1⟩
      have iks : i < es.length := by omega
      obtain ⟨p, tp, va, vb, ep, rfl, et, na, nb'⟩ := prF.get (i := i) (v := y1) (by rw [List.getElem?_map]; exact ey1)
      obtain ⟨e, ee, rfl⟩ : ∃ e, es[i]? = some e ∧ e.2 = p := by
        rw [List.getElem?_map] at ep
        obtain ⟨e, h1, h2⟩ := Option.map_eq_some_iff.mp ep
        exact ⟨e, h1, h2⟩
      have ex2 : x1 = .int e.1 := by
        have h1 : (kvs.map (·.1))[i]? = some (.inl e.1) := by rw [ek, List.getElem?_map, ee]; rfl
        rw [List.getElem?_map] at h1
        obtain ⟨kv, h2, h3⟩ := Option.map_eq_some_iff.mp h1
        have ex1 : (kvs[i]?.map fun kv => kV kv.1) = some x1 := ex1
        rw [h2] at ex1
        have := Option.some.inj ex1
        rw [← this]
        show kV kv.1 = _
        rw [h3]
        rfl
      subst ex2
      have st := same_upd nt (o := .tup [.int e.1, .ref tp])
      have eT : (L2.upd Hi T0 (.tup [.int e.1, .ref tp])) T0 = some (.tup [.int e.1, .ref tp]) := upd_same
      have s3 := sm.trans st
      have eD3 := st _ _ eD
      generalize L2.upd Hi T0 (.tup [.int e.1, .ref tp]) = H3 at eT s3 eD3 ⊢
      have et3 := s3 _ _ et
      have na3 := na.tp (W37.tp_same s3)
      have nb3 := nb'.tp (W37.tp_same s3)
      have nv3 := nvF.tp (W37.tp_same s3)
      have eS3 := s3 _ _ eSF
      obtain ⟨g1, g2⟩ := gd e (List.mem_of_getElem? ee)
      have inE : e.2 ∈ es.map (·.2) := List.mem_map_of_mem (List.mem_of_getElem? ee)
      have tk : es.take (i + 1) = es.take i ++ [e] := by rw [List.take_add_one, ee]; rfl
      -- nothing is put
      have keep : ∀ Hz, L2.Same H3 Hz → ((e.2.1 = n ∨ e.2.2 = n) → ¬ ∃ m, m ≤ d ∧ Far (es.map (·.2)) goal (other e.2 n) m) → L2.Same F0 Hz ∧ ∃ gs : List Int, Hz D = some (.lst (gs.map V.int)) ∧ gs.length ≤ i + 1 ∧ (∀ g ∈ gs, ∃ p, (g, p) ∈ es ∧ (p.1 = n ∨ p.2 = n) ∧ Far (es.map (·.2)) goal (other p n) d) ∧
          ∀ e ∈ es.take (i + 1), (e.2.1 = n ∨ e.2.2 = n) → (∃ m, m ≤ d ∧ Far (es.map (·.2)) goal (other e.2 n) m) → e.1 ∈ gs := fun Hz sz no => by
        refine ⟨s3.trans sz, gs, sz _ _ eD3, Nat.le_succ_of_le gl, all, fun e' he' on ex => ?_⟩
        rw [tk] at he'
        rcases List.mem_append.mp he' with z | z
        · exact cov e' z on ex
        · have z := List.mem_singleton.mp z
          subst z
          exact absurd ex (no on)
      refine ⟨T0, _, rfl, SqT.of eT, rfl, _, _, rfl, _, _, rfl, rfl, rfl, ?_⟩
      refine ⟨_, rfl, _, rfl, W37.nD n, [e.2.1, e.2.2].map W37.nD, NmV.dp nv3, .tup (SqT.of et3) (.cons (NmV.dp na3) (.cons (NmV.dp nb3) .nil)), gn.sh, shaped_tup (fun m hm => ?_), _, rfl, ?_⟩
      · simp only [List.mem_cons, List.not_mem_nil, or_false] at hm
        rcases hm with rfl | rfl
        · exact g1
        · exact g2
      rw [any_nD]
      by_cases m : n ∈ [e.2.1, e.2.2]
      · rw [decide_eq_true m]
        have on : e.2.1 = n ∨ e.2.2 = n := by
          simp only [List.mem_cons, List.not_mem_nil, or_false] at m
          exact m.imp Eq.symm Eq.symm
        have adj : Adj (es.map (·.2)) n (other e.2 n) := by
          unfold other
          rcases on with z | z
          · rw [if_pos z]
            exact .inl (by rw [← z]; exact inE)
          · by_cases z1 : e.2.1 = n
            · rw [if_pos z1]
              exact .inl (by rw [← z1]; exact inE)
            · rw [if_neg z1]
              exact .inr (by rw [← z]; exact inE)
        have sel : W37.NmV H3 (if e.2.1 = n then vb else va) (other e.2 n) := by
          unfold other
          split
          · exact nb3
          · exact na3
        obtain ⟨ta, eta, ea⟩ := sel
        obtain ⟨tv, rfl, ev⟩ := nv3
        have rn : n ∈ rs := (mem n).mpr far.1.rch
        obtain ⟨m0, vm0, f0⟩ := sv n rn
        have : m0 = d + 1 := f0.uniq far
        subst this
        obtain ⟨m1, vm1, f1⟩ := sv (other e.2 n) ((mem _).mpr (.step far.1.rch adj))
        have g1' := DGet.t (b := ta) (k := key (other e.2 n)) eS3 ea
        rw [vm1] at g1'
        have g2' := DGet.t (b := tv) (k := key n) eS3 ev
        rw [vm0] at g2'
        refine iteT ⟨_, rfl, _, rfl, _, rfl, tp, va, vb, .ref tv, e.2, n, rfl, et3, na3, nb3, ⟨tv, rfl, ev⟩, g1, g2, gn, t, .int (m1 : Int), rfl, by rw [eta]; exact g1', _, rfl, _, rfl, t, .int ((d + 1 : Nat) : Int), rfl, g2', (m1 : Int), ((d + 1 : Nat) : Int), rfl, rfl, _, rfl, ite2 (fun lt => ?_) (fun lt => ?_)⟩
        · have lt : (m1 : Int) < ((d + 1 : Nat) : Int) := of_decide_eq_true lt
          have m1d : m1 = d := by
            have : d ≤ m1 := by
              rcases Nat.lt_or_ge m1 d with z | z
              · exact absurd (Wk.step f1.1 adj.symm) (far.2 (m1 + 1) (by omega))
              · exact z
            omega
          refine ⟨_, rfl, _, eD3, ?_, fun x u ex => ?_, gs ++ [e.1], by rw [upd_same, List.map_append]; rfl, by rw [List.length_append]; exact Nat.add_le_add_right gl 1, fun g hg => ?_, fun e' he' on' ex => ?_⟩
          · rw [List.length_map]
            exact Nat.lt_of_le_of_lt (show gs.length ≤ 200 by omega) (by decide)
          · rw [upd_ne (ne_of_none ex nD)]
            exact s3 _ _ ex
          · rcases List.mem_append.mp hg with z | z
            · exact all g z
            · rw [List.mem_singleton.mp z]
              exact ⟨e.2, List.mem_of_getElem? ee, on, m1d ▸ f1⟩
          · rw [tk] at he'
            rcases List.mem_append.mp he' with z | z
            · exact List.mem_append_left _ (cov e' z on' ex)
            · rw [List.mem_singleton.mp z]
              exact List.mem_append_right _ (List.mem_singleton.mpr rfl)
        · refine keep H3 (Same.refl _) fun _ => ?_
          rintro ⟨m2, le, f2⟩
          have := f1.uniq f2
          exact lt (decide_eq_true (show (m1 : Int) < ((d + 1 : Nat) : Int) by omega))
      · rw [decide_eq_false m]
        refine iteF (keep H3 (Same.refl _) fun on => ?_)
        exact absurd (by simp only [List.mem_cons, List.not_mem_nil, or_false]; exact on.imp Eq.symm Eq.symm) m
    rintro H1 ⟨s1, gs, eD, gl, all, cov⟩
    rw [List.take_of_length_le (by omega)] at cov
    have nonempty : 0 < gs.length := by
      obtain ⟨y, jy, fy⟩ := far.back
      have ny : y ≠ n := fun z => by
        have := (z ▸ fy).uniq far
        omega
      have : ∃ g, g ∈ gs := by
        rcases jy with z | z
        · obtain ⟨e, he, h2⟩ := List.mem_map.mp z
          refine ⟨e.1, cov e he (.inr (by rw [h2])) ⟨d, Nat.le_refl _, ?_⟩⟩
          rw [h2]
          unfold other
          rw [if_neg ny]
          exact fy
        · obtain ⟨e, he, h2⟩ := List.mem_map.mp z
          refine ⟨e.1, cov e he (.inl (by rw [h2])) ⟨d, Nat.le_refl _, ?_⟩⟩
          rw [h2]
          unfold other
          rw [if_pos rfl]
          exact fy
      obtain ⟨g, hg⟩ := this
      exact List.length_pos_of_mem hg
    refine ⟨D, gs, rfl, SqL.of eD, nonempty, fun k hk least => ⟨s1 _ _ eF, ?_⟩⟩
    obtain ⟨p, hp, on, fp⟩ := all k hk
    refine q k p _ (fun x u e => ?_) ⟨hp, on, ⟨d, far, fp⟩, fun e he on' ex => least e.1 (cov e he on' (ex d far))⟩
    by_cases z : x = c
    · subst z
      rw [ec] at e
      cases e
      exact upd_same
    · rw [upd_ne z]
      exact s1 _ _ (bF x u z e)
end
end K16
set_option Elab.async false
set_option linter.all false
set_option maxRecDepth 100000
set_option maxHeartbeats 4000000
set_option pp.maxSteps 400
set_option pp.deepTerms false
namespace K16
open PySem PySem.Spec PyProof.Rows L2
open Xk Az Xnp
section
variable {P : Program} {w : World} {K : PySem.W.Frag} {mg : Str → Option Value} {base : Heap}
/-- the least row of tellings from n to the goal -/
inductive Row (es : List (Int × Pair)) (goal : N2) : N2 → List Int → Prop
  | nil : Row es goal goal []
  | cons {n : N2} {k : Int} {p : Pair} {ks : List Int} : Nx es goal n k p → Row es goal (other p n) ks → Row es goal n (k :: ks)
theorem Nx.ne {es : List (Int × Pair)} {goal n : N2} {k : Int} {p : Pair} (h : Nx es goal n k p) : n ≠ goal := fun z => by
  obtain ⟨d, f, _⟩ := h.near
  have := (z ▸ f).uniq (far_zero _ goal)
  omega
theorem Nx.le {es : List (Int × Pair)} {goal n : N2} {k k' : Int} {p p' : Pair} (h : Nx es goal n k p) (h' : Nx es goal n k' p') : k ≤ k' := by
  obtain ⟨d, f, f2⟩ := h'.near
  refine h.least _ h'.at_ h'.on fun d' f' => ⟨d, ?_, f2⟩
  have := f.uniq f'
  omega
theorem pair_of {es : List (Int × Pair)} (nd : (es.map (·.1)).Nodup) {k : Int} {p p' : Pair} (h : (k, p) ∈ es) (h' : (k, p') ∈ es) : p = p' := by
  induction es with
  | nil => cases h
  | cons e r ih =>
    rw [List.map_cons] at nd
    have n2 := List.nodup_cons.mp nd
    rcases List.mem_cons.mp h with z | z
    · rcases List.mem_cons.mp h' with w | w
      · rw [← w] at z
        exact (Prod.mk.inj z).2
      · exact absurd (List.mem_map.mpr ⟨_, w, by rw [← z]⟩) n2.1
    · rcases List.mem_cons.mp h' with w | w
      · exact absurd (List.mem_map.mpr ⟨_, z, by rw [← w]⟩) n2.1
      · exact ih n2.2 z w
theorem Row.uniq {es : List (Int × Pair)} {goal : N2} (nd : (es.map (·.1)).Nodup) {n : N2} {ks ls : List Int} (h : Row es goal n ks) (h' : Row es goal n ls) : ks = ls := by
  induction h generalizing ls with
  | nil =>
    cases h' with
    | nil => rfl
    | cons x _ => exact absurd rfl x.ne
  | cons x r ih =>
    cases h' with
    | nil => exact absurd rfl x.ne
    | cons x' r' =>
      have e : _ = _ := Int.le_antisymm (x.le x') (x'.le x)
      subst e
      have e2 := pair_of nd x.at_ x'.at_
      subst e2
      rw [ih r']
theorem Row.in_ {es : List (Int × Pair)} {goal n : N2} {ks : List Int} (h : Row es goal n ks) : ∀ k ∈ ks, ∃ p, (k, p) ∈ es := by
  induction h with
  | nil => intro k hk; cases hk
  | cons x _ ih =>
    intro k hk
    rcases List.mem_cons.mp hk with z | z
    · rw [z]; exact ⟨_, x.at_⟩
    · exact ih k z
def spChain (C : Addr) : Sp := fun vs H Q _ => ∃ (fr : Addr → Prop) (b c : Addr) (u v : V) (m : Int) (es : List (Int × Pair)) (x y : N2), vs = [.ref b, u, v] ∧ Nb H C b c m es fr ∧ W37.NmV H u x ∧ W37.NmV H v y ∧ (∀ e ∈ es, Gd e.2.1 ∧ Gd e.2.2) ∧ Gd x ∧ Gd y ∧ es.length ≤ 100 ∧ (es.map (·.1)).Nodup ∧
  (¬ Rch (es.map (·.2)) y x → ∀ H', L2.Same H H' → Q .non H') ∧ ∀ (t : Addr) (ks : List Int) (n : Nat) H', L2.Same H H' → H' t = some (.tup (ks.map V.int)) → Row es y x ks → Far (es.map (·.2)) y x n → ks.length = n → Q (.ref t) H'
theorem far_len {es : List Pair} {a b : N2} {n : Nat} (h : Far es a b n) : n ≤ 2 * es.length := by
  have vis : ∀ (n : Nat) (b : N2), Far es a b n → ∃ vs : List N2, vs.Nodup ∧ vs.length = n ∧ ∀ v ∈ vs, v ∈ nodes es ∧ ∃ m, m < n + 1 ∧ 0 < m ∧ Far es a v m := fun n => by
    induction n with
    | zero => exact fun b _ => ⟨[], List.nodup_nil, rfl, fun v hv => by cases hv⟩
    | succ n ih =>
      intro b f
      obtain ⟨c, j, fc⟩ := f.back
      obtain ⟨vs, nd, l, al⟩ := ih c fc
      refine ⟨b :: vs, List.nodup_cons.mpr ⟨fun m => ?_, nd⟩, by rw [List.length_cons, l], fun v hv => ?_⟩
      · obtain ⟨_, m2, lt, _, fm⟩ := al b m
        have := f.uniq fm
        omega
      · rcases List.mem_cons.mp hv with z | z
        · rw [z]
          exact ⟨mem_nodes.mpr ⟨c, j.symm⟩, n + 1, by omega, by omega, f⟩
        · obtain ⟨h1, m2, lt, p, fm⟩ := al v z
          exact ⟨h1, m2, by omega, p, fm⟩
  obtain ⟨vs, nd, l, al⟩ := vis n b h
  have := nd_len nd (m := nodes es) fun v hv => (al v hv).1
  rw [nodes_len, l] at this
  exact this
theorem ok_chain {f : Addr} {fd : FuncData} {C : Addr} (F : L2.Fun K "chain" "Names.chain" sNamesChain f fd) (T : Txt K mg) (N : NbC K C) (cSt : Ca P w K mg base 1 "steps_from" ["links", "start"] spSteps) (cOt : Ca P w K mg base 1 "other_end" ["pair", "name"] spOther) (cNe : Mt P w K mg base 2 C "first_nearer" ["self", "name", "steps"] (spNearer C)) : FnOk P w K mg base CX0 3 f fd ["self", "one", "other"] (spChain C) := by
  obtain ⟨fN, fdN, mtN, okN, bdN⟩ := cNe.ex
  refine F.ok scNamesChain (fun vs H Q E h => ?_) (fun cdv A outer s H vs Q E hr h => ?_)
  · obtain ⟨fr, b, c, u, v, m, es, x, y, rfl, nb0, nu, nv, gd, gx, gy, l100, nd, q1, q2⟩ := h
    rfl
  · obtain ⟨fr, b, c, u, v, m, es, x, y, rfl, nb0, nu, nv, gd, gx, gy, l100, nd, q1, q2⟩ := h
    refine ⟨_, (pss_cons (ps_set (i := 3) scNamesChain.nd rfl (.inl rfl) (pe_ca cSt hr (by decide) (by rfl) (pa_cons (pe_fld (pv 0) rfl) (pa_cons (pv 2) pa_nil))))
      (pss_cons (ps_if (pt_cmp (pc_dnotin (hu_of hr) (pv 1) (pv 3))) (pss_one (ps_ret pe_non)) pss_nil)
      (pss_cons (ps_set (i := 4) scNamesChain.nd rfl (.inl rfl) (pe_lst pa_nil))
      (pss_cons (ps_set (i := 5) scNamesChain.nd rfl (.inl rfl) (pv 1))
      (pss_cons (ps_while PassesOwn.never (pt_cmpR (op_neD hr.units) (pv 5) (pv 2) (nomark _)) (pss_cons (ps_set (i := 6) scNamesChain.nd rfl (.inl rfl) ((pe_meth (pv 0) N.cls mtN okN (hr.mono (by decide)) bdN .nil pass0 (pa_cons (pv 5) (pa_cons (pv 3) pa_nil)))))
      (pss_cons (ps_expr (pe_bm PySem.F.plainAttrs_list PySem.F.slot_list_append PySem.F.type_list_append mt_append (pv 4) (pa_cons (pv 6) pa_nil)))
      (pss_one (ps_set (i := 5) scNamesChain.nd rfl (.inl rfl) (pe_ca cOt hr (by decide) (by rfl) (pa_cons (pe_dget (hu_of hr) (pe_fld (pv 0) rfl) (pv 6) (fun _ _ => rfl)) (pa_cons (pv 5) pa_nil))))))))
      (pss_one (ps_ret (pe_callTy call_tuple_of (by rfl) T.tuple (by decide +kernel) (pa_cons (pv 4) pa_nil))))))))), ?_⟩
    obtain ⟨dx, l0, g0, kvs, eb, ec, ek, pr, gp, lks⟩ := nb0.ex
    obtain ⟨ks0, lkvs, e1, e2, e3, e4, al⟩ := lks
    have lnk : Lnk (fun _ => none) H l0 ks0 (es.map (·.2)) := ⟨lkvs, .inl e1, e4, fun a ha => by
      obtain ⟨L, ys, q1, q2, q3, _⟩ := al a ha
      exact ⟨L, ys, q1, q2, q3, rfl⟩⟩
    have le100 : (es.map (·.2)).length ≤ 100 := by rw [List.length_map]; exact l100
    refine ⟨_, rfl, b, C, dx, _, .ref l0, rfl, eb, N.cls, N.lnk, rfl, _, rfl, fun _ => none, l0, v, es.map (·.2), ks0, y, rfl, lnk, e3, le100, nv, fun t rs H1 s1 ky ndr mem => ?_⟩
    obtain ⟨skvs, eS, esk, sv⟩ := ky.ex
    obtain ⟨tu, rfl, etu⟩ := nu
    have etu1 := s1 _ _ etu
    refine ⟨_, rfl, _, rfl, t, _, rfl, DGet.t (b := tu) (k := key x) eS etu1, _, rfl, ?_⟩
    have isr : (valV skvs (key x)).isSome = decide (x ∈ rs) := keys_any esk
    rw [isr]
    by_cases r : x ∈ rs
    · rw [decide_eq_true r]
      refine iteF ?_
      obtain ⟨n0, _, f0⟩ := sv x r
      refine ⟨(by show 0 ≤ sizeLine; decide), fun Lr nL => ?_⟩
      have sL := same_upd nL (o := .lst [])
      have eL : (L2.upd H1 Lr (.lst [])) Lr = some (.lst []) := upd_same
      have s2 := s1.trans sL
      have eSt := sL _ _ eS
      have HL : H Lr = none := by
        cases e : H Lr with
        | none => rfl
        | some o => rw [s1 _ _ e] at nL; cases nL
      generalize L2.upd H1 Lr (.lst []) = H2 at eL s2 eSt ⊢
      have good : ∀ z, Rch (es.map (·.2)) y z → Gd z := fun z rz => by
        rcases rch_in rz with w | w
        · rw [w]; exact gy
        · obtain ⟨w2, j⟩ := mem_nodes.mp w
          rcases j with j | j
          · obtain ⟨e, he, h2⟩ := List.mem_map.mp j
            have := (gd e he).1
            rw [h2] at this
            exact this
          · obtain ⟨e, he, h2⟩ := List.mem_map.mp j
            have := (gd e he).2
            rw [h2] at this
            exact this
      have n200 : n0 ≤ 200 := by have := far_len f0; omega
      obtain ⟨Inv, eInv⟩ : ∃ Inv : Nat → L2.St → Hp → Prop, Inv = fun m σ Hx => ∃ (c6 : Option V) (tn : Addr) (z : N2) (acc : List Int), σ = [some (.ref b), some (.ref tu), some v, some (.ref t), some (.ref Lr), some (.ref tn), c6] ∧ Far (es.map (·.2)) y z m ∧ L2.Same H Hx ∧ Hx t = some (.dT skvs) ∧ Hx tn = some (.tup [.str z.1, .str z.2]) ∧
        Hx Lr = some (.lst (acc.map V.int)) ∧ acc.length + m = n0 ∧ ∀ ls, Row es y z ls → Row es y x (acc ++ ls) := ⟨_, rfl⟩
      refine ⟨_, rfl, Inv, ⟨n0, by
        rw [eInv]
        exact ⟨none, tu, x, [], rfl, f0, s2, eSt, s2 _ _ etu, eL, by simp, fun ls h => h⟩⟩, ?_⟩
      intro m' σ Hx hI
      rw [eInv] at hI
      obtain ⟨c6, tn, z, acc, rfl, fz, sx, eSx, etn, eLx, la, row⟩ := hI
      have gz := good z fz.1.rch
      have nvx := nv.tp (W37.tp_same sx)
      refine ⟨_, rfl, _, rfl, W37.nD z, W37.nD y, .tup (SqT.of etn) (.cons (.str _) (.cons (.str _) .nil)), NmV.dp nvx, gz.sh, gy.sh, _, rfl, ?_⟩
      rw [eqv_nD]
      by_cases zy : z = y
      · rw [decide_eq_true zy]
        subst zy
        have m0 : m' = 0 := fz.uniq (far_zero _ z)
        refine iteF ⟨_, rfl, Lr, _, rfl, .inl ⟨SqL.of eLx, fun tt nt => ?_⟩⟩
        have st := same_upd nt (o := .tup (acc.map V.int))
        have rw_ := row [] .nil
        rw [List.append_nil] at rw_
        exact q2 tt acc n0 _ (sx.trans st) upd_same rw_ f0 (by omega)
      · rw [decide_eq_false zy]
        refine iteT ⟨fun σ' Hy => ∃ m2, m2 < m' ∧ Inv m2 σ' Hy, fun σ' Hy h => h, ?_⟩
        obtain ⟨d, rfl⟩ : ∃ d, m' = d + 1 := by
          cases m' with
          | zero =>
            obtain ⟨w, _⟩ := fz
            cases w
            exact absurd rfl zy
          | succ d => exact ⟨d, rfl⟩
        have ebx := sx _ _ eb
        refine ⟨_, rfl, b, dx, _, rfl, ebx, rfl, _, rfl, _, rfl, fr, b, c, t, .ref tn, m, d, es, y, z, rs, rfl, nb0.same sx, ⟨tn, rfl, etn⟩, gd, gz, l100, ⟨skvs, eSx, esk, sv⟩, mem, fz, fun kk p H3 s3 nx => ?_⟩
        have eL3 := s3 _ _ eLx
        have eS3 := s3 _ _ eSx
        have etn3 := s3 _ _ etn
        have sx3 := sx.trans s3
        refine ⟨_, rfl, .inl ⟨rfl, _, SqL.of eL3⟩, _, rfl, Lr, _, _, rfl, rfl, eL3, ?_, ?_⟩
        · rw [List.length_map]
          exact Nat.lt_of_le_of_lt (show acc.length ≤ 300 by omega) (by decide)
        have tS : t ≠ Lr := ne_of eS3 eL3 (by intro w; cases w)
        have tN : tn ≠ Lr := ne_of etn3 eL3 (by intro w; cases w)
        have up : W37.Tp H3 (L2.upd H3 Lr (.lst (acc.map V.int ++ [.int kk]))) := W37.tp_upd fun us w => by rw [eL3] at w; cases w
        have eL4 : (L2.upd H3 Lr (.lst (acc.map V.int ++ [.int kk]))) Lr = some (.lst ((acc ++ [kk]).map V.int)) := by rw [upd_same, List.map_append]; rfl
        have eS4 : (L2.upd H3 Lr (.lst (acc.map V.int ++ [.int kk]))) t = some (.dT skvs) := by rw [upd_ne tS]; exact eS3
        have etn4 : (L2.upd H3 Lr (.lst (acc.map V.int ++ [.int kk]))) tn = some (.tup [.str z.1, .str z.2]) := by rw [upd_ne tN]; exact etn3
        have sx4 : L2.Same H (L2.upd H3 Lr (.lst (acc.map V.int ++ [.int kk]))) := fun w o e => by rw [upd_ne (ne_of_none e HL)]; exact sx3 _ _ e
        generalize L2.upd H3 Lr (.lst (acc.map V.int ++ [.int kk])) = H4 at eL4 eS4 etn4 sx4 ⊢
        obtain ⟨tp, va, vb, hv, etp, na, nb'⟩ := get_sync ek (pr.tp (W37.tp_same sx4)) nd nx.at_
        obtain ⟨g1, g2⟩ := gd _ nx.at_
        have hg := DGet.k (k := .inl kk) (sx4 _ _ ec)
        rw [hv] at hg
        refine ⟨_, rfl, b, C, dx, _, .ref c, rfl, sx4 _ _ eb, N.cls, N.cnt, rfl, _, rfl, c, .ref tp, rfl, hg, _, rfl, tp, va, vb, .ref tn, p, z, rfl, etp, na, nb', ⟨tn, rfl, etn4⟩, g1, g2, gz, ?_⟩
        have sel : W37.NmV H4 (if p.1 = z then vb else va) (other p z) := by
          unfold other
          split
          · exact nb'
          · exact na
        obtain ⟨ta, eta, ea⟩ := sel
        rw [eta]
        obtain ⟨d', f1, f2⟩ := nx.near
        have ed : d' = d := by have := f1.uniq fz; omega
        subst ed
        refine ⟨d', by omega, ?_⟩
        rw [eInv]
        refine ⟨_, ta, other p z, acc ++ [kk], rfl, f2, sx4, eS4, ea, eL4, by rw [List.length_append]; show acc.length + 1 + d' = n0; omega, fun ls h => ?_⟩
        rw [List.append_assoc]
        exact row (kk :: ls) (.cons nx h)
    · rw [decide_eq_false r]
      exact iteT (q1 (fun z => r ((mem x).mpr z)) H1 s1)
end
end K16
set_option Elab.async false
set_option linter.all false
set_option maxRecDepth 100000
set_option maxHeartbeats 4000000
set_option pp.maxSteps 400
set_option pp.deepTerms false
namespace K16
open PySem PySem.Spec PyProof.Rows L2
open Xk Az Xnp
section
variable {P : Program} {w : World} {K : PySem.W.Frag} {mg : Str → Option Value} {base : Heap}
section
variable {X : Cx}
def rNotInTD (K : PySem.W.Frag) : R2 := fun x y H Q => ∃ d ds, Dp K H x d ∧ Dp K H y (.tuple ds) ∧ SeqAt.shaped d = true ∧ SeqAt.shaped (.tuple ds) = true ∧ Q (.bl (!ds.any fun z => PyData.eqv z d)) H
theorem op_notInTD (hu : X.A.units + 65 < cLine) : OpR X (compareOp .NotIn) (rNotInTD X.K) := fun pins s σ H x y v u Q I rx ry ⟨d, ds, hd, he, sd, se, q⟩ =>
  let ⟨_, r1⟩ := Dp.reads I d x v hd rx
  let ⟨_, r2⟩ := Dp.reads I (.tuple ds) y u he ry
  SeqAt.notIn_tuple_reads r2 r1 (SeqAt.canLay_of_shaped se) (SeqAt.canLay_of_shaped sd) (room_in_shaped sd hu) ⟨.bl _, H, I, rfl, q⟩
end
/-- whom a row of numbers leads to from n -/
def walkD (es : List (Int × Pair)) : N2 → List PyData → Option N2
  | n, [] => some n
  | n, .int i :: r => match es.find? fun e => decide (e.1 = i) with
    | some e => if e.2.1 = n ∨ e.2.2 = n then walkD es (other e.2 n) r else none
    | none => none
  | _, _ :: _ => none
def showsC (es : List (Int × Pair)) (x y : N2) : PyData → Bool
  | .tuple ds => decide (walkD es x ds = some y)
  | _ => false
theorem walk_odd {es : List (Int × Pair)} {n : N2} {v : V} {H : Hp} {d : PyData} {r : List PyData} (h : Dz K H v d) (e : isI v = false) : walkD es n (d :: r) = none := by
  cases h with
  | int i => cases e
  | _ => rfl
theorem dz_at {K : PySem.W.Frag} {H : Hp} : ∀ {xs : List V} {ds : List PyData} {i : Nat} {v : V}, DzAll K H xs ds → xs[i]? = some v → ∃ d, ds[i]? = some d ∧ Dz K H v d
  | _, _, 0, _, .cons h _, e => ⟨_, rfl, by injection e with e; exact e ▸ h⟩
  | _, _, i + 1, _, .cons _ r, e => dz_at (i := i) r e
theorem dz_len {K : PySem.W.Frag} {H : Hp} : ∀ {xs : List V} {ds : List PyData}, DzAll K H xs ds → xs.length = ds.length
  | _, _, .nil => rfl
  | _, _, .cons _ r => congrArg (· + 1) (dz_len r)
theorem dropd_at {ds : List PyData} {i : Nat} {d : PyData} (h : ds[i]? = some d) : ds.drop i = d :: ds.drop (i + 1) := by
  obtain ⟨l, e⟩ := List.getElem?_eq_some_iff.mp h
  rw [List.drop_eq_getElem_cons l, e]
theorem find_sync {H : Hp} {k : Int} : ∀ {kvs : List (Key × V)} {es : List (Int × Pair)}, kvs.map (·.1) = es.map (fun e => Sum.inl e.1) → PrL H (kvs.map (·.2)) (es.map (·.2)) →
    (∃ (e : Int × Pair) (t : Addr) (a b : V), es.find? (fun e => decide (e.1 = k)) = some e ∧ e ∈ es ∧ valV kvs (.inl k) = some (.ref t) ∧ H t = some (.tup [a, b]) ∧ W37.NmV H a e.2.1 ∧ W37.NmV H b e.2.2) ∨ (es.find? (fun e => decide (e.1 = k)) = none ∧ valV kvs (.inl k) = none)
  | [], [], _, _ => .inr ⟨rfl, rfl⟩
  | [], _ :: _, h, _ => by simp at h
  | _ :: _, [], h, _ => by simp at h
  | (key0, v0) :: kvs, (n, p0) :: es, h, pr => by
    rw [List.map_cons, List.map_cons] at h
    injection h with h1 h2
    have h1 : key0 = .inl n := h1
    subst h1
    rw [List.map_cons, List.map_cons] at pr
    cases pr with
    | @cons t a b _ _ _ q1 q2 q3 q4 =>
      by_cases c : n = k
      · subst c
        refine .inl ⟨(n, p0), t, a, b, by rw [List.find?_cons_of_pos (by simp)], List.mem_cons_self, ?_, q1, q2, q3⟩
        unfold valV
        rw [List.find?_cons_of_pos (by simp)]
        rfl
      · have ne : ¬ (Sum.inl n : Key) = Sum.inl k := fun w => c (Sum.inl.inj w)
        rcases find_sync (k := k) h2 q4 with ⟨e, t', a', b', r1, r2, r3, r4⟩ | ⟨r1, r2⟩
        · refine .inl ⟨e, t', a', b', by rw [List.find?_cons_of_neg (by simpa using c)]; exact r1, List.mem_cons_of_mem _ r2, ?_, r4⟩
          unfold valV at r3 ⊢
          rw [List.find?_cons_of_neg (by simpa using ne)]
          exact r3
        · refine .inr ⟨by rw [List.find?_cons_of_neg (by simpa using c)]; exact r1, ?_⟩
          unfold valV at r2 ⊢
          rw [List.find?_cons_of_neg (by simpa using ne)]
          exact r2
def spShowsC (K : PySem.W.Frag) (C : Addr) : Sp := fun vs H Q _ => ∃ (fr : Addr → Prop) (b c : Addr) (u v w : V) (m : Int) (es : List (Int × Pair)) (x y : N2) (d : PyData), vs = [.ref b, u, v, w] ∧ Nb H C b c m es fr ∧ W37.NmV H u x ∧ W37.NmV H v y ∧ Dz K H w d ∧ (∀ e ∈ es, Gd e.2.1 ∧ Gd e.2.2) ∧ Gd x ∧ Gd y ∧ ∀ H', L2.Same H H' → Q (.bl (showsC es x y d)) H'
theorem ok_showsC {f : Addr} {fd : FuncData} {C : Addr} (F : L2.Fun K "shows_chain" "Names.shows_chain" sNamesShowsChain f fd) (T : Txt K mg) (N : NbC K C) (cWh : Ca P w K mg base 1 "is_whole" ["thing"] (spWhole K)) (cOt : Ca P w K mg base 1 "other_end" ["pair", "name"] spOther) : FnOk P w K mg base CX0 2 f fd ["self", "one", "other", "thing"] (spShowsC K C) := by
  refine F.ok scNamesShowsChain (fun vs H Q E h => ?_) (fun cdv A outer s H vs Q E hr h => ?_)
  · obtain ⟨fr, b, c, u, v, w0, m, es, x, y, d, rfl, nb0, nu, nv, hz, gd, gx, gy, q⟩ := h
    rfl
  · obtain ⟨fr, b, c, u, v, w0, m, es, x, y, d, rfl, nb0, nu, nv, hz, gd, gx, gy, q⟩ := h
    refine ⟨_, (pss_cons (ps_if (pt_not (pt_val (pe_callB call_isi (by rfl) T.isi (by decide +kernel) (pa_cons (pv 3) (pa_cons (pe_bltn (v := .ty "tuple") (by rfl) T.tuple (by decide +kernel) rfl) pa_nil))))) (pss_one (ps_ret pe_bl)) pss_nil)
      (pss_cons (ps_set (i := 4) scNamesShowsChain.nd rfl (.inl rfl) (pv 1))
      (pss_cons (ps_for PassesOwn.never rfl (pi_tup (pv 3)) (pg_name (i := 5) scNamesShowsChain.nd rfl (.inl rfl)) (pss_cons (ps_if (PW.pt (pw_or (pt_not (pt_val (pe_ca cWh hr (by decide) (by rfl) (pa_cons (pv 5) pa_nil)))) (pw_or (pt_cmp (pc_dnotin (hu_of hr) (pv 5) (pe_fld (pv 0) rfl))) (pw_or1 (pt_cmpR (op_notInTD (r65 hr)) (pv 4) (pe_dget (hu_of hr) (pe_fld (pv 0) rfl) (pv 5) (fun _ _ => rfl)) (by rfl)))))) (pss_one (ps_ret pe_bl)) pss_nil)
      (pss_one (ps_set (i := 4) scNamesShowsChain.nd rfl (.inl rfl) (pe_ca cOt hr (by decide) (by rfl) (pa_cons (pe_dget (hu_of hr) (pe_fld (pv 0) rfl) (pv 5) (fun _ _ => rfl)) (pa_cons (pv 4) pa_nil)))))))
      (pss_one (ps_ret (pe_cmpR (op_eqD hr.units) (pv 4) (pv 2) (nomark _))))))), ?_⟩
    obtain ⟨dx, l0, g0, kvs, eb, ec, ek, pr, gp, lks⟩ := nb0.ex
    refine ⟨_, rfl, _, _, _, _, isTup d, rfl, .ty _, hz.ty, z_tup d, _, rfl, ?_⟩
    cases hz with
    | @tup t xs ds et ra =>
      refine iteF ⟨_, rfl, ?_⟩
      have q := fun H' s => q H' s
      obtain ⟨tu, rfl, etu⟩ := nu
      refine ⟨_, rfl, t, rfl, ⟨_, SqT.of et⟩, for_tup (K := K) (a := t) (xs := xs) (fun i σ Hx => ∃ (tz : Addr) (z : N2) (c5 : Option V), σ = [some (.ref b), some (.ref tu), some v, some (.ref t), some (.ref tz), c5] ∧ L2.Same H Hx ∧ Hx tz = some (.tup [.str z.1, .str z.2]) ∧ Gd z ∧ walkD es x ds = walkD es z (ds.drop i))
        ⟨tu, x, none, rfl, Same.refl _, etu, gx, rfl⟩ (fun i σ Hi _ z => by obtain ⟨_, _, _, _, s, _⟩ := z; exact SqT.of (s _ _ et)) ?_ ?_⟩
      · rintro i xv σ Hx hx ⟨tz, z, c5, rfl, sx, ez, gz, wk⟩
        obtain ⟨di, hdi, hzi⟩ := dz_at ra hx
        have dr := dropd_at hdi
        rw [dr] at wk
        have no : walkD es z (di :: ds.drop (i + 1)) = none → Q (.bl false) Hx := fun e => by
          have w := q Hx sx
          rw [show showsC es x y (.tuple ds) = false by show decide (walkD es x ds = some y) = false; rw [wk, e]; rfl] at w
          exact w
        have hzx := hzi.same sx
        refine ⟨_, rfl, xv, di, rfl, hzx, _, rfl, ?_⟩
        cases cI : isI xv with
        | false => exact iteT (iteT (no (walk_odd hzx cI)))
        | true =>
        refine iteF ?_
        obtain ⟨k, rfl⟩ : ∃ k, xv = .int k := by
          cases xv with
          | int k => exact ⟨k, rfl⟩
          | _ => cases cI
        have edi : di = .int k := by cases hzi; rfl
        subst edi
        have ebx := sx _ _ eb
        have ecx := sx _ _ ec
        have hg := DGet.k (k := .inl k) ecx
        refine ⟨_, rfl, _, rfl, b, C, dx, _, .ref c, rfl, ebx, N.cls, N.cnt, rfl, c, _, rfl, hg, _, rfl, ?_⟩
        rcases find_sync (k := k) ek (pr.tp (W37.tp_same sx)) with ⟨e, tp, va, vb, ef, em, hv, etp, na, nb'⟩ | ⟨ef, hv⟩
        · rw [hv] at hg ⊢
          refine iteF ?_
          obtain ⟨g1, g2⟩ := gd e em
          refine ⟨_, rfl, _, rfl, b, C, dx, _, .ref c, rfl, ebx, N.cls, N.cnt, rfl, _, rfl, c, .ref tp, rfl, hg, W37.nD z, [e.2.1, e.2.2].map W37.nD, .tup (SqT.of ez) (.cons (.str _) (.cons (.str _) .nil)), .tup (SqT.of etp) (.cons (NmV.dp na) (.cons (NmV.dp nb') .nil)), gz.sh, shaped_tup (fun m hm => ?_), _, rfl, ?_⟩
          · simp only [List.mem_cons, List.not_mem_nil, or_false] at hm
            rcases hm with rfl | rfl
            · exact g1
            · exact g2
          rw [any_nD]
          have wd : walkD es z (.int k :: ds.drop (i + 1)) = if e.2.1 = z ∨ e.2.2 = z then walkD es (other e.2 z) (ds.drop (i + 1)) else none := by rw [walkD, ef]
          by_cases m : z ∈ [e.2.1, e.2.2]
          · rw [decide_eq_true m]
            have on : e.2.1 = z ∨ e.2.2 = z := by
              simp only [List.mem_cons, List.not_mem_nil, or_false] at m
              exact m.imp Eq.symm Eq.symm
            rw [if_pos on] at wd
            refine iteF ⟨_, rfl, b, C, dx, _, .ref c, rfl, ebx, N.cls, N.cnt, rfl, _, rfl, c, .ref tp, rfl, hg, _, rfl, tp, va, vb, .ref tz, e.2, z, rfl, etp, na, nb', ⟨tz, rfl, ez⟩, g1, g2, gz, ?_⟩
            have sel : W37.NmV Hx (if e.2.1 = z then vb else va) (other e.2 z) := by
              unfold other
              split
              · exact nb'
              · exact na
            have go : Gd (other e.2 z) := by
              unfold other
              split
              · exact g2
              · exact g1
            obtain ⟨ta, eta, ea⟩ := sel
            rw [eta]
            exact ⟨ta, other e.2 z, _, rfl, sx, ea, go, by rw [wk, wd]⟩
          · rw [decide_eq_false m]
            refine iteT (no ?_)
            rw [wd, if_neg]
            intro z2
            exact m (by simp only [List.mem_cons, List.not_mem_nil, or_false]; exact z2.imp Eq.symm Eq.symm)
        · rw [hv]
          exact iteT (iteT (no (by rw [walkD, ef])))
      · rintro σ Hx ⟨tz, z, c5, rfl, sx, ez, gz, wk⟩
        rw [dz_len ra, List.drop_length] at wk
        have nvx := nv.tp (W37.tp_same sx)
        refine ⟨_, rfl, _, rfl, W37.nD z, W37.nD y, .tup (SqT.of ez) (.cons (.str _) (.cons (.str _) .nil)), NmV.dp nvx, gz.sh, gy.sh, ?_⟩
        rw [eqv_nD]
        have w := q Hx sx
        rw [show showsC es x y (.tuple ds) = decide (z = y) by show decide (walkD es x ds = some y) = _; rw [wk, walkD]; simp] at w
        exact w
    | _ => exact iteT (q H (Same.refl H))
end
end K16
set_option Elab.async false
set_option linter.all false
set_option maxRecDepth 100000
set_option maxHeartbeats 4000000
set_option pp.maxSteps 400
set_option pp.deepTerms false
namespace K16
open PySem PySem.Spec PyProof.Rows L2
open Xk Az Xnp
section
variable {P : Program} {w : World} {K : PySem.W.Frag} {mg : Str → Option Value} {base : Heap}
/-- no link leads from these names to others -/
def shut1 (es : List Pair) (ns : List N2) (ms : List N2) : Bool := ms.all fun n => (nb es n).all fun m => decide (m ∈ ns)
def spShut : Sp := fun vs H Q _ => ∃ (H0 : Hp) (d T0 : Addr) (xs : List V) (es : List Pair) (ks ns : List N2), vs = [.ref d, .ref T0] ∧ Lnk H0 H d ks es ∧ (∀ x, x ∈ ks ↔ x ∈ nodes es) ∧ es.length ≤ 100 ∧ H T0 = some (.tup xs) ∧ W37.NmL H xs ns ∧ ns.length ≤ 200 ∧ ∀ H', L2.Same H H' → Q (.bl (shut1 es ns ns)) H'
theorem ok_closed {f : Addr} {fd : FuncData} (D : Df K mg "is_closed" ["links", "nodes"] sIsClosed f fd) (T : Txt K mg) : FnOk P w K mg base CX0 1 f fd ["links", "nodes"] spShut := by
  refine D.fn.ok scIsClosed (fun vs H Q E h => ?_) (fun cdv A outer s H vs Q E hr h => ?_)
  · obtain ⟨H0, d, T0, xs, es, ks, ns, rfl, lk, kmem, l100, eT, nN, n200, q⟩ := h
    rfl
  · obtain ⟨H0, d, T0, xs, es, ks, ns, rfl, lk, kmem, l100, eT, nN, n200, q⟩ := h
    refine ⟨_, (pss_cons (ps_set (i := 2) scIsClosed.nd rfl (.inr rfl) (Xd1.pe_dc1 (own := [("node", 3)]) (g := gName 3) (tt := tYes) (ty := tC (V.bl true)) (tk := tVar 3) (.dT []) (by simp) hr.units0 (by rfl) scIsClosed.nd (pi_tup (pv 1)) (blkOk_by (own := [("node", 3)]) (N := ["links", "nodes", "inside", "node", "other"]) (sc := defScope sIsClosed) (by decide +kernel)) (fun _ _ _ _ _ => pg_name (i := 3) scIsClosed.nd rfl (.inl rfl)) (fun _ _ _ _ _ => pts_nil) (fun _ _ _ _ _ => pv 3) (fun _ _ _ _ _ => pe_bl)))
      (pss_one (ps_ret (pe_callB (cr_all (by rfl)) (by rfl) T.all (by decide +kernel) (pa_cons (pe_lc2 (own := [("node", 3), ("other", 4)]) (vs1 := [4]) (g := gName 3) (g1 := gName 4) (tt := tYes) (tt1 := tYes) (wi1 := iList K (tDGet2 (tVar 0) (tVar 3) (tLst tNil))) (te := tDIn (tVar 4) (tVar 2)) (by rfl) scIsClosed.nd (pi_tup (pv 1)) (blkOk_by (own := [("node", 3), ("other", 4)]) (N := ["links", "nodes", "inside", "node", "other"]) (sc := defScope sIsClosed) (by decide +kernel)) (by decide) (fun _ _ _ _ _ => pg_name (i := 3) scIsClosed.nd rfl (.inl rfl)) (fun _ _ _ _ _ => pts_nil) (fun _ _ _ _ _ => pi_list (pe_dget2 (hu_of hr) (pv 0) (pv 3) (pe_lst pa_nil) ⟨rfl, rfl, rfl, rfl⟩)) (fun _ _ _ _ _ => pg_name (i := 4) scIsClosed.nd rfl (.inl rfl)) (fun _ _ _ _ _ => pts_nil) (fun _ _ _ _ _ => pe_cmp (pc_din (hu_of hr) (pv 4) (pv 2)))) pa_nil))))), ?_⟩
    obtain ⟨lkvs, eD, eDk, lal⟩ := lk.ex
    have nl := nN.len
    have nbl : ∀ b, (nb es b).length ≤ 200 := fun b => by
      have : ∀ fs : List Pair, (nb fs b).length ≤ 2 * fs.length := fun fs => by
        unfold nb
        rw [List.length_flatMap]
        induction fs with
        | nil => simp
        | cons p r ih =>
          rw [List.map_cons, List.sum_cons, List.length_cons, List.length_append]
          have h1 : (if p.1 = b then [p.2] else []).length ≤ 1 := by split <;> simp
          have h2 : (if p.2 = b then [p.1] else []).length ≤ 1 := by split <;> simp
          omega
      have := this es
      omega
    refine ⟨_, rfl, T0, rfl, ⟨_, SqT.of eT⟩, fun D nD => ?_⟩
    refine Xdc.goes (g := gName 3) (tt := tYes) (B := fun N' σ H => tVar 3 σ H fun y H7 => tC (.bl true) σ H7 fun z H8 => ∃ H9, DPut H8 D y z H9 ∧ N' H9) (walk_tup (K := K) (a := T0) (xs := xs)) (fun i Hi => L2.Same H Hi ∧ ∃ (ks' : List N2) (kvs : List (List Key × V)), Hi D = some (.dT kvs) ∧ kvs.map (·.1) = ks'.map key ∧ ks'.Nodup ∧ ∀ a, a ∈ ks' ↔ a ∈ ns.take i) ⟨same_upd nD, [], [], upd_same, rfl, List.nodup_nil, by simp⟩ (fun i Hi _ z => SqT.of (z.1 _ _ eT)) ?_ ?_
    · rintro i x Hi H' il ⟨sm, ks', kvs, eDi, ek, nd, mem⟩ ⟨rfl, hx⟩
      obtain ⟨n, en, t, rfl, et⟩ := nN.get hx
      have et := sm _ _ et
      refine ⟨rfl, ?_⟩
      unfold tYes
      have lk2 : kvs.length ≤ 200 := by
        have h1 := congrArg List.length ek
        rw [List.length_map, List.length_map] at h1
        have h2 := nd_len nd (m := ns) fun a ha => List.mem_of_mem_take ((mem a).mp ha)
        omega
      refine iteT ⟨_, rfl, _, DPut.t eDi (show H' t = some (.tup ((key n).map kV)) from et) (Nat.lt_of_le_of_lt lk2 (by decide)), fun b o e => ?_, ins ks' n, putK kvs (key n) (.bl true), upd_same, keys_put ek, ins_nd nd, fun a => ?_⟩
      · rw [upd_ne (ne_of_none e nD)]
        exact sm _ _ e
      · rw [mem_ins, mem, List.take_add_one, en, List.mem_append]
        simp
    rintro H1 ⟨s1, ks', kvs, eDk1, ek, nd, mem⟩
    rw [List.take_of_length_le (by omega)] at mem
    have eT1 := s1 _ _ eT
    refine ⟨_, rfl, T0, rfl, ⟨_, SqT.of eT1⟩, fun E nE => ?_⟩
    refine Xdc.goes (walk_tup (K := K) (a := T0) (xs := xs)) (fun i Hi => L2.Same H1 Hi ∧ ∃ bs : List Bool, Hi E = some (.lst (bs.map V.bl)) ∧ bs.length ≤ 200 * i ∧ bs.all id = shut1 es ns (ns.take i)) ⟨same_upd nE, [], upd_same, Nat.zero_le _, rfl⟩ (fun i Hi _ z => SqT.of (z.1 _ _ eT1)) ?_ ?_
    · rintro i x Hi H' il ⟨sm, bs, eE, bl, ball⟩ ⟨rfl, hx⟩
      obtain ⟨n, en, t, rfl, et⟩ := nN.get hx
      have il2 : i < 200 := by omega
      have sHi := s1.trans sm
      have et := sHi _ _ et
      refine ⟨rfl, ?_⟩
      unfold tYes
      refine iteT ?_
      have eDy := rd_same sHi eD
      refine ⟨_, rfl, d, rfl, .inr ⟨lkvs, eDy⟩, _, rfl, (by show 0 ≤ sizeLine; decide), fun Z nZ => ?_⟩
      have sZ := same_upd nZ (o := .lst [])
      have eZ : (L2.upd H' Z (.lst [])) Z = some (.lst []) := upd_same
      have eDz := rd_same sZ eDy
      have etz := sZ _ _ et
      have ZE : Z ≠ E := fun e => by rw [e, eE] at nZ; cases nZ
      have HE : H E = none := by
        cases e : H E with
        | none => rfl
        | some o => rw [s1 _ _ e] at nE; cases nE
      obtain ⟨Lb, ys, ev, eLb, nlb, LbE⟩ : ∃ (Lb : Addr) (ys : List V), (valV lkvs (key n)).getD (.ref Z) = .ref Lb ∧ (L2.upd H' Z (.lst [])) Lb = some (.lst ys) ∧ W37.NmL (L2.upd H' Z (.lst [])) ys (nb es n) ∧ Lb ≠ E := by
        by_cases bk : n ∈ ks
        · obtain ⟨Lb, ys, e1, e2, e3, _⟩ := lal n bk
          have e4 := sZ _ _ (sHi _ _ e2)
          refine ⟨Lb, ys, by rw [e1]; rfl, e4, e3.tp ((W37.tp_same sHi).trans (W37.tp_same sZ)), fun e => ?_⟩
          rw [e, HE] at e2; cases e2
        · have e1 : valV lkvs (key n) = none := by
            cases e : valV lkvs (key n) with
            | none => rfl
            | some v =>
              have := valV_in e
              rw [eDk] at this
              obtain ⟨b2, hb2, e2⟩ := List.mem_map.mp this
              exact absurd (key_inj e2 ▸ hb2) bk
          have e2 : nb es n = [] := by
            cases e : nb es n with
            | nil => rfl
            | cons c r => exact absurd ((kmem n).mpr (mem_nodes.mpr ⟨c, mem_nb.mp (by rw [e]; exact List.mem_cons_self)⟩)) bk
          exact ⟨Z, [], by rw [e1]; rfl, eZ, by rw [e2]; exact .nil, ZE⟩
      refine ⟨_, rd_get (b := t) (k := key n) eDz etz, ?_⟩
      rw [ev]
      have sz := sm.trans sZ
      have eE4 := sZ _ _ eE
      have eK4 := sz _ _ eDk1
      have nbn := nbl n
      have yl := nlb.len
      generalize L2.upd H' Z (.lst []) = H4 at eLb nlb sz eE4 eK4 ⊢
      refine ⟨Lb, rfl, ⟨_, SqL.of eLb⟩, ?_⟩
      refine Xdc.goes (g := gName 4) (tt := tYes) (B := fun N σ H => tDIn (tVar 4) (tVar 2) σ H fun y H7 => ∃ acc, H7 E = some (.lst acc) ∧ acc.length < sizeLine ∧ N (upd H7 E (.lst (acc ++ [y])))) (walk_list (K := K) (a := Lb) (xs := ys)) (fun j Hj => L2.Same H1 Hj ∧ W37.Tp H4 Hj ∧ Hj Lb = some (.lst ys) ∧ Hj D = some (.dT kvs) ∧ Hj E = some (.lst ((bs ++ ((nb es n).take j).map fun m => decide (m ∈ ns)).map V.bl))) ⟨sz, fun _ _ e => e, eLb, eK4, by simpa using eE4⟩ (fun j Hj _ z => SqL.of z.2.2.1) ?_ ?_
      · rintro j x Hj H'' jl ⟨sj, tj, eLj, eKj, eEj⟩ ⟨rfl, hxj⟩
        obtain ⟨m, em, tm, rfl, etm⟩ := nlb.get hxj
        have etm := tj _ _ etm
        have jl2 := (List.getElem?_eq_some_iff.mp em).1
        have isr : (valV kvs (key m)).isSome = decide (m ∈ ks') := keys_any ek
        have dE : D ≠ E := fun z => by rw [z, eEj] at eKj; cases eKj
        refine ⟨rfl, ?_⟩
        unfold tYes
        refine iteT ⟨_, rfl, _, rfl, D, _, rfl, DGet.t (b := tm) (k := key m) eKj etm, _, eEj, ?_, fun b2 o e => ?_, tj.trans (W37.tp_upd fun us z => by rw [eEj] at z; cases z), by rw [upd_ne LbE]; exact eLj, by rw [upd_ne dE]; exact eKj, ?_⟩
        · rw [List.length_map, List.length_append, List.length_map, List.length_take]
          exact Nat.lt_of_le_of_lt (show _ ≤ 41000 by omega) (by decide)
        · rw [upd_ne (ne_of_none e nE)]
          exact sj _ _ e
        · rw [upd_same, isr, show decide (m ∈ ks') = decide (m ∈ ns) by rw [decide_eq_decide]; exact mem m, List.take_add_one, em]
          simp
      · rintro Hj ⟨sj, tj, eLj, eKj, eEj⟩
        rw [List.take_of_length_le (by omega)] at eEj
        refine ⟨sj, _, eEj, by rw [List.length_append, List.length_map]; omega, ?_⟩
        rw [List.all_append, ball, List.take_add_one, en]
        unfold shut1
        rw [List.all_append, List.all_map]
        simp
    rintro H2 ⟨s2, bs, eE, bl, ball⟩
    rw [List.take_of_length_le (by omega)] at ball
    refine ⟨E, bs, rfl, SqL.of eE, ?_⟩
    rw [ball]
    exact q H2 (s1.trans s2)
end
end K16
set_option Elab.async false
set_option linter.all false
set_option maxRecDepth 100000
set_option maxHeartbeats 4000000
set_option pp.maxSteps 400
set_option pp.deepTerms false
namespace K16
open PySem PySem.Spec PyProof.Rows L2
open Xk Az Xnp
section
variable {P : Program} {w : World} {K : PySem.W.Frag} {mg : Str → Option Value} {base : Heap}
def nmOf : PyData → N2
  | .tuple [.str a, .str b] => (a, b)
  | _ => (⟨#[]⟩, ⟨#[]⟩)
theorem nm_back (ns : List N2) : (ns.map W37.nD).map nmOf = ns := by
  induction ns with
  | nil => rfl
  | cons n r ih =>
    rw [List.map_cons, List.map_cons, ih]
    rfl
/-- names of which some may be none -/
def PnD (d : PyData) : Prop := ∀ ds, d = .tuple ds → ds.length ≤ 200 ∧ ∀ e ∈ ds, T2 e ∧ (nmD e = true → ∃ n, e = W37.nD n ∧ Gd n)
theorem all_nm {ds : List PyData} (h : ∀ e ∈ ds, nmD e = true → ∃ n, e = W37.nD n ∧ Gd n) (c : ds.all nmD = true) : ∃ ns : List N2, ds = ns.map W37.nD ∧ ∀ n ∈ ns, Gd n := by
  induction ds with
  | nil => exact ⟨[], rfl, fun n m => by cases m⟩
  | cons d r ih =>
    rw [List.all_cons, Bool.and_eq_true] at c
    obtain ⟨ns, e, g⟩ := ih (fun e he => h e (List.mem_cons_of_mem _ he)) c.2
    obtain ⟨n, e1, g1⟩ := h d List.mem_cons_self c.1
    refine ⟨n :: ns, by rw [List.map_cons, e, e1], fun m hm => ?_⟩
    rcases List.mem_cons.mp hm with z | z
    · rw [z]; exact g1
    · exact g m z
theorem dz_nm {K : PySem.W.Frag} {H : Hp} {v : V} {n : N2} (h : Dz K H v (W37.nD n)) : W37.NmV H v n := by
  unfold W37.nD at h
  cases h with
  | @tup t xs _ et ra =>
    cases ra with
    | cons h1 r =>
      cases r with
      | cons h2 r2 =>
        cases r2
        cases h1
        cases h2
        exact ⟨t, rfl, et⟩
theorem dz_nml {K : PySem.W.Frag} {H : Hp} : ∀ {xs : List V} {ns : List N2}, DzAll K H xs (ns.map W37.nD) → W37.NmL H xs ns
  | [], [], _ => .nil
  | _ :: _, [], h => by cases h
  | [], _ :: _, h => by cases h
  | v :: xs, n :: ns, h => by
    rw [List.map_cons] at h
    cases h with
    | cons h1 r => exact .cons (dz_nm h1) (dz_nml r)
def apartD (es : List (Int × Pair)) (x y : N2) : PyData → Bool
  | .tuple ds => ds.all nmD && (decide (x ∈ ds.map nmOf) && (!decide (y ∈ ds.map nmOf) && shut1 (es.map (·.2)) (ds.map nmOf) (ds.map nmOf)))
  | _ => false
def spApartD (K : PySem.W.Frag) (C : Addr) : Sp := fun vs H Q _ => ∃ (fr : Addr → Prop) (b c : Addr) (u v w : V) (m : Int) (es : List (Int × Pair)) (x y : N2) (d : PyData), vs = [.ref b, u, v, w] ∧ Nb H C b c m es fr ∧ W37.NmV H u x ∧ W37.NmV H v y ∧ Dz K H w d ∧ PnD d ∧ es.length ≤ 100 ∧ Gd x ∧ Gd y ∧ ∀ H', L2.Same H H' → Q (.bl (apartD es x y d)) H'
theorem ok_showsA {f : Addr} {fd : FuncData} {C : Addr} (F : L2.Fun K "shows_apart" "Names.shows_apart" sNamesShowsApart f fd) (T : Txt K mg) (N : NbC K C) (cNm : Ca P w K mg base 4 "is_name" ["thing"] (spIsName K)) (cCl : Ca P w K mg base 1 "is_closed" ["links", "nodes"] spShut) : FnOk P w K mg base CX0 5 f fd ["self", "one", "other", "thing"] (spApartD K C) := by
  refine F.ok scNamesShowsApart (fun vs H Q E h => ?_) (fun cdv A outer s H vs Q E hr h => ?_)
  · obtain ⟨fr, b, c, u, v, w0, m, es, x, y, d, rfl, nb0, nu, nv, hz, pn, l100, gx, gy, q⟩ := h
    rfl
  · obtain ⟨fr, b, c, u, v, w0, m, es, x, y, d, rfl, nb0, nu, nv, hz, pn, l100, gx, gy, q⟩ := h
    refine ⟨_, (pss_cons (ps_if (PW.pt (pw_or (pt_not (pt_val (pe_callB call_isi (by rfl) T.isi (by decide +kernel) (pa_cons (pv 3) (pa_cons (pe_bltn (v := .ty "tuple") (by rfl) T.tuple (by decide +kernel) rfl) pa_nil))))) (pw_or1 (pt_not (pt_val (pe_callB (cr_all (by rfl)) (by rfl) T.all (by decide +kernel) (pa_cons (pe_lc (own := [("name", 4)]) (g := gName 4) (tt := tYes) (by rfl) scNamesShowsApart.nd (pi_tup (pv 3)) (blkOk_by (own := [("name", 4)]) (N := ["self", "one", "other", "thing", "name"]) (sc := defScope sNamesShowsApart) (by decide +kernel)) (fun _ _ _ _ _ => pg_name (i := 4) scNamesShowsApart.nd rfl (.inl rfl)) (fun _ _ _ _ _ => pts_nil) (fun _ _ _ _ _ => pe_ca cNm hr (by decide) (by rfl) (pa_cons (pv 4) pa_nil))) pa_nil))))))) (pss_one (ps_ret pe_bl)) pss_nil)
      (pss_one (ps_ret (pe_and (pe_cmpR (Xsd.op_inTD (r65 hr)) (pv 1) (pv 3) (by rfl)) (pe_and (pe_cmpR (op_notInTD (r65 hr)) (pv 2) (pv 3) (by rfl)) (pe_one (pe_ca cCl hr (by decide) (by rfl) (pa_cons (pe_fld (pv 0) rfl) (pa_cons (pv 3) pa_nil))))))))), ?_⟩
    obtain ⟨dx, l0, g0, kvs, eb, ec, ek, pr, gp, lks⟩ := nb0.ex
    obtain ⟨ks0, lkvs, e1, e2, e3, e4, al⟩ := lks
    refine ⟨_, rfl, _, _, _, _, isTup d, rfl, .ty _, hz.ty, z_tup d, _, rfl, ?_⟩
    cases hz with
    | @tup t xs ds et ra =>
      refine iteF ?_
      obtain ⟨dl, dall⟩ := pn ds rfl
      have xl := dz_len ra
      refine ⟨_, rfl, t, rfl, ⟨_, SqT.of et⟩, fun D nD => ?_⟩
      refine lc_it (walk_tup (K := K) (a := t) (xs := xs)) (fun i Hi => L2.Same H Hi ∧ Hi D = some (.lst (((ds.take i).map nmD).map V.bl))) ⟨same_upd nD, upd_same⟩ (fun i Hi _ z => SqT.of (z.1 _ _ et)) ?_ ?_
      · rintro i x1 Hi H' il ⟨sm, eD⟩ ⟨rfl, hx⟩
        obtain ⟨di, hdi, hzi⟩ := dz_at ra hx
        obtain ⟨t2, _⟩ := dall di (List.mem_of_getElem? hdi)
        refine ⟨rfl, ?_⟩
        unfold tYes
        refine iteT ⟨_, rfl, x1, di, rfl, hzi.same sm, t2, fun H2 s2 => ⟨_, s2 _ _ eD, ?_, fun b2 o e => ?_, ?_⟩⟩
        · rw [List.length_map, List.length_map, List.length_take]
          exact Nat.lt_of_le_of_lt (show _ ≤ 1000 by omega) (by decide)
        · rw [upd_ne (ne_of_none e nD)]
          exact s2 _ _ (sm _ _ e)
        · rw [upd_same, List.take_add_one, hdi]
          simp
      · rintro H1 ⟨s1, eD⟩
        rw [List.take_of_length_le (by omega)] at eD
        refine ⟨D, ds.map nmD, rfl, SqL.of eD, _, rfl, ?_⟩
        have ea : (ds.map nmD).all id = ds.all nmD := by rw [List.all_map]; rfl
        rw [ea]
        cases c : ds.all nmD with
        | false =>
          refine iteT ?_
          have w := q H1 s1
          rw [show apartD es x y (.tuple ds) = false by show (ds.all nmD && _) = false; rw [c]; rfl] at w
          exact w
        | true =>
          refine iteF ?_
          obtain ⟨ns, rfl, gns⟩ := all_nm (fun e he => (dall e he).2) c
          have w := fun H' (s : L2.Same H1 H') => q H' (s1.trans s)
          have ap : apartD es x y (.tuple (ns.map W37.nD)) = (decide (x ∈ ns) && (!decide (y ∈ ns) && shut1 (es.map (·.2)) ns ns)) := by
            show ((ns.map W37.nD).all nmD && _) = _
            rw [c, nm_back]
            rfl
          rw [ap] at w
          have nl : W37.NmL H xs ns := dz_nml ra
          have et1 := s1 _ _ et
          have nl1 := nl.tp (W37.tp_same s1)
          have nu1 := nu.tp (W37.tp_same s1)
          have nv1 := nv.tp (W37.tp_same s1)
          refine ⟨_, rfl, _, rfl, W37.nD x, ns.map W37.nD, NmV.dp nu1, .tup (SqT.of et1) (nml_dp nl1), gx.sh, shaped_tup gns, _, rfl, ?_⟩
          rw [any_nD]
          by_cases c1 : x ∈ ns
          · rw [decide_eq_true c1] at w ⊢
            refine iteT ⟨_, rfl, _, rfl, W37.nD y, ns.map W37.nD, NmV.dp nv1, .tup (SqT.of et1) (nml_dp nl1), gy.sh, shaped_tup gns, _, rfl, ?_⟩
            rw [any_nD]
            by_cases c2 : y ∈ ns
            · rw [decide_eq_true c2] at w ⊢
              exact iteF (w H1 (Same.refl _))
            · rw [decide_eq_false c2] at w ⊢
              have lnk : Lnk (fun _ => none) H1 l0 ks0 (es.map (·.2)) := ⟨lkvs, .inl (s1 _ _ e1), e4, fun a ha => by
                obtain ⟨L, ys, q1, q2, q3, _⟩ := al a ha
                exact ⟨L, ys, q1, s1 _ _ q2, q3.tp (W37.tp_same s1), rfl⟩⟩
              refine iteT ⟨_, rfl, b, C, dx, _, .ref l0, rfl, s1 _ _ eb, N.cls, N.lnk, rfl, _, rfl, fun _ => none, l0, t, xs, _, ks0, ns, rfl, lnk, e3, by rw [List.length_map]; exact l100, et1, nl1, by rw [List.length_map] at dl; exact dl, fun H2 s2 => w H2 s2⟩
          · rw [decide_eq_false c1] at w ⊢
            exact iteF (w H1 (Same.refl _))
    | _ => exact iteT (iteT (q H (Same.refl H)))
end
end K16
set_option Elab.async false
set_option linter.all false
set_option maxRecDepth 100000
set_option maxHeartbeats 4000000
set_option pp.maxSteps 400
set_option pp.deepTerms false
namespace K16
open PySem PySem.Spec PyProof.Rows L2
open Xk Az Xnp
section
variable {P : Program} {w : World} {K : PySem.W.Frag} {mg : Str → Option Value} {base : Heap}
theorem ok_lawWhole {f : Addr} {fd : FuncData} (D : Df K mg "_law_whole" ["_law_thing"] sWhole f fd) (T : Txt K mg) : FnOk P w K mg base CX0 1 f fd ["_law_thing"] (spWhole K) := by
  refine D.fn.ok scWhole (fun vs H Q E h => ?_) (fun cdv A outer s H vs Q E hr h => ?_)
  · obtain ⟨v, d, rfl, h, q⟩ := h
    rfl
  · obtain ⟨v, d, rfl, h, q⟩ := h
    refine ⟨_, (pss_one (ps_ret (pe_and (pe_callB call_isi (by rfl) T.isi (by decide +kernel) (pa_cons (pv 0) (pa_cons (pe_bltn (v := .ty "int") (by rfl) T.int (by decide +kernel) rfl) pa_nil))) (pe_one (pe_not (pe_callB call_isi (by rfl) T.isi (by decide +kernel) (pa_cons (pv 0) (pa_cons (pe_bltn (v := .ty "bool") (by rfl) T.bool (by decide +kernel) rfl) pa_nil)))))))), ?_⟩
    cases h with
    | int i =>
      refine ⟨_, rfl, _, _, _, _, true, rfl, .ty _, (.base (.int i)), kit_ty (by decide +kernel), true, rfl, iteT ?_⟩
      exact ⟨_, rfl, _, _, _, _, false, rfl, .ty _, (.base (.int i)), kit_ty (by decide +kernel), false, rfl, q⟩
    | bl b =>
      refine ⟨_, rfl, _, _, _, _, true, rfl, .ty _, (.base (.bl b)), kit_ty (by decide +kernel), true, rfl, iteT ?_⟩
      exact ⟨_, rfl, _, _, _, _, true, rfl, .ty _, (.base (.bl b)), kit_ty (by decide +kernel), true, rfl, q⟩
    | non => exact ⟨_, rfl, _, _, _, _, false, rfl, .ty _, (.base .non : TyX K H .non (.type "NoneType")), kit_ty (by decide +kernel), false, rfl, iteF q⟩
    | str x => exact ⟨_, rfl, _, _, _, _, false, rfl, .ty _, (.base (.str x) : TyX K H (.str x) (.type "str")), kit_ty (by decide +kernel), false, rfl, iteF q⟩
    | lst e _ _ => exact ⟨_, rfl, _, _, _, _, false, rfl, .ty _, (.base (.lst e)), kit_ty (by decide +kernel), false, rfl, iteF q⟩
    | tup e _ => exact ⟨_, rfl, _, _, _, _, false, rfl, .ty _, (.base (.tup e)), kit_ty (by decide +kernel), false, rfl, iteF q⟩
    | dct e _ => exact ⟨_, rfl, _, _, _, _, false, rfl, .ty _, (.base (.dK e)), kit_ty (by decide +kernel), false, rfl, iteF q⟩
theorem live_iff {tl : List Tl} {e : Int × Pair} : e ∈ live 0 tl ↔ ∃ i : Nat, e.1 = (i : Int) ∧ tl[i]? = some (e.2, true) := by
  constructor
  · have : ∀ (k : Int) (tl : List Tl), e ∈ live k tl → ∃ i : Nat, e.1 = k + (i : Int) ∧ tl[i]? = some (e.2, true) := fun k tl => by
      induction tl generalizing k with
      | nil => intro h; cases h
      | cons t r ih =>
        intro h
        rcases List.mem_append.mp h with z | z
        · split at z
          · rename_i c
            rw [List.mem_singleton.mp z]
            exact ⟨0, by show k = k + ((0 : Nat) : Int); omega, by show some t = some (t.1, true); rw [← c]⟩
          · cases z
        · obtain ⟨i, h1, h2⟩ := ih (k + 1) z
          exact ⟨i + 1, by omega, by simpa using h2⟩
    intro h
    obtain ⟨i, h1, h2⟩ := this 0 tl h
    exact ⟨i, by omega, h2⟩
  · rintro ⟨i, h1, h2⟩
    have := live_mem (k := 0) h2
    rw [Int.zero_add] at this
    obtain ⟨e1, e2⟩ := e
    have h1 : e1 = (i : Int) := h1
    rw [h1]
    exact this
theorem find_nd {es : List (Int × Pair)} (nd : (es.map (·.1)).Nodup) {k : Int} {p : Pair} (h : (k, p) ∈ es) : es.find? (fun e => decide (e.1 = k)) = some (k, p) := by
  induction es with
  | nil => cases h
  | cons e r ih =>
    rw [List.map_cons] at nd
    have n2 := List.nodup_cons.mp nd
    rcases List.mem_cons.mp h with z | z
    · subst z
      rw [List.find?_cons_of_pos (by simp)]
    · rw [List.find?_cons_of_neg (fun c => n2.1 (List.mem_map.mpr ⟨_, z, (of_decide_eq_true c).symm⟩))]
      exact ih n2.2 z
theorem find_on {tl : List Tl} {i : Nat} {p : Pair} (e : tl[i]? = some (p, true)) : (live 0 tl).find? (fun e => decide (e.1 = (i : Int))) = some ((i : Int), p) := find_nd (live_nd 0 tl) (live_iff.mpr ⟨i, rfl, e⟩)
theorem find_off {tl : List Tl} {k : Int} (h : ∀ (i : Nat) (p : Pair), k = (i : Int) → tl[i]? ≠ some (p, true)) : (live 0 tl).find? (fun e => decide (e.1 = k)) = none := by
  rw [List.find?_eq_none]
  intro e he c
  obtain ⟨i, h1, h2⟩ := live_iff.mp he
  exact h i e.2 ((of_decide_eq_true c).symm.trans h1) h2
theorem walk_whole {es : List (Int × Pair)} {H : Hp} {K : PySem.W.Frag} : ∀ {xs : List V} {ds : List PyData} {n : N2}, DzAll K H xs ds → (xs.map isI).all id = false → walkD es n ds = none
  | [], [], _, .nil, h => by cases h
  | v :: xs, d :: ds, n, .cons h1 r, h => by
    rw [List.map_cons, List.all_cons, Bool.and_eq_false_iff] at h
    cases c : isI v with
    | false => exact walk_odd h1 c
    | true =>
      rcases h with z | z
      · rw [show id (isI v) = isI v from rfl, c] at z; cases z
      · obtain ⟨k, rfl⟩ : ∃ k, v = .int k := by
          cases v with
          | int k => exact ⟨k, rfl⟩
          | _ => cases c
        cases h1
        rw [walkD]
        split
        · split
          · exact walk_whole r z
          · rfl
        · rfl
theorem shaped_row {p : Pair} {b : Bool} (g1 : Gd p.1) (g2 : Gd p.2) : SeqAt.shaped (.list [W37.nD p.1, W37.nD p.2, .bool b]) = true := by
  refine shaped_list ?_ ?_
  · simp [PyData.canLayAll0, W37.nD, PyData.canLay0, g1.l1.asc.ok, g1.c.asc.ok, g2.l1.asc.ok, g2.c.asc.ok]
  · simp only [W37.nD, PyData.depthAll, PyData.depth]
    omega
def spLeads (K : PySem.W.Frag) : Sp := fun vs H Q _ => ∃ (TL : Addr) (u v w : V) (ts : List V) (tl : List Tl) (x y : N2) (d : PyData), vs = [.ref TL, u, v, w] ∧ H TL = some (.lst ts) ∧ TlL H ts tl ∧ tl.length ≤ 60 ∧ W37.NmV H u x ∧ W37.NmV H v y ∧ Dz K H w d ∧ (∀ ds, d = .tuple ds → ds.length ≤ 1000) ∧ Gd x ∧ Gd y ∧ (∀ t ∈ tl, Gd t.1.1 ∧ Gd t.1.2) ∧ ∀ H', L2.Same H H' → Q (.bl (showsC (live 0 tl) x y d)) H'
theorem ok_leads {f : Addr} {fd : FuncData} (D : Df K mg "_law_leads" ["_law_tellings", "_law_one", "_law_other", "_law_thing"] sLeads f fd) (T : Txt K mg) (cLw : Ca P w K mg base 1 "_law_whole" ["_law_thing"] (spWhole K)) : FnOk P w K mg base CX0 3 f fd ["_law_tellings", "_law_one", "_law_other", "_law_thing"] (spLeads K) := by
  refine D.fn.ok scLeads (fun vs H Q E h => ?_) (fun cdv A outer s H vs Q E hr h => ?_)
  · obtain ⟨TL, u, v, w0, ts, tl, x, y, d, rfl, eT, tL, l60, nu, nv, hz, dl, gx, gy, gt, q⟩ := h
    rfl
  · obtain ⟨TL, u, v, w0, ts, tl, x, y, d, rfl, eT, tL, l60, nu, nv, hz, dl, gx, gy, gt, q⟩ := h
    refine ⟨_, (pss_cons (ps_if (PW.pt (pw_or (pt_not (pt_val (pe_callB call_isi (by rfl) T.isi (by decide +kernel) (pa_cons (pv 3) (pa_cons (pe_bltn (v := .ty "tuple") (by rfl) T.tuple (by decide +kernel) rfl) pa_nil))))) (pw_or1 (pt_not (pt_val (pe_callB (cr_all (by rfl)) (by rfl) T.all (by decide +kernel) (pa_cons (pe_lc (own := [("_law_number", 4)]) (g := gName 4) (tt := tYes) (by rfl) scLeads.nd (pi_tup (pv 3)) (blkOk_by (own := [("_law_number", 4)]) (N := ["_law_tellings", "_law_one", "_law_other", "_law_thing", "_law_number", "_law_here"]) (sc := defScope sLeads) (by decide +kernel)) (fun _ _ _ _ _ => pg_name (i := 4) scLeads.nd rfl (.inl rfl)) (fun _ _ _ _ _ => pts_nil) (fun _ _ _ _ _ => pe_ca cLw hr (by decide) (by rfl) (pa_cons (pv 4) pa_nil))) pa_nil))))))) (pss_one (ps_ret pe_bl)) pss_nil)
      (pss_cons (ps_set (i := 5) scLeads.nd rfl (.inl rfl) (pv 1))
      (pss_cons (ps_for PassesOwn.never rfl (pi_tup (pv 3)) (pg_name (i := 4) scLeads.nd rfl (.inl rfl)) (pss_cons (ps_if (PW.pt (pw_or (pt_not (pt_chain op_le op_lt pe_int (pv 4) (pe_callB call_len_seq (by rfl) T.len PySem.boot_len (pa_cons (pv 0) pa_nil)))) (pw_or (pt_not (pt_val (pe_ix ix_list (pe_ix ix_list (pv 0) (pv 4) (fun _ _ => rfl)) pe_int (fun _ _ => rfl)))) (pw_or1 (pt_cmpR (op_notInD (r65 hr)) (pv 5) (pe_slice sl_list (pe_ix ix_list (pv 0) (pv 4) (fun _ _ => rfl)) po_none (po_some pe_int)) (by rfl)))))) (pss_one (ps_ret pe_bl)) pss_nil)
      (pss_one (ps_set (i := 5) scLeads.nd rfl (.inl rfl) (pe_ix ix_list (pe_ix ix_list (pv 0) (pv 4) (fun _ _ => rfl)) (pe_op op_sub pe_int (pe_bm PySem.F.plainAttrs_list PySem.F.slot_list_index PySem.F.type_list_index (mt_indexD (r65 hr)) (pe_ix ix_list (pv 0) (pv 4) (fun _ _ => rfl)) (pa_cons (pv 5) pa_nil))) (fun _ _ => rfl))))))
      (pss_one (ps_ret (pe_cmpR (op_eqD hr.units) (pv 5) (pv 2) (nomark _))))))), ?_⟩
    refine ⟨_, rfl, _, _, _, _, isTup d, rfl, .ty _, hz.ty, z_tup d, _, rfl, ?_⟩
    cases hz with
    | @tup t xs ds et ra =>
      refine iteF ?_
      have xl := dz_len ra
      have dl := dl ds rfl
      refine ⟨_, rfl, t, rfl, ⟨_, SqT.of et⟩, fun D nD => ?_⟩
      refine lc_it (walk_tup (K := K) (a := t) (xs := xs)) (fun i Hi => L2.Same H Hi ∧ Hi D = some (.lst (((xs.take i).map isI).map V.bl))) ⟨same_upd nD, upd_same⟩ (fun i Hi _ z => SqT.of (z.1 _ _ et)) ?_ ?_
      · rintro i x1 Hi H' il ⟨sm, eD⟩ ⟨rfl, hx⟩
        obtain ⟨di, hdi, hzi⟩ := dz_at ra hx
        refine ⟨rfl, ?_⟩
        unfold tYes
        refine iteT ⟨_, rfl, x1, di, rfl, hzi.same sm, _, eD, ?_, fun b2 o e => ?_, ?_⟩
        · rw [List.length_map, List.length_map, List.length_take]
          exact Nat.lt_of_le_of_lt (show _ ≤ 1000 by omega) (by decide)
        · rw [upd_ne (ne_of_none e nD)]
          exact sm _ _ e
        · rw [upd_same, List.take_add_one, hx]
          simp
      · rintro H1 ⟨s1, eD⟩
        rw [List.take_of_length_le (by omega)] at eD
        refine ⟨D, xs.map isI, rfl, SqL.of eD, _, rfl, ?_⟩
        cases c : (xs.map isI).all id with
        | false =>
          refine iteT ?_
          have w := q H1 s1
          rw [show showsC (live 0 tl) x y (.tuple ds) = false by show decide (walkD _ x ds = some y) = false; rw [walk_whole ra c]; rfl] at w
          exact w
        | true =>
          refine iteF ?_
          obtain ⟨tu, rfl, etu⟩ := nu
          refine ⟨_, rfl, _, rfl, t, rfl, ⟨_, SqT.of (s1 _ _ et)⟩, for_tup (K := K) (a := t) (xs := xs) (fun i σ Hx => ∃ (tz : Addr) (z : N2) (c4 : Option V), σ = [some (.ref TL), some (.ref tu), some v, some (.ref t), c4, some (.ref tz)] ∧ L2.Same H Hx ∧ Hx tz = some (.tup [.str z.1, .str z.2]) ∧ Gd z ∧ walkD (live 0 tl) x ds = walkD (live 0 tl) z (ds.drop i))
            ⟨tu, x, none, rfl, s1, s1 _ _ etu, gx, rfl⟩ (fun i σ Hi _ z => by obtain ⟨_, _, _, _, s, _⟩ := z; exact SqT.of (s _ _ et)) ?_ ?_⟩
          · rintro i xv σ Hx hx ⟨tz, z, c4, rfl, sx, ez, gz, wk⟩
            obtain ⟨di, hdi, hzi⟩ := dz_at ra hx
            have dr := dropd_at hdi
            rw [dr] at wk
            have no : walkD (live 0 tl) z (di :: ds.drop (i + 1)) = none → Q (.bl false) Hx := fun e => by
              have w := q Hx sx
              rw [show showsC (live 0 tl) x y (.tuple ds) = false by show decide (walkD _ x ds = some y) = false; rw [wk, e]; rfl] at w
              exact w
            have cI : isI xv = true := List.all_eq_true.mp c (isI xv) (List.mem_map_of_mem (List.mem_of_getElem? hx))
            obtain ⟨k, rfl⟩ : ∃ k, xv = .int k := by
              cases xv with
              | int k => exact ⟨k, rfl⟩
              | _ => cases cI
            have edi : di = .int k := by cases hzi; rfl
            subst edi
            have eTx := sx _ _ eT
            have tsl := tL.len
            refine ⟨_, rfl, 0, k, rfl, rfl, _, rfl, ?_⟩
            by_cases c0 : 0 ≤ k
            · rw [decide_eq_true c0]
              refine iteT ⟨_, rfl, TL, ts, rfl, .inl (SqL.of eTx), k, _, rfl, rfl, _, rfl, ?_⟩
              obtain ⟨j, rfl⟩ : ∃ j : Nat, k = (j : Int) := ⟨k.toNat, by omega⟩
              by_cases c1 : j < ts.length
              · rw [decide_eq_true (show (j : Int) < ((ts.length : Nat) : Int) by omega)]
                refine iteF ?_
                obtain ⟨tv, etv⟩ : ∃ tv, ts[j]? = some tv := ⟨_, List.getElem?_eq_getElem c1⟩
                obtain ⟨⟨p, b⟩, r, va, vb, etl, rfl, er, na, nb⟩ := tL.get etv
                have er := sx _ _ er
                have na := na.tp (W37.tp_same sx)
                have nb := nb.tp (W37.tp_same sx)
                obtain ⟨g1, g2⟩ := gt _ (List.mem_of_getElem? etl)
                refine ⟨_, rfl, _, rfl, TL, ts, _, .ref r, rfl, rfl, SqL.of eTx, atI_nat (j := j) etv, r, _, 2, .bl b, rfl, rfl, SqL.of er, atI_nat (j := 2) rfl, _, rfl, ?_⟩
                cases b with
                | false =>
                  exact iteT (iteT (no (by
                    rw [walkD, find_off fun i2 p2 e2 z2 => ?_]
                    have : j = i2 := by omega
                    subst this
                    rw [etl] at z2
                    cases z2)))
                | true =>
                refine iteF ?_
                have wd : walkD (live 0 tl) z (.int (j : Int) :: ds.drop (i + 1)) = if p.1 = z ∨ p.2 = z then walkD (live 0 tl) (other p z) (ds.drop (i + 1)) else none := by rw [walkD, find_on etl]
                refine ⟨_, rfl, _, rfl, _, rfl, TL, ts, _, .ref r, rfl, rfl, SqL.of eTx, atI_nat (j := j) etv, 2, rfl, r, _, rfl, SqL.of er, fun p0 np => ?_⟩
                rw [show cutV [va, vb, V.bl true] none (some 2) = [va, vb] from rfl]
                have sp := same_upd np (o := .lst [va, vb])
                have ep : (L2.upd Hx p0 (.lst [va, vb])) p0 = some (.lst [va, vb]) := upd_same
                have s4 := sx.trans sp
                have er4 := sp _ _ er
                have ez4 := sp _ _ ez
                have eT4 := sp _ _ eTx
                have na4 := na.tp (W37.tp_same sp)
                have nb4 := nb.tp (W37.tp_same sp)
                generalize L2.upd Hx p0 (.lst [va, vb]) = H4 at ep s4 er4 ez4 eT4 na4 nb4 ⊢
                have no4 : walkD (live 0 tl) z (.int (j : Int) :: ds.drop (i + 1)) = none → Q (.bl false) H4 := fun e => by
                  have w := q H4 s4
                  rw [show showsC (live 0 tl) x y (.tuple ds) = false by show decide (walkD _ x ds = some y) = false; rw [wk, e]; rfl] at w
                  exact w
                have two : ∀ m ∈ [p.1, p.2], Gd m := fun m hm => by
                  simp only [List.mem_cons, List.not_mem_nil, or_false] at hm
                  rcases hm with rfl | rfl
                  · exact g1
                  · exact g2
                refine ⟨W37.nD z, [p.1, p.2].map W37.nD, .tup (SqT.of ez4) (.cons (.str _) (.cons (.str _) .nil)), .lst (SqL.of ep) (.cons (NmV.dp na4) (.cons (NmV.dp nb4) .nil)), gz.sh, shaped_list (lay_all _ two) (dep_all _), _, rfl, ?_⟩
                rw [any_nD]
                by_cases m : z ∈ [p.1, p.2]
                · rw [decide_eq_true m]
                  have on : p.1 = z ∨ p.2 = z := by
                    simp only [List.mem_cons, List.not_mem_nil, or_false] at m
                    exact m.imp Eq.symm Eq.symm
                  rw [if_pos on] at wd
                  refine iteF ?_
                  have dl4 : Dp K H4 (.ref r) (.list [W37.nD p.1, W37.nD p.2, .bool true]) := .lst (SqL.of er4) (.cons (NmV.dp na4) (.cons (NmV.dp nb4) (.cons (.bl true) .nil)))
                  by_cases c1 : p.1 = z
                  · have eo : other p z = p.2 := by unfold other; rw [if_pos c1]
                    obtain ⟨tb, rfl, etb⟩ := nb4
                    refine ⟨_, rfl, _, rfl, TL, ts, _, .ref r, rfl, rfl, SqL.of eT4, atI_nat (j := j) etv, _, rfl, _, rfl, TL, ts, _, .ref r, rfl, rfl, SqL.of eT4, atI_nat (j := j) etv, .inl ⟨rfl, _, SqL.of er4⟩, _, rfl, r, .ref tz, W37.nD z, _, 0, _, rfl, rfl, dl4, .tup (SqT.of ez4) (.cons (.str _) (.cons (.str _) .nil)), shaped_row g1 g2, gz.sh, rfl, by rw [eqv_nD, decide_eq_true c1], fun m z' hm => absurd hm (Nat.not_lt_zero _), 1, 0, rfl, rfl, r, _, 1, .ref tb, rfl, rfl, SqL.of er4, atI_nat (j := 1) rfl, tb, p.2, _, rfl, s4, etb, g2, by rw [wk, wd, eo]⟩
                  · have c2 : p.2 = z := on.resolve_left c1
                    have eo : other p z = p.1 := by unfold other; rw [if_neg c1]
                    obtain ⟨ta, rfl, eta⟩ := na4
                    refine ⟨_, rfl, _, rfl, TL, ts, _, .ref r, rfl, rfl, SqL.of eT4, atI_nat (j := j) etv, _, rfl, _, rfl, TL, ts, _, .ref r, rfl, rfl, SqL.of eT4, atI_nat (j := j) etv, .inl ⟨rfl, _, SqL.of er4⟩, _, rfl, r, .ref tz, W37.nD z, _, 1, _, rfl, rfl, dl4, .tup (SqT.of ez4) (.cons (.str _) (.cons (.str _) .nil)), shaped_row g1 g2, gz.sh, rfl, by rw [eqv_nD, decide_eq_true c2], fun m z' hm e => ?_, 1, 1, rfl, rfl, r, _, 0, .ref ta, rfl, rfl, SqL.of er4, atI_nat (j := 0) rfl, ta, p.1, _, rfl, s4, eta, g1, by rw [wk, wd, eo]⟩
                    obtain rfl : m = 0 := by omega
                    cases e
                    rw [eqv_nD, decide_eq_false c1]
                · rw [decide_eq_false m]
                  refine iteT (no4 ?_)
                  rw [wd, if_neg]
                  intro z2
                  exact m (by simp only [List.mem_cons, List.not_mem_nil, or_false]; exact z2.imp Eq.symm Eq.symm)
              · rw [decide_eq_false (show ¬ (j : Int) < ((ts.length : Nat) : Int) by omega)]
                exact iteT (iteT (no (by
                  rw [walkD, find_off fun i2 p2 e2 z2 => ?_]
                  have := (List.getElem?_eq_some_iff.mp z2).1
                  omega)))
            · rw [decide_eq_false c0]
              exact iteF ⟨_, rfl, iteT (iteT (no (by
                rw [walkD, find_off fun i2 p2 e2 z2 => ?_]
                omega)))⟩
          · rintro σ Hx ⟨tz, z, c5, rfl, sx, ez, gz, wk⟩
            rw [dz_len ra, List.drop_length] at wk
            have nvx := nv.tp (W37.tp_same sx)
            refine ⟨_, rfl, _, rfl, W37.nD z, W37.nD y, .tup (SqT.of ez) (.cons (.str _) (.cons (.str _) .nil)), NmV.dp nvx, gz.sh, gy.sh, ?_⟩
            rw [eqv_nD]
            have w := q Hx sx
            rw [show showsC (live 0 tl) x y (.tuple ds) = decide (z = y) by show decide (walkD _ x ds = some y) = _; rw [wk, walkD]; simp] at w
            exact w
    | _ => exact iteT (iteT (q H (Same.refl H)))
end
end K16
set_option Elab.async false
set_option linter.all false
set_option maxRecDepth 100000
set_option maxHeartbeats 4000000
set_option pp.maxSteps 400
set_option pp.deepTerms false
namespace K16
open PySem PySem.Spec PyProof.Rows L2
open Xk Az Xnp
section
variable {P : Program} {w : World} {K : PySem.W.Frag} {mg : Str → Option Value} {base : Heap}
def lawTwo : PyData → PyData → Bool
  | .str x, .str y => decide (2 ≤ (x.length : Int)) && (decide ((x.length : Int) ≤ 3) && (decide (0 < (y.length : Int)) && (decide ((y.length : Int) ≤ 40) && (Txt.isalpha x && Txt.islower x))))
  | _, _ => false
/-- what the law takes for a name -/
def lawNm (d : PyData) : Bool := match d with
  | .tuple [a, b] => lawTwo a b
  | _ => false
theorem small_alpha : ∀ c ∈ small.cps.toList, Unicode.isAlpha c = true ∧ Unicode.isLower c = true ∧ (Unicode.isUpper c || Unicode.isTitle c) = false := by decide +kernel
theorem letts_alpha {x : Str} (h : letts x) (l : 1 ≤ x.length) : Txt.isalpha x = true := by
  unfold Txt.isalpha
  rw [Bool.and_eq_true, decide_eq_true_eq]
  refine ⟨l, ?_⟩
  rw [← Array.all_toList, List.all_eq_true]
  exact fun c hc => (small_alpha c (h c hc)).1
theorem letts_lower {x : Str} (h : letts x) (l : 1 ≤ x.length) : Txt.islower x = true := by
  unfold Txt.islower
  rw [Bool.and_eq_true, ← Array.any_toList, ← Array.any_toList, List.any_eq_true]
  constructor
  · have l2 : 0 < x.cps.toList.length := l
    obtain ⟨c, r, e⟩ : ∃ c r, x.cps.toList = c :: r := by
      cases e : x.cps.toList with
      | nil => rw [e] at l2; cases l2
      | cons c r => exact ⟨c, r, rfl⟩
    have m : c ∈ x.cps.toList := by rw [e]; exact List.mem_cons_self
    exact ⟨c, m, (small_alpha c (h c m)).2.1⟩
  · rw [Bool.not_eq_true', List.any_eq_false]
    intro c hc
    rw [(small_alpha c (h c hc)).2.2]
    exact Bool.false_ne_true
theorem Gd.law {n : N2} (g : Gd n) : lawNm (W37.nD n) = true := by
  have l2 := g.l2
  have l3 := g.l3
  have c1 := g.c1
  have c2 := g.c2
  show (decide (2 ≤ (n.1.length : Int)) && (decide ((n.1.length : Int) ≤ 3) && (decide (0 < (n.2.length : Int)) && (decide ((n.2.length : Int) ≤ 40) && (Txt.isalpha n.1 && Txt.islower n.1))))) = true
  rw [decide_eq_true (by omega), decide_eq_true (by omega), decide_eq_true (by omega), decide_eq_true (by omega), letts_alpha g.l1 (by omega), letts_lower g.l1 (by omega)]
  rfl
def spLawNm (K : PySem.W.Frag) : Sp := fun vs H Q _ => ∃ (v : V) (d : PyData), vs = [v] ∧ Dz K H v d ∧ T2 d ∧ ∀ H', L2.Same H H' → Q (.bl (lawNm d)) H'
theorem ok_lname {f : Addr} {fd : FuncData} (D : Df K mg "_law_is_name" ["_law_thing"] sLawIsName f fd) (T : Txt K mg) : FnOk P w K mg base CX0 1 f fd ["_law_thing"] (spLawNm K) := by
  refine D.fn.ok scLawIsName (fun vs H Q E h => ?_) (fun cdv A outer s H vs Q E hr h => ?_)
  · obtain ⟨v, d, rfl, hz, t2, q⟩ := h
    rfl
  · obtain ⟨v, d, rfl, hz, t2, q⟩ := h
    refine ⟨_, (pss_cons (ps_if (PW.pt (pw_or (pt_not (pt_val (pe_callB call_isi (by rfl) T.isi (by decide +kernel) (pa_cons (pv 0) (pa_cons (pe_bltn (v := .ty "tuple") (by rfl) T.tuple (by decide +kernel) rfl) pa_nil))))) (pw_or (pt_cmpR op_ne (pe_callB call_len_seq (by rfl) T.len PySem.boot_len (pa_cons (pv 0) pa_nil)) pe_int (nomark _)) (pw_or1 (pt_not (pt_val (pe_callB (cr_all (by rfl)) (by rfl) T.all (by decide +kernel) (pa_cons (pe_lc (own := [("_law_part", 1)]) (g := gName 1) (tt := tYes) (te := tCB (rIsi K) (tCons (tVar 1) (tCons (tC (V.ty "str")) tNil))) (by rfl) scLawIsName.nd (pi_tup (pv 0)) (blkOk_by (own := [("_law_part", 1)]) (N := ["_law_thing", "_law_part"]) (sc := defScope sLawIsName) (by decide +kernel)) (fun _ _ _ _ _ => pg_name (i := 1) scLawIsName.nd rfl (.inl rfl)) (fun _ _ _ _ _ => pts_nil) (fun _ _ _ _ _ => pe_callB call_isi (by rfl) T.isi (by decide +kernel) (pa_cons (pv 1) (pa_cons (pe_bltn (v := .ty "str") (by rfl) T.str (by decide +kernel) rfl) pa_nil)))) pa_nil)))))))) (pss_one (ps_ret pe_bl)) pss_nil)
      (pss_one (ps_ret (pe_and (pe_chain op_le op_le pe_int (pe_callB call_len_str (by rfl) T.len PySem.boot_len (pa_cons (pe_ix ix_tup (pv 0) pe_int (fun _ _ => rfl)) pa_nil)) pe_int) (pe_and (pe_chain op_lt op_le pe_int (pe_callB call_len_str (by rfl) T.len PySem.boot_len (pa_cons (pe_ix ix_tup (pv 0) pe_int (fun _ _ => rfl)) pa_nil)) pe_int) (pe_and (pe_m0 F.slot_str_isalpha F.type_str_isalpha mt_isalpha (pe_ix ix_tup (pv 0) pe_int (fun _ _ => rfl))) (pe_one (pe_m0 F.slot_str_islower F.type_str_islower mt_islower (pe_ix ix_tup (pv 0) pe_int (fun _ _ => rfl)))))))))), ?_⟩
    refine ⟨_, rfl, _, _, _, _, isTup d, rfl, .ty _, hz.ty, z_tup d, _, rfl, ?_⟩
    have qf : lawNm d = false → ∀ H', L2.Same H H' → Q (.bl false) H' := fun e H' sm => by
      have w := q H' sm
      rw [e] at w
      exact w
    cases hz with
    | @tup t xs ds et ra =>
      refine iteF ⟨_, rfl, t, xs, rfl, .inr (SqT.of et), rfl, _, rfl, ?_⟩
      match xs, ds, ra with
      | [], _, .nil => exact iteT (iteT (qf rfl _ (Same.refl H)))
      | [_], _, .cons _ .nil => exact iteT (iteT (qf rfl _ (Same.refl H)))
      | _ :: _ :: _ :: r, _, .cons _ (.cons _ (.cons _ _)) => exact ite2 (fun _ => iteT (qf rfl _ (Same.refl H))) (fun e => absurd rfl (len3 e))
      | [va, vb], _, .cons (d := a) ha (.cons (d := b) hb .nil) =>
        obtain ⟨ta, tb⟩ : Tx a ∧ Tx b := ⟨t2 _ rfl a (by simp), t2 _ rfl b (by simp)⟩
        refine iteF ⟨_, rfl, t, rfl, ⟨_, SqT.of et⟩, fun L nL => ?_⟩
        have sL := same_upd nL (o := .lst [])
        refine lc_tup (K := K) (a := t) (xs := [va, vb]) (fun i Hi => ∃ bs : List Bool, bs = ([a, b].take i).map isStr ∧ Hi L = some (.lst (bs.map V.bl)) ∧ L2.Same H Hi) ⟨[], rfl, upd_same, sL⟩ (fun i Hi _ pv => SqT.of (pv.choose_spec.2.2 _ _ et)) ?_ ?_
        · rintro i x Hi ec ⟨bs, eb, eL, sm⟩
          obtain ⟨d', ed, zd⟩ : ∃ d', [a, b][i]? = some d' ∧ Dz K Hi x d' := by
            match i, ec with
            | 0, ec => cases ec; exact ⟨a, rfl, ha.same sm⟩
            | 1, ec => cases ec; exact ⟨b, rfl, hb.same sm⟩
          refine ⟨rfl, ?_⟩
          unfold tYes
          refine iteT ⟨_, rfl, _, _, _, _, isStr d', rfl, .ty _, zd.ty, z_str d', ?_⟩
          refine ⟨_, eL, ?_, bs ++ [isStr d'], ?_, ?_, fun b o e => ?_⟩
          · rw [List.length_map, eb, List.length_map, List.length_take]
            exact Nat.lt_of_le_of_lt (show min i [a, b].length ≤ 2 from Nat.min_le_right _ _) (by decide)
          · rw [List.take_succ, ed, List.map_append, eb]
            rfl
          · rw [upd_same, List.map_append]
            rfl
          · rw [upd_ne (ne_of_none e nL)]
            exact sm _ _ e
        rintro H1 ⟨bs, eb, eL, s1⟩
        refine ⟨L, _, rfl, SqL.of eL, _, rfl, ?_⟩
        rw [eb]
        have et1 := s1 _ _ et
        cases cab : (([a, b].take [va, vb].length).map isStr).all id with
        | false =>
          refine iteT (qf ?_ _ s1)
          show lawTwo a b = false
          cases a with
          | str x =>
            cases b with
            | str y => cases cab
            | _ => rfl
          | _ => rfl
        | true =>
          obtain ⟨x, rfl⟩ : ∃ x, a = .str x := by
            cases a with
            | str x => exact ⟨x, rfl⟩
            | _ => cases cab
          obtain ⟨y, rfl⟩ : ∃ y, b = .str y := by
            cases b with
            | str y => exact ⟨y, rfl⟩
            | _ => cases cab
          cases ha
          cases hb
          obtain ⟨lx, ax⟩ := ta x rfl
          obtain ⟨ly, ay⟩ := tb y rfl
          have fx : x.length ≤ sizeLine := Nat.le_trans lx (by decide)
          have fy : y.length ≤ sizeLine := Nat.le_trans ly (by decide)
          have w := q H1 s1
          rw [show lawNm (.tuple [.str x, .str y]) = (decide (2 ≤ (x.length : Int)) && (decide ((x.length : Int) ≤ 3) && (decide (0 < (y.length : Int)) && (decide ((y.length : Int) ≤ 40) && (Txt.isalpha x && Txt.islower x))))) from rfl] at w
          refine iteF ⟨_, rfl, t, _, 0, .str x, rfl, rfl, SqT.of et1, atI_nat (j := 0) rfl, x, rfl, fx, 2, _, rfl, rfl, _, rfl, ?_⟩
          cases c1 : decide (2 ≤ (x.length : Int)) with
          | false => rw [c1] at w; exact iteF ⟨_, rfl, iteF w⟩
          | true =>
          refine iteT ⟨_, 3, rfl, rfl, _, rfl, ?_⟩
          cases c2 : decide ((x.length : Int) ≤ 3) with
          | false => rw [c1, c2] at w; exact iteF w
          | true =>
          refine iteT ⟨_, rfl, t, _, 1, .str y, rfl, rfl, SqT.of et1, atI_nat (j := 1) rfl, y, rfl, fy, 0, _, rfl, rfl, _, rfl, ?_⟩
          cases c3 : decide (0 < (y.length : Int)) with
          | false => rw [c1, c2, c3] at w; exact iteF ⟨_, rfl, iteF w⟩
          | true =>
          refine iteT ⟨_, 40, rfl, rfl, _, rfl, ?_⟩
          cases c4 : decide ((y.length : Int) ≤ 40) with
          | false => rw [c1, c2, c3, c4] at w; exact iteF w
          | true =>
          refine iteT ⟨_, rfl, t, _, 0, .str x, rfl, rfl, SqT.of et1, atI_nat (j := 0) rfl, ⟨x, rfl⟩, x, rfl, rfl, trivial, _, rfl, ?_⟩
          cases c5 : Txt.isalpha x with
          | false => rw [c1, c2, c3, c4, c5] at w; exact iteF w
          | true =>
          refine iteT ⟨_, rfl, t, _, 0, .str x, rfl, rfl, SqT.of et1, atI_nat (j := 0) rfl, ⟨x, rfl⟩, x, rfl, rfl, trivial, ?_⟩
          rw [c1, c2, c3, c4, c5] at w
          exact w
    | _ => exact iteT (iteT (qf rfl _ (Same.refl H)))
end
end K16
set_option Elab.async false
set_option linter.all false
set_option maxRecDepth 100000
set_option maxHeartbeats 4000000
set_option pp.maxSteps 400
set_option pp.deepTerms false
namespace K16
open PySem PySem.Spec PyProof.Rows L2
open Xk Az Xnp
section
variable {P : Program} {w : World} {K : PySem.W.Frag} {mg : Str → Option Value} {base : Heap}
theorem shut_iff {es : List Pair} {ns : List N2} : shut1 es ns ns = true ↔ ∀ p ∈ es, (p.1 ∈ ns ↔ p.2 ∈ ns) := by
  unfold shut1
  rw [List.all_eq_true]
  constructor
  · intro h p hp
    constructor
    · intro m
      exact of_decide_eq_true (List.all_eq_true.mp (h _ m) _ (mem_nb.mpr (.inl hp)))
    · intro m
      exact of_decide_eq_true (List.all_eq_true.mp (h _ m) _ (mem_nb.mpr (.inr hp)))
  · intro h n hn
    rw [List.all_eq_true]
    intro m hm
    refine decide_eq_true ?_
    rcases mem_nb.mp hm with z | z
    · exact (h _ z).mp hn
    · exact (h _ z).mpr hn
/-- names of which some may be none, alike to the law and to the program -/
def PnE (d : PyData) : Prop := ∀ ds, d = .tuple ds → ds.length ≤ 200 ∧ ∀ e ∈ ds, T2 e ∧ nmD e = lawNm e ∧ (nmD e = true → ∃ n, e = W37.nD n ∧ Gd n)
theorem PnE.pn {d : PyData} (h : PnE d) : PnD d := fun ds e => ⟨(h ds e).1, fun x hx => ⟨((h ds e).2 x hx).1, ((h ds e).2 x hx).2.2⟩⟩
def spClosed (K : PySem.W.Frag) : Sp := fun vs H Q _ => ∃ (TL : Addr) (u v w : V) (ts : List V) (tl : List Tl) (x y : N2) (d : PyData), vs = [.ref TL, u, v, w] ∧ H TL = some (.lst ts) ∧ TlL H ts tl ∧ tl.length ≤ 60 ∧ W37.NmV H u x ∧ W37.NmV H v y ∧ Dz K H w d ∧ PnE d ∧ Gd x ∧ Gd y ∧ (∀ t ∈ tl, Gd t.1.1 ∧ Gd t.1.2) ∧ ∀ H', L2.Same H H' → Q (.bl (apartD (live 0 tl) x y d)) H'
theorem ok_lclosed {f : Addr} {fd : FuncData} (D : Df K mg "_law_closed" ["_law_tellings", "_law_one", "_law_other", "_law_thing"] sClosed f fd) (T : Txt K mg) (cLn : Ca P w K mg base 1 "_law_is_name" ["_law_thing"] (spLawNm K)) : FnOk P w K mg base CX0 2 f fd ["_law_tellings", "_law_one", "_law_other", "_law_thing"] (spClosed K) := by
  refine D.fn.ok scClosed (fun vs H Q E h => ?_) (fun cdv A outer s H vs Q E hr h => ?_)
  · obtain ⟨TL, u, v, w0, ts, tl, x, y, d, rfl, eT, tL, l60, nu, nv, hz, pn, gx, gy, gt, q⟩ := h
    rfl
  · obtain ⟨TL, u, v, w0, ts, tl, x, y, d, rfl, eT, tL, l60, nu, nv, hz, pn, gx, gy, gt, q⟩ := h
    refine ⟨_, (pss_cons (ps_if (PW.pt (pw_or (pt_not (pt_val (pe_callB call_isi (by rfl) T.isi (by decide +kernel) (pa_cons (pv 3) (pa_cons (pe_bltn (v := .ty "tuple") (by rfl) T.tuple (by decide +kernel) rfl) pa_nil))))) (pw_or1 (pt_not (pt_val (pe_callB (cr_all (by rfl)) (by rfl) T.all (by decide +kernel) (pa_cons (pe_lc (own := [("_law_name", 7)]) (g := gName 7) (tt := tYes) (by rfl) scClosed.nd (pi_tup (pv 3)) (blkOk_by (own := [("_law_name", 7)]) (N := ["_law_tellings", "_law_one", "_law_other", "_law_thing", "_law_first", "_law_second", "_law_counts", "_law_name"]) (sc := defScope sClosed) (by decide +kernel)) (fun _ _ _ _ _ => pg_name (i := 7) scClosed.nd rfl (.inl rfl)) (fun _ _ _ _ _ => pts_nil) (fun _ _ _ _ _ => pe_ca cLn hr (by decide) (by rfl) (pa_cons (pv 7) pa_nil))) pa_nil))))))) (pss_one (ps_ret pe_bl)) pss_nil)
      (pss_cons (ps_for PassesOwn.never rfl (pi_list (pv 0)) (pg_lst (by rfl) (pgs_cons (pg_name (i := 4) scClosed.nd rfl (.inl rfl)) (pgs_cons (pg_name (i := 5) scClosed.nd rfl (.inl rfl)) (pgs_cons (pg_name (i := 6) scClosed.nd rfl (.inl rfl)) pgs_nil)))) (pss_one (ps_if (PW.pt (pw_and (pt_val (pv 6)) (pw_and1 (pt_cmpR op_ne (pe_cmpR (Xsd.op_inTD (r65 hr)) (pv 4) (pv 3) (by rfl)) (pe_cmpR (Xsd.op_inTD (r65 hr)) (pv 5) (pv 3) (by rfl)) (nomark _))))) (pss_one (ps_ret pe_bl)) pss_nil)))
      (pss_one (ps_ret (pe_and (pe_cmpR (Xsd.op_inTD (r65 hr)) (pv 1) (pv 3) (by rfl)) (pe_one (pe_cmpR (op_notInTD (r65 hr)) (pv 2) (pv 3) (by rfl)))))))), ?_⟩
    refine ⟨_, rfl, _, _, _, _, isTup d, rfl, .ty _, hz.ty, z_tup d, _, rfl, ?_⟩
    cases hz with
    | @tup t xs ds et ra =>
      refine iteF ?_
      obtain ⟨dl, dall⟩ := pn ds rfl
      have xl := dz_len ra
      refine ⟨_, rfl, t, rfl, ⟨_, SqT.of et⟩, fun D nD => ?_⟩
      refine lc_it (walk_tup (K := K) (a := t) (xs := xs)) (fun i Hi => L2.Same H Hi ∧ Hi D = some (.lst (((ds.take i).map nmD).map V.bl))) ⟨same_upd nD, upd_same⟩ (fun i Hi _ z => SqT.of (z.1 _ _ et)) ?_ ?_
      · rintro i x1 Hi H' il ⟨sm, eD⟩ ⟨rfl, hx⟩
        obtain ⟨di, hdi, hzi⟩ := dz_at ra hx
        obtain ⟨t2, el, _⟩ := dall di (List.mem_of_getElem? hdi)
        refine ⟨rfl, ?_⟩
        unfold tYes
        refine iteT ⟨_, rfl, x1, di, rfl, hzi.same sm, t2, fun H2 s2 => ⟨_, s2 _ _ eD, ?_, fun b2 o e => ?_, ?_⟩⟩
        · rw [List.length_map, List.length_map, List.length_take]
          exact Nat.lt_of_le_of_lt (show _ ≤ 1000 by omega) (by decide)
        · rw [upd_ne (ne_of_none e nD)]
          exact s2 _ _ (sm _ _ e)
        · rw [upd_same, List.take_add_one, hdi, ← el]
          simp
      · rintro H1 ⟨s1, eD⟩
        rw [List.take_of_length_le (by omega)] at eD
        refine ⟨D, ds.map nmD, rfl, SqL.of eD, _, rfl, ?_⟩
        have ea : (ds.map nmD).all id = ds.all nmD := by rw [List.all_map]; rfl
        rw [ea]
        cases c : ds.all nmD with
        | false =>
          refine iteT ?_
          have w := q H1 s1
          rw [show apartD (live 0 tl) x y (.tuple ds) = false by show (ds.all nmD && _) = false; rw [c]; rfl] at w
          exact w
        | true =>
          refine iteF ?_
          obtain ⟨ns, rfl, gns⟩ := all_nm (fun e he => (dall e he).2.2) c
          have ap : apartD (live 0 tl) x y (.tuple (ns.map W37.nD)) = (decide (x ∈ ns) && (!decide (y ∈ ns) && shut1 (cnt tl) ns ns)) := by
            show ((ns.map W37.nD).all nmD && _) = _
            rw [c, nm_back, live_snd]
            rfl
          rw [ap] at q
          have nl : W37.NmL H xs ns := dz_nml ra
          have tsl := tL.len
          refine ⟨_, rfl, TL, rfl, ⟨_, SqL.of (s1 _ _ eT)⟩, for_list (K := K) (a := TL) (xs := ts) (fun i σ Hx => ∃ c4 c5 c6 c7 : Option V, σ = [some (.ref TL), some u, some v, some (.ref t), c4, c5, c6, c7] ∧ L2.Same H Hx ∧ ∀ t ∈ tl.take i, t.2 = true → (t.1.1 ∈ ns ↔ t.1.2 ∈ ns))
            ⟨none, none, none, none, rfl, s1, fun t h => by simp at h⟩ (fun i σ Hi _ z => by obtain ⟨_, _, _, _, _, z, _⟩ := z; exact SqL.of (z _ _ eT)) ?_ ?_⟩
          · rintro j xv σ Hx hx ⟨c4, c5, c6, c7, rfl, sx, al⟩
            obtain ⟨t0, r, va, vb, et0, rfl, er, na, nb⟩ := tL.get hx
            obtain ⟨p, b⟩ := t0
            have er := sx _ _ er
            have na := na.tp (W37.tp_same sx)
            have nb := nb.tp (W37.tp_same sx)
            have etx := sx _ _ et
            have nlx := nl.tp (W37.tp_same sx)
            obtain ⟨g1, g2⟩ := gt _ (List.mem_of_getElem? et0)
            have tk : tl.take (j + 1) = tl.take j ++ [(p, b)] := by rw [List.take_add_one, et0]; rfl
            refine ⟨r, _, rfl, SqL.of er, rfl, _, _, rfl, _, _, rfl, _, _, rfl, rfl, ?_⟩
            refine ⟨_, rfl, _, rfl, ?_⟩
            cases b with
            | false =>
              refine iteF (iteF ⟨_, _, _, _, rfl, sx, fun t ht h => ?_⟩)
              rw [tk] at ht
              rcases List.mem_append.mp ht with z | z
              · exact al t z h
              · rw [List.mem_singleton.mp z] at h
                cases h
            | true =>
            refine iteT ⟨_, rfl, _, rfl, W37.nD p.1, ns.map W37.nD, NmV.dp na, .tup (SqT.of etx) (nml_dp nlx), g1.sh, shaped_tup gns, _, rfl, _, rfl, W37.nD p.2, ns.map W37.nD, NmV.dp nb, .tup (SqT.of etx) (nml_dp nlx), g2.sh, shaped_tup gns, rfl, _, rfl, ?_⟩
            rw [any_nD, any_nD]
            by_cases c1 : (p.1 ∈ ns ↔ p.2 ∈ ns)
            · rw [show decide (p.1 ∈ ns) = decide (p.2 ∈ ns) from decide_eq_decide.mpr c1, show (!decide (V.bl (decide (p.2 ∈ ns)) = V.bl (decide (p.2 ∈ ns)))) = false by simp]
              refine iteF ⟨_, _, _, _, rfl, sx, fun t ht h => ?_⟩
              rw [tk] at ht
              rcases List.mem_append.mp ht with z | z
              · exact al t z h
              · rw [List.mem_singleton.mp z]
                exact c1
            · rw [show (!decide (V.bl (decide (p.1 ∈ ns)) = V.bl (decide (p.2 ∈ ns)))) = true by
                rw [Bool.not_eq_true', decide_eq_false_iff_not]
                intro z
                injection z with z
                exact c1 (decide_eq_decide.mp z)]
              refine iteT ?_
              have w := q Hx sx
              rw [show shut1 (cnt tl) ns ns = false by
                rw [← Bool.not_eq_true, shut_iff]
                exact fun z => c1 (z _ (mem_cnt.mpr (List.mem_of_getElem? et0))), Bool.and_false, Bool.and_false] at w
              exact w
          · rintro σ Hx ⟨c4, c5, c6, c7, rfl, sx, al⟩
            rw [List.take_of_length_le (by omega)] at al
            have w := q Hx sx
            rw [show shut1 (cnt tl) ns ns = true by
              rw [shut_iff]
              exact fun p hp => al _ (mem_cnt.mp hp) rfl, Bool.and_true] at w
            have etx := sx _ _ et
            have nlx := nl.tp (W37.tp_same sx)
            have nux := nu.tp (W37.tp_same sx)
            have nvx := nv.tp (W37.tp_same sx)
            refine ⟨_, rfl, _, rfl, W37.nD x, ns.map W37.nD, NmV.dp nux, .tup (SqT.of etx) (nml_dp nlx), gx.sh, shaped_tup gns, _, rfl, ?_⟩
            rw [any_nD]
            by_cases c1 : x ∈ ns
            · rw [decide_eq_true c1] at w ⊢
              refine iteT ⟨_, rfl, _, rfl, W37.nD y, ns.map W37.nD, NmV.dp nvx, .tup (SqT.of etx) (nml_dp nlx), gy.sh, shaped_tup gns, ?_⟩
              rw [any_nD]
              exact w
            · rw [decide_eq_false c1] at w ⊢
              exact iteF w
    | _ => exact iteT (iteT (q H (Same.refl H)))
end
end K16
set_option Elab.async false
set_option linter.all false
set_option maxRecDepth 100000
set_option maxHeartbeats 4000000
set_option pp.maxSteps 400
set_option pp.deepTerms false
namespace K16
open PySem PySem.Spec PyProof.Rows L2
open Xk Az Xnp
section
variable {P : Program} {w : World} {K : PySem.W.Frag} {mg : Str → Option Value} {base : Heap}
theorem at_snoc (xs : List V) (v : V) : atI (xs ++ [v]) (-1) = some v := by
  unfold atI ixN
  rw [if_neg (by decide), if_pos (by rw [List.length_append]; show -(((xs.length + 1 : Nat)) : Int) ≤ -1; omega)]
  show (xs ++ [v])[((-1 : Int) + ((xs ++ [v]).length : Int)).toNat]? = _
  rw [show ((-1 : Int) + ((xs ++ [v]).length : Int)).toNat = xs.length by rw [List.length_append]; show ((-1 : Int) + ((xs.length + 1 : Nat) : Int)).toNat = _; omega]
  rw [List.getElem?_append_right (Nat.le_refl _), Nat.sub_self]
  rfl
def spWalkOn : Sp := fun vs H Q _ => ∃ (h o TL : Addr) (v : V) (n : Int) (ts : List V) (tl : List Tl) (x : N2), vs = [.ref h, .ref TL, v] ∧ Hd h o n H ∧ n + 100 ≤ far ∧ H TL = some (.lst ts) ∧ TL ∉ [h, o] ∧ TlL H ts tl ∧ (∀ a ∈ [h, o], V.ref a ∉ ts) ∧ tl.length ≤ 60 ∧ W37.NmV H v x ∧ Gd x ∧ (∀ t ∈ tl, Gd t.1.1 ∧ Gd t.1.2) ∧
  ∀ (t R : Addr) (vh : V) (ks : List Int) (z : N2) H', H' t = some (.tup [.ref R, vh]) → H' R = some (.tup (ks.map V.int)) → ks.length ≤ 5 → (∀ k ∈ ks, 0 ≤ k ∧ k < 60) → W37.NmV H' vh z → Gd z → Hd h o (n + 20) H' → Bt [h, o] H H' → Q (.ref t) H'
theorem ok_walked {f : Addr} {fd : FuncData} (D : Df K mg "_law_walked" ["_law_hand_here", "_law_tellings", "_law_one"] sWalked f fd) (T : Txt K mg) (cT : Ca P w K mg base 1 "_law_take" ["_law_hand_here", "_law_many"] spTake) (cP : Ca P w K mg base 2 "_law_pick" ["_law_hand_here", "_law_some"] spPick) : FnOk P w K mg base CX0 3 f fd ["_law_hand_here", "_law_tellings", "_law_one"] spWalkOn := by
  refine D.fn.ok scWalked (fun vs H Q E h => ?_) (fun cdv A outer s H vs Q E hr h => ?_)
  · obtain ⟨h, o, TL, v, n, ts, tl, x, rfl, hd, hn, eT, oT, tL, off, l60, nv, gx, gt, q⟩ := h
    rfl
  · obtain ⟨h, o, TL, v, n, ts, tl, x, rfl, hd, hn, eT, oT, tL, off, l60, nv, gx, gt, q⟩ := h
    refine ⟨_, (pss_cons (ps_asg (pe_tup (pa_cons (pe_lst pa_nil) (pa_cons (pv 2) pa_nil))) (pg_tup (by rfl) (pgs_cons (pg_name (i := 3) scWalked.nd rfl (.inl rfl)) (pgs_cons (pg_name (i := 4) scWalked.nd rfl (.inr rfl)) pgs_nil))))
      (pss_cons (ps_for PassesOwn.never rfl (pi_range1 (by rfl) T.range (pa_cons (pe_ca cT hr (by decide) (by rfl) (pa_cons (pv 0) (pa_cons pe_int pa_nil))) pa_nil)) (pg_name (i := 5) scWalked.nd rfl (.inl rfl)) (pss_cons (ps_setLc (i := 6) (own := [("_law_number", 7), ("_law_telling", 8)]) (g := (gTup K 2 (gCons (gName 7) (gCons (gName 8) gNil)))) (tt := tAnd (tB (tOp (rIxL K) (tVar 8) (tC (V.int 2)))) (tTest (tOp (rInD K) (tVar 4) (tSl (rSlL K) (tVar 8) tNoPart (tPart (tC (V.int 2))))))) (te := tVar 7) (by rfl) scWalked.nd rfl rfl (sw_true rfl rfl rfl (by decide +kernel)) (pi_enum (by rfl) T.enumerate (pa_cons (pv 1) pa_nil)) (blkOk_by (own := [("_law_number", 7), ("_law_telling", 8)]) (N := ["_law_hand_here", "_law_tellings", "_law_one", "_law_row", "_law_here", "_law_turn", "_law_some", "_law_number", "_law_telling"]) (sc := defScope sWalked) (by decide +kernel)) (fun _ _ _ _ _ => pg_tup (by rfl) (pgs_cons (pg_name (i := 7) scWalked.nd rfl (.inl rfl)) (pgs_cons (pg_name (i := 8) scWalked.nd rfl (.inl rfl)) pgs_nil))) (fun _ _ _ _ _ => (pts_one (PW.pt (pw_and (pt_val (pe_ix ix_list (pv 8) pe_int (fun _ _ => rfl))) (pw_and1 (pt_cmpR (op_inD (r65 hr)) (pv 4) (pe_slice sl_list (pv 8) po_none (po_some pe_int)) (by rfl))))))) (fun _ _ _ _ _ => pv 7))
      (pss_one (ps_if (pt_cmpR (op_neD hr.units) (pv 6) (pe_lst pa_nil) (nomark _)) (pss_cons (ps_expr (pe_bm PySem.F.plainAttrs_list PySem.F.slot_list_append PySem.F.type_list_append mt_append (pv 3) (pa_cons (pe_ca cP hr (by decide) (by rfl) (pa_cons (pv 0) (pa_cons (pv 6) pa_nil))) pa_nil)))
      (pss_one (ps_set (i := 4) scWalked.nd rfl (.inr rfl) (pe_ix ix_list (pe_ix ix_list (pv 1) (pe_ix ix_list (pv 3) (pe_un un_neg pe_int) (fun _ _ => rfl)) (fun _ _ => rfl)) (pe_op op_sub pe_int (pe_bm PySem.F.plainAttrs_list PySem.F.slot_list_index PySem.F.type_list_index (mt_indexD (r65 hr)) (pe_ix ix_list (pv 1) (pe_ix ix_list (pv 3) (pe_un un_neg pe_int) (fun _ _ => rfl)) (fun _ _ => rfl)) (pa_cons (pv 4) pa_nil))) (fun _ _ => rfl))))) pss_nil))))
      (pss_one (ps_ret (pe_tup (pa_cons (pe_callTy call_tuple_of (by rfl) T.tuple (by decide +kernel) (pa_cons (pv 3) pa_nil)) (pa_cons (pv 4) pa_nil))))))), ?_⟩
    have fr : n + 100 ≤ 1000000 := hn
    obtain ⟨tu, rfl, etu⟩ := nv
    refine ⟨(by show 0 ≤ sizeLine; decide), fun R0 nR => ⟨_, rfl, (by show 2 ≤ sizeLine; decide), fun Tt nTt => ?_⟩⟩
    refine ⟨Tt, _, rfl, SqT.of upd_same, rfl, _, _, rfl, _, _, rfl, rfl, ?_⟩
    have sR := same_upd nR (o := .lst [])
    have sT := same_upd nTt (o := .tup [.ref R0, .ref tu])
    have eR : (L2.upd (L2.upd H R0 (.lst [])) Tt (.tup [.ref R0, .ref tu])) R0 = some (.lst []) := sT _ _ upd_same
    have s1 := sR.trans sT
    generalize L2.upd (L2.upd H R0 (.lst [])) Tt (.tup [.ref R0, .ref tu]) = H1 at eR s1 ⊢
    clear sR sT nTt
    have h1' := hd.same s1
    have oR : R0 ∉ [h, o] := hd.fresh nR
    refine ⟨_, rfl, h, o, 6, n, rfl, by decide, by decide, h1', by show n ≤ 1000000; omega, fun d H2 d0 d1 h2 b2 => ⟨d, rfl, by omega, by omega, for_range (lo := 0) (n := d.toNat) (fun k σ Hi => ∃ (tz : Addr) (z : N2) (ks : List Int) (c5 c6 : Option V), σ = [some (.ref h), some (.ref TL), some (.ref tu), some (.ref R0), some (.ref tz), c5, c6, none, none] ∧ Hi R0 = some (.lst (ks.map V.int)) ∧ ks.length ≤ k ∧ (∀ e ∈ ks, 0 ≤ e ∧ e < 60) ∧ Hi tz = some (.tup [.str z.1, .str z.2]) ∧ Gd z ∧ Hd h o (n + 1 + k) Hi ∧ Bt [h, o] H Hi) ?_ ?_ ?_⟩⟩
    · exact ⟨tu, x, [], none, none, rfl, b2 _ _ oR eR, Nat.le_refl _, by simp, (hd.nl ((Bt.of s1).trans b2)).tp _ _ etu, gx, h2.mono (by omega), (Bt.of s1).trans b2⟩
    · rintro k σ Hi hk ⟨tz, z, ks, c5, c6, rfl, eRi, kl, kb, ez, gz, hdi, bi⟩
      have hk : k < d.toNat := hk
      have k6 : k < 6 := by omega
      have eTi := bi _ _ oT eT
      have tpi := (hd.nl bi).tp
      have tLi := tL.bt bi tpi off
      have tsl := tL.len
      refine ⟨_, rfl, TL, _, rfl, SqL.of eTi, fun D nD => ?_⟩
      refine lc_it (walk_enum (K := K) (a := TL) (xs := ts)) (fun i Hj => L2.Same Hi Hj ∧ ∃ gs : List Int, Hj D = some (.lst (gs.map V.int)) ∧ gs.length ≤ i ∧ ∀ g ∈ gs, ∃ j : Nat, g = (j : Int) ∧ ∃ p, tl[j]? = some (p, true) ∧ (p.1 = z ∨ p.2 = z)) ⟨same_upd nD, [], upd_same, Nat.le_refl _, by simp⟩ (fun i Hj _ z => SqL.of (z.1 _ _ eTi)) ?_ ?_
      · rintro i x1 Hj H' il ⟨sm, gs, eD, gl, all⟩ ⟨T0, x1, y1, rfl, nt, rfl, ex1, ey1⟩
        cases ex1
        obtain ⟨⟨p, b⟩, r, va, vb, et0, rfl, er, na, nb⟩ := tLi.get ey1
        have st := same_upd nt (o := .tup [.int (i : Nat), .ref r])
        have e0 : (L2.upd Hj T0 (.tup [.int (i : Nat), .ref r])) T0 = some (.tup [.int (i : Nat), .ref r]) := upd_same
        have s3 := sm.trans st
        have eD3 := st _ _ eD
        generalize L2.upd Hj T0 (.tup [.int (i : Nat), .ref r]) = H3 at e0 s3 eD3 ⊢
        have er3 := s3 _ _ er
        have na3 := na.tp (W37.tp_same s3)
        have nb3 := nb.tp (W37.tp_same s3)
        have ez3 := s3 _ _ ez
        obtain ⟨g1, g2⟩ := gt _ (List.mem_of_getElem? et0)
        refine ⟨T0, _, rfl, SqT.of e0, rfl, _, _, rfl, _, _, rfl, rfl, rfl, ?_⟩
        refine ⟨_, rfl, r, _, 2, .bl b, rfl, rfl, SqL.of er3, atI_nat (j := 2) rfl, _, rfl, ?_⟩
        cases b with
        | false => exact iteF (iteF ⟨s3, gs, eD3, Nat.le_succ_of_le gl, all⟩)
        | true =>
        refine iteT ⟨_, rfl, _, rfl, 2, rfl, r, _, rfl, SqL.of er3, fun p0 np => ?_⟩
        rw [show cutV [va, vb, V.bl true] none (some 2) = [va, vb] from rfl]
        have sp := same_upd np (o := .lst [va, vb])
        have ep : (L2.upd H3 p0 (.lst [va, vb])) p0 = some (.lst [va, vb]) := upd_same
        have s4 := s3.trans sp
        have eD4 := sp _ _ eD3
        have ez4 := sp _ _ ez3
        have na4 := na3.tp (W37.tp_same sp)
        have nb4 := nb3.tp (W37.tp_same sp)
        generalize L2.upd H3 p0 (.lst [va, vb]) = H4 at ep s4 eD4 ez4 na4 nb4 ⊢
        have two : ∀ m ∈ [p.1, p.2], Gd m := fun m hm => by
          simp only [List.mem_cons, List.not_mem_nil, or_false] at hm
          rcases hm with rfl | rfl
          · exact g1
          · exact g2
        refine ⟨W37.nD z, [p.1, p.2].map W37.nD, .tup (SqT.of ez4) (.cons (.str _) (.cons (.str _) .nil)), .lst (SqL.of ep) (.cons (NmV.dp na4) (.cons (NmV.dp nb4) .nil)), gz.sh, shaped_list (lay_all _ two) (dep_all _), _, rfl, ?_⟩
        rw [any_nD]
        by_cases m : z ∈ [p.1, p.2]
        · rw [decide_eq_true m]
          have on : p.1 = z ∨ p.2 = z := by
            simp only [List.mem_cons, List.not_mem_nil, or_false] at m
            exact m.imp Eq.symm Eq.symm
          refine iteT ⟨_, rfl, _, eD4, ?_, fun b2 o2 e => ?_, gs ++ [(i : Int)], ?_, ?_, fun g hg => ?_⟩
          · rw [List.length_map]
            exact Nat.lt_of_le_of_lt (show gs.length ≤ 100 by omega) (by decide)
          · rw [upd_ne (ne_of_none e nD)]
            exact s4 _ _ e
          · rw [upd_same, List.map_append]
            rfl
          · rw [List.length_append]
            exact Nat.succ_le_succ gl
          · rcases List.mem_append.mp hg with w | w
            · exact all g w
            · exact ⟨i, List.mem_singleton.mp w, p, et0, on⟩
        · rw [decide_eq_false m]
          exact iteF ⟨s4, gs, eD4, Nat.le_succ_of_le gl, all⟩
      rintro Hb ⟨sb, gs, eDb, gl, all⟩
      refine ⟨_, rfl, (by show 0 ≤ sizeLine; decide), fun Z nZ => ?_⟩
      have sZ := same_upd nZ (o := .lst [])
      have eZ : (L2.upd Hb Z (.lst [])) Z = some (.lst []) := upd_same
      have eD1 := sZ _ _ eDb
      have sz := sb.trans sZ
      generalize L2.upd Hb Z (.lst []) = H5 at eZ eD1 sz ⊢
      have hd5 := hdi.same sz
      have b5 := bi.trans (Bt.of sz)
      have eR5 := sz _ _ eRi
      have ez5 := sz _ _ ez
      have oD : D ∉ [h, o] := hdi.fresh nD
      have RD : R0 ≠ D := ne_of_none eRi nD
      refine ⟨_, _, .lst (SqL.of eD1) (dpAll_ints gs), .lst (SqL.of eZ) .nil, shaped_ints gs, shaped_ints [], _, rfl, ?_⟩
      cases gs with
      | nil => exact iteF ⟨tz, z, ks, _, _, rfl, eR5, by omega, kb, ez5, gz, hd5.mono (by omega), b5⟩
      | cons g0 gr =>
      refine iteT ⟨_, rfl, .inl ⟨rfl, _, SqL.of eR5⟩, _, rfl, _, rfl, h, o, n + 1 + k, _, rfl, hd5, by show n + 1 + (k : Int) ≤ 1000000; omega, .inl ⟨D, _, rfl, eD1, oD, by simp, ?_, fun v5 H6 mv h6 b6 => ?_⟩⟩
      · rw [List.length_map]
        omega
      obtain ⟨g, mg_, rfl⟩ := List.mem_map.mp mv
      obtain ⟨j, rfl, p, etl, on⟩ := all g mg_
      have jl := (List.getElem?_eq_some_iff.mp etl).1
      have eR6 := b6 _ _ oR eR5
      have ez6 := (hd5.nl b6).tp _ _ ez5
      have b06 := b5.trans b6
      refine ⟨R0, _, _, rfl, rfl, eR6, ?_, ?_⟩
      · rw [List.length_map]
        exact Nat.lt_of_le_of_lt (show ks.length ≤ 100 by omega) (by decide)
      have hd7 := h6.upd (x := .lst (ks.map V.int ++ [.int (j : Int)])) oR
      have eR7 : (L2.upd H6 R0 (.lst (ks.map V.int ++ [.int (j : Int)]))) R0 = some (.lst (ks.map V.int ++ [.int (j : Int)])) := upd_same
      have b07 : Bt [h, o] H (L2.upd H6 R0 (.lst (ks.map V.int ++ [.int (j : Int)]))) := fun a u na e => by
        rw [upd_ne (ne_of_none e nR)]
        exact b06 a u na e
      have ez7 : (L2.upd H6 R0 (.lst (ks.map V.int ++ [.int (j : Int)]))) tz = some (.tup [.str z.1, .str z.2]) := by
        rw [upd_ne (ne_of ez6 eR6 (by intro w; cases w))]
        exact ez6
      generalize L2.upd H6 R0 (.lst (ks.map V.int ++ [.int (j : Int)])) = H7 at hd7 eR7 b07 ez7 ⊢
      have eT7 := b07 _ _ oT eT
      have tL7 := tL.bt b07 (hd.nl b07).tp off
      have jl2 : j < ts.length := by omega
      obtain ⟨tv, etv⟩ : ∃ tv, ts[j]? = some tv := ⟨_, List.getElem?_eq_getElem jl2⟩
      obtain ⟨t1, r, va, vb, et1, rfl, er, na, nb⟩ := tL7.get etv
      rw [etl] at et1
      cases et1
      obtain ⟨g1, g2⟩ := gt _ (List.mem_of_getElem? etl)
      have al := at_snoc (ks.map V.int) (V.int (j : Int))
      have dl4 : Dp K H7 (.ref r) (.list [W37.nD p.1, W37.nD p.2, .bool true]) := .lst (SqL.of er) (.cons (NmV.dp na) (.cons (NmV.dp nb) (.cons (.bl true) .nil)))
      have kb2 : ∀ e ∈ ks ++ [(j : Int)], 0 ≤ e ∧ e < 60 := fun e he => by
        rcases List.mem_append.mp he with w | w
        · exact kb e w
        · rw [List.mem_singleton.mp w]
          omega
      have kl2 : (ks ++ [(j : Int)]).length ≤ k + 1 := by rw [List.length_append]; exact Nat.succ_le_succ kl
      have em : ks.map V.int ++ [V.int (j : Int)] = (ks ++ [(j : Int)]).map V.int := by rw [List.map_append]; rfl
      by_cases c1 : p.1 = z
      · obtain ⟨tb, rfl, etb⟩ := nb
        refine ⟨_, rfl, _, rfl, 1, rfl, R0, _, -1, _, rfl, rfl, SqL.of eR7, al, TL, ts, _, .ref r, rfl, rfl, SqL.of eT7, atI_nat (j := j) etv, _, rfl, _, rfl, 1, rfl, R0, _, -1, _, rfl, rfl, SqL.of eR7, al, TL, ts, _, .ref r, rfl, rfl, SqL.of eT7, atI_nat (j := j) etv, .inl ⟨rfl, _, SqL.of er⟩, _, rfl, r, .ref tz, W37.nD z, _, 0, _, rfl, rfl, dl4, .tup (SqT.of ez7) (.cons (.str _) (.cons (.str _) .nil)), shaped_row g1 g2, gz.sh, rfl, by rw [eqv_nD, decide_eq_true c1], fun m z' hm => absurd hm (Nat.not_lt_zero _), 1, 0, rfl, rfl, r, _, 1, .ref tb, rfl, rfl, SqL.of er, atI_nat (j := 1) rfl, tb, p.2, ks ++ [(j : Int)], _, _, rfl, by rw [eR7, em], kl2, kb2, etb, g2, hd7.mono (by omega), b07⟩
      · have c2 : p.2 = z := on.resolve_left c1
        obtain ⟨ta, rfl, eta⟩ := na
        refine ⟨_, rfl, _, rfl, 1, rfl, R0, _, -1, _, rfl, rfl, SqL.of eR7, al, TL, ts, _, .ref r, rfl, rfl, SqL.of eT7, atI_nat (j := j) etv, _, rfl, _, rfl, 1, rfl, R0, _, -1, _, rfl, rfl, SqL.of eR7, al, TL, ts, _, .ref r, rfl, rfl, SqL.of eT7, atI_nat (j := j) etv, .inl ⟨rfl, _, SqL.of er⟩, _, rfl, r, .ref tz, W37.nD z, _, 1, _, rfl, rfl, dl4, .tup (SqT.of ez7) (.cons (.str _) (.cons (.str _) .nil)), shaped_row g1 g2, gz.sh, rfl, by rw [eqv_nD, decide_eq_true c2], fun m z' hm e => ?_, 1, 1, rfl, rfl, r, _, 0, .ref ta, rfl, rfl, SqL.of er, atI_nat (j := 0) rfl, ta, p.1, ks ++ [(j : Int)], _, _, rfl, by rw [eR7, em], kl2, kb2, eta, g1, hd7.mono (by omega), b07⟩
        obtain rfl : m = 0 := by omega
        cases e
        rw [eqv_nD, decide_eq_false c1]
    · rintro σ Hx ⟨tz, z, ks, c5, c6, rfl, eRx, kl, kb, ez, gz, hdx, bx⟩
      have kl : ks.length ≤ d.toNat := kl
      refine ⟨_, rfl, R0, _, rfl, .inl ⟨SqL.of eRx, fun tt nt => ⟨_, rfl, (by show 2 ≤ sizeLine; decide), fun Tf nTf => ?_⟩⟩⟩
      have s3 := same_upd nt (o := .tup (ks.map V.int))
      have e3 : (L2.upd Hx tt (.tup (ks.map V.int))) tt = some (.tup (ks.map V.int)) := upd_same
      generalize L2.upd Hx tt (.tup (ks.map V.int)) = H3 at s3 e3 nTf ⊢
      have s4 := same_upd nTf (o := .tup [.ref tt, .ref tz])
      have s5 := s3.trans s4
      exact q Tf tt (.ref tz) ks z _ upd_same (s4 _ _ e3) (by omega) kb ⟨tz, rfl, s5 _ _ ez⟩ gz ((hdx.same s5).mono (by omega)) (bx.trans (Bt.of s5))
end
end K16
set_option Elab.async false
set_option linter.all false
set_option maxRecDepth 100000
set_option maxHeartbeats 4000000
set_option pp.maxSteps 400
set_option pp.deepTerms false
namespace K16
open PySem PySem.Spec PyProof.Rows L2
open Xk Az Xnp
section
variable {P : Program} {w : World} {K : PySem.W.Frag} {mg : Str → Option Value} {base : Heap}
theorem nice_all {k n : Nat} : ∀ ds : List PyData, (∀ d ∈ ds, Nice d k n) → PyData.showableAll ds = true ∧ PyData.depthAll ds ≤ k ∧ piled (PyData.shownAll ds) ≤ ds.length * (n + 2)
  | [], _ => ⟨by simp [PyData.showableAll], by simp [PyData.depthAll], by simp [PyData.shownAll, piled_nil]⟩
  | d :: r, h => by
    obtain ⟨h1, h2, h3⟩ := nice_all r fun x hx => h x (List.mem_cons_of_mem _ hx)
    have hd := h d List.mem_cons_self
    refine ⟨by simp [PyData.showableAll, hd.sh, h1], ?_, ?_⟩
    · simp only [PyData.depthAll]
      have := hd.dp
      omega
    · simp only [PyData.shownAll, piled_cons, List.length_cons, Nat.succ_mul]
      have := hd.sz
      omega
theorem nice_tups {k n : Nat} (ds : List PyData) (h : ∀ d ∈ ds, Nice d k n) : Nice (.tuple ds) (k + 1) (ds.length * (n + 2) + 4) := by
  obtain ⟨h1, h2, h3⟩ := nice_all ds h
  refine ⟨by simp [PyData.showable, h1], ?_, ?_⟩
  · simp only [PyData.depth]
    omega
  · simp only [PyData.shown]
    have a := fmt_text (PyData.shownAll ds)
    omega
theorem nice_lsts {k n : Nat} (ds : List PyData) (h : ∀ d ∈ ds, Nice d k n) : Nice (.list ds) (k + 1) (ds.length * (n + 2) + 4) := by
  obtain ⟨h1, h2, h3⟩ := nice_all ds h
  refine ⟨by simp [PyData.showable, h1], ?_, ?_⟩
  · simp only [PyData.depth]
    omega
  · simp only [PyData.shown]
    have a := list_le (PyData.shownAll ds)
    omega
theorem lg31 {i : Int} (h0 : -(10 ^ 31) < i) (h1 : i < 10 ^ 31) : i.natAbs.log2 < 1920 := by
  have h2 : i.natAbs < 2 ^ 110 := by
    have : (10 : Int) ^ 31 < 2 ^ 110 := by decide
    omega
  exact Nat.lt_of_lt_of_le (PySem.Flt.log2_lt_of (by decide) h2) (by decide)
theorem tx31 {i : Int} (h0 : 0 ≤ i) (h1 : i < 10 ^ 31) : (Str.ofString (toString i)).length ≤ 40 := by
  have b : (10 : Int) ^ 31 < 10 ^ 39 := by decide
  exact Nat.le_trans (toString_length_le (v := i) h0 (k := 39) (by decide) (by omega)) (by decide)
theorem nice_nat {i : Int} (h0 : 0 ≤ i) (h1 : i < 10 ^ 31) : Nice (.int i) 0 40 := nice_int (lg31 (by omega) h1) (tx31 h0 h1)
/-- things whose data are E, apart from A -/
def Its (K : PySem.W.Frag) (E : PyData → Prop) (A : List Addr) (H : Hp) (xs : List V) : Prop := ∃ ds, DzAll K (offS A H) xs ds ∧ ∀ e ∈ ds, E e
section
variable {K : PySem.W.Frag} {E : PyData → Prop} {A : List Addr} {H H' : Hp} {xs ys : List V} {v w : V} {n m : Nat} {Q : VK}
theorem dz_cat {H : Hp} : ∀ {xs ys : List V} {ds es : List PyData}, DzAll K H xs ds → DzAll K H ys es → DzAll K H (xs ++ ys) (ds ++ es)
  | _, _, _, _, .nil, h => h
  | _, _, _, _, .cons a r, h => .cons a (dz_cat r h)
theorem dz_rev {H : Hp} : ∀ {xs : List V} {ds : List PyData}, DzAll K H xs ds → DzAll K H xs.reverse ds.reverse
  | _, _, .nil => .nil
  | _, _, .cons a r => by
    rw [List.reverse_cons, List.reverse_cons]
    exact dz_cat (dz_rev r) (.cons a .nil)
theorem dz_drop {H : Hp} : ∀ (k : Nat) {xs : List V} {ds : List PyData}, DzAll K H xs ds → DzAll K H (xs.drop k) (ds.drop k)
  | 0, _, _, h => h
  | _ + 1, _, _, .nil => .nil
  | k + 1, _, _, .cons _ r => dz_drop k r
theorem dz_take {H : Hp} : ∀ (k : Nat) {xs : List V} {ds : List PyData}, DzAll K H xs ds → DzAll K H (xs.take k) (ds.take k)
  | 0, _, _, _ => .nil
  | _ + 1, _, _, .nil => .nil
  | k + 1, _, _, .cons a r => .cons a (dz_take k r)
theorem Its.bt (h : Its K E A H xs) (s : Bt A H H') : Its K E A H' xs := h.imp fun _ z => ⟨z.1.same s.off, z.2⟩
theorem Its.one {d : PyData} (h : Dz K (offS A H) v d) (e : E d) : Its K E A H [v] := ⟨[d], .cons h .nil, fun x hx => by rw [List.mem_singleton.mp hx]; exact e⟩
theorem Its.app (h : Its K E A H xs) (g : Its K E A H ys) : Its K E A H (xs ++ ys) := by
  obtain ⟨ds, a, b⟩ := h
  obtain ⟨es, c, d⟩ := g
  exact ⟨ds ++ es, dz_cat a c, fun x hx => (List.mem_append.mp hx).elim (b x) (d x)⟩
theorem Its.cut (h : Its K E A H xs) (lo hi : Option Int) : Its K E A H (cutV xs lo hi) := by
  obtain ⟨ds, a, b⟩ := h
  exact ⟨_, dz_take _ (dz_drop _ a), fun x hx => b x (List.mem_of_mem_drop (List.mem_of_mem_take hx))⟩
theorem Its.rev (h : Its K E A H xs) : Its K E A H xs.reverse := by
  obtain ⟨ds, a, b⟩ := h
  exact ⟨_, dz_rev a, fun x hx => b x (List.mem_reverse.mp hx)⟩
theorem its_ints : ∀ (ks : List Int), (∀ k ∈ ks, E (.int k)) → Its K E A H (ks.map V.int)
  | [], _ => ⟨[], .nil, fun x hx => by cases hx⟩
  | k :: r, h => by
    obtain ⟨ds, a, b⟩ := its_ints r fun x hx => h x (List.mem_cons_of_mem _ hx)
    exact ⟨.int k :: ds, .cons (.int k) a, fun x hx => (List.mem_cons.mp hx).elim (fun z => by rw [z]; exact h k List.mem_cons_self) (b x)⟩
/-- lists stand at A -/
def Lsd (A : List Addr) (H : Hp) : Prop := ∀ a ∈ A, ∃ ys, H a = some (.lst ys)
theorem Lsd.same (h : Lsd A H) (s : L2.Same H H') : Lsd A H' := fun a ha => (h a ha).imp fun _ e => s _ _ e
theorem Lsd.no (h : Lsd A H) {p : Addr} (e : H p = some (.tup xs)) : p ∉ A := fun m => by
  obtain ⟨ys, z⟩ := h p m
  rw [e] at z
  cases z
theorem Hd.lsd {h o : Addr} {k : Int} (a : Hd h o k H) : Lsd [h, o] H := fun x hx => by
  obtain ⟨gs, m, c, r1, r2, _⟩ := a
  simp only [List.mem_cons, List.not_mem_nil, or_false] at hx
  rcases hx with z | z
  · rw [z]; exact ⟨_, r1⟩
  · rw [z]; exact ⟨_, r2⟩
/-- a tuple of such things -/
def GT (K : PySem.W.Frag) (E : PyData → Prop) (A : List Addr) (n : Nat) (H : Hp) (v : V) : Prop := ∃ (a : Addr) (xs : List V), v = .ref a ∧ H a = some (.tup xs) ∧ a ∉ A ∧ Its K E A H xs ∧ xs.length ≤ n
/-- a tuple or a list of such things -/
def GA (K : PySem.W.Frag) (E : PyData → Prop) (A : List Addr) (n : Nat) (H : Hp) (v : V) : Prop := GT K E A n H v ∨ ∃ (a : Addr) (xs : List V), v = .ref a ∧ H a = some (.lst xs) ∧ a ≠ sysModules ∧ a ∉ A ∧ Its K E A H xs ∧ xs.length ≤ n
theorem GT.bt (g : GT K E A n H v) (s : Bt A H H') : GT K E A n H' v := by
  obtain ⟨a, xs, e1, e2, e3, e4, e5⟩ := g
  exact ⟨a, xs, e1, s _ _ e3 e2, e3, e4.bt s, e5⟩
theorem GT.same (g : GT K E A n H v) (s : L2.Same H H') : GT K E A n H' v := g.bt (Bt.of s)
theorem GA.bt (g : GA K E A n H v) (s : Bt A H H') : GA K E A n H' v := by
  rcases g with g | ⟨a, xs, e1, e2, e3, e4, e5, e6⟩
  · exact .inl (g.bt s)
  · exact .inr ⟨a, xs, e1, s _ _ e4 e2, e3, e4, e5.bt s, e6⟩
theorem GA.same (g : GA K E A n H v) (s : L2.Same H H') : GA K E A n H' v := g.bt (Bt.of s)
theorem GT.mono (g : GT K E A n H v) (l : n ≤ m) : GT K E A m H v := by
  obtain ⟨a, xs, e1, e2, e3, e4, e5⟩ := g
  exact ⟨a, xs, e1, e2, e3, e4, Nat.le_trans e5 l⟩
theorem GT.ga (g : GT K E A n H v) (l : n ≤ m) : GA K E A m H v := .inl (g.mono l)
/-- the thing's data -/
def ThD (E : PyData → Prop) (n : Nat) (d : PyData) : Prop := ∃ ds, (d = .tuple ds ∨ d = .list ds) ∧ ds.length ≤ n ∧ ∀ e ∈ ds, E e
theorem GA.dz (g : GA K E A n H v) : ∃ d, Dz K (offS A H) v d ∧ ThD E n d := by
  rcases g with ⟨a, xs, rfl, e2, e3, ⟨ds, h1, h2⟩, e5⟩ | ⟨a, xs, rfl, e2, e3, e4, ⟨ds, h1, h2⟩, e6⟩
  · exact ⟨_, .tup (offS_at e3 e2) h1, ds, .inl rfl, by rw [← dz_len h1]; exact e5, h2⟩
  · exact ⟨_, .lst (offS_at e4 e2) e3 h1, ds, .inr rfl, by rw [← dz_len h1]; exact e6, h2⟩
theorem rd_cut {lo hi : Option Int} (ls : Lsd A H) (g : GT K E A n H v) (q : ∀ p H', L2.Same H H' → GT K E A n H' (.ref p) → Q (.ref p) H') : Xtu.rSlU v lo hi H Q := by
  obtain ⟨a, xs, rfl, e, na, it, l⟩ := g
  exact ⟨a, xs, rfl, e, fun p H' s e' => q p H' s ⟨p, _, rfl, e', (ls.same s).no e', (it.cut lo hi).bt (Bt.of s), Nat.le_trans (cutV_length xs lo hi) l⟩⟩
theorem last_ne {xs : List V} (h : xs ≠ []) : cutV xs (some (-1)) none ≠ [] := by
  have l : 0 < xs.length := List.length_pos_iff.mpr h
  intro z
  have := congrArg List.length z
  unfold cutV at this
  rw [HT.sIx_none, List.length_take, List.length_drop] at this
  have e : HT.sIx xs.length 0 (some (-1)) = xs.length - 1 := by
    show (if (-1 : Int) < 0 then ((-1 : Int) + (xs.length : Int)).toNat else min (-1 : Int).toNat xs.length) = _
    rw [if_pos (by decide)]
    omega
  rw [e] at this
  simp only [List.length_nil] at this
  omega
/-- the last one, once more -/
theorem rd_last {a : Addr} {xs : List V} (ls : Lsd A H) (e : H a = some (.tup xs)) (ne : xs ≠ []) (it : Its K E A H xs) (l : xs.length ≤ n) (q : ∀ p H', L2.Same H H' → GT K E A (2 * n) H' (.ref p) → Q (.ref p) H') (nn : n ≤ 1000) : Xtu.rSlU (.ref a) (some (-1)) none H (fun x H1 => Xrp.rRepU K x (.int 2) H1 Q) := by
  refine ⟨a, xs, rfl, e, fun p H1 s e1 => ⟨p, 2, _, rfl, rfl, e1, last_ne ne, by decide, by decide, Nat.le_trans (cutV_length _ _ _) (by omega), fun p2 H2 s2 e2 => q p2 H2 (s.trans s2) ⟨p2, _, rfl, e2, ((ls.same s).same s2).no e2, ?_, ?_⟩⟩⟩
  · have i1 := (it.cut (some (-1)) none).bt (Bt.of (s.trans s2))
    have : (List.replicate (2 : Int).toNat (cutV xs (some (-1)) none)).flatten = cutV xs (some (-1)) none ++ (cutV xs (some (-1)) none ++ []) := rfl
    rw [this, List.append_nil]
    exact i1.app i1
  · have : (List.replicate (2 : Int).toNat (cutV xs (some (-1)) none)).flatten = cutV xs (some (-1)) none ++ (cutV xs (some (-1)) none ++ []) := rfl
    rw [this, List.append_nil, List.length_append]
    have := cutV_length xs (some (-1)) none
    omega
theorem rd_cat (ls : Lsd A H) (g : GT K E A n H v) (k : GT K E A m H w) (l : n + m ≤ 3000) (q : ∀ p H', L2.Same H H' → GT K E A (n + m) H' (.ref p) → Q (.ref p) H') : Xtu.rCatU v w H Q := by
  obtain ⟨a, xs, rfl, e, na, it, l1⟩ := g
  obtain ⟨b, ys, rfl, f, nb, iu, l2⟩ := k
  exact ⟨a, b, xs, ys, rfl, rfl, e, f, Nat.le_trans (show xs.length + ys.length ≤ 3000 by omega) (by decide), fun p H' s e' => q p H' s ⟨p, _, rfl, e', (ls.same s).no e', (it.app iu).bt (Bt.of s), by rw [List.length_append]; omega⟩⟩
theorem rd_one {d : PyData} (ls : Lsd A H) (g : Dz K (offS A H) v d) (e : E d) (q : ∀ p H', L2.Same H H' → GT K E A 1 H' (.ref p) → Q (.ref p) H') : [v].length ≤ sizeLine ∧ ∀ p, H p = none → Q (.ref p) (L2.upd H p (.tup [v])) :=
  ⟨(by show 1 ≤ sizeLine; decide), fun p np => q p _ (same_upd np) ⟨p, _, rfl, upd_same, (ls.same (same_upd np)).no (xs := [v]) upd_same, (Its.one g e).bt (Bt.of (same_upd np)), Nat.le_refl _⟩⟩
theorem rd_list (na : ∀ l, H l = none → l ∉ A) (g : GT K E A n H v) (q : ∀ p H', L2.Same H H' → GA K E A n H' (.ref p) → Q (.ref p) H') : ∃ p ys, [v] = [V.ref p] ∧ SqT K H p ys ∧ ∀ l, H l = none → l ≠ sysModules → Q (.ref l) (L2.upd H l (.lst ys)) := by
  obtain ⟨a, xs, rfl, e, _, it, l1⟩ := g
  exact ⟨a, xs, rfl, SqT.of e, fun l nl ns => q l _ (same_upd nl) (.inr ⟨l, xs, rfl, upd_same, ns, na l nl, it.bt (Bt.of (same_upd nl)), l1⟩)⟩
theorem rd_rev (ls : Lsd A H) (g : GT K E A n H v) (q : ∀ p H', L2.Same H H' → GT K E A n H' (.ref p) → Q (.ref p) H') : ∃ (a : Addr) (xs : List V), v = .ref a ∧ H a = some (.tup xs) ∧ ∀ p H', L2.Same H H' → H' p = some (.tup xs.reverse) → Q (.ref p) H' := by
  obtain ⟨a, xs, rfl, e, na, it, l1⟩ := g
  exact ⟨a, xs, rfl, e, fun p H' s e' => q p H' s ⟨p, _, rfl, e', (ls.same s).no e', it.rev.bt (Bt.of s), by rw [List.length_reverse]; exact l1⟩⟩
end
end
end K16
set_option Elab.async false
set_option linter.all false
set_option maxRecDepth 100000
set_option maxHeartbeats 4000000
set_option pp.maxSteps 400
set_option pp.deepTerms false
namespace K16
open PySem PySem.Spec PyProof.Rows L2
open Xk Az Xnp
section
variable {P : Program} {w : World} {K : PySem.W.Frag} {mg : Str → Option Value} {base : Heap}
section
variable {K : PySem.W.Frag} {E : PyData → Prop} {A : List Addr} {H H' : Hp} {xs ys : List V} {v w : V} {n m : Nat} {Q : VK}
theorem Lsd.off (h : Lsd A H) {p : Addr} (e : H p = none) : p ∉ A := fun m => by
  obtain ⟨ys, z⟩ := h p m
  rw [e] at z
  cases z
theorem rd_cutN {σ : L2.St} {lo : Option Int} (ls : Lsd A H) (g : GT K E A n H v) (q : ∀ p H', L2.Same H H' → GT K E A n H' (.ref p) → Q (.ref p) H') : tNoPart σ H fun u H3 => Xtu.rSlU v lo u H3 Q := rd_cut ls g q
theorem rd_lastN {σ : L2.St} {a : Addr} {xs : List V} (ls : Lsd A H) (e : H a = some (.tup xs)) (ne : xs ≠ []) (it : Its K E A H xs) (l : xs.length ≤ n) (q : ∀ p H', L2.Same H H' → GT K E A (2 * n) H' (.ref p) → Q (.ref p) H') (nn : n ≤ 1000) : tNoPart σ H fun u H3 => Xtu.rSlU (.ref a) (some (-1)) u H3 (fun x H1 => tC (.int 2) σ H1 fun y H2 => Xrp.rRepU K x y H2 Q) := rd_last ls e ne it l q nn
theorem GA.mono (g : GA K E A n H v) (l : n ≤ m) : GA K E A m H v := by
  rcases g with g | ⟨a, xs, e1, e2, e3, e4, e5, e6⟩
  · exact .inl (g.mono l)
  · exact .inr ⟨a, xs, e1, e2, e3, e4, e5, Nat.le_trans e6 l⟩
theorem GT.its {a : Addr} (g : GT K E A n H (.ref a)) (e : H a = some (.tup xs)) : Its K E A H xs := by
  obtain ⟨b, ys, e1, e2, e3, e4, e5⟩ := g
  cases e1
  rw [e] at e2
  cases e2
  exact e4
theorem GT.len {a : Addr} (g : GT K E A n H (.ref a)) (e : H a = some (.tup xs)) : xs.length ≤ n := by
  obtain ⟨b, ys, e1, e2, e3, e4, e5⟩ := g
  cases e1
  rw [e] at e2
  cases e2
  exact e5
end
theorem gt_one {K : PySem.W.Frag} {E : PyData → Prop} {A : List Addr} {H : Hp} {v : V} {p : Addr} (ls : Lsd A H) (np : H p = none) (i : Its K E A H [v]) : GT K E A 1 (L2.upd H p (.tup [v])) (.ref p) :=
  ⟨p, _, rfl, upd_same, ls.off np, i.bt (Bt.of (same_upd np)), Nat.le_refl _⟩
theorem ga_list {K : PySem.W.Frag} {E : PyData → Prop} {A : List Addr} {H : Hp} {xs : List V} {p : Addr} {n : Nat} (ls : Lsd A H) (np : H p = none) (ns : p ≠ sysModules) (i : Its K E A H xs) (l : xs.length ≤ n) : GA K E A n (L2.upd H p (.lst xs)) (.ref p) :=
  .inr ⟨p, xs, rfl, upd_same, ns, ls.off np, i.bt (Bt.of (same_upd np)), l⟩
theorem gt_rev {K : PySem.W.Frag} {E : PyData → Prop} {A : List Addr} {H H' : Hp} {xs : List V} {p : Addr} {n : Nat} (ls : Lsd A H) (i : Its K E A H xs) (l : xs.length ≤ n) (s : L2.Same H H') (e : H' p = some (.tup xs.reverse)) : GT K E A n H' (.ref p) :=
  ⟨p, _, rfl, e, (ls.same s).no e, i.rev.bt (Bt.of s), by rw [List.length_reverse]; exact l⟩
theorem shaped_tints (gs : List Int) : SeqAt.shaped (.tuple (gs.map PyData.int)) = true := by
  unfold SeqAt.shaped
  have := depth_ints gs
  have h1 : (PyData.tuple (gs.map PyData.int)).canLay0 = true := by simp only [PyData.canLay0]; exact lay_ints gs
  have h2 : (PyData.tuple (gs.map PyData.int)).depth ≤ 64 := by simp only [PyData.depth]; omega
  rw [h1, decide_eq_true h2]
  rfl
theorem eqv_tnil : PyData.eqv (.tuple []) (.tuple []) = true := by simp [PyData.eqv, PyData.eqvAll]
theorem lsd3 {h o D : Addr} {k : Int} {H : Hp} {zs : List V} (a : Hd h o k H) (e : H D = some (.lst zs)) : Lsd [h, o, D] H := fun x hx => by
  simp only [List.mem_cons, List.not_mem_nil, or_false] at hx
  rcases hx with z | z | z
  · exact a.lsd x (by rw [z]; simp)
  · exact a.lsd x (by rw [z]; simp)
  · rw [z]; exact ⟨_, e⟩
theorem off3 {h o D x : Addr} (n : x ∉ [h, o, D]) : x ∉ [h, o] := fun m => n (by
  simp only [List.mem_cons, List.not_mem_nil, or_false] at m ⊢
  exact m.elim .inl fun z => .inr (.inl z))
theorem Bt.w3 {h o D : Addr} {H H' : Hp} (s : Bt [h, o] H H') : Bt [h, o, D] H H' := fun x u n e => s x u (off3 n) e
def RE (e : PyData) : Prop := Nice e 1 60
def spRowO (K : PySem.W.Frag) : Sp := fun vs H Q _ => ∃ (h o R D : Addr) (many n : Int) (ks : List Int) (dys : List V), vs = [.ref h, .ref R, .int many] ∧ H D = some (.lst dys) ∧ D ∉ [h, o] ∧ 0 < many ∧ many < 1000 ∧ Hd h o n H ∧ n + 100 ≤ far ∧ H R = some (.tup (ks.map V.int)) ∧ ks.length ≤ 200 ∧ (∀ k ∈ ks, 0 ≤ k ∧ k < 1000) ∧
  ∀ (v : V) H', GA K RE [h, o, D] 900 H' v → Hd h o (n + 10) H' → Bt [h, o] H H' → Q v H'
theorem ok_rowo {f : Addr} {fd : FuncData} (D : Df K mg "_law_row_otherwise" ["_law_hand_here", "_law_row", "_law_many"] sRowOtherwise f fd) (T : Txt K mg) (cT : Ca P w K mg base 1 "_law_take" ["_law_hand_here", "_law_many"] spTake) (cP : Ca P w K mg base 2 "_law_pick" ["_law_hand_here", "_law_some"] spPick) : FnOk P w K mg base CX0 3 f fd ["_law_hand_here", "_law_row", "_law_many"] (spRowO K) := by
  refine D.fn.ok scRowOtherwise (fun vs H Q E h => ?_) (fun cdv A outer s H vs Q E hr h => ?_)
  · obtain ⟨h, o, R, D, many, n, ks, dys, rfl, eD, oD, m0, m1, hd, hn, eR, kl, kb, q⟩ := h
    rfl
  · obtain ⟨h, o, R, D, many, n, ks, dys, rfl, eD, oD, m0, m1, hd, hn, eR, kl, kb, q⟩ := h
    refine ⟨_, (pss_cons (ps_par (i := 3) (j := 4) (by rfl) scRowOtherwise.nd rfl rfl (by decide) rfl rfl (pa_cons (pe_ca cT hr (by decide) (by rfl) (pa_cons (pv 0) (pa_cons pe_int pa_nil))) (pa_cons (pe_ca cT hr (by decide) (by rfl) (pa_cons (pv 0) (pa_cons (pe_callB (call_max2 (by rfl)) (by rfl) T.max (by decide +kernel) (pa_cons pe_int (pa_cons (pe_callB call_len_seq (by rfl) T.len PySem.boot_len (pa_cons (pv 1) pa_nil)) pa_nil))) pa_nil))) pa_nil)) (by rfl))
      (pss_cons (ps_set (i := 5) scRowOtherwise.nd rfl (.inl rfl) (pe_ca cP hr (by decide) (by rfl) (pa_cons (pv 0) (pa_cons (pe_lst (pa_cons (pe_ca cT hr (by decide) (by rfl) (pa_cons (pv 0) (pa_cons (pv 2) pa_nil))) (pa_cons (pe_un un_neg pe_int) (pa_cons (pv 2) (pa_cons pe_bl (pa_cons pe_bl (pa_cons pe_non (pa_cons pe_str (pa_cons (pe_tup (pa_cons pe_int pa_nil)) (pa_cons (pe_op op_pow pe_int pe_int) pa_nil)))))))))) pa_nil))))
      (pss_cons (ps_if (PW.pt (pw_or (pt_cmpR (op_eqD hr.units) (pv 1) (pe_tup pa_nil) (nomark _)) (pw_or1 (pt_cmpR op_eq (pv 3) pe_int (nomark _))))) (pss_one (ps_ret (pe_op Xtu.op_catU (pe_op Xtu.op_catU (pe_slice Xtu.sl_tupU (pv 1) po_none (po_some (pv 4))) (pe_tup (pa_cons (pv 5) pa_nil))) (pe_slice Xtu.sl_tupU (pv 1) (po_some (pv 4)) po_none)))) pss_nil)
      (pss_cons (ps_if (pt_cmpR op_eq (pv 3) pe_int (nomark _)) (pss_one (ps_ret (pe_op Xtu.op_catU (pe_op Xtu.op_catU (pe_slice Xtu.sl_tupU (pv 1) po_none (po_some (pv 4))) (pe_tup (pa_cons (pv 5) pa_nil))) (pe_slice Xtu.sl_tupU (pv 1) (po_some (pe_op op_add (pv 4) pe_int)) po_none)))) pss_nil)
      (pss_cons (ps_set (i := 6) scRowOtherwise.nd rfl (.inl rfl) (pe_lst (pa_cons (pe_op Xtu.op_catU (pe_slice Xtu.sl_tupU (pv 1) po_none (po_some (pv 4))) (pe_slice Xtu.sl_tupU (pv 1) (po_some (pe_op op_add (pv 4) pe_int)) po_none)) (pa_cons (Xtu.pe_revN (pv 1)) (pa_cons (pe_op Xtu.op_catU (pe_slice Xtu.sl_tupU (pv 1) po_none (po_some (pe_op op_add (pv 4) pe_int))) (pe_slice Xtu.sl_tupU (pv 1) (po_some (pv 4)) po_none)) (pa_cons (pe_callTy Xtu.cr_listT (by rfl) T.list (by decide +kernel) (pa_cons (pv 1) pa_nil)) (pa_cons (pe_op Xtu.op_catU (pv 1) (pe_op Xrp.op_repU (pe_slice Xtu.sl_tupU (pv 1) (po_some (pe_un un_neg pe_int)) po_none) pe_int)) pa_nil)))))))
      (pss_one (ps_ret (pe_ix ix_list (pe_op op_cat (pv 6) (pe_lst (pa_cons (pe_op Xtu.op_catU (pe_op Xtu.op_catU (pe_slice Xtu.sl_tupU (pv 1) po_none (po_some (pv 4))) (pe_tup (pa_cons (pe_op op_add (pe_ix ix_tup (pv 1) (pv 4) (fun _ _ => rfl)) pe_int) pa_nil))) (pe_slice Xtu.sl_tupU (pv 1) (po_some (pe_op op_add (pv 4) pe_int)) po_none)) pa_nil))) (pe_op op_sub (pv 3) pe_int) (fun _ _ => rfl))))))))), ?_⟩
    have fr : n + 100 ≤ 1000000 := hn
    have oR2 : R ∉ [h, o] := hd.lsd.no eR
    have oR : R ∉ [h, o, D] := (lsd3 hd eD).no eR
    have it0 : Its K RE [h, o, D] H (ks.map V.int) := its_ints ks fun k hk => (nice_nat (kb k hk).1 (Int.lt_trans (kb k hk).2 (by decide))).mono (by decide) (by decide)
    have lk : (ks.map V.int).length ≤ 200 := by rw [List.length_map]; exact kl
    refine ⟨_, rfl, h, o, 8, n, rfl, by decide, by decide, hd, by show n ≤ 1000000; omega, fun dw H1 w0 w1 h1 b1 => ?_⟩
    have eR1 := b1 _ _ oR2 eR
    refine ⟨_, rfl, _, rfl, R, _, rfl, .inr (SqT.of eR1), 1, _, rfl, h, o, _, n + 1, rfl, (by split <;> omega), (by split <;> omega), h1, by show n + 1 ≤ 1000000; omega, fun da H2 a0 a1 h2 b2 => ⟨_, _, rfl, ?_⟩⟩
    have a2 : ks ≠ [] → da < (ks.length : Int) := fun z => by
      have l : 0 < ks.length := List.length_pos_iff.mpr z
      rw [List.length_map] at a1
      split at a1 <;> omega
    refine ⟨_, rfl, _, rfl, _, rfl, h, o, many, n + 1 + 1, rfl, m0, by omega, h2, by show n + 1 + 1 ≤ 1000000; omega, fun dt H3 t0 t1 h3 b3 => ?_⟩
    refine ⟨1, rfl, _, rfl, (by show 1 ≤ sizeLine; decide), fun Z nZ => ⟨10, 29, rfl, rfl, ⟨by decide, by decide, by decide⟩, (by show 9 ≤ sizeLine; decide), fun Lo nLo => ?_⟩⟩
    have sZ := same_upd nZ (o := .tup [.int 0])
    have eZ : (L2.upd H3 Z (.tup [.int 0])) Z = some (.tup [.int 0]) := upd_same
    have oZ : Z ∉ [h, o] := h3.fresh nZ
    have oZ3 : Z ∉ [h, o, D] := (lsd3 h3 (b3 _ _ oD (b2 _ _ oD (b1 _ _ oD eD)))).off nZ
    generalize L2.upd H3 Z (.tup [.int 0]) = H4 at sZ eZ nLo ⊢
    have h4 := h3.same sZ
    have oL : Lo ∉ [h, o] := h4.fresh nLo
    have sLo := same_upd nLo (o := .lst [.int dt, .int (-1), .int many, .bl true, .bl false, .non, .str "0", .ref Z, .int (10 ^ (29 : Int).toNat)])
    have eLo : (L2.upd H4 Lo (.lst [.int dt, .int (-1), .int many, .bl true, .bl false, .non, .str "0", .ref Z, .int (10 ^ (29 : Int).toNat)])) Lo = some (.lst [.int dt, .int (-1), .int many, .bl true, .bl false, .non, .str "0", .ref Z, .int (10 ^ (29 : Int).toNat)]) := upd_same
    refine ⟨h, o, n + 1 + 1 + 1, _, rfl, h4.same sLo, by show n + 1 + 1 + 1 ≤ 1000000; omega, .inl ⟨Lo, _, rfl, eLo, oL, by simp, by show 9 < 1000; decide, fun vo H5 mv hh b5 => ?_⟩⟩
    have eZ5 : H5 Z = some (.tup [.int 0]) := b5 _ _ oZ (sLo _ _ eZ)
    have bt : Bt [h, o] H H5 := ((((b1.trans b2).trans b3).trans (Bt.of sZ)).trans (Bt.of sLo)).trans b5
    replace eR := bt _ _ oR2 eR
    replace eD := bt _ _ oD eD
    have ls := lsd3 hh eD
    obtain ⟨de, zo, eo⟩ : ∃ de, Dz K (offS [h, o, D] H5) vo de ∧ RE de := by
      simp only [List.mem_cons, List.not_mem_nil, or_false] at mv
      rcases mv with rfl | rfl | rfl | rfl | rfl | rfl | rfl | rfl | rfl
      · exact ⟨_, .int _, (nice_nat t0 (Int.lt_trans t1 (Int.lt_trans m1 (by decide)))).mono (by decide) (by decide)⟩
      · exact ⟨.int (-1), .int _, nice_int (i := -1) (n := 60) (by decide) (by decide +kernel) |>.mono (by decide) (Nat.le_refl _)⟩
      · exact ⟨_, .int _, (nice_nat (Int.le_of_lt m0) (Int.lt_trans m1 (by decide))).mono (by decide) (by decide)⟩
      · exact ⟨_, .bl _, (nice_bool true).mono (by decide) (by decide)⟩
      · exact ⟨_, .bl _, (nice_bool false).mono (by decide) (by decide)⟩
      · exact ⟨_, .non, nice_none.mono (by decide) (by decide)⟩
      · exact ⟨_, .str _, (nice_str (n := 10) (by decide +kernel)).mono (by decide) (by decide)⟩
      · exact ⟨_, .tup (offS_at oZ3 eZ5) (.cons (.int 0) .nil), (nice_tup1 (nice_nat (i := 0) (by decide) (by decide))).mono (by decide) (by decide)⟩
      · exact ⟨_, .int _, (nice_nat (by decide) (by decide)).mono (by decide) (by decide)⟩
    have g0 : GT K RE [h, o, D] 200 H5 (.ref R) := ⟨R, _, rfl, eR, oR, it0.bt bt.w3, lk⟩
    clear oZ3 sLo eLo nLo oL b5 mv h4 eZ5 eZ sZ oZ nZ h3 b3 h2 b2 h1 b1 eR1 it0 a1 hd
    obtain ⟨D0, eD0⟩ : ∃ D0, D0 = ks.map PyData.int := ⟨_, rfl⟩
    refine ⟨_, rfl, (by show 0 ≤ sizeLine; decide), fun zz nzz => ?_⟩
    have szz := same_upd nzz (o := .tup [])
    have ezz : (L2.upd H5 zz (.tup [])) zz = some (.tup []) := upd_same
    generalize L2.upd H5 zz (.tup []) = H6 at szz ezz ⊢
    replace ls := ls.same szz
    replace g0 := g0.same szz
    replace zo := zo.same (Bt.of szz).off
    replace hh := hh.same szz
    replace bt := bt.trans (Bt.of szz)
    replace eR := szz _ _ eR
    refine ⟨.tuple (ks.map PyData.int), .tuple [], .tup (SqT.of eR) (dpAll_ints ks), .tup (SqT.of ezz) .nil, shaped_tints ks, shaped_tints [], _, rfl, ?_⟩
    rw [← eD0]
    have nx : D0 ≠ [] → ks.map V.int ≠ [] := fun z w => z (by
      have : ks = [] := List.map_eq_nil_iff.mp w
      rw [eD0, this]
      rfl)
    have atk : D0 ≠ [] → ∃ k0, atI (ks.map V.int) da = some (.int k0) ∧ RE (.int (k0 + 1)) := fun z => by
      have kn : ks ≠ [] := fun w => z (by rw [eD0, w]; rfl)
      have := a2 kn
      obtain ⟨i, rfl⟩ : ∃ i : Nat, da = (i : Int) := ⟨da.toNat, by omega⟩
      have il : i < ks.length := by omega
      have hb := kb ks[i] (List.getElem_mem il)
      exact ⟨ks[i], atI_nat (by rw [List.getElem?_map, List.getElem?_eq_getElem il]; rfl), (nice_nat (by omega) (Int.lt_trans (show ks[i] + 1 < 2000 by omega) (by decide))).mono (by decide) (by decide)⟩
    cases c0 : PyData.eqv (.tuple D0) (.tuple []) with
    | true =>
      refine iteT (iteT ?_)
      refine ⟨_, rfl, _, rfl, da, rfl, rd_cut ls g0 fun p1 J1 s1 ga1 => ?_⟩
      replace ls := ls.same s1
      replace g0 := g0.same s1
      replace zo := zo.same (Bt.of s1).off
      replace hh := hh.same s1
      replace bt := bt.trans (Bt.of s1)
      replace eR := s1 _ _ eR
      refine ⟨_, rfl, (by show 1 ≤ sizeLine; decide), fun p2 np2 => ?_⟩
      have s2 := same_upd np2 (o := .tup [vo])
      have ga2 := gt_one ls np2 (Its.one (K := K) (E := RE) zo eo)
      replace ls := ls.same s2
      replace g0 := g0.same s2
      replace ga1 := ga1.same s2
      replace zo := zo.same (Bt.of s2).off
      replace hh := hh.same s2
      replace bt := bt.trans (Bt.of s2)
      replace eR := s2 _ _ eR
      refine rd_cat ls ga1 ga2 (by decide) fun p3 J3 s3 ga3 => ?_
      replace ls := ls.same s3
      replace g0 := g0.same s3
      replace ga1 := ga1.same s3
      replace ga2 := ga2.same s3
      replace zo := zo.same (Bt.of s3).off
      replace hh := hh.same s3
      replace bt := bt.trans (Bt.of s3)
      replace eR := s3 _ _ eR
      refine ⟨_, rfl, _, rfl, da, rfl, rd_cutN ls g0 fun p4 J4 s4 ga4 => ?_⟩
      replace ls := ls.same s4
      replace g0 := g0.same s4
      replace ga1 := ga1.same s4
      replace ga2 := ga2.same s4
      replace ga3 := ga3.same s4
      replace zo := zo.same (Bt.of s4).off
      replace hh := hh.same s4
      replace bt := bt.trans (Bt.of s4)
      replace eR := s4 _ _ eR
      refine rd_cat ls ga3 ga4 (by decide) fun p5 J5 s5 ga5 => ?_
      replace ls := ls.same s5
      replace g0 := g0.same s5
      replace ga1 := ga1.same s5
      replace ga2 := ga2.same s5
      replace ga3 := ga3.same s5
      replace ga4 := ga4.same s5
      replace zo := zo.same (Bt.of s5).off
      replace hh := hh.same s5
      replace bt := bt.trans (Bt.of s5)
      replace eR := s5 _ _ eR
      exact q _ _ (ga5.ga (by decide)) (hh.mono (by omega)) bt
    | false =>
      refine iteF ⟨_, rfl, rfl, _, rfl, ?_⟩
      have ne : D0 ≠ [] := fun z => by rw [z, eqv_tnil] at c0; cases c0
      replace nx := nx ne
      replace atk := atk ne
      by_cases w_0 : dw = 0
      · rw [show decide (V.int dw = V.int 0) = true from decide_eq_true (by rw [w_0])]
        refine iteT ?_
        refine ⟨_, rfl, _, rfl, da, rfl, rd_cut ls g0 fun p1 J1 s1 ga1 => ?_⟩
        replace ls := ls.same s1
        replace g0 := g0.same s1
        replace zo := zo.same (Bt.of s1).off
        replace hh := hh.same s1
        replace bt := bt.trans (Bt.of s1)
        replace eR := s1 _ _ eR
        refine ⟨_, rfl, (by show 1 ≤ sizeLine; decide), fun p2 np2 => ?_⟩
        have s2 := same_upd np2 (o := .tup [vo])
        have ga2 := gt_one ls np2 (Its.one (K := K) (E := RE) zo eo)
        replace ls := ls.same s2
        replace g0 := g0.same s2
        replace ga1 := ga1.same s2
        replace zo := zo.same (Bt.of s2).off
        replace hh := hh.same s2
        replace bt := bt.trans (Bt.of s2)
        replace eR := s2 _ _ eR
        refine rd_cat ls ga1 ga2 (by decide) fun p3 J3 s3 ga3 => ?_
        replace ls := ls.same s3
        replace g0 := g0.same s3
        replace ga1 := ga1.same s3
        replace ga2 := ga2.same s3
        replace zo := zo.same (Bt.of s3).off
        replace hh := hh.same s3
        replace bt := bt.trans (Bt.of s3)
        replace eR := s3 _ _ eR
        refine ⟨_, rfl, _, rfl, da, rfl, rd_cutN ls g0 fun p4 J4 s4 ga4 => ?_⟩
        replace ls := ls.same s4
        replace g0 := g0.same s4
        replace ga1 := ga1.same s4
        replace ga2 := ga2.same s4
        replace ga3 := ga3.same s4
        replace zo := zo.same (Bt.of s4).off
        replace hh := hh.same s4
        replace bt := bt.trans (Bt.of s4)
        replace eR := s4 _ _ eR
        refine rd_cat ls ga3 ga4 (by decide) fun p5 J5 s5 ga5 => ?_
        replace ls := ls.same s5
        replace g0 := g0.same s5
        replace ga1 := ga1.same s5
        replace ga2 := ga2.same s5
        replace ga3 := ga3.same s5
        replace ga4 := ga4.same s5
        replace zo := zo.same (Bt.of s5).off
        replace hh := hh.same s5
        replace bt := bt.trans (Bt.of s5)
        replace eR := s5 _ _ eR
        exact q _ _ (ga5.ga (by decide)) (hh.mono (by omega)) bt
      rw [show decide (V.int dw = V.int 0) = false from decide_eq_false (fun z => w_0 (by injection z))]
      refine iteF ?_
      refine ⟨_, rfl, rfl, _, rfl, ?_⟩
      by_cases w_1 : dw = 1
      · rw [show decide (V.int dw = V.int 1) = true from decide_eq_true (by rw [w_1])]
        refine iteT ?_
        refine ⟨_, rfl, _, rfl, da, rfl, rd_cut ls g0 fun p1 J1 s1 ga1 => ?_⟩
        replace ls := ls.same s1
        replace g0 := g0.same s1
        replace zo := zo.same (Bt.of s1).off
        replace hh := hh.same s1
        replace bt := bt.trans (Bt.of s1)
        replace eR := s1 _ _ eR
        refine ⟨_, rfl, (by show 1 ≤ sizeLine; decide), fun p2 np2 => ?_⟩
        have s2 := same_upd np2 (o := .tup [vo])
        have ga2 := gt_one ls np2 (Its.one (K := K) (E := RE) zo eo)
        replace ls := ls.same s2
        replace g0 := g0.same s2
        replace ga1 := ga1.same s2
        replace zo := zo.same (Bt.of s2).off
        replace hh := hh.same s2
        replace bt := bt.trans (Bt.of s2)
        replace eR := s2 _ _ eR
        refine rd_cat ls ga1 ga2 (by decide) fun p3 J3 s3 ga3 => ?_
        replace ls := ls.same s3
        replace g0 := g0.same s3
        replace ga1 := ga1.same s3
        replace ga2 := ga2.same s3
        replace zo := zo.same (Bt.of s3).off
        replace hh := hh.same s3
        replace bt := bt.trans (Bt.of s3)
        replace eR := s3 _ _ eR
        refine ⟨_, rfl, _, rfl, da, 1, rfl, rfl, _, rfl, rd_cutN ls g0 fun p4 J4 s4 ga4 => ?_⟩
        replace ls := ls.same s4
        replace g0 := g0.same s4
        replace ga1 := ga1.same s4
        replace ga2 := ga2.same s4
        replace ga3 := ga3.same s4
        replace zo := zo.same (Bt.of s4).off
        replace hh := hh.same s4
        replace bt := bt.trans (Bt.of s4)
        replace eR := s4 _ _ eR
        refine rd_cat ls ga3 ga4 (by decide) fun p5 J5 s5 ga5 => ?_
        replace ls := ls.same s5
        replace g0 := g0.same s5
        replace ga1 := ga1.same s5
        replace ga2 := ga2.same s5
        replace ga3 := ga3.same s5
        replace ga4 := ga4.same s5
        replace zo := zo.same (Bt.of s5).off
        replace hh := hh.same s5
        replace bt := bt.trans (Bt.of s5)
        replace eR := s5 _ _ eR
        exact q _ _ (ga5.ga (by decide)) (hh.mono (by omega)) bt
      rw [show decide (V.int dw = V.int 1) = false from decide_eq_false (fun z => w_1 (by injection z))]
      refine iteF ?_
      refine ⟨_, rfl, _, rfl, da, rfl, rd_cut ls g0 fun p1 J1 s1 ga1 => ?_⟩
      replace ls := ls.same s1
      replace g0 := g0.same s1
      replace zo := zo.same (Bt.of s1).off
      replace hh := hh.same s1
      replace bt := bt.trans (Bt.of s1)
      replace eR := s1 _ _ eR
      refine ⟨_, rfl, _, rfl, da, 1, rfl, rfl, _, rfl, rd_cutN ls g0 fun p2 J2 s2 ga2 => ?_⟩
      replace ls := ls.same s2
      replace g0 := g0.same s2
      replace ga1 := ga1.same s2
      replace zo := zo.same (Bt.of s2).off
      replace hh := hh.same s2
      replace bt := bt.trans (Bt.of s2)
      replace eR := s2 _ _ eR
      refine rd_cat ls ga1 ga2 (by decide) fun p3 J3 s3 gx1 => ?_
      replace ls := ls.same s3
      replace g0 := g0.same s3
      replace ga1 := ga1.same s3
      replace ga2 := ga2.same s3
      replace zo := zo.same (Bt.of s3).off
      replace hh := hh.same s3
      replace bt := bt.trans (Bt.of s3)
      replace eR := s3 _ _ eR
      refine ⟨_, rfl, R, _, rfl, eR, fun p4 J4 s4 e4 => ?_⟩
      have gx2 := gt_rev ls (g0.its eR) (g0.len eR) s4 e4
      replace ls := ls.same s4
      replace g0 := g0.same s4
      replace ga1 := ga1.same s4
      replace ga2 := ga2.same s4
      replace gx1 := gx1.same s4
      replace zo := zo.same (Bt.of s4).off
      replace hh := hh.same s4
      replace bt := bt.trans (Bt.of s4)
      replace eR := s4 _ _ eR
      refine ⟨_, rfl, _, rfl, da, 1, rfl, rfl, _, rfl, rd_cut ls g0 fun p5 J5 s5 ga3 => ?_⟩
      replace ls := ls.same s5
      replace g0 := g0.same s5
      replace ga1 := ga1.same s5
      replace ga2 := ga2.same s5
      replace gx1 := gx1.same s5
      replace gx2 := gx2.same s5
      replace zo := zo.same (Bt.of s5).off
      replace hh := hh.same s5
      replace bt := bt.trans (Bt.of s5)
      replace eR := s5 _ _ eR
      refine ⟨_, rfl, _, rfl, da, rfl, rd_cutN ls g0 fun p6 J6 s6 ga4 => ?_⟩
      replace ls := ls.same s6
      replace g0 := g0.same s6
      replace ga1 := ga1.same s6
      replace ga2 := ga2.same s6
      replace gx1 := gx1.same s6
      replace gx2 := gx2.same s6
      replace ga3 := ga3.same s6
      replace zo := zo.same (Bt.of s6).off
      replace hh := hh.same s6
      replace bt := bt.trans (Bt.of s6)
      replace eR := s6 _ _ eR
      refine rd_cat ls ga3 ga4 (by decide) fun p7 J7 s7 gx3 => ?_
      replace ls := ls.same s7
      replace g0 := g0.same s7
      replace ga1 := ga1.same s7
      replace ga2 := ga2.same s7
      replace gx1 := gx1.same s7
      replace gx2 := gx2.same s7
      replace ga3 := ga3.same s7
      replace ga4 := ga4.same s7
      replace zo := zo.same (Bt.of s7).off
      replace hh := hh.same s7
      replace bt := bt.trans (Bt.of s7)
      replace eR := s7 _ _ eR
      refine ⟨_, rfl, R, _, rfl, SqT.of eR, fun p8 np8 ns8 => ?_⟩
      have s8 := same_upd np8 (o := .lst (ks.map V.int))
      have gx4 := ga_list ls np8 ns8 (g0.its eR) (g0.len eR)
      replace ls := ls.same s8
      replace g0 := g0.same s8
      replace ga1 := ga1.same s8
      replace ga2 := ga2.same s8
      replace gx1 := gx1.same s8
      replace gx2 := gx2.same s8
      replace ga3 := ga3.same s8
      replace ga4 := ga4.same s8
      replace gx3 := gx3.same s8
      replace zo := zo.same (Bt.of s8).off
      replace hh := hh.same s8
      replace bt := bt.trans (Bt.of s8)
      replace eR := s8 _ _ eR
      refine ⟨_, rfl, _, rfl, 1, rfl, -1, rfl, rd_lastN (K := K) (E := RE) (n := 200) ls eR nx (g0.its eR) (g0.len eR) (fun p9 J9 s9 ga5 => ?_) (by decide)⟩
      replace ls := ls.same s9
      replace g0 := g0.same s9
      replace ga1 := ga1.same s9
      replace ga2 := ga2.same s9
      replace gx1 := gx1.same s9
      replace gx2 := gx2.same s9
      replace ga3 := ga3.same s9
      replace ga4 := ga4.same s9
      replace gx3 := gx3.same s9
      replace gx4 := gx4.same s9
      replace zo := zo.same (Bt.of s9).off
      replace hh := hh.same s9
      replace bt := bt.trans (Bt.of s9)
      replace eR := s9 _ _ eR
      refine rd_cat ls g0 ga5 (by decide) fun p10 J10 s10 gx5 => ?_
      replace ls := ls.same s10
      replace g0 := g0.same s10
      replace ga1 := ga1.same s10
      replace ga2 := ga2.same s10
      replace gx1 := gx1.same s10
      replace gx2 := gx2.same s10
      replace ga3 := ga3.same s10
      replace ga4 := ga4.same s10
      replace gx3 := gx3.same s10
      replace gx4 := gx4.same s10
      replace ga5 := ga5.same s10
      replace zo := zo.same (Bt.of s10).off
      replace hh := hh.same s10
      replace bt := bt.trans (Bt.of s10)
      replace eR := s10 _ _ eR
      refine ⟨(by show 5 ≤ sizeLine; decide), fun L nL => ?_⟩
      have eL : (L2.upd J10 L (.lst [.ref p3, .ref p4, .ref p7, .ref p8, .ref p10])) L = some (.lst [.ref p3, .ref p4, .ref p7, .ref p8, .ref p10]) := upd_same
      have sL := same_upd nL (o := .lst [.ref p3, .ref p4, .ref p7, .ref p8, .ref p10])
      replace ls := ls.same sL
      replace g0 := g0.same sL
      replace ga1 := ga1.same sL
      replace ga2 := ga2.same sL
      replace gx1 := gx1.same sL
      replace gx2 := gx2.same sL
      replace ga3 := ga3.same sL
      replace ga4 := ga4.same sL
      replace gx3 := gx3.same sL
      replace gx4 := gx4.same sL
      replace ga5 := ga5.same sL
      replace gx5 := gx5.same sL
      replace zo := zo.same (Bt.of sL).off
      replace hh := hh.same sL
      replace bt := bt.trans (Bt.of sL)
      replace eR := sL _ _ eR
      refine ⟨_, rfl, _, rfl, _, rfl, da, rfl, rd_cut ls g0 fun p11 J11 s11 ga6 => ?_⟩
      replace ls := ls.same s11
      replace g0 := g0.same s11
      replace ga1 := ga1.same s11
      replace ga2 := ga2.same s11
      replace gx1 := gx1.same s11
      replace gx2 := gx2.same s11
      replace ga3 := ga3.same s11
      replace ga4 := ga4.same s11
      replace gx3 := gx3.same s11
      replace gx4 := gx4.same s11
      replace ga5 := ga5.same s11
      replace gx5 := gx5.same s11
      replace zo := zo.same (Bt.of s11).off
      replace hh := hh.same s11
      replace bt := bt.trans (Bt.of s11)
      replace eR := s11 _ _ eR
      replace eL := s11 _ _ eL
      obtain ⟨k0, ek0, rk0⟩ := atk
      refine ⟨_, rfl, _, rfl, R, _, da, .int k0, rfl, rfl, SqT.of eR, ek0, k0, 1, rfl, rfl, (by show 1 ≤ sizeLine; decide), fun p12 np12 => ?_⟩
      have s12 := same_upd np12 (o := .tup [.int (k0 + 1)])
      have ga7 := gt_one ls np12 (Its.one (K := K) (E := RE) (.int (k0 + 1)) rk0)
      replace ls := ls.same s12
      replace g0 := g0.same s12
      replace ga1 := ga1.same s12
      replace ga2 := ga2.same s12
      replace gx1 := gx1.same s12
      replace gx2 := gx2.same s12
      replace ga3 := ga3.same s12
      replace ga4 := ga4.same s12
      replace gx3 := gx3.same s12
      replace gx4 := gx4.same s12
      replace ga5 := ga5.same s12
      replace gx5 := gx5.same s12
      replace ga6 := ga6.same s12
      replace zo := zo.same (Bt.of s12).off
      replace hh := hh.same s12
      replace bt := bt.trans (Bt.of s12)
      replace eR := s12 _ _ eR
      replace eL := s12 _ _ eL
      refine rd_cat ls ga6 ga7 (by decide) fun p13 J13 s13 ga8 => ?_
      replace ls := ls.same s13
      replace g0 := g0.same s13
      replace ga1 := ga1.same s13
      replace ga2 := ga2.same s13
      replace gx1 := gx1.same s13
      replace gx2 := gx2.same s13
      replace ga3 := ga3.same s13
      replace ga4 := ga4.same s13
      replace gx3 := gx3.same s13
      replace gx4 := gx4.same s13
      replace ga5 := ga5.same s13
      replace gx5 := gx5.same s13
      replace ga6 := ga6.same s13
      replace ga7 := ga7.same s13
      replace zo := zo.same (Bt.of s13).off
      replace hh := hh.same s13
      replace bt := bt.trans (Bt.of s13)
      replace eR := s13 _ _ eR
      replace eL := s13 _ _ eL
      refine ⟨_, rfl, _, rfl, da, 1, rfl, rfl, _, rfl, rd_cutN ls g0 fun p14 J14 s14 ga9 => ?_⟩
      replace ls := ls.same s14
      replace g0 := g0.same s14
      replace ga1 := ga1.same s14
      replace ga2 := ga2.same s14
      replace gx1 := gx1.same s14
      replace gx2 := gx2.same s14
      replace ga3 := ga3.same s14
      replace ga4 := ga4.same s14
      replace gx3 := gx3.same s14
      replace gx4 := gx4.same s14
      replace ga5 := ga5.same s14
      replace gx5 := gx5.same s14
      replace ga6 := ga6.same s14
      replace ga7 := ga7.same s14
      replace ga8 := ga8.same s14
      replace zo := zo.same (Bt.of s14).off
      replace hh := hh.same s14
      replace bt := bt.trans (Bt.of s14)
      replace eR := s14 _ _ eR
      replace eL := s14 _ _ eL
      refine rd_cat ls ga8 ga9 (by decide) fun p15 J15 s15 gx6 => ?_
      replace ls := ls.same s15
      replace g0 := g0.same s15
      replace ga1 := ga1.same s15
      replace ga2 := ga2.same s15
      replace gx1 := gx1.same s15
      replace gx2 := gx2.same s15
      replace ga3 := ga3.same s15
      replace ga4 := ga4.same s15
      replace gx3 := gx3.same s15
      replace gx4 := gx4.same s15
      replace ga5 := ga5.same s15
      replace gx5 := gx5.same s15
      replace ga6 := ga6.same s15
      replace ga7 := ga7.same s15
      replace ga8 := ga8.same s15
      replace ga9 := ga9.same s15
      replace zo := zo.same (Bt.of s15).off
      replace hh := hh.same s15
      replace bt := bt.trans (Bt.of s15)
      replace eR := s15 _ _ eR
      replace eL := s15 _ _ eL
      refine ⟨(by show 1 ≤ sizeLine; decide), fun M2 nM2 => ?_⟩
      have e2 : (L2.upd J15 M2 (.lst [.ref p15])) M2 = some (.lst [.ref p15]) := upd_same
      have s2L := same_upd nM2 (o := .lst [.ref p15])
      replace ls := ls.same s2L
      replace g0 := g0.same s2L
      replace ga1 := ga1.same s2L
      replace ga2 := ga2.same s2L
      replace gx1 := gx1.same s2L
      replace gx2 := gx2.same s2L
      replace ga3 := ga3.same s2L
      replace ga4 := ga4.same s2L
      replace gx3 := gx3.same s2L
      replace gx4 := gx4.same s2L
      replace ga5 := ga5.same s2L
      replace gx5 := gx5.same s2L
      replace ga6 := ga6.same s2L
      replace ga7 := ga7.same s2L
      replace ga8 := ga8.same s2L
      replace ga9 := ga9.same s2L
      replace gx6 := gx6.same s2L
      replace zo := zo.same (Bt.of s2L).off
      replace hh := hh.same s2L
      replace bt := bt.trans (Bt.of s2L)
      replace eR := s2L _ _ eR
      replace eL := s2L _ _ eL
      refine ⟨L, M2, _, _, rfl, rfl, eL, e2, (by show 6 ≤ sizeLine; decide), fun L3 nL3 => ?_⟩
      have s3L := same_upd nL3 (o := .lst [.ref p3, .ref p4, .ref p7, .ref p8, .ref p10, .ref p15])
      have e3 : (L2.upd (L2.upd J15 M2 (.lst [.ref p15])) L3 (.lst [.ref p3, .ref p4, .ref p7, .ref p8, .ref p10, .ref p15])) L3 = some (.lst [.ref p3, .ref p4, .ref p7, .ref p8, .ref p10, .ref p15]) := upd_same
      replace ls := ls.same s3L
      replace g0 := g0.same s3L
      replace ga1 := ga1.same s3L
      replace ga2 := ga2.same s3L
      replace gx1 := gx1.same s3L
      replace gx2 := gx2.same s3L
      replace ga3 := ga3.same s3L
      replace ga4 := ga4.same s3L
      replace gx3 := gx3.same s3L
      replace gx4 := gx4.same s3L
      replace ga5 := ga5.same s3L
      replace gx5 := gx5.same s3L
      replace ga6 := ga6.same s3L
      replace ga7 := ga7.same s3L
      replace ga8 := ga8.same s3L
      replace ga9 := ga9.same s3L
      replace gx6 := gx6.same s3L
      replace zo := zo.same (Bt.of s3L).off
      replace hh := hh.same s3L
      replace bt := bt.trans (Bt.of s3L)
      replace eR := s3L _ _ eR
      replace eL := s3L _ _ eL
      replace e2 := s3L _ _ e2
      obtain ⟨j, ej, hj⟩ : ∃ j : Nat, dw - 2 = (j : Int) ∧ j < 6 := ⟨(dw - 2).toNat, by omega, by omega⟩
      obtain ⟨vx, ex⟩ : ∃ v, (([.ref p3, .ref p4, .ref p7, .ref p8, .ref p10, .ref p15] : List V))[j]? = some v := ⟨_, List.getElem?_eq_getElem hj⟩
      have vm := List.mem_of_getElem? ex
      refine ⟨_, rfl, dw, 2, rfl, rfl, L3, _, dw - 2, vx, rfl, rfl, SqL.of e3, by rw [ej]; exact atI_nat ex, q vx _ ?_ (hh.mono (by omega)) bt⟩
      simp only [List.mem_cons, List.not_mem_nil, or_false] at vm
      rcases vm with rfl | rfl | rfl | rfl | rfl | rfl
      · exact gx1.ga (by decide)
      · exact gx2.ga (by decide)
      · exact gx3.ga (by decide)
      · exact gx4.mono (by decide)
      · exact gx5.ga (by decide)
      · exact gx6.ga (by decide)
end
end K16
set_option Elab.async false
set_option linter.all false
set_option maxRecDepth 100000
set_option maxHeartbeats 4000000
set_option pp.maxSteps 400
set_option pp.deepTerms false
namespace K16
open PySem PySem.Spec PyProof.Rows L2
open Xk Az Xnp
section
variable {P : Program} {w : World} {K : PySem.W.Frag} {mg : Str → Option Value} {base : Heap}
/-- what may stand among names -/
def NE (e : PyData) : Prop := Nice e 1 900 ∧ T2 e ∧ nmD e = lawNm e ∧ (nmD e = true → ∃ n, e = W37.nD n ∧ Gd n)
theorem nice_nD {n : N2} (g : Gd n) : Nice (W37.nD n) 1 900 := by
  have l3 := g.l3
  have c2 := g.c2
  have := nice_tups (k := 0) (n := 402) [PyData.str n.1, PyData.str n.2] fun d hd => by
    simp only [List.mem_cons, List.not_mem_nil, or_false] at hd
    rcases hd with rfl | rfl
    · exact ((W08.bd_str g.l1.asc).nice).mono (Nat.le_refl _) (by omega)
    · exact ((W08.bd_str g.c.asc).nice).mono (Nat.le_refl _) (by omega)
  exact this.mono (Nat.le_refl _) (show 2 * (402 + 2) + 4 ≤ 900 by decide)
theorem Gd.ne {n : N2} (g : Gd n) : NE (W37.nD n) := ⟨nice_nD g, g.t2, by rw [g.yes, g.law], fun _ => ⟨n, rfl, g⟩⟩
theorem clean_of {l : List Nat} (h : ∀ c ∈ l, c ∈ signs.cps.toList ∧ c ≠ 32) : Clean l := by
  refine ⟨⟨fun c hc => (h c hc).1, fun e => ?_, fun i e => (h 32 (List.mem_of_getElem? e.1)).2 rfl⟩, fun e => (h 32 (List.mem_of_getLast? e)).2 rfl⟩
  cases l with
  | nil => cases e
  | cons c r =>
    injection e with e
    exact (h 32 (by rw [← e]; exact List.mem_cons_self)).2 rfl
theorem gd_zz : Gd ("zz", "none") := ⟨by unfold letts; decide +kernel, by decide +kernel, by decide +kernel, clean_of (by decide +kernel), by decide +kernel, by decide +kernel⟩
theorem gd_zzz : Gd ("zzz", "a") := ⟨by unfold letts; decide +kernel, by decide +kernel, by decide +kernel, clean_of (by decide +kernel), by decide +kernel, by decide +kernel⟩
theorem txs : ∀ x ∈ ([("zz" : Str), "ZZ", "a", ""] : List Str), x.length ≤ 2000 ∧ Asc7 x := by unfold Asc7; decide +kernel
theorem nice_s : ∀ x ∈ ([("zz" : Str), "ZZ", "a", ""] : List Str), Nice (.str x) 0 22 := fun x hx => nice_str (by revert x; decide +kernel)
theorem tx_of {x : Str} (h : x ∈ ([("zz" : Str), "ZZ", "a", ""] : List Str)) : Tx (.str x) := fun y e => by cases e; exact txs x h
theorem two_nice {a b : Str} (h : a ∈ ([("zz" : Str), "ZZ", "a", ""] : List Str)) (k : b ∈ ([("zz" : Str), "ZZ", "a", ""] : List Str)) : Nice (.tuple [.str a, .str b]) 1 900 ∧ Nice (.list [.str a, .str b]) 1 900 := by
  have al : ∀ d ∈ [PyData.str a, PyData.str b], Nice d 0 22 := fun d hd => by
    simp only [List.mem_cons, List.not_mem_nil, or_false] at hd
    rcases hd with rfl | rfl
    · exact nice_s _ h
    · exact nice_s _ k
  exact ⟨(nice_tups _ al).mono (Nat.le_refl _) (show 2 * (22 + 2) + 4 ≤ 900 by decide), (nice_lsts _ al).mono (Nat.le_refl _) (show 2 * (22 + 2) + 4 ≤ 900 by decide)⟩
theorem t2_two {a b : Str} (h : a ∈ ([("zz" : Str), "ZZ", "a", ""] : List Str)) (k : b ∈ ([("zz" : Str), "ZZ", "a", ""] : List Str)) : T2 (.tuple [.str a, .str b]) := fun ds e x hx => by
  cases e
  simp only [List.mem_cons, List.not_mem_nil, or_false] at hx
  rcases hx with rfl | rfl
  · exact tx_of h
  · exact tx_of k
theorem ne_o1 : NE (.str "zz") := ⟨(nice_s _ (by simp)).mono (by decide) (by decide), (fun ds e => by cases e), rfl, fun h => by cases h⟩
theorem ne_o2 : NE (.tuple [.str "zz"]) := ⟨(nice_tup1 (nice_s _ (by simp))).mono (by decide) (by decide), (fun ds e x hx => by cases e; rw [List.mem_singleton.mp hx]; exact tx_of (by simp)), rfl, fun h => by cases h⟩
theorem ne_o3 : NE .none := ⟨nice_none.mono (by decide) (by decide), (fun ds e => by cases e), rfl, fun h => by cases h⟩
theorem ne_o4 : NE (.list [.str "zz", .str "a"]) := ⟨(two_nice (by simp) (by simp)).2, (fun ds e => by cases e), rfl, fun h => by cases h⟩
theorem nm_o5 : nmD (.tuple [.str "ZZ", .str "a"]) = false ∧ lawNm (.tuple [.str "ZZ", .str "a"]) = false := by decide +kernel
theorem nm_o6 : nmD (.tuple [.str "zz", .str ""]) = false ∧ lawNm (.tuple [.str "zz", .str ""]) = false := by decide +kernel
theorem ne_o5 : NE (.tuple [.str "ZZ", .str "a"]) := ⟨(two_nice (by simp) (by simp)).1, t2_two (by simp) (by simp), by rw [nm_o5.1, nm_o5.2], fun h => by rw [nm_o5.1] at h; cases h⟩
theorem ne_o6 : NE (.tuple [.str "zz", .str ""]) := ⟨(two_nice (by simp) (by simp)).1, t2_two (by simp) (by simp), by rw [nm_o6.1, nm_o6.2], fun h => by rw [nm_o6.1] at h; cases h⟩
theorem its_nml {K : PySem.W.Frag} {A : List Addr} {H : Hp} (ls : Lsd A H) : ∀ {xs : List V} {ns : List N2}, W37.NmL H xs ns → (∀ a ∈ ns, Gd a) → Its K NE A H xs
  | _, _, .nil, _ => ⟨[], .nil, fun x hx => by cases hx⟩
  | _, n :: _, .cons h r, g => by
    obtain ⟨ds, a, b⟩ := its_nml ls r fun x hx => g x (List.mem_cons_of_mem _ hx)
    obtain ⟨t, rfl, et⟩ := h
    exact ⟨W37.nD n :: ds, .cons (.tup (offS_at (ls.no et) et) (.cons (.str _) (.cons (.str _) .nil))) a, fun x hx => (List.mem_cons.mp hx).elim (fun z => by rw [z]; exact (g n List.mem_cons_self).ne) (b x)⟩
theorem dz_mem {K : PySem.W.Frag} {H : Hp} : ∀ {xs : List V} {ds : List PyData} {v : V}, DzAll K H xs ds → v ∈ xs → ∃ d ∈ ds, Dz K H v d
  | _, _, _, .cons h r, m => by
    rcases List.mem_cons.mp m with z | z
    · exact ⟨_, List.mem_cons_self, z ▸ h⟩
    · obtain ⟨d, h1, h2⟩ := dz_mem r z
      exact ⟨d, List.mem_cons_of_mem _ h1, h2⟩
theorem Its.mem {K : PySem.W.Frag} {E : PyData → Prop} {A : List Addr} {H : Hp} {xs : List V} {v : V} (i : Its K E A H xs) (m : v ∈ xs) : ∃ d, Dz K (offS A H) v d ∧ E d := by
  obtain ⟨ds, a, b⟩ := i
  obtain ⟨d, h1, h2⟩ := dz_mem a m
  exact ⟨d, h2, b d h1⟩
def spNamO (K : PySem.W.Frag) : Sp := fun vs H Q _ => ∃ (h o R L D : Addr) (n : Int) (zs xs dys : List V) (rs ns : List N2), vs = [.ref h, .ref R, .ref L] ∧ H D = some (.lst dys) ∧ D ∉ [h, o] ∧ Hd h o n H ∧ n + 100 ≤ far ∧ H R = some (.tup zs) ∧ W37.NmL H zs rs ∧ (∀ a ∈ rs, Gd a) ∧ rs.length ≤ 90 ∧ H L = some (.lst xs) ∧ L ∉ [h, o] ∧ W37.NmL H xs ns ∧ (∀ a ∈ ns, Gd a) ∧ ns.length ≤ 40 ∧
  ∀ (v : V) H', GA K NE [h, o, D] 190 H' v → Hd h o (n + 10) H' → Bt [h, o] H H' → Q v H'
theorem ok_namo {f : Addr} {fd : FuncData} (D : Df K mg "_law_names_otherwise" ["_law_hand_here", "_law_row", "_law_names_here"] sNamesOtherwise f fd) (T : Txt K mg) (cT : Ca P w K mg base 1 "_law_take" ["_law_hand_here", "_law_many"] spTake) (cP : Ca P w K mg base 2 "_law_pick" ["_law_hand_here", "_law_some"] spPick) : FnOk P w K mg base CX0 3 f fd ["_law_hand_here", "_law_row", "_law_names_here"] (spNamO K) := by
  refine D.fn.ok scNamesOtherwise (fun vs H Q E h => ?_) (fun cdv A outer s H vs Q E hr h => ?_)
  · obtain ⟨h, o, R, L, D, n, zs, xs, dys, rs, ns, rfl, eD, oD, hd, hn, eR, nz, gr, l90, eL, oL, nl, gn, l40, q⟩ := h
    rfl
  · obtain ⟨h, o, R, L, D, n, zs, xs, dys, rs, ns, rfl, eD, oD, hd, hn, eR, nz, gr, l90, eL, oL, nl, gn, l40, q⟩ := h
    refine ⟨_, (pss_cons (ps_par (i := 3) (j := 4) (by rfl) scNamesOtherwise.nd rfl rfl (by decide) rfl rfl (pa_cons (pe_ca cT hr (by decide) (by rfl) (pa_cons (pv 0) (pa_cons pe_int pa_nil))) (pa_cons (pe_ca cT hr (by decide) (by rfl) (pa_cons (pv 0) (pa_cons (pe_callB (call_max2 (by rfl)) (by rfl) T.max (by decide +kernel) (pa_cons pe_int (pa_cons (pe_callB call_len_seq (by rfl) T.len PySem.boot_len (pa_cons (pv 1) pa_nil)) pa_nil))) pa_nil))) pa_nil)) (by rfl))
      (pss_cons (ps_set (i := 5) scNamesOtherwise.nd rfl (.inl rfl) (pe_op op_cat (pv 2) (pe_lst (pa_cons (pe_tup (pa_cons pe_str (pa_cons pe_str pa_nil))) (pa_cons (pe_tup (pa_cons pe_str (pa_cons pe_str pa_nil))) (pa_cons pe_str (pa_cons (pe_tup (pa_cons pe_str pa_nil)) (pa_cons pe_non (pa_cons (pe_lstZ (pa_cons pe_str (pa_cons pe_str pa_nil))) (pa_cons (pe_tup (pa_cons pe_str (pa_cons pe_str pa_nil))) (pa_cons (pe_tup (pa_cons pe_str (pa_cons pe_str pa_nil))) pa_nil)))))))))))
      (pss_cons (ps_set (i := 6) scNamesOtherwise.nd rfl (.inl rfl) (pe_ca cP hr (by decide) (by rfl) (pa_cons (pv 0) (pa_cons (pv 5) pa_nil))))
      (pss_cons (ps_if (PW.pt (pw_or (pt_cmpR (op_eqD hr.units) (pv 1) (pe_tup pa_nil) (nomark _)) (pw_or1 (pt_cmpR op_eq (pv 3) pe_int (nomark _))))) (pss_one (ps_ret (pe_op Xtu.op_catU (pe_op Xtu.op_catU (pe_slice Xtu.sl_tupU (pv 1) po_none (po_some (pv 4))) (pe_tup (pa_cons (pv 6) pa_nil))) (pe_slice Xtu.sl_tupU (pv 1) (po_some (pv 4)) po_none)))) pss_nil)
      (pss_cons (ps_set (i := 5) scNamesOtherwise.nd rfl (.inl rfl) (pe_lst (pa_cons (pe_op Xtu.op_catU (pe_slice Xtu.sl_tupU (pv 1) po_none (po_some (pv 4))) (pe_slice Xtu.sl_tupU (pv 1) (po_some (pe_op op_add (pv 4) pe_int)) po_none)) (pa_cons (Xtu.pe_revN (pv 1)) (pa_cons (pe_op Xtu.op_catU (pe_slice Xtu.sl_tupU (pv 1) po_none (po_some (pe_op op_add (pv 4) pe_int))) (pe_slice Xtu.sl_tupU (pv 1) (po_some (pv 4)) po_none)) (pa_cons (pe_callTy Xtu.cr_listT (by rfl) T.list (by decide +kernel) (pa_cons (pv 1) pa_nil)) (pa_cons (pe_op Xtu.op_catU (pv 1) (pe_tup (pa_cons (pv 6) pa_nil))) pa_nil)))))))
      (pss_one (ps_ret (pe_ix ix_list (pe_op op_cat (pv 5) (pe_lst (pa_cons (pe_op Xtu.op_catU (pe_op Xtu.op_catU (pe_slice Xtu.sl_tupU (pv 1) po_none (po_some (pv 4))) (pe_tup (pa_cons (pv 6) pa_nil))) (pe_slice Xtu.sl_tupU (pv 1) (po_some (pe_op op_add (pv 4) pe_int)) po_none)) (pa_cons (pv 1) pa_nil)))) (pe_op op_sub (pv 3) pe_int) (fun _ _ => rfl))))))))), ?_⟩
    have fr : n + 100 ≤ 1000000 := hn
    have oR2 : R ∉ [h, o] := hd.lsd.no eR
    have ls0 := lsd3 hd eD
    have oR : R ∉ [h, o, D] := ls0.no eR
    have lk : zs.length ≤ 90 := by rw [nz.len]; exact l90
    have it0 : Its K NE [h, o, D] H zs := its_nml ls0 nz gr
    have itn : Its K NE [h, o, D] H xs := its_nml ls0 nl gn
    have lx := nl.len
    refine ⟨_, rfl, h, o, 8, n, rfl, by decide, by decide, hd, by show n ≤ 1000000; omega, fun dw H1 w0 w1 h1 b1 => ?_⟩
    have eR1 := b1 _ _ oR2 eR
    refine ⟨_, rfl, _, rfl, R, _, rfl, .inr (SqT.of eR1), 1, _, rfl, h, o, _, n + 1, rfl, (by split <;> omega), (by split <;> omega), h1, by show n + 1 ≤ 1000000; omega, fun da H2 a0 a1 hh b2 => ⟨_, _, rfl, ?_⟩⟩
    have bt := b1.trans b2
    replace eR := bt _ _ oR2 eR
    replace eD := bt _ _ oD eD
    replace eL := bt _ _ oL eL
    have nz2 := nz.tp (hd.nl bt).tp
    replace it0 := it0.bt bt.w3
    replace itn := itn.bt bt.w3
    have ls := lsd3 hh eD
    clear eR1 h1 b1 b2 nz nl ls0
    refine ⟨_, rfl, ?_⟩
    refine ⟨(by show 2 ≤ sizeLine; decide), fun Z1 nZ1 => ?_⟩
    have oZ1 : Z1 ∉ [h, o, D] := ls.off nZ1
    have sZ1 := same_upd nZ1 (o := .tup [.str "zz", .str "none"])
    have eZ1 : (L2.upd H2 Z1 (.tup [.str "zz", .str "none"])) Z1 = some (.tup [.str "zz", .str "none"]) := upd_same
    replace ls := ls.same sZ1
    replace it0 := it0.bt (Bt.of sZ1)
    replace itn := itn.bt (Bt.of sZ1)
    replace hh := hh.same sZ1
    replace bt := bt.trans (Bt.of sZ1)
    replace nz2 := nz2.tp (W37.tp_same sZ1)
    replace eD := sZ1 _ _ eD
    replace eR := sZ1 _ _ eR
    replace eL := sZ1 _ _ eL
    generalize L2.upd H2 Z1 (.tup [.str "zz", .str "none"]) = G0 at eD eR eL eZ1 ls it0 itn hh bt nz2 ⊢
    clear sZ1 nZ1
    refine ⟨(by show 2 ≤ sizeLine; decide), fun Z2 nZ2 => ?_⟩
    have oZ2 : Z2 ∉ [h, o, D] := ls.off nZ2
    have sZ2 := same_upd nZ2 (o := .tup [.str "zzz", .str "a"])
    have eZ2 : (L2.upd G0 Z2 (.tup [.str "zzz", .str "a"])) Z2 = some (.tup [.str "zzz", .str "a"]) := upd_same
    replace ls := ls.same sZ2
    replace it0 := it0.bt (Bt.of sZ2)
    replace itn := itn.bt (Bt.of sZ2)
    replace hh := hh.same sZ2
    replace bt := bt.trans (Bt.of sZ2)
    replace nz2 := nz2.tp (W37.tp_same sZ2)
    replace eD := sZ2 _ _ eD
    replace eR := sZ2 _ _ eR
    replace eL := sZ2 _ _ eL
    replace eZ1 := sZ2 _ _ eZ1
    generalize L2.upd G0 Z2 (.tup [.str "zzz", .str "a"]) = G1 at eD eR eL eZ1 eZ2 ls it0 itn hh bt nz2 ⊢
    clear sZ2 nZ2
    refine ⟨(by show 1 ≤ sizeLine; decide), fun Z3 nZ3 => ?_⟩
    have oZ3 : Z3 ∉ [h, o, D] := ls.off nZ3
    have sZ3 := same_upd nZ3 (o := .tup [.str "zz"])
    have eZ3 : (L2.upd G1 Z3 (.tup [.str "zz"])) Z3 = some (.tup [.str "zz"]) := upd_same
    replace ls := ls.same sZ3
    replace it0 := it0.bt (Bt.of sZ3)
    replace itn := itn.bt (Bt.of sZ3)
    replace hh := hh.same sZ3
    replace bt := bt.trans (Bt.of sZ3)
    replace nz2 := nz2.tp (W37.tp_same sZ3)
    replace eD := sZ3 _ _ eD
    replace eR := sZ3 _ _ eR
    replace eL := sZ3 _ _ eL
    replace eZ1 := sZ3 _ _ eZ1
    replace eZ2 := sZ3 _ _ eZ2
    generalize L2.upd G1 Z3 (.tup [.str "zz"]) = G2 at eD eR eL eZ1 eZ2 eZ3 ls it0 itn hh bt nz2 ⊢
    clear sZ3 nZ3
    refine ⟨(by show 2 ≤ sizeLine; decide), fun Z4 nZ4 zs_ => ?_⟩
    have oZ4 : Z4 ∉ [h, o, D] := ls.off nZ4
    have sZ4 := same_upd nZ4 (o := .lst [.str "zz", .str "a"])
    have eZ4 : (L2.upd G2 Z4 (.lst [.str "zz", .str "a"])) Z4 = some (.lst [.str "zz", .str "a"]) := upd_same
    replace ls := ls.same sZ4
    replace it0 := it0.bt (Bt.of sZ4)
    replace itn := itn.bt (Bt.of sZ4)
    replace hh := hh.same sZ4
    replace bt := bt.trans (Bt.of sZ4)
    replace nz2 := nz2.tp (W37.tp_same sZ4)
    replace eD := sZ4 _ _ eD
    replace eR := sZ4 _ _ eR
    replace eL := sZ4 _ _ eL
    replace eZ1 := sZ4 _ _ eZ1
    replace eZ2 := sZ4 _ _ eZ2
    replace eZ3 := sZ4 _ _ eZ3
    generalize L2.upd G2 Z4 (.lst [.str "zz", .str "a"]) = G3 at eD eR eL eZ1 eZ2 eZ3 eZ4 ls it0 itn hh bt nz2 ⊢
    clear sZ4 nZ4
    refine ⟨(by show 2 ≤ sizeLine; decide), fun Z5 nZ5 => ?_⟩
    have oZ5 : Z5 ∉ [h, o, D] := ls.off nZ5
    have sZ5 := same_upd nZ5 (o := .tup [.str "ZZ", .str "a"])
    have eZ5 : (L2.upd G3 Z5 (.tup [.str "ZZ", .str "a"])) Z5 = some (.tup [.str "ZZ", .str "a"]) := upd_same
    replace ls := ls.same sZ5
    replace it0 := it0.bt (Bt.of sZ5)
    replace itn := itn.bt (Bt.of sZ5)
    replace hh := hh.same sZ5
    replace bt := bt.trans (Bt.of sZ5)
    replace nz2 := nz2.tp (W37.tp_same sZ5)
    replace eD := sZ5 _ _ eD
    replace eR := sZ5 _ _ eR
    replace eL := sZ5 _ _ eL
    replace eZ1 := sZ5 _ _ eZ1
    replace eZ2 := sZ5 _ _ eZ2
    replace eZ3 := sZ5 _ _ eZ3
    replace eZ4 := sZ5 _ _ eZ4
    generalize L2.upd G3 Z5 (.tup [.str "ZZ", .str "a"]) = G4 at eD eR eL eZ1 eZ2 eZ3 eZ4 eZ5 ls it0 itn hh bt nz2 ⊢
    clear sZ5 nZ5
    refine ⟨(by show 2 ≤ sizeLine; decide), fun Z6 nZ6 => ?_⟩
    have oZ6 : Z6 ∉ [h, o, D] := ls.off nZ6
    have sZ6 := same_upd nZ6 (o := .tup [.str "zz", .str ""])
    have eZ6 : (L2.upd G4 Z6 (.tup [.str "zz", .str ""])) Z6 = some (.tup [.str "zz", .str ""]) := upd_same
    replace ls := ls.same sZ6
    replace it0 := it0.bt (Bt.of sZ6)
    replace itn := itn.bt (Bt.of sZ6)
    replace hh := hh.same sZ6
    replace bt := bt.trans (Bt.of sZ6)
    replace nz2 := nz2.tp (W37.tp_same sZ6)
    replace eD := sZ6 _ _ eD
    replace eR := sZ6 _ _ eR
    replace eL := sZ6 _ _ eL
    replace eZ1 := sZ6 _ _ eZ1
    replace eZ2 := sZ6 _ _ eZ2
    replace eZ3 := sZ6 _ _ eZ3
    replace eZ4 := sZ6 _ _ eZ4
    replace eZ5 := sZ6 _ _ eZ5
    generalize L2.upd G4 Z6 (.tup [.str "zz", .str ""]) = G5 at eD eR eL eZ1 eZ2 eZ3 eZ4 eZ5 eZ6 ls it0 itn hh bt nz2 ⊢
    clear sZ6 nZ6
    refine ⟨(by show 8 ≤ sizeLine; decide), fun Lo nLo => ?_⟩
    have sLo := same_upd nLo (o := .lst [.ref Z1, .ref Z2, .str "zz", .ref Z3, .non, .ref Z4, .ref Z5, .ref Z6])
    have eLo : (L2.upd G5 Lo (.lst [.ref Z1, .ref Z2, .str "zz", .ref Z3, .non, .ref Z4, .ref Z5, .ref Z6])) Lo = some (.lst [.ref Z1, .ref Z2, .str "zz", .ref Z3, .non, .ref Z4, .ref Z5, .ref Z6]) := upd_same
    replace ls := ls.same sLo
    replace it0 := it0.bt (Bt.of sLo)
    replace itn := itn.bt (Bt.of sLo)
    replace hh := hh.same sLo
    replace bt := bt.trans (Bt.of sLo)
    replace nz2 := nz2.tp (W37.tp_same sLo)
    replace eD := sLo _ _ eD
    replace eR := sLo _ _ eR
    replace eL := sLo _ _ eL
    replace eZ1 := sLo _ _ eZ1
    replace eZ2 := sLo _ _ eZ2
    replace eZ3 := sLo _ _ eZ3
    replace eZ4 := sLo _ _ eZ4
    replace eZ5 := sLo _ _ eZ5
    replace eZ6 := sLo _ _ eZ6
    generalize L2.upd G5 Lo (.lst [.ref Z1, .ref Z2, .str "zz", .ref Z3, .non, .ref Z4, .ref Z5, .ref Z6]) = G7 at eD eR eL eZ1 eZ2 eZ3 eZ4 eZ5 eZ6 eLo ls it0 itn hh bt nz2 ⊢
    clear sLo nLo
    refine ⟨L, Lo, _, _, rfl, rfl, eL, eLo, Nat.le_trans (show xs.length + 8 ≤ 100 by omega) (by decide), fun Lc nLc => ?_⟩
    have oLc : Lc ∉ [h, o] := hh.fresh nLc
    have sLc := same_upd nLc (o := .lst (xs ++ [.ref Z1, .ref Z2, .str "zz", .ref Z3, .non, .ref Z4, .ref Z5, .ref Z6]))
    have eLc : (L2.upd G7 Lc (.lst (xs ++ [.ref Z1, .ref Z2, .str "zz", .ref Z3, .non, .ref Z4, .ref Z5, .ref Z6]))) Lc = some (.lst (xs ++ [.ref Z1, .ref Z2, .str "zz", .ref Z3, .non, .ref Z4, .ref Z5, .ref Z6])) := upd_same
    replace ls := ls.same sLc
    replace it0 := it0.bt (Bt.of sLc)
    replace itn := itn.bt (Bt.of sLc)
    replace hh := hh.same sLc
    replace bt := bt.trans (Bt.of sLc)
    replace nz2 := nz2.tp (W37.tp_same sLc)
    replace eD := sLc _ _ eD
    replace eR := sLc _ _ eR
    replace eL := sLc _ _ eL
    replace eZ1 := sLc _ _ eZ1
    replace eZ2 := sLc _ _ eZ2
    replace eZ3 := sLc _ _ eZ3
    replace eZ4 := sLc _ _ eZ4
    replace eZ5 := sLc _ _ eZ5
    replace eZ6 := sLc _ _ eZ6
    replace eLo := sLc _ _ eLo
    generalize L2.upd G7 Lc (.lst (xs ++ [.ref Z1, .ref Z2, .str "zz", .ref Z3, .non, .ref Z4, .ref Z5, .ref Z6])) = G8 at eD eR eL eZ1 eZ2 eZ3 eZ4 eZ5 eZ6 eLo eLc ls it0 itn hh bt nz2 ⊢
    clear sLc nLc
    refine ⟨_, rfl, _, rfl, h, o, n + 1 + 1, _, rfl, hh, by show n + 1 + 1 ≤ 1000000; omega, .inl ⟨Lc, _, rfl, eLc, oLc, by simp, by rw [List.length_append]; show xs.length + 8 < 1000; omega, fun vo H5 mv hh5 b5 => ?_⟩⟩
    have tp5 := (hh.nl b5).tp
    replace bt := bt.trans b5
    replace it0 := it0.bt b5.w3
    replace itn := itn.bt b5.w3
    replace nz2 := nz2.tp tp5
    replace eR := b5 _ _ oR2 eR
    replace eD := b5 _ _ oD eD
    replace eZ1 := b5 _ _ (off3 oZ1) eZ1
    replace eZ2 := b5 _ _ (off3 oZ2) eZ2
    replace eZ3 := b5 _ _ (off3 oZ3) eZ3
    replace eZ4 := b5 _ _ (off3 oZ4) eZ4
    replace eZ5 := b5 _ _ (off3 oZ5) eZ5
    replace eZ6 := b5 _ _ (off3 oZ6) eZ6
    replace hh := hh5
    replace ls := lsd3 hh5 eD
    clear hh5 eLc eLo eL oLc b5 tp5
    obtain ⟨de, zo, eo⟩ : ∃ de, Dz K (offS [h, o, D] H5) vo de ∧ NE de := by
      rcases List.mem_append.mp mv with mv | mv
      · exact itn.mem mv
      · simp only [List.mem_cons, List.not_mem_nil, or_false] at mv
        rcases mv with rfl | rfl | rfl | rfl | rfl | rfl | rfl | rfl
        · exact ⟨W37.nD ("zz", "none"), .tup (offS_at oZ1 eZ1) (.cons (.str _) (.cons (.str _) .nil)), gd_zz.ne⟩
        · exact ⟨W37.nD ("zzz", "a"), .tup (offS_at oZ2 eZ2) (.cons (.str _) (.cons (.str _) .nil)), gd_zzz.ne⟩
        · exact ⟨_, .str _, ne_o1⟩
        · exact ⟨_, .tup (offS_at oZ3 eZ3) (.cons (.str _) .nil), ne_o2⟩
        · exact ⟨_, .non, ne_o3⟩
        · exact ⟨_, .lst (offS_at oZ4 eZ4) zs_ (.cons (.str _) (.cons (.str _) .nil)), ne_o4⟩
        · exact ⟨_, .tup (offS_at oZ5 eZ5) (.cons (.str _) (.cons (.str _) .nil)), ne_o5⟩
        · exact ⟨_, .tup (offS_at oZ6 eZ6) (.cons (.str _) (.cons (.str _) .nil)), ne_o6⟩
    have g0 : GT K NE [h, o, D] 90 H5 (.ref R) := ⟨R, _, rfl, eR, oR, it0, lk⟩
    clear mv itn it0 eZ1 eZ2 eZ3 eZ4 eZ5 eZ6
    obtain ⟨D0, eD0⟩ : ∃ D0, D0 = rs.map W37.nD := ⟨_, rfl⟩
    refine ⟨_, rfl, (by show 0 ≤ sizeLine; decide), fun zz nzz => ?_⟩
    have szz := same_upd nzz (o := .tup [])
    have ezz : (L2.upd H5 zz (.tup [])) zz = some (.tup []) := upd_same
    generalize L2.upd H5 zz (.tup []) = H6 at szz ezz ⊢
    replace ls := ls.same szz
    replace g0 := g0.same szz
    replace zo := zo.same (Bt.of szz).off
    replace hh := hh.same szz
    replace bt := bt.trans (Bt.of szz)
    replace eD := szz _ _ eD
    replace eR := szz _ _ eR
    refine ⟨.tuple (rs.map W37.nD), .tuple [], .tup (SqT.of eR) (nml_dp (nz2.tp (W37.tp_same szz))), .tup (SqT.of ezz) .nil, shaped_tup gr, shaped_tints [], _, rfl, ?_⟩
    rw [← eD0]
    cases c0 : PyData.eqv (.tuple D0) (.tuple []) with
    | true =>
      refine iteT (iteT ?_)
      refine ⟨_, rfl, _, rfl, da, rfl, rd_cut ls g0 fun p1 J1 s1 ga1 => ?_⟩
      replace ls := ls.same s1
      replace g0 := g0.same s1
      replace zo := zo.same (Bt.of s1).off
      replace hh := hh.same s1
      replace bt := bt.trans (Bt.of s1)
      replace eR := s1 _ _ eR
      refine ⟨_, rfl, (by show 1 ≤ sizeLine; decide), fun p2 np2 => ?_⟩
      have s2 := same_upd np2 (o := .tup [vo])
      have ga2 := gt_one ls np2 (Its.one (K := K) (E := NE) zo eo)
      replace ls := ls.same s2
      replace g0 := g0.same s2
      replace ga1 := ga1.same s2
      replace zo := zo.same (Bt.of s2).off
      replace hh := hh.same s2
      replace bt := bt.trans (Bt.of s2)
      replace eR := s2 _ _ eR
      refine rd_cat ls ga1 ga2 (by decide) fun p3 J3 s3 ga3 => ?_
      replace ls := ls.same s3
      replace g0 := g0.same s3
      replace ga1 := ga1.same s3
      replace ga2 := ga2.same s3
      replace zo := zo.same (Bt.of s3).off
      replace hh := hh.same s3
      replace bt := bt.trans (Bt.of s3)
      replace eR := s3 _ _ eR
      refine ⟨_, rfl, _, rfl, da, rfl, rd_cutN ls g0 fun p4 J4 s4 ga4 => ?_⟩
      replace ls := ls.same s4
      replace g0 := g0.same s4
      replace ga1 := ga1.same s4
      replace ga2 := ga2.same s4
      replace ga3 := ga3.same s4
      replace zo := zo.same (Bt.of s4).off
      replace hh := hh.same s4
      replace bt := bt.trans (Bt.of s4)
      replace eR := s4 _ _ eR
      refine rd_cat ls ga3 ga4 (by decide) fun p5 J5 s5 ga5 => ?_
      replace ls := ls.same s5
      replace g0 := g0.same s5
      replace ga1 := ga1.same s5
      replace ga2 := ga2.same s5
      replace ga3 := ga3.same s5
      replace ga4 := ga4.same s5
      replace zo := zo.same (Bt.of s5).off
      replace hh := hh.same s5
      replace bt := bt.trans (Bt.of s5)
      replace eR := s5 _ _ eR
      exact q _ _ (ga5.ga (by decide)) (hh.mono (by omega)) bt
    | false =>
      refine iteF ⟨_, rfl, rfl, _, rfl, ?_⟩
      have ne : D0 ≠ [] := fun z => by rw [z, eqv_tnil] at c0; cases c0
      by_cases w_0 : dw = 0
      · rw [show decide (V.int dw = V.int 0) = true from decide_eq_true (by rw [w_0])]
        refine iteT ?_
        refine ⟨_, rfl, _, rfl, da, rfl, rd_cut ls g0 fun p1 J1 s1 ga1 => ?_⟩
        replace ls := ls.same s1
        replace g0 := g0.same s1
        replace zo := zo.same (Bt.of s1).off
        replace hh := hh.same s1
        replace bt := bt.trans (Bt.of s1)
        replace eR := s1 _ _ eR
        refine ⟨_, rfl, (by show 1 ≤ sizeLine; decide), fun p2 np2 => ?_⟩
        have s2 := same_upd np2 (o := .tup [vo])
        have ga2 := gt_one ls np2 (Its.one (K := K) (E := NE) zo eo)
        replace ls := ls.same s2
        replace g0 := g0.same s2
        replace ga1 := ga1.same s2
        replace zo := zo.same (Bt.of s2).off
        replace hh := hh.same s2
        replace bt := bt.trans (Bt.of s2)
        replace eR := s2 _ _ eR
        refine rd_cat ls ga1 ga2 (by decide) fun p3 J3 s3 ga3 => ?_
        replace ls := ls.same s3
        replace g0 := g0.same s3
        replace ga1 := ga1.same s3
        replace ga2 := ga2.same s3
        replace zo := zo.same (Bt.of s3).off
        replace hh := hh.same s3
        replace bt := bt.trans (Bt.of s3)
        replace eR := s3 _ _ eR
        refine ⟨_, rfl, _, rfl, da, rfl, rd_cutN ls g0 fun p4 J4 s4 ga4 => ?_⟩
        replace ls := ls.same s4
        replace g0 := g0.same s4
        replace ga1 := ga1.same s4
        replace ga2 := ga2.same s4
        replace ga3 := ga3.same s4
        replace zo := zo.same (Bt.of s4).off
        replace hh := hh.same s4
        replace bt := bt.trans (Bt.of s4)
        replace eR := s4 _ _ eR
        refine rd_cat ls ga3 ga4 (by decide) fun p5 J5 s5 ga5 => ?_
        replace ls := ls.same s5
        replace g0 := g0.same s5
        replace ga1 := ga1.same s5
        replace ga2 := ga2.same s5
        replace ga3 := ga3.same s5
        replace ga4 := ga4.same s5
        replace zo := zo.same (Bt.of s5).off
        replace hh := hh.same s5
        replace bt := bt.trans (Bt.of s5)
        replace eR := s5 _ _ eR
        exact q _ _ (ga5.ga (by decide)) (hh.mono (by omega)) bt
      rw [show decide (V.int dw = V.int 0) = false from decide_eq_false (fun z => w_0 (by injection z))]
      refine iteF ?_
      refine ⟨_, rfl, _, rfl, da, rfl, rd_cut ls g0 fun p1 J1 s1 ga1 => ?_⟩
      replace ls := ls.same s1
      replace g0 := g0.same s1
      replace zo := zo.same (Bt.of s1).off
      replace hh := hh.same s1
      replace bt := bt.trans (Bt.of s1)
      replace eR := s1 _ _ eR
      refine ⟨_, rfl, _, rfl, da, 1, rfl, rfl, _, rfl, rd_cutN ls g0 fun p2 J2 s2 ga2 => ?_⟩
      replace ls := ls.same s2
      replace g0 := g0.same s2
      replace ga1 := ga1.same s2
      replace zo := zo.same (Bt.of s2).off
      replace hh := hh.same s2
      replace bt := bt.trans (Bt.of s2)
      replace eR := s2 _ _ eR
      refine rd_cat ls ga1 ga2 (by decide) fun p3 J3 s3 gx1 => ?_
      replace ls := ls.same s3
      replace g0 := g0.same s3
      replace ga1 := ga1.same s3
      replace ga2 := ga2.same s3
      replace zo := zo.same (Bt.of s3).off
      replace hh := hh.same s3
      replace bt := bt.trans (Bt.of s3)
      replace eR := s3 _ _ eR
      refine ⟨_, rfl, R, _, rfl, eR, fun p4 J4 s4 e4 => ?_⟩
      have gx2 := gt_rev ls (g0.its eR) (g0.len eR) s4 e4
      replace ls := ls.same s4
      replace g0 := g0.same s4
      replace ga1 := ga1.same s4
      replace ga2 := ga2.same s4
      replace gx1 := gx1.same s4
      replace zo := zo.same (Bt.of s4).off
      replace hh := hh.same s4
      replace bt := bt.trans (Bt.of s4)
      replace eR := s4 _ _ eR
      refine ⟨_, rfl, _, rfl, da, 1, rfl, rfl, _, rfl, rd_cut ls g0 fun p5 J5 s5 ga3 => ?_⟩
      replace ls := ls.same s5
      replace g0 := g0.same s5
      replace ga1 := ga1.same s5
      replace ga2 := ga2.same s5
      replace gx1 := gx1.same s5
      replace gx2 := gx2.same s5
      replace zo := zo.same (Bt.of s5).off
      replace hh := hh.same s5
      replace bt := bt.trans (Bt.of s5)
      replace eR := s5 _ _ eR
      refine ⟨_, rfl, _, rfl, da, rfl, rd_cutN ls g0 fun p6 J6 s6 ga4 => ?_⟩
      replace ls := ls.same s6
      replace g0 := g0.same s6
      replace ga1 := ga1.same s6
      replace ga2 := ga2.same s6
      replace gx1 := gx1.same s6
      replace gx2 := gx2.same s6
      replace ga3 := ga3.same s6
      replace zo := zo.same (Bt.of s6).off
      replace hh := hh.same s6
      replace bt := bt.trans (Bt.of s6)
      replace eR := s6 _ _ eR
      refine rd_cat ls ga3 ga4 (by decide) fun p7 J7 s7 gx3 => ?_
      replace ls := ls.same s7
      replace g0 := g0.same s7
      replace ga1 := ga1.same s7
      replace ga2 := ga2.same s7
      replace gx1 := gx1.same s7
      replace gx2 := gx2.same s7
      replace ga3 := ga3.same s7
      replace ga4 := ga4.same s7
      replace zo := zo.same (Bt.of s7).off
      replace hh := hh.same s7
      replace bt := bt.trans (Bt.of s7)
      replace eR := s7 _ _ eR
      refine ⟨_, rfl, R, _, rfl, SqT.of eR, fun p8 np8 ns8 => ?_⟩
      have s8 := same_upd np8 (o := .lst (zs))
      have gx4 := ga_list ls np8 ns8 (g0.its eR) (g0.len eR)
      replace ls := ls.same s8
      replace g0 := g0.same s8
      replace ga1 := ga1.same s8
      replace ga2 := ga2.same s8
      replace gx1 := gx1.same s8
      replace gx2 := gx2.same s8
      replace ga3 := ga3.same s8
      replace ga4 := ga4.same s8
      replace gx3 := gx3.same s8
      replace zo := zo.same (Bt.of s8).off
      replace hh := hh.same s8
      replace bt := bt.trans (Bt.of s8)
      replace eR := s8 _ _ eR
      refine ⟨_, rfl, _, rfl, (by show 1 ≤ sizeLine; decide), fun p9 np9 => ?_⟩
      have s9 := same_upd np9 (o := .tup [vo])
      have ga5 := gt_one ls np9 (Its.one (K := K) (E := NE) zo eo)
      replace ls := ls.same s9
      replace g0 := g0.same s9
      replace ga1 := ga1.same s9
      replace ga2 := ga2.same s9
      replace gx1 := gx1.same s9
      replace gx2 := gx2.same s9
      replace ga3 := ga3.same s9
      replace ga4 := ga4.same s9
      replace gx3 := gx3.same s9
      replace gx4 := gx4.same s9
      replace zo := zo.same (Bt.of s9).off
      replace hh := hh.same s9
      replace bt := bt.trans (Bt.of s9)
      replace eR := s9 _ _ eR
      refine rd_cat ls g0 ga5 (by decide) fun p10 J10 s10 gx5 => ?_
      replace ls := ls.same s10
      replace g0 := g0.same s10
      replace ga1 := ga1.same s10
      replace ga2 := ga2.same s10
      replace gx1 := gx1.same s10
      replace gx2 := gx2.same s10
      replace ga3 := ga3.same s10
      replace ga4 := ga4.same s10
      replace gx3 := gx3.same s10
      replace gx4 := gx4.same s10
      replace ga5 := ga5.same s10
      replace zo := zo.same (Bt.of s10).off
      replace hh := hh.same s10
      replace bt := bt.trans (Bt.of s10)
      replace eR := s10 _ _ eR
      refine ⟨(by show 5 ≤ sizeLine; decide), fun L nL => ?_⟩
      have eL : (L2.upd J10 L (.lst [.ref p3, .ref p4, .ref p7, .ref p8, .ref p10])) L = some (.lst [.ref p3, .ref p4, .ref p7, .ref p8, .ref p10]) := upd_same
      have sL := same_upd nL (o := .lst [.ref p3, .ref p4, .ref p7, .ref p8, .ref p10])
      replace ls := ls.same sL
      replace g0 := g0.same sL
      replace ga1 := ga1.same sL
      replace ga2 := ga2.same sL
      replace gx1 := gx1.same sL
      replace gx2 := gx2.same sL
      replace ga3 := ga3.same sL
      replace ga4 := ga4.same sL
      replace gx3 := gx3.same sL
      replace gx4 := gx4.same sL
      replace ga5 := ga5.same sL
      replace gx5 := gx5.same sL
      replace zo := zo.same (Bt.of sL).off
      replace hh := hh.same sL
      replace bt := bt.trans (Bt.of sL)
      replace eR := sL _ _ eR
      refine ⟨_, rfl, _, rfl, _, rfl, da, rfl, rd_cut ls g0 fun p11 J11 s11 ga6 => ?_⟩
      replace ls := ls.same s11
      replace g0 := g0.same s11
      replace ga1 := ga1.same s11
      replace ga2 := ga2.same s11
      replace gx1 := gx1.same s11
      replace gx2 := gx2.same s11
      replace ga3 := ga3.same s11
      replace ga4 := ga4.same s11
      replace gx3 := gx3.same s11
      replace gx4 := gx4.same s11
      replace ga5 := ga5.same s11
      replace gx5 := gx5.same s11
      replace zo := zo.same (Bt.of s11).off
      replace hh := hh.same s11
      replace bt := bt.trans (Bt.of s11)
      replace eR := s11 _ _ eR
      replace eL := s11 _ _ eL
      refine ⟨_, rfl, (by show 1 ≤ sizeLine; decide), fun p12 np12 => ?_⟩
      have s12 := same_upd np12 (o := .tup [vo])
      have ga7 := gt_one ls np12 (Its.one (K := K) (E := NE) zo eo)
      replace ls := ls.same s12
      replace g0 := g0.same s12
      replace ga1 := ga1.same s12
      replace ga2 := ga2.same s12
      replace gx1 := gx1.same s12
      replace gx2 := gx2.same s12
      replace ga3 := ga3.same s12
      replace ga4 := ga4.same s12
      replace gx3 := gx3.same s12
      replace gx4 := gx4.same s12
      replace ga5 := ga5.same s12
      replace gx5 := gx5.same s12
      replace ga6 := ga6.same s12
      replace zo := zo.same (Bt.of s12).off
      replace hh := hh.same s12
      replace bt := bt.trans (Bt.of s12)
      replace eR := s12 _ _ eR
      replace eL := s12 _ _ eL
      refine rd_cat ls ga6 ga7 (by decide) fun p13 J13 s13 ga8 => ?_
      replace ls := ls.same s13
      replace g0 := g0.same s13
      replace ga1 := ga1.same s13
      replace ga2 := ga2.same s13
      replace gx1 := gx1.same s13
      replace gx2 := gx2.same s13
      replace ga3 := ga3.same s13
      replace ga4 := ga4.same s13
      replace gx3 := gx3.same s13
      replace gx4 := gx4.same s13
      replace ga5 := ga5.same s13
      replace gx5 := gx5.same s13
      replace ga6 := ga6.same s13
      replace ga7 := ga7.same s13
      replace zo := zo.same (Bt.of s13).off
      replace hh := hh.same s13
      replace bt := bt.trans (Bt.of s13)
      replace eR := s13 _ _ eR
      replace eL := s13 _ _ eL
      refine ⟨_, rfl, _, rfl, da, 1, rfl, rfl, _, rfl, rd_cutN ls g0 fun p14 J14 s14 ga9 => ?_⟩
      replace ls := ls.same s14
      replace g0 := g0.same s14
      replace ga1 := ga1.same s14
      replace ga2 := ga2.same s14
      replace gx1 := gx1.same s14
      replace gx2 := gx2.same s14
      replace ga3 := ga3.same s14
      replace ga4 := ga4.same s14
      replace gx3 := gx3.same s14
      replace gx4 := gx4.same s14
      replace ga5 := ga5.same s14
      replace gx5 := gx5.same s14
      replace ga6 := ga6.same s14
      replace ga7 := ga7.same s14
      replace ga8 := ga8.same s14
      replace zo := zo.same (Bt.of s14).off
      replace hh := hh.same s14
      replace bt := bt.trans (Bt.of s14)
      replace eR := s14 _ _ eR
      replace eL := s14 _ _ eL
      refine rd_cat ls ga8 ga9 (by decide) fun p15 J15 s15 gx6 => ?_
      replace ls := ls.same s15
      replace g0 := g0.same s15
      replace ga1 := ga1.same s15
      replace ga2 := ga2.same s15
      replace gx1 := gx1.same s15
      replace gx2 := gx2.same s15
      replace ga3 := ga3.same s15
      replace ga4 := ga4.same s15
      replace gx3 := gx3.same s15
      replace gx4 := gx4.same s15
      replace ga5 := ga5.same s15
      replace gx5 := gx5.same s15
      replace ga6 := ga6.same s15
      replace ga7 := ga7.same s15
      replace ga8 := ga8.same s15
      replace ga9 := ga9.same s15
      replace zo := zo.same (Bt.of s15).off
      replace hh := hh.same s15
      replace bt := bt.trans (Bt.of s15)
      replace eR := s15 _ _ eR
      replace eL := s15 _ _ eL
      refine ⟨_, rfl, ?_⟩
      refine ⟨(by show 2 ≤ sizeLine; decide), fun M2 nM2 => ?_⟩
      have e2 : (L2.upd J15 M2 (.lst [.ref p15, .ref R])) M2 = some (.lst [.ref p15, .ref R]) := upd_same
      have s2L := same_upd nM2 (o := .lst [.ref p15, .ref R])
      replace ls := ls.same s2L
      replace g0 := g0.same s2L
      replace ga1 := ga1.same s2L
      replace ga2 := ga2.same s2L
      replace gx1 := gx1.same s2L
      replace gx2 := gx2.same s2L
      replace ga3 := ga3.same s2L
      replace ga4 := ga4.same s2L
      replace gx3 := gx3.same s2L
      replace gx4 := gx4.same s2L
      replace ga5 := ga5.same s2L
      replace gx5 := gx5.same s2L
      replace ga6 := ga6.same s2L
      replace ga7 := ga7.same s2L
      replace ga8 := ga8.same s2L
      replace ga9 := ga9.same s2L
      replace gx6 := gx6.same s2L
      replace zo := zo.same (Bt.of s2L).off
      replace hh := hh.same s2L
      replace bt := bt.trans (Bt.of s2L)
      replace eR := s2L _ _ eR
      replace eL := s2L _ _ eL
      refine ⟨L, M2, _, _, rfl, rfl, eL, e2, (by show 7 ≤ sizeLine; decide), fun L3 nL3 => ?_⟩
      have s3L := same_upd nL3 (o := .lst [.ref p3, .ref p4, .ref p7, .ref p8, .ref p10, .ref p15, .ref R])
      have e3 : (L2.upd (L2.upd J15 M2 (.lst [.ref p15, .ref R])) L3 (.lst [.ref p3, .ref p4, .ref p7, .ref p8, .ref p10, .ref p15, .ref R])) L3 = some (.lst [.ref p3, .ref p4, .ref p7, .ref p8, .ref p10, .ref p15, .ref R]) := upd_same
      replace ls := ls.same s3L
      replace g0 := g0.same s3L
      replace ga1 := ga1.same s3L
      replace ga2 := ga2.same s3L
      replace gx1 := gx1.same s3L
      replace gx2 := gx2.same s3L
      replace ga3 := ga3.same s3L
      replace ga4 := ga4.same s3L
      replace gx3 := gx3.same s3L
      replace gx4 := gx4.same s3L
      replace ga5 := ga5.same s3L
      replace gx5 := gx5.same s3L
      replace ga6 := ga6.same s3L
      replace ga7 := ga7.same s3L
      replace ga8 := ga8.same s3L
      replace ga9 := ga9.same s3L
      replace gx6 := gx6.same s3L
      replace zo := zo.same (Bt.of s3L).off
      replace hh := hh.same s3L
      replace bt := bt.trans (Bt.of s3L)
      replace eR := s3L _ _ eR
      replace eL := s3L _ _ eL
      replace e2 := s3L _ _ e2
      obtain ⟨j, ej, hj⟩ : ∃ j : Nat, dw - 1 = (j : Int) ∧ j < 7 := ⟨(dw - 1).toNat, by omega, by omega⟩
      obtain ⟨vx, ex⟩ : ∃ v, (([.ref p3, .ref p4, .ref p7, .ref p8, .ref p10, .ref p15, .ref R] : List V))[j]? = some v := ⟨_, List.getElem?_eq_getElem hj⟩
      have vm := List.mem_of_getElem? ex
      refine ⟨_, rfl, dw, 1, rfl, rfl, L3, _, dw - 1, vx, rfl, rfl, SqL.of e3, by rw [ej]; exact atI_nat ex, q vx _ ?_ (hh.mono (by omega)) bt⟩
      simp only [List.mem_cons, List.not_mem_nil, or_false] at vm
      rcases vm with rfl | rfl | rfl | rfl | rfl | rfl | rfl
      · exact gx1.ga (by decide)
      · exact gx2.ga (by decide)
      · exact gx3.ga (by decide)
      · exact gx4.mono (by decide)
      · exact gx5.ga (by decide)
      · exact gx6.ga (by decide)
      · exact g0.ga (by decide)
end
end K16
set_option Elab.async false
set_option linter.all false
set_option maxRecDepth 100000
set_option maxHeartbeats 4000000
set_option pp.maxSteps 400
set_option pp.deepTerms false
namespace K16
open PySem PySem.Spec PyProof.Rows L2
open Xk Az Xnp
section
variable {P : Program} {w : World} {K : PySem.W.Frag} {mg : Str → Option Value} {base : Heap}
/-- a row of numbers -/
def RowV (H : Hp) (v : V) : Prop := ∃ (R : Addr) (ks : List Int), v = .ref R ∧ H R = some (.tup (ks.map V.int)) ∧ ks.length ≤ 200 ∧ ∀ k ∈ ks, 0 ≤ k ∧ k < 1000
theorem RowV.tp {H H' : Hp} {v : V} (r : RowV H v) (s : W37.Tp H H') : RowV H' v := by
  obtain ⟨R, ks, e1, e2, e3, e4⟩ := r
  exact ⟨R, ks, e1, s _ _ e2, e3, e4⟩
theorem RowV.ga {K : PySem.W.Frag} {H : Hp} {h o : Addr} {k : Int} {v : V} (r : RowV H v) (hd : Hd h o k H) : GA K RE [h, o] 900 H v := by
  obtain ⟨R, ks, e1, e2, e3, e4⟩ := r
  exact .inl ⟨R, _, e1, e2, hd.lsd.no e2, its_ints ks fun k hk => (nice_nat (e4 k hk).1 (Int.lt_trans (e4 k hk).2 (by decide))).mono (by decide) (by decide), by rw [List.length_map]; omega⟩
theorem off_sub {A B : List Addr} {H : Hp} (s : ∀ x ∈ B, x ∈ A) : L2.Same (offS A H) (offS B H) := fun x u e => by
  unfold offS at e ⊢
  split at e
  · cases e
  · rename_i n
    rw [if_neg (fun m => n (s x m))]
    exact e
theorem GA.weak {K : PySem.W.Frag} {E : PyData → Prop} {H : Hp} {h o D : Addr} {n : Nat} {v : V} (g : GA K E [h, o, D] n H v) : GA K E [h, o] n H v := by
  have sub : ∀ x ∈ [h, o], x ∈ [h, o, D] := fun x m => by
    simp only [List.mem_cons, List.not_mem_nil, or_false] at m ⊢
    exact m.elim .inl fun z => .inr (.inl z)
  have w : ∀ {xs : List V}, Its K E [h, o, D] H xs → Its K E [h, o] H xs := fun i => i.imp fun _ z => ⟨z.1.same (off_sub sub), z.2⟩
  rcases g with ⟨a, xs, e1, e2, e3, e4, e5⟩ | ⟨a, xs, e1, e2, e3, e4, e5, e6⟩
  · exact .inl ⟨a, xs, e1, e2, fun m => e3 (sub _ m), w e4, e5⟩
  · exact .inr ⟨a, xs, e1, e2, e3, fun m => e4 (sub _ m), w e5, e6⟩
theorem ThD.nice {d : PyData} (h : ThD RE 900 d) : d.showable = true ∧ d.depth ≤ 60 ∧ d.shown.length ≤ sizeLine := by
  obtain ⟨ds, e, l, al⟩ := h
  have b : ds.length * (60 + 2) + 4 ≤ sizeLine := Nat.le_trans (show _ ≤ 60000 by omega) (by decide)
  rcases e with rfl | rfl
  · have := nice_tups (k := 1) (n := 60) ds al
    exact ⟨this.sh, Nat.le_trans this.dp (by decide), Nat.le_trans this.sz b⟩
  · have := nice_lsts (k := 1) (n := 60) ds al
    exact ⟨this.sh, Nat.le_trans this.dp (by decide), Nat.le_trans this.sz b⟩
theorem ThD.niceN {d : PyData} (h : ThD NE 190 d) : d.showable = true ∧ d.depth ≤ 60 ∧ d.shown.length ≤ sizeLine := by
  obtain ⟨ds, e, l, al⟩ := h
  have b : ds.length * (900 + 2) + 4 ≤ sizeLine := Nat.le_trans (show _ ≤ 180000 by omega) (by decide)
  rcases e with rfl | rfl
  · have := nice_tups (k := 1) (n := 900) ds fun e he => (al e he).1
    exact ⟨this.sh, Nat.le_trans this.dp (by decide), Nat.le_trans this.sz b⟩
  · have := nice_lsts (k := 1) (n := 900) ds fun e he => (al e he).1
    exact ⟨this.sh, Nat.le_trans this.dp (by decide), Nat.le_trans this.sz b⟩
theorem ThD.len {E : PyData → Prop} {d : PyData} (h : ThD E 900 d) : ∀ ds, d = .tuple ds → ds.length ≤ 1000 := fun ds e => by
  obtain ⟨es, e2, l, _⟩ := h
  rcases e2 with z | z
  · rw [e] at z
    cases z
    omega
  · rw [e] at z
    cases z
theorem ThD.pn {d : PyData} (h : ThD NE 190 d) : PnE d := fun ds e => by
  obtain ⟨es, e2, l, al⟩ := h
  rcases e2 with z | z
  · rw [e] at z
    cases z
    exact ⟨by omega, fun x hx => (al x hx).2⟩
  · rw [e] at z
    cases z
theorem cls_few {es : List Pair} {a : N2} {l : List N2} (cl : Xnp.Cls es a l) : l.length ≤ 2 * es.length + 1 := by
  have := nd_len cl.nd (m := a :: nodes es) fun b hb => by
    rcases rch_in ((cl.mem b).mp hb) with rfl | z
    · exact List.mem_cons_self
    · exact List.mem_cons_of_mem _ z
  have h2 := nodes_len es
  rw [List.length_cons] at this
  omega
theorem cls_good {tl : List Tl} {a : N2} {l : List N2} (cl : Xnp.Cls (cnt tl) a l) (ga : Gd a) (gt : ∀ t ∈ tl, Gd t.1.1 ∧ Gd t.1.2) : ∀ n ∈ l, Gd n := fun n hn => by
  rcases rch_in ((cl.mem n).mp hn) with z | z
  · rw [z]; exact ga
  · obtain ⟨c, j⟩ := mem_nodes.mp z
    rcases j with j | j
    · exact (gt _ (mem_cnt.mp j)).1
    · exact (gt _ (mem_cnt.mp j)).2
/-- a tuple of names -/
def NamV (H : Hp) (v : V) : Prop := ∃ (R : Addr) (zs : List V) (rs : List N2), v = .ref R ∧ H R = some (.tup zs) ∧ W37.NmL H zs rs ∧ (∀ a ∈ rs, Gd a) ∧ rs.length ≤ 90
theorem NamV.tp {H H' : Hp} {v : V} (r : NamV H v) (s : W37.Tp H H') : NamV H' v := by
  obtain ⟨R, zs, rs, e1, e2, e3, e4, e5⟩ := r
  exact ⟨R, zs, rs, e1, s _ _ e2, e3.tp s, e4, e5⟩
theorem NamV.ga {K : PySem.W.Frag} {H : Hp} {h o : Addr} {k : Int} {v : V} (r : NamV H v) (hd : Hd h o k H) : GA K NE [h, o] 190 H v := by
  obtain ⟨R, zs, rs, e1, e2, e3, e4, e5⟩ := r
  exact .inl ⟨R, _, e1, e2, hd.lsd.no e2, its_nml hd.lsd e3 e4, by rw [e3.len]; omega⟩
def spRight (K : PySem.W.Frag) (C : Addr) : Sp := fun vs H Q _ => ∃ (H0 : Hp) (h o L b c TL : Addr) (n : Int) (xs : List V) (ns : List N2) (tl : List Tl), vs = [.ref h, .ref b, .ref TL, .ref L] ∧ St H0 H C h o L b c TL n xs ns tl tl L xs ∧ n + 1000 ≤ far ∧ (∀ e ∈ tl, Gd e.1.1 ∧ Gd e.1.2) ∧ (∀ a ∈ ns, Gd a) ∧ 1 ≤ ns.length ∧ ns.length ≤ 40 ∧ 1 ≤ tl.length ∧ tl.length ≤ 20 ∧
  ∀ H', St H0 H' C h o L b c TL (n + 200) xs ns tl tl L xs → Q (.bl true) H'
theorem ok_right {f : Addr} {fd : FuncData} {C : Addr} (D : Df K mg "_law_right" ["_law_hand_here", "_law_book_here", "_law_tellings", "_law_names_here"] sRight f fd) (T : Txt K mg) (N : NbC K C) (cP : Ca P w K mg base 2 "_law_pick" ["_law_hand_here", "_law_some"] spPick) (cWk : Ca P w K mg base 3 "_law_walked" ["_law_hand_here", "_law_tellings", "_law_one"] spWalkOn) (cRo : Ca P w K mg base 3 "_law_row_otherwise" ["_law_hand_here", "_law_row", "_law_many"] (spRowO K)) (cNo : Ca P w K mg base 3 "_law_names_otherwise" ["_law_hand_here", "_law_row", "_law_names_here"] (spNamO K)) (cLe : Ca P w K mg base 3 "_law_leads" ["_law_tellings", "_law_one", "_law_other", "_law_thing"] (spLeads K)) (cLc : Ca P w K mg base 2 "_law_closed" ["_law_tellings", "_law_one", "_law_other", "_law_thing"] (spClosed K)) (cHe : Ca P w K mg base 4 "_law_heap" ["_law_tellings", "_law_name"] spHeap) (cCh : Mt P w K mg base 3 C "chain" ["self", "one", "other"] (spChain C)) (cSc : Mt P w K mg base 2 C "shows_chain" ["self", "one", "other", "thing"] (spShowsC K C)) (cSa : Mt P w K mg base 5 C "shows_apart" ["self", "one", "other", "thing"] (spApartD K C)) : Gn P w K mg base 6 f fd ["_law_hand_here", "_law_book_here", "_law_tellings", "_law_names_here"] (spRight K C) := by
  obtain ⟨fC, fdC, mtC, okC, bdC⟩ := cCh.ex
  obtain ⟨fS, fdS, mtS, okS, bdS⟩ := cSc.ex
  obtain ⟨fA, fdA, mtA, okA, bdA⟩ := cSa.ex
  refine gn_body D.fn scRight (fun vs H Q E h => ?_) (fun cdv A outer s H vs Q E hg hr h => ?_)
  · obtain ⟨H0, h, o, L, b, c, TL, n, xs, ns, tl, rfl, st, hn, gt, gd, l1, l40, t1, t20, q⟩ := h
    rfl
  · obtain ⟨H0, h, o, L, b, c, TL, n, xs, ns, tl, rfl, st, hn, gt, gd, l1, l40, t1, t20, q⟩ := h
    refine ⟨_, (C8.pss_cut (ps_par (i := 4) (j := 5) (by rfl) scRight.nd rfl rfl (by decide) rfl rfl (pa_cons (pe_ca cP hr (by decide) (by rfl) (pa_cons (pv 0) (pa_cons (pv 3) pa_nil))) (pa_cons (pe_ca cP hr (by decide) (by rfl) (pa_cons (pv 0) (pa_cons (pv 3) pa_nil))) pa_nil)) (by rfl))
      (C8.pss_cut (ps_asg (pe_ca cWk hr (by decide) (by rfl) (pa_cons (pv 0) (pa_cons (pv 2) (pa_cons (pv 4) pa_nil)))) (pg_tup (by rfl) (pgs_cons (pg_name (i := 6) scRight.nd rfl (.inl rfl)) (pgs_cons (pg_name (i := 7) scRight.nd rfl (.inl rfl)) pgs_nil))))
      (C8.pss_cut (ps_set (i := 8) scRight.nd rfl (.inl rfl) ((pe_meth (pv 1) N.cls mtC okC (hr.mono (by decide)) bdC .nil pass0 (pa_cons (pv 4) (pa_cons (pv 5) pa_nil)))))
      (C8.pss_cut (ps_set (i := 9) scRight.nd rfl (.inl rfl) (pe_lst (pa_cons (pv 6) (pa_cons (pe_ifExp (pt_cmpR op_isN (pv 8) pe_non (nomark _)) (pe_tup pa_nil) (pv 8)) pa_nil))))
      (C8.pss_cut (ps_set (i := 9) scRight.nd rfl (.inl rfl) (pe_op op_cat (pv 9) (pe_lc (own := [("_law_some", 15)]) (g := gName 15) (tt := tYes) (te := tCall (spRowO K) [] E0 (tCons (tVar 0) (tCons (tVar 15) (tCons (tCB (fun xs H Q => ∃ p ys, xs = [V.ref p] ∧ (SqL K H p ys ∨ SqT K H p ys) ∧ Q (V.int ys.length) H) (tCons (tVar 2) tNil)) tNil)))) (by rfl) scRight.nd (pi_list (pe_op Xrp.op_repZ (pv 9) pe_int)) (blkOk_by (own := [("_law_some", 15)]) (N := ["_law_hand_here", "_law_book_here", "_law_tellings", "_law_names_here", "_law_one", "_law_other", "_law_row", "_law_end", "_law_chain", "_law_rows", "_law_thing", "_law_goal", "_law_kept", "_law_found", "_law_parts", "_law_some"]) (sc := defScope sRight) (by decide +kernel)) (fun _ _ _ _ _ => pg_name (i := 15) scRight.nd rfl (.inl rfl)) (fun _ _ _ _ _ => pts_nil) (fun _ _ _ _ _ => pe_ca cRo hr (by decide) (by rfl) (pa_cons (pv 0) (pa_cons (pv 15) (pa_cons (pe_callB call_len_seq (by rfl) T.len PySem.boot_len (pa_cons (pv 2) pa_nil)) pa_nil)))))))
      (C8.pss_cut (ps_for PassesOwn.never rfl (pi_list (pv 9)) (pg_name (i := 10) scRight.nd rfl (.inl rfl)) (pss_one (ps_for PassesOwn.never rfl (pi_tup (pe_tup (pa_cons (pv 5) (pa_cons (pv 7) pa_nil)))) (pg_name (i := 11) scRight.nd rfl (.inl rfl)) (pss_cons (ps_par (i := 12) (j := 13) (by rfl) scRight.nd rfl rfl (by decide) rfl rfl (pa_cons (pe_callB (cr_reprZ hg hr) (by rfl) T.repr (by decide +kernel) (pa_cons (pv 10) pa_nil)) (pa_cons ((pe_meth (pv 1) N.cls mtS okS (hr.mono (by decide)) bdS .nil pass0 (pa_cons (pv 4) (pa_cons (pv 11) (pa_cons (pv 10) pa_nil))))) pa_nil)) (by rfl))
      (pss_one (ps_if (PW.pt (pw_or (pt_not (pt_val (pe_callB call_isi (by rfl) T.isi (by decide +kernel) (pa_cons (pv 13) (pa_cons (pe_bltn (v := .ty "bool") (by rfl) T.bool (by decide +kernel) rfl) pa_nil))))) (pw_or (pt_cmpR op_ne (pv 13) (pe_ca cLe hr (by decide) (by rfl) (pa_cons (pv 2) (pa_cons (pv 4) (pa_cons (pv 11) (pa_cons (pv 10) pa_nil))))) (nomark _)) (pw_or1 (pt_cmpR op_ne (pe_callB (cr_reprZ hg hr) (by rfl) T.repr (by decide +kernel) (pa_cons (pv 10) pa_nil)) (pv 12) (nomark _)))))) (pss_one (ps_ret pe_bl)) pss_nil))))))
      (C8.pss_cut (ps_set (i := 14) scRight.nd rfl (.inl rfl) (pe_lst (pa_cons (pe_ca cHe hr (by decide) (by rfl) (pa_cons (pv 2) (pa_cons (pv 4) pa_nil))) (pa_cons (pe_op Xtu.op_catU (pe_ca cHe hr (by decide) (by rfl) (pa_cons (pv 2) (pa_cons (pv 4) pa_nil))) (pe_ca cHe hr (by decide) (by rfl) (pa_cons (pv 2) (pa_cons (pe_ca cP hr (by decide) (by rfl) (pa_cons (pv 0) (pa_cons (pv 3) pa_nil))) pa_nil)))) pa_nil))))
      (C8.pss_cut (ps_set (i := 14) scRight.nd rfl (.inl rfl) (pe_op op_cat (pe_op op_cat (pv 14) (pe_lc (own := [("_law_some", 15)]) (g := gName 15) (tt := tYes) (te := tCall (spNamO K) [] E0 (tCons (tVar 0) (tCons (tVar 15) (tCons (tVar 3) tNil)))) (by rfl) scRight.nd (pi_list (pe_op Xrp.op_repZ (pv 14) pe_int)) (blkOk_by (own := [("_law_some", 15)]) (N := ["_law_hand_here", "_law_book_here", "_law_tellings", "_law_names_here", "_law_one", "_law_other", "_law_row", "_law_end", "_law_chain", "_law_rows", "_law_thing", "_law_goal", "_law_kept", "_law_found", "_law_parts", "_law_some"]) (sc := defScope sRight) (by decide +kernel)) (fun _ _ _ _ _ => pg_name (i := 15) scRight.nd rfl (.inl rfl)) (fun _ _ _ _ _ => pts_nil) (fun _ _ _ _ _ => pe_ca cNo hr (by decide) (by rfl) (pa_cons (pv 0) (pa_cons (pv 15) (pa_cons (pv 3) pa_nil)))))) (pe_lst (pa_cons (pe_callTy call_tuple_of (by rfl) T.tuple (by decide +kernel) (pa_cons (pv 3) pa_nil)) pa_nil))))
      (C8.pss_cut (ps_for PassesOwn.never rfl (pi_list (pv 14)) (pg_name (i := 10) scRight.nd rfl (.inl rfl)) (pss_cons (ps_par (i := 12) (j := 13) (by rfl) scRight.nd rfl rfl (by decide) rfl rfl (pa_cons (pe_callB (cr_reprZ hg hr) (by rfl) T.repr (by decide +kernel) (pa_cons (pv 10) pa_nil)) (pa_cons ((pe_meth (pv 1) N.cls mtA okA (hr.mono (by decide)) bdA .nil pass0 (pa_cons (pv 4) (pa_cons (pv 5) (pa_cons (pv 10) pa_nil))))) pa_nil)) (by rfl))
      (pss_one (ps_if (PW.pt (pw_or (pt_not (pt_val (pe_callB call_isi (by rfl) T.isi (by decide +kernel) (pa_cons (pv 13) (pa_cons (pe_bltn (v := .ty "bool") (by rfl) T.bool (by decide +kernel) rfl) pa_nil))))) (pw_or (pt_cmpR op_ne (pv 13) (pe_ca cLc hr (by decide) (by rfl) (pa_cons (pv 2) (pa_cons (pv 4) (pa_cons (pv 5) (pa_cons (pv 10) pa_nil))))) (nomark _)) (pw_or1 (pt_cmpR op_ne (pe_callB (cr_reprZ hg hr) (by rfl) T.repr (by decide +kernel) (pa_cons (pv 10) pa_nil)) (pv 12) (nomark _)))))) (pss_one (ps_ret pe_bl)) pss_nil))))
      (pss_one (ps_ret pe_bl))))))))))), ?_⟩
    have fr : n + 1000 ≤ 1000000 := hn
    have xl : xs.length = ns.length := st.nl.len
    have xne : xs ≠ [] := fun z => by rw [z] at xl; simp at xl; omega
    have x1k : xs.length < 1000 := by omega
    refine ⟨fun σ Hx => ∃ (u v : V) (x y : N2), σ = [some (.ref h), some (.ref b), some (.ref TL), some (.ref L), some u, some v, none, none, none, none, none, none, none, none, none, none] ∧ St H0 Hx C h o L b c TL (n + 2) xs ns tl tl L xs ∧ W37.NmV Hx u x ∧ W37.NmV Hx v y ∧ Gd x ∧ Gd y, ?_, ?_⟩
    · refine ⟨_, rfl, _, rfl, h, o, n, _, rfl, st.hd, by show n ≤ 1000000; omega, .inl ⟨L, xs, rfl, st.eL, st.off, xne, x1k, fun u H1 mu h1 b1 => ?_⟩⟩
      have st1 := st.take h1 b1
      refine ⟨_, rfl, _, rfl, h, o, n + 1, _, rfl, st1.hd, by show n + 1 ≤ 1000000; omega, .inl ⟨L, xs, rfl, st1.eL, st1.off, xne, x1k, fun v H2 mv h2 b2 => ⟨_, _, rfl, ?_⟩⟩⟩
      have st2 := st1.take h2 b2
      obtain ⟨x, mx, nu⟩ := st2.nl.mem mu
      obtain ⟨y, my, nv⟩ := st2.nl.mem mv
      exact ⟨u, v, x, y, rfl, st2.mono (by omega), nu, nv, gd _ mx, gd _ my⟩
    rintro σ Ha ⟨u, v, x, y, rfl, sa, nu, nv, gx, gy⟩
    clear st
    refine ⟨fun σ Hx => ∃ (R : Addr) (vh : V) (z : N2) (ks : List Int), σ = [some (.ref h), some (.ref b), some (.ref TL), some (.ref L), some u, some v, some (.ref R), some vh, none, none, none, none, none, none, none, none] ∧ St H0 Hx C h o L b c TL (n + 30) xs ns tl tl L xs ∧ W37.NmV Hx u x ∧ W37.NmV Hx v y ∧ RowV Hx (.ref R) ∧ W37.NmV Hx vh z ∧ Gd z, ?_, ?_⟩
    · obtain ⟨ts, eT, tL, tnd, toff⟩ := sa.te.ex
      have oT : TL ∉ [h, o] := fun m => sa.te.off (by simp only [List.mem_cons, List.not_mem_nil, or_false] at m ⊢; exact m.elim .inl fun z => .inr (.inl z))
      refine ⟨_, rfl, _, rfl, _, rfl, h, o, TL, u, n + 2, ts, tl, x, rfl, sa.hd, by show n + 2 + 100 ≤ 1000000; omega, eT, oT, tL, fun a ha => toff a (by simp only [List.mem_cons, List.not_mem_nil, or_false] at ha ⊢; exact .inr (ha.elim .inl fun z => .inr (.inl z))), by omega, nu, gx, gt, fun t R vh ks z H3 et eR k5 kb nz gz h3 b3 => ?_⟩
      have sb := sa.take h3 b3
      have tp := (sa.hd.nl b3).tp
      exact ⟨t, _, rfl, SqT.of et, rfl, _, _, rfl, _, _, rfl, rfl, R, vh, z, ks, rfl, sb.mono (by omega), nu.tp tp, nv.tp tp, ⟨R, ks, rfl, eR, by omega, fun k hk => ⟨(kb k hk).1, by have := (kb k hk).2; omega⟩⟩, nz, gz⟩
    rintro σ Hb ⟨R, vh, z, ks, rfl, sb, nu, nv, rR, nz, gz⟩
    clear sa
    refine ⟨fun σ Hx => ∃ (cv : V), σ = [some (.ref h), some (.ref b), some (.ref TL), some (.ref L), some u, some v, some (.ref R), some vh, some cv, none, none, none, none, none, none, none] ∧ L2.Same Hb Hx ∧ (cv = .non ∨ RowV Hx cv), ?_, ?_⟩
    · obtain ⟨ts, eT, nb⟩ := sb.nb
      obtain ⟨dx, l0, g0, kvs, eb, _⟩ := nb.ex
      have gu : ∀ e ∈ live 0 tl, Gd e.2.1 ∧ Gd e.2.2 := fun e he => by
        obtain ⟨i, h1, h2⟩ := live_iff.mp he
        exact gt _ (List.mem_of_getElem? h2)
      have ll := live_len 0 tl
      refine ⟨_, rfl, b, dx, _, rfl, eb, rfl, _, rfl, _, rfl, _, b, c, u, v, _, live 0 tl, x, y, rfl, nb, nu, nv, gu, gx, gy, by omega, live_nd 0 tl, fun nr H1 s1 => ⟨.non, rfl, s1, .inl rfl⟩, fun t ks n2 H1 s1 et row far ln => ⟨.ref t, rfl, s1, .inr ⟨t, ks, rfl, et, ?_, fun k hk => ?_⟩⟩⟩
      · have h1 := far_len far
        rw [live_snd] at h1
        have h3 : (cnt tl).length ≤ tl.length := by unfold cnt; rw [List.length_map]; exact List.length_filter_le _ _
        omega
      · obtain ⟨p, hp⟩ := row.in_ k hk
        have := live_in hp
        omega
    rintro σ Hc ⟨cv, rfl, sc, hcv⟩
    replace sb := sb.same sc
    replace nu := nu.tp (W37.tp_same sc)
    replace nv := nv.tp (W37.tp_same sc)
    replace nz := nz.tp (W37.tp_same sc)
    replace rR := rR.tp (W37.tp_same sc)
    clear sc
    refine ⟨fun σ Hx => ∃ (Lr : Addr) (wv : V), σ = [some (.ref h), some (.ref b), some (.ref TL), some (.ref L), some u, some v, some (.ref R), some vh, some cv, some (.ref Lr), none, none, none, none, none, none] ∧ L2.Same Hc Hx ∧ Hx Lr = some (.lst [.ref R, wv]) ∧ RowV Hx wv ∧ Lr ∉ [h, o], ?_, ?_⟩
    · refine ⟨_, rfl, _, rfl, rfl, _, rfl, ?_⟩
      rcases hcv with rfl | hcv
      · rw [decide_eq_true rfl]
        refine iteT ⟨(by show 0 ≤ sizeLine; decide), fun Z nZ => ⟨(by show 2 ≤ sizeLine; decide), fun Lr nLr => ?_⟩⟩
        have sZ := same_upd nZ (o := .tup [])
        have sL := same_upd nLr (o := .lst [.ref R, .ref Z])
        exact ⟨Lr, .ref Z, rfl, sZ.trans sL, upd_same, ⟨Z, [], rfl, sL _ _ upd_same, by simp, by simp⟩, (sb.hd.same sZ).fresh nLr⟩
      · have ncv : cv ≠ .non := fun e => by obtain ⟨_, _, e2, _⟩ := hcv; rw [e] at e2; cases e2
        rw [decide_eq_false ncv]
        refine iteF ⟨_, rfl, (by show 2 ≤ sizeLine; decide), fun Lr nLr => ?_⟩
        have sL := same_upd nLr (o := .lst [.ref R, cv])
        exact ⟨Lr, cv, rfl, sL, upd_same, hcv.tp (W37.tp_same sL), sb.hd.fresh nLr⟩
    rintro σ Hd1 ⟨Lr, wv, rfl, sd, eLr, rW, oLr⟩
    replace sb := sb.same sd
    replace nu := nu.tp (W37.tp_same sd)
    replace nv := nv.tp (W37.tp_same sd)
    replace nz := nz.tp (W37.tp_same sd)
    replace rR := rR.tp (W37.tp_same sd)
    clear sd hcv
    refine ⟨fun σ Hx => ∃ (Lq : Addr) (ys : List V) (c6 c8 : Option V), σ = [some (.ref h), some (.ref b), some (.ref TL), some (.ref L), some u, some v, c6, some vh, c8, some (.ref Lq), none, none, none, none, none, none] ∧ St H0 Hx C h o L b c TL (n + 100) xs ns tl tl L xs ∧ W37.NmV Hx u x ∧ W37.NmV Hx v y ∧ W37.NmV Hx vh z ∧ Hx Lq = some (.lst ys) ∧ ∀ t ∈ ys, GA K RE [h, o] 900 Hx t, ?_, ?_⟩
    · refine ⟨_, rfl, _, rfl, Lr, 3, _, rfl, rfl, eLr, by decide, by decide, by show 2 ≤ 1000; decide, fun Lx nLx nsx => ?_⟩
      have sx := same_upd nLx (o := .lst (List.replicate (3 : Int).toNat [V.ref R, wv]).flatten)
      have eLx : (L2.upd Hd1 Lx (.lst (List.replicate (3 : Int).toNat [V.ref R, wv]).flatten)) Lx = some (.lst (List.replicate (3 : Int).toNat [V.ref R, wv]).flatten) := upd_same
      have oLx : Lx ∉ [h, o] := sb.hd.fresh nLx
      have six : ∀ t ∈ (List.replicate (3 : Int).toNat [V.ref R, wv]).flatten, RowV (L2.upd Hd1 Lx (.lst (List.replicate (3 : Int).toNat [V.ref R, wv]).flatten)) t := fun t ht => by
        obtain ⟨l, hl, ht⟩ := List.mem_flatten.mp ht
        rw [(List.mem_replicate.mp hl).2] at ht
        simp only [List.mem_cons, List.not_mem_nil, or_false] at ht
        rcases ht with rfl | rfl
        · exact rR.tp (W37.tp_same sx)
        · exact rW.tp (W37.tp_same sx)
      have len6 : (List.replicate (3 : Int).toNat [V.ref R, wv]).flatten.length = 6 := rfl
      have sb5 := sb.same sx
      have eLr5 := sx _ _ eLr
      have rR5 := rR.tp (W37.tp_same sx)
      have rW5 := rW.tp (W37.tp_same sx)
      have nu5 := nu.tp (W37.tp_same sx)
      have nv5 := nv.tp (W37.tp_same sx)
      have nz5 := nz.tp (W37.tp_same sx)
      generalize (List.replicate (3 : Int).toNat [V.ref R, wv]).flatten = zs at eLx six len6 sb5 eLr5 rR5 rW5 nu5 nv5 nz5 ⊢
      generalize L2.upd Hd1 Lx (.lst zs) = H5 at eLx six sb5 eLr5 rR5 rW5 nu5 nv5 nz5 ⊢
      refine ⟨Lx, rfl, ⟨_, SqL.of eLx⟩, fun D nD => ?_⟩
      have oD : D ∉ [h, o] := sb5.hd.fresh nD
      refine lc_list (K := K) (a := Lx) (xs := zs) (fun i Hj => Hd h o (n + 30 + 10 * i) Hj ∧ Bt [h, o] H5 Hj ∧ ∃ ys, Hj D = some (.lst ys) ∧ ys.length = i ∧ ∀ t ∈ ys, GA K RE [h, o, D] 900 Hj t) ⟨(sb5.hd.same (same_upd nD)).mono (by omega), Bt.of (same_upd nD), [], upd_same, rfl, by simp⟩ (fun i Hj _ z => SqL.of (z.2.1 _ _ oLx eLx)) ?_ ?_
      · rintro i t Hj ht ⟨hj, bj, ys, eD, yl, ga⟩
        have i6 : i < 6 := by rw [← len6]; exact (List.getElem?_eq_some_iff.mp ht).1
        obtain ⟨R', ks', rfl, eR', kl, kb⟩ := (six t (List.mem_of_getElem? ht)).tp (sb5.hd.nl bj).tp
        obtain ⟨ts, eT, tL, _⟩ := (sb5.take hj bj).te.ex
        have tsl := tL.len
        refine ⟨rfl, ?_⟩
        unfold tYes
        refine iteT ⟨_, rfl, _, rfl, _, rfl, TL, ts, rfl, .inl (SqL.of eT), h, o, R', D, _, n + 30 + 10 * (i : Int), ks', ys, rfl, eD, oD, by omega, by omega, hj, by show n + 30 + 10 * (i : Int) + 100 ≤ 1000000; omega, eR', kl, kb, fun y2 H6 ga2 h6 b6 => ?_⟩
        have eD6 := b6 _ _ oD eD
        have bD : Bt [h, o, D] H6 (L2.upd H6 D (.lst (ys ++ [y2]))) := fun a w na e => by
          rw [upd_ne (fun z => na (by rw [z]; simp))]
          exact e
        refine ⟨ys, eD6, Nat.lt_of_le_of_lt (show ys.length ≤ 6 by omega) (by decide), (h6.upd oD).mono (by omega), fun a w na e => ?_, ys ++ [y2], upd_same, by rw [List.length_append, yl]; rfl, fun t ht => ?_⟩
        · rw [upd_ne (ne_of_none e nD)]
          exact b6 _ _ na (bj _ _ na e)
        · rcases List.mem_append.mp ht with w | w
          · exact ((ga t w).bt b6.w3).bt bD
          · rw [List.mem_singleton.mp w]
            exact ga2.bt bD
      rintro Hy ⟨hy, by_, ys, eD, yl, ga⟩
      have yl : ys.length = zs.length := yl
      refine ⟨Lr, D, _, _, rfl, rfl, by_ _ _ oLr eLr5, eD, Nat.le_trans (show 2 + ys.length ≤ 100 by omega) (by decide), fun Lq nLq => ?_⟩
      have sq := same_upd nLq (o := .lst ([V.ref R, wv] ++ ys))
      have tpy := (sb5.hd.nl by_).tp
      refine ⟨Lq, _, _, _, rfl, ((sb5.take hy by_).same sq).mono (by rw [len6]; omega), (nu5.tp tpy).tp (W37.tp_same sq), (nv5.tp tpy).tp (W37.tp_same sq), (nz5.tp tpy).tp (W37.tp_same sq), upd_same, fun t ht => ?_⟩
      rcases List.mem_append.mp ht with w | w
      · simp only [List.mem_cons, List.not_mem_nil, or_false] at w
        rcases w with rfl | rfl
        · exact ((rR5.tp tpy).ga hy).same sq
        · exact ((rW5.tp tpy).ga hy).same sq
      · exact ((ga t w).weak).same sq
    rintro σ He ⟨Lq, ys, c6, c8, rfl, se, nu, nv, nz, eLq, gys⟩
    clear sb eLr rW rR oLr
    refine ⟨fun σ Hx => ∃ (c6 c7 c8 c9 c10 c11 c12 c13 : Option V), σ = [some (.ref h), some (.ref b), some (.ref TL), some (.ref L), some u, some v, c6, c7, c8, c9, c10, c11, c12, c13, none, none] ∧ L2.Same He Hx, ?_, ?_⟩
    · refine ⟨_, rfl, Lq, rfl, ⟨_, SqL.of eLq⟩, for_list (K := K) (a := Lq) (xs := ys) (fun i σ Hx => ∃ (c10 c11 c12 c13 : Option V), σ = [some (.ref h), some (.ref b), some (.ref TL), some (.ref L), some u, some v, c6, some vh, c8, some (.ref Lq), c10, c11, c12, c13, none, none] ∧ L2.Same He Hx) ⟨none, none, none, none, rfl, Same.refl _⟩ (fun i σ Hi _ z => by obtain ⟨_, _, _, _, _, z⟩ := z; exact SqL.of (z _ _ eLq)) ?_ ?_⟩
      · rintro i t σ Hx ht ⟨c10, c11, c12, c13, rfl, sx⟩
        have gt1 := (gys t (List.mem_of_getElem? ht)).same sx
        obtain ⟨d, hz0, th⟩ := gt1.dz
        have hz := hz0.same offS_all
        obtain ⟨n1, n2, n3⟩ := th.nice
        refine ⟨_, rfl, _, rfl, (by show 2 ≤ sizeLine; decide), fun Z nZ => ?_⟩
        have sZ := same_upd nZ (o := .tup [v, vh])
        have eZ : (L2.upd Hx Z (.tup [v, vh])) Z = some (.tup [v, vh]) := upd_same
        have sxz := sx.trans sZ
        generalize L2.upd Hx Z (.tup [v, vh]) = H1 at sZ eZ sxz ⊢
        have nv1 := nv.tp (W37.tp_same sxz)
        have nz1 := nz.tp (W37.tp_same sxz)
        have both : ∀ gv ∈ [v, vh], ∃ gn, W37.NmV H1 gv gn ∧ Gd gn := fun gv hgv => by
          simp only [List.mem_cons, List.not_mem_nil, or_false] at hgv
          rcases hgv with rfl | rfl
          · exact ⟨y, nv1, gy⟩
          · exact ⟨z, nz1, gz⟩
        refine ⟨Z, rfl, ⟨_, SqT.of eZ⟩, for_tup (K := K) (a := Z) (xs := [v, vh]) (fun j σ Hy => ∃ (c11 c12 c13 : Option V), σ = [some (.ref h), some (.ref b), some (.ref TL), some (.ref L), some u, some v, c6, some vh, c8, some (.ref Lq), some t, c11, c12, c13, none, none] ∧ L2.Same H1 Hy) ⟨c11, c12, c13, rfl, Same.refl _⟩ (fun j σ Hj _ z => by obtain ⟨_, _, _, _, z⟩ := z; exact SqT.of (z _ _ eZ)) ?_ ?_⟩
        · rintro j gv σ Hy hgv ⟨c11, c12, c13, rfl, sy⟩
          obtain ⟨gn, ngv, ggn⟩ := both gv (List.mem_of_getElem? hgv)
          have s2 := sxz.trans sy
          have hz2 := (hz.same sZ).same sy
          have ng2 := ngv.tp (W37.tp_same sy)
          have nu2 := nu.tp (W37.tp_same s2)
          have st2 := se.same s2
          obtain ⟨ts, eT, nb⟩ := st2.nb
          obtain ⟨ts', e', tL, _⟩ := st2.te.ex
          rw [eT] at e'
          cases e'
          obtain ⟨dx, l0, g0, kvs, eb, _⟩ := nb.ex
          have gu : ∀ e ∈ live 0 tl, Gd e.2.1 ∧ Gd e.2.2 := fun e he => by
            obtain ⟨i, h1, h2⟩ := live_iff.mp he
            exact gt _ (List.mem_of_getElem? h2)
          refine ⟨_, rfl, t, d, rfl, hz2, n1, n2, n3, _, rfl, b, dx, _, rfl, eb, rfl, _, rfl, _, rfl, _, rfl, _, b, c, u, gv, t, _, live 0 tl, x, gn, d, rfl, nb, nu2, ng2, hz2, gu, gx, ggn, fun H3 s3 => ⟨_, _, rfl, ?_⟩⟩
          refine ⟨_, rfl, _, _, _, _, true, rfl, .ty _, (.base (.bl _)), kit_ty (by decide +kernel), _, rfl, iteF ?_⟩
          have s23 := s2.trans s3
          refine ⟨_, rfl, _, rfl, _, rfl, _, rfl, _, rfl, TL, u, gv, t, ts, tl, x, gn, d, rfl, s3 _ _ eT, tL.ll (ll_same s3), by omega, nu2.tp (W37.tp_same s3), ng2.tp (W37.tp_same s3), hz2.same s3, th.len, gx, ggn, gt, fun H4 s4 => ⟨rfl, _, rfl, ?_⟩⟩
          rw [show (!decide (V.bl (showsC (live 0 tl) x gn d) = V.bl (showsC (live 0 tl) x gn d))) = false by simp]
          refine iteF ⟨_, rfl, t, d, rfl, (hz2.same s3).same s4, n1, n2, n3, _, rfl, rfl, _, rfl, ?_⟩
          rw [show (!decide (V.str d.shown = V.str d.shown)) = false by simp]
          exact iteF ⟨_, _, _, rfl, (sy.trans s3).trans s4⟩
        · rintro σ Hy ⟨c11, c12, c13, rfl, sy⟩
          exact ⟨_, _, _, _, rfl, sxz.trans sy⟩
      · rintro σ Hx ⟨c10, c11, c12, c13, rfl, sx⟩
        exact ⟨_, _, _, _, _, _, _, _, rfl, sx⟩
    rintro σ Hf ⟨c6, c7, c8, c9, c10, c11, c12, c13, rfl, sf⟩
    replace se := se.same sf
    replace nu := nu.tp (W37.tp_same sf)
    replace nv := nv.tp (W37.tp_same sf)
    clear eLq gys sf nz
    refine ⟨fun σ Hx => ∃ (Lp : Addr) (p1 p2 : V), σ = [some (.ref h), some (.ref b), some (.ref TL), some (.ref L), some u, some v, c6, c7, c8, c9, c10, c11, c12, c13, some (.ref Lp), none] ∧ St H0 Hx C h o L b c TL (n + 101) xs ns tl tl L xs ∧ W37.NmV Hx u x ∧ W37.NmV Hx v y ∧ Hx Lp = some (.lst [p1, p2]) ∧ NamV Hx p1 ∧ NamV Hx p2 ∧ Lp ∉ [h, o], ?_, ?_⟩
    · obtain ⟨ts, eT, tL, _⟩ := se.te.ex
      have lc : (cnt tl).length ≤ tl.length := by unfold cnt; rw [List.length_map]; exact List.length_filter_le _ _
      refine ⟨_, rfl, _, rfl, TL, u, ts, tl, x, rfl, eT, tL, by omega, nu, gx, gt, fun t1 ys1 m1 H1 s1 et1 nl1 cl1 => ?_⟩
      refine ⟨_, rfl, _, rfl, TL, u, ts, tl, x, rfl, s1 _ _ eT, tL.ll (ll_same s1), by omega, nu.tp (W37.tp_same s1), gx, gt, fun t2 ys2 m2 H2 s2 et2 nl2 cl2 => ?_⟩
      have s12 := s1.trans s2
      have se2 := se.same s12
      have f1 := cls_few cl1
      have f2 := cls_few cl2
      refine ⟨_, rfl, _, rfl, _, rfl, h, o, n + 100, _, rfl, se2.hd, by show n + 100 ≤ 1000000; omega, .inl ⟨L, xs, rfl, se2.eL, se2.off, xne, x1k, fun w H3 mw h3 b3 => ?_⟩⟩
      have se3 := se2.take h3 b3
      obtain ⟨x3, mx3, nw⟩ := se3.nl.mem mw
      have tp3 := (se2.hd.nl b3).tp
      obtain ⟨ts3, eT3, tL3, _⟩ := se3.te.ex
      refine ⟨TL, w, ts3, tl, x3, rfl, eT3, tL3, by omega, nw, gd _ mx3, gt, fun t3 ys3 m3 H4 s4 et3 nl3 cl3 => ?_⟩
      have f3 := cls_few cl3
      have et2' := s4 _ _ (tp3 _ _ et2)
      have nl2' := (nl2.tp tp3).tp (W37.tp_same s4)
      have r1 : NamV H4 (.ref t1) := ⟨t1, ys1, m1, rfl, s4 _ _ (tp3 _ _ (s2 _ _ et1)), (((nl1.tp (W37.tp_same s2)).tp tp3).tp (W37.tp_same s4)), cls_good cl1 gx gt, by omega⟩
      have z2 := nl2'.len
      have z3 := nl3.len
      refine ⟨t2, t3, ys2, ys3, rfl, rfl, et2', et3, Nat.le_trans (show ys2.length + ys3.length ≤ 200 by omega) (by decide), fun p H5 s5 e5 => ⟨(by show 2 ≤ sizeLine; decide), fun Lp nLp => ?_⟩⟩
      have sL := same_upd nLp (o := .lst [.ref t1, .ref p])
      have s45 := s4.trans (s5.trans sL)
      have se5 := se3.same (s4.trans s5)
      have tpA := ((W37.tp_same s12).trans tp3).trans (W37.tp_same s45)
      refine ⟨Lp, .ref t1, .ref p, rfl, (se3.same s45).mono (by omega), nu.tp tpA, nv.tp tpA, upd_same, r1.tp (W37.tp_same (s5.trans sL)), ⟨p, ys2 ++ ys3, m2 ++ m3, rfl, sL _ _ e5, (nl2'.app nl3).tp (W37.tp_same (s5.trans sL)), fun a ha => ?_, by rw [List.length_append]; omega⟩, se5.hd.fresh nLp⟩
      rcases List.mem_append.mp ha with z | z
      · exact cls_good cl2 gx gt a z
      · exact cls_good cl3 (gd _ mx3) gt a z
    rintro σ Hg ⟨Lr, R, wv, rfl, sb, nu, nv, eLr, rR, rW, oLr⟩
    clear se
    refine ⟨fun σ Hx => ∃ (Lq : Addr) (ys : List V), σ = [some (.ref h), some (.ref b), some (.ref TL), some (.ref L), some u, some v, c6, c7, c8, c9, c10, c11, c12, c13, some (.ref Lq), none] ∧ St H0 Hx C h o L b c TL (n + 190) xs ns tl tl L xs ∧ W37.NmV Hx u x ∧ W37.NmV Hx v y ∧ Hx Lq = some (.lst ys) ∧ ∀ t ∈ ys, GA K NE [h, o] 190 Hx t, ?_, ?_⟩
    · refine ⟨_, rfl, _, rfl, Lr, 3, _, rfl, rfl, eLr, by decide, by decide, by show 2 ≤ 1000; decide, fun Lx nLx nsx => ?_⟩
      have sx := same_upd nLx (o := .lst (List.replicate (3 : Int).toNat [R, wv]).flatten)
      have eLx : (L2.upd Hg Lx (.lst (List.replicate (3 : Int).toNat [R, wv]).flatten)) Lx = some (.lst (List.replicate (3 : Int).toNat [R, wv]).flatten) := upd_same
      have oLx : Lx ∉ [h, o] := sb.hd.fresh nLx
      have six : ∀ t ∈ (List.replicate (3 : Int).toNat [R, wv]).flatten, NamV (L2.upd Hg Lx (.lst (List.replicate (3 : Int).toNat [R, wv]).flatten)) t := fun t ht => by
        obtain ⟨l, hl, ht⟩ := List.mem_flatten.mp ht
        rw [(List.mem_replicate.mp hl).2] at ht
        simp only [List.mem_cons, List.not_mem_nil, or_false] at ht
        rcases ht with rfl | rfl
        · exact rR.tp (W37.tp_same sx)
        · exact rW.tp (W37.tp_same sx)
      have len6 : (List.replicate (3 : Int).toNat [R, wv]).flatten.length = 6 := rfl
      have sb5 := sb.same sx
      have eLr5 := sx _ _ eLr
      have rR5 := rR.tp (W37.tp_same sx)
      have rW5 := rW.tp (W37.tp_same sx)
      have nu5 := nu.tp (W37.tp_same sx)
      have nv5 := nv.tp (W37.tp_same sx)
      generalize (List.replicate (3 : Int).toNat [R, wv]).flatten = zs at eLx six len6 sb5 eLr5 rR5 rW5 nu5 nv5 ⊢
      generalize L2.upd Hg Lx (.lst zs) = H5 at eLx six sb5 eLr5 rR5 rW5 nu5 nv5 ⊢
      refine ⟨Lx, rfl, ⟨_, SqL.of eLx⟩, fun D nD => ?_⟩
      have oD : D ∉ [h, o] := sb5.hd.fresh nD
      refine lc_list (K := K) (a := Lx) (xs := zs) (fun i Hj => Hd h o (n + 101 + 10 * i) Hj ∧ Bt [h, o] H5 Hj ∧ ∃ ys, Hj D = some (.lst ys) ∧ ys.length = i ∧ ∀ t ∈ ys, GA K NE [h, o, D] 190 Hj t) ⟨(sb5.hd.same (same_upd nD)).mono (by omega), Bt.of (same_upd nD), [], upd_same, rfl, by simp⟩ (fun i Hj _ z => SqL.of (z.2.1 _ _ oLx eLx)) ?_ ?_
      · rintro i t Hj ht ⟨hj, bj, ys, eD, yl, ga⟩
        have i6 : i < 6 := by rw [← len6]; exact (List.getElem?_eq_some_iff.mp ht).1
        obtain ⟨R', zs', rs', rfl, eR', nzr, grs, l90⟩ := (six t (List.mem_of_getElem? ht)).tp (sb5.hd.nl bj).tp
        have sj := sb5.take hj bj
        refine ⟨rfl, ?_⟩
        unfold tYes
        refine iteT ⟨_, rfl, _, rfl, _, rfl, h, o, R', L, D, n + 101 + 10 * (i : Int), zs', xs, ys, rs', ns, rfl, eD, oD, hj, by show n + 101 + 10 * (i : Int) + 100 ≤ 1000000; omega, eR', nzr, grs, l90, sj.eL, sj.off, sj.nl, gd, l40, fun y2 H6 ga2 h6 b6 => ?_⟩
        have eD6 := b6 _ _ oD eD
        have bD : Bt [h, o, D] H6 (L2.upd H6 D (.lst (ys ++ [y2]))) := fun a w na e => by
          rw [upd_ne (fun z => na (by rw [z]; simp))]
          exact e
        refine ⟨ys, eD6, Nat.lt_of_le_of_lt (show ys.length ≤ 6 by omega) (by decide), (h6.upd oD).mono (by omega), fun a w na e => ?_, ys ++ [y2], upd_same, by rw [List.length_append, yl]; rfl, fun t ht => ?_⟩
        · rw [upd_ne (ne_of_none e nD)]
          exact b6 _ _ na (bj _ _ na e)
        · rcases List.mem_append.mp ht with w | w
          · exact ((ga t w).bt b6.w3).bt bD
          · rw [List.mem_singleton.mp w]
            exact ga2.bt bD
      rintro Hy ⟨hy, by_, ys, eD, yl, ga⟩
      have yl : ys.length = zs.length := yl
      refine ⟨Lr, D, _, _, rfl, rfl, by_ _ _ oLr eLr5, eD, Nat.le_trans (show 2 + ys.length ≤ 100 by omega) (by decide), fun Lc nLc => ?_⟩
      have sc := same_upd nLc (o := .lst ([R, wv] ++ ys))
      have eLc : (L2.upd Hy Lc (.lst ([R, wv] ++ ys))) Lc = some (.lst ([R, wv] ++ ys)) := upd_same
      have tpy := (sb5.hd.nl by_).tp
      have sy := sb5.take hy by_
      have tuL := fun {H' : Hp} (s : L2.Same Hy H') => (sy.same s).eL
      generalize L2.upd Hy Lc (.lst ([R, wv] ++ ys)) = H7 at sc eLc ⊢
      refine ⟨_, rfl, L, _, rfl, .inl ⟨SqL.of (tuL sc), fun tt nt => ⟨(by show 1 ≤ sizeLine; decide), fun Lt nLt => ?_⟩⟩⟩
      have s_t := same_upd nt (o := .tup xs)
      have ett : (L2.upd H7 tt (.tup xs)) tt = some (.tup xs) := upd_same
      generalize L2.upd H7 tt (.tup xs) = H8 at s_t ett nLt ⊢
      have s_l := same_upd nLt (o := .lst [.ref tt])
      have eLt : (L2.upd H8 Lt (.lst [.ref tt])) Lt = some (.lst [.ref tt]) := upd_same
      have s9 := (sc.trans s_t).trans s_l
      have eLc9 := (s_t.trans s_l) _ _ eLc
      have ett9 := s_l _ _ ett
      generalize L2.upd H8 Lt (.lst [.ref tt]) = H9 at eLt s9 eLc9 ett9 ⊢
      refine ⟨Lc, Lt, _, _, rfl, rfl, eLc9, eLt, Nat.le_trans (show ([R, wv] ++ ys).length + 1 ≤ 100 by rw [List.length_append]; show 2 + ys.length + 1 ≤ 100; omega) (by decide), fun Lq nLq => ?_⟩
      have sq := s9.trans (same_upd nLq (o := .lst (([R, wv] ++ ys) ++ [.ref tt])))
      have rT : NamV H9 (.ref tt) := ⟨tt, xs, ns, rfl, ett9, (sy.same s9).nl, gd, by omega⟩
      refine ⟨Lq, _, rfl, (sy.same sq).mono (by rw [len6]; omega), (nu5.tp tpy).tp (W37.tp_same sq), (nv5.tp tpy).tp (W37.tp_same sq), upd_same, fun t ht => ?_⟩
      rcases List.mem_append.mp ht with w | w
      · rcases List.mem_append.mp w with w | w
        · simp only [List.mem_cons, List.not_mem_nil, or_false] at w
          rcases w with rfl | rfl
          · exact ((rR5.tp tpy).ga hy).same sq
          · exact ((rW5.tp tpy).ga hy).same sq
        · exact ((ga t w).weak).same sq
      · rw [List.mem_singleton.mp w]
        exact (rT.ga (sy.same s9).hd).same (same_upd nLq)
    rintro σ Hh ⟨Lq, ys, rfl, se, nu, nv, eLq, gys⟩
    clear sb eLr rW rR oLr
    refine ⟨fun σ Hx => L2.Same Hh Hx, ?_, ?_⟩
    · refine ⟨_, rfl, Lq, rfl, ⟨_, SqL.of eLq⟩, for_list (K := K) (a := Lq) (xs := ys) (fun i σ Hx => ∃ (c10 c12 c13 : Option V), σ = [some (.ref h), some (.ref b), some (.ref TL), some (.ref L), some u, some v, c6, c7, c8, c9, c10, c11, c12, c13, some (.ref Lq), none] ∧ L2.Same Hh Hx) ⟨c10, c12, c13, rfl, Same.refl _⟩ (fun i σ Hi _ z => by obtain ⟨_, _, _, _, z⟩ := z; exact SqL.of (z _ _ eLq)) ?_ ?_⟩
      · rintro i t σ Hx ht ⟨c10, c12, c13, rfl, sx⟩
        have gt1 := (gys t (List.mem_of_getElem? ht)).same sx
        obtain ⟨d, hz0, th⟩ := gt1.dz
        have hz := hz0.same offS_all
        obtain ⟨n1, n2, n3⟩ := th.niceN
        have nu2 := nu.tp (W37.tp_same sx)
        have nv2 := nv.tp (W37.tp_same sx)
        have st2 := se.same sx
        obtain ⟨ts, eT, nb⟩ := st2.nb
        obtain ⟨ts', e', tL, _⟩ := st2.te.ex
        rw [eT] at e'
        cases e'
        obtain ⟨dx, l0, g0, kvs, eb, _⟩ := nb.ex
        have ll := live_len 0 tl
        refine ⟨_, rfl, t, d, rfl, hz, n1, n2, n3, _, rfl, b, dx, _, rfl, eb, rfl, _, rfl, _, rfl, _, rfl, _, b, c, u, v, t, _, live 0 tl, x, y, d, rfl, nb, nu2, nv2, hz, th.pn.pn, by omega, gx, gy, fun H3 s3 => ⟨_, _, rfl, ?_⟩⟩
        refine ⟨_, rfl, _, _, _, _, true, rfl, .ty _, (.base (.bl _)), kit_ty (by decide +kernel), _, rfl, iteF ?_⟩
        refine ⟨_, rfl, _, rfl, _, rfl, _, rfl, _, rfl, TL, u, v, t, ts, tl, x, y, d, rfl, s3 _ _ eT, tL.ll (ll_same s3), by omega, nu2.tp (W37.tp_same s3), nv2.tp (W37.tp_same s3), hz.same s3, th.pn, gx, gy, gt, fun H4 s4 => ⟨rfl, _, rfl, ?_⟩⟩
        rw [show (!decide (V.bl (apartD (live 0 tl) x y d) = V.bl (apartD (live 0 tl) x y d))) = false by simp]
        refine iteF ⟨_, rfl, t, d, rfl, (hz.same s3).same s4, n1, n2, n3, _, rfl, rfl, _, rfl, ?_⟩
        rw [show (!decide (V.str d.shown = V.str d.shown)) = false by simp]
        exact iteF ⟨_, _, _, rfl, (sx.trans s3).trans s4⟩
      · rintro σ Hx ⟨c10, c12, c13, rfl, sx⟩
        exact sx
    rintro σ Hz sz
    exact q Hz ((se.same sz).mono (by omega))
end
end K16
set_option Elab.async false
set_option linter.all false
set_option maxRecDepth 100000
set_option maxHeartbeats 4000000
set_option pp.maxSteps 400
set_option pp.deepTerms false
namespace K16
open PySem PySem.Spec PyProof.Rows L2
open Xk Az Xnp
section
variable {P : Program} {w : World} {K : PySem.W.Frag} {mg : Str → Option Value} {base : Heap}
theorem St.now {H0 H : Hp} {C h o L b c TL G : Addr} {n : Int} {xs gs : List V} {ns : List N2} {tl ul : List Tl} (s : St H0 H C h o L b c TL n xs ns tl ul G gs) : St (fun _ => none) H C h o L b c TL n xs ns tl ul G gs :=
  ⟨s.hd, s.nb, s.te, s.eL, s.nl, (fun x u _ e => by cases e), s.off, rfl, rfl, rfl, s.eG, s.offG⟩
def spLaw (K : PySem.W.Frag) : Sp := fun vs H Q _ => ∃ (a : Addr) (ns : List Int), vs = [.ref a] ∧ SqL K H a (ns.map V.int) ∧ ns.length ≤ 63 ∧ ∀ H', Q (.bl true) H'
theorem ok_law {f : Addr} {fd : FuncData} {C fR : Addr} {fdR : FuncData} (D : Df K mg "law" ["_law_script"] sLaw f fd) (T : Txt K mg) (N : NbC K C) (cH : Ca P w K mg base 1 "_law_hand" ["_law_script"] (spHand K)) (cT : Ca P w K mg base 1 "_law_take" ["_law_hand_here", "_law_many"] spTake) (cN : Ca P w K mg base 4 "_law_names" ["_law_hand_here", "_law_many"] spNames16) (cBk : Ca P w K mg base 8 "_law_book" ["_law_hand_here", "_law_names_here", "_law_many"] (spBook C)) (DR : Df K mg "_law_right" ["_law_hand_here", "_law_book_here", "_law_tellings", "_law_names_here"] sRight fR fdR) (GR : Gn P w K mg base 6 fR fdR ["_law_hand_here", "_law_book_here", "_law_tellings", "_law_names_here"] (spRight K C)) (cTe : Mt P w K mg base 6 C "tell" ["self", "one", "other"] (spTell C)) (cSk : Mt P w K mg base 6 C "strike" ["self", "number"] (spStrike C)) : Gn P w K mg base 9 f fd ["_law_script"] (spLaw K) := by
  obtain ⟨fT, fdT, mtT, okT, bdT⟩ := cTe.ex
  obtain ⟨fK, fdK, mtK, okK, bdK⟩ := cSk.ex
  refine gn_body D.fn scLaw (fun vs H Q E h => ?_) (fun cdv A outer s H vs Q E hg hr h => ?_)
  · obtain ⟨a, ns0, rfl, hS, n63, q⟩ := h
    rfl
  · obtain ⟨a, ns0, rfl, hS, n63, q⟩ := h
    refine ⟨_, (pss_cons (ps_set (i := 1) scLaw.nd rfl (.inl rfl) (pe_ca cH hr (by decide) (by rfl) (pa_cons (pv 0) pa_nil)))
      (pss_cons (ps_for PassesOwn.never rfl (pi_range1 (by rfl) T.range (pa_cons (pe_op op_add pe_int (pe_callB (call_min2 (by rfl)) (by rfl) T.min (by decide +kernel) (pa_cons pe_int (pa_cons (pe_callB call_len_seq (by rfl) T.len PySem.boot_len (pa_cons (pv 0) pa_nil)) pa_nil)))) pa_nil)) (pg_name (i := 2) scLaw.nd rfl (.inl rfl)) (pss_cons (ps_set (i := 3) scLaw.nd rfl (.inl rfl) (pe_ca cN hr (by decide) (by rfl) (pa_cons (pv 1) (pa_cons (pe_op op_add pe_int (pe_ca cT hr (by decide) (by rfl) (pa_cons (pv 1) (pa_cons pe_int pa_nil)))) pa_nil))))
      (pss_cons (ps_asg (pe_ca cBk hr (by decide) (by rfl) (pa_cons (pv 1) (pa_cons (pv 3) (pa_cons (pe_op op_add pe_int (pe_ca cT hr (by decide) (by rfl) (pa_cons (pv 1) (pa_cons pe_int pa_nil)))) pa_nil)))) (pg_tup (by rfl) (pgs_cons (pg_name (i := 4) scLaw.nd rfl (.inl rfl)) (pgs_cons (pg_name (i := 5) scLaw.nd rfl (.inl rfl)) pgs_nil))))
      (pss_one (ps_for PassesOwn.never rfl (pi_range1 (by rfl) T.range (pa_cons pe_int pa_nil)) (pg_name (i := 6) scLaw.nd rfl (.inl rfl)) (pss_cons (ps_if (pt_not (pt_val (pe_gn GR hg (hr.mono (by decide)) (by rfl) DR.mgf DR.fn.kp DR.bd (pa_cons (pv 1) (pa_cons (pv 4) (pa_cons (pv 5) (pa_cons (pv 3) pa_nil))))))) (pss_one (ps_ret pe_bl)) pss_nil)
      (pss_cons (ps_set (i := 7) scLaw.nd rfl (.inl rfl) (pe_ca cT hr (by decide) (by rfl) (pa_cons (pv 1) (pa_cons (pe_callB call_len_seq (by rfl) T.len PySem.boot_len (pa_cons (pv 5) pa_nil)) pa_nil))))
      (pss_cons (ps_asg (pe_slice sl_list (pe_ix ix_list (pv 5) (pv 7) (fun _ _ => rfl)) po_none (po_some pe_int)) (pg_lst (by rfl) (pgs_cons (pg_name (i := 8) scLaw.nd rfl (.inl rfl)) (pgs_cons (pg_name (i := 9) scLaw.nd rfl (.inl rfl)) pgs_nil))))
      (pss_one (ps_if (pt_val (pe_ix ix_list (pe_ix ix_list (pv 5) (pv 7) (fun _ _ => rfl)) pe_int (fun _ _ => rfl))) (pss_cons (ps_asg pe_bl (pg_sub (pe_ix ix_list (pv 5) (pv 7) (fun _ _ => rfl)) pe_int set_list))
      (pss_one (ps_expr ((pe_meth (pv 4) N.cls mtK okK (hr.mono (by decide)) bdK .nil pass0 (pa_cons (pv 7) pa_nil)))))) (pss_cons (ps_expr (pe_bm PySem.F.plainAttrs_list PySem.F.slot_list_append PySem.F.type_list_append mt_append (pv 5) (pa_cons (pe_lst (pa_cons (pv 8) (pa_cons (pv 9) (pa_cons pe_bl pa_nil)))) pa_nil)))
      (pss_one (ps_expr ((pe_meth (pv 4) N.cls mtT okT (hr.mono (by decide)) bdT .nil pass0 (pa_cons (pv 8) (pa_cons (pv 9) pa_nil)))))))))))))))))
      (pss_one (ps_ret pe_bl)))), ?_⟩
    refine ⟨_, rfl, a, ns0, rfl, hS, n63, fun h o H0 h0 s0 nh no => ?_⟩
    refine ⟨_, rfl, a, ns0.map V.int, rfl, .inl (s0.seq hS), 2, _, rfl, 2, _, rfl, rfl, _, rfl, ?_, ?_, for_range (lo := 0) (fun k σ Hx => ∃ c2 c3 c4 c5 c6 c7 c8 c9 : Option V, σ = [some (.ref a), some (.ref h), c2, c3, c4, c5, c6, c7, c8, c9] ∧ Hd h o (3000 * k) Hx) ?_ ?_ ?_⟩
    · split <;> omega
    · split <;> omega
    · exact ⟨_, _, _, _, _, _, _, _, rfl, h0⟩
    · rintro k σ Hx hk ⟨c2, c3, c4, c5, c6, c7, c8, c9, rfl, hx⟩
      have k4 : k < 4 := by
        have hk2 : k < (2 + if (((ns0.map V.int).length : Nat) : Int) < 2 then (((ns0.map V.int).length : Nat) : Int) else 2 : Int).toNat := hk
        split at hk2 <;> omega
      obtain ⟨N0, eN⟩ : ∃ N0 : Int, N0 = 3000 * (k : Int) := ⟨_, rfl⟩
      have lN : N0 ≤ 12000 := by omega
      rw [← eN] at hx
      refine ⟨_, rfl, _, rfl, h, o, 7, N0, rfl, by decide, by decide, hx, by show N0 ≤ 1000000; omega, fun d2 H2 e0 e1 h2 b2 => ⟨3, d2, rfl, rfl, h, o, N0 + 1, 3 + d2, rfl, by omega, by omega, h2, by show N0 + 1 + 1000 ≤ 1000000; omega, fun L xs nn H3 eL Lo ll nl nds gd h3 b3 nL => ?_⟩⟩
      refine ⟨_, rfl, _, rfl, _, rfl, h, o, 13, N0 + 1 + 700, rfl, by decide, by decide, h3, by show N0 + 1 + 700 ≤ 1000000; omega, fun d3 H4 f0 f1 h4 b4 => ?_⟩
      have eL4 := b4 _ _ Lo eL
      have nl4 := nl.tp (h3.nl b4).tp
      have xl := nl.len
      refine ⟨2, d3, rfl, rfl, h, o, L, N0 + 1 + 700 + 1, 2 + d3, xs, nn, rfl, by omega, by omega, h4, by show N0 + 1 + 700 + 1 + 1000 ≤ 1000000; omega, eL4, Lo, nl4, nds, gd, by omega, by omega, fun b c TL t tl0 H5 et st0 gt0 un0 ltl => ?_⟩
      refine ⟨t, _, rfl, SqT.of et, rfl, _, _, rfl, _, _, rfl, rfl, ?_⟩
      refine ⟨3, rfl, by decide, by decide, for_range (lo := 0) (n := (3 : Int).toNat) (fun j σ Hy => ∃ (c6 c7 c8 c9 : Option V) (tl : List Tl), σ = [some (.ref a), some (.ref h), some (.int (0 + (k : Int))), some (.ref L), some (.ref b), some (.ref TL), c6, c7, c8, c9] ∧ St (fun _ => none) Hy C h o L b c TL (N0 + 1000 + 300 * j) xs nn tl tl L xs ∧ (∀ e ∈ tl, Gd e.1.1 ∧ Gd e.1.2) ∧ (∀ e ∈ tl, e.1.1 ≠ e.1.2) ∧ 1 ≤ tl.length ∧ tl.length ≤ 14 + j) ?_ ?_ ?_⟩
      · exact ⟨_, _, _, _, tl0, rfl, st0.now.mono (by omega), gt0, un0, by omega, by omega⟩
      · rintro j σ Hy hj ⟨c6, c7, c8, c9, tl, rfl, st, gt, un, t1, t14⟩
        have j3 : j < 3 := hj
        refine ⟨_, rfl, _, rfl, _, rfl, _, rfl, _, h, o, L, b, c, TL, _, xs, nn, tl, rfl, st, by show N0 + 1000 + 300 * (j : Int) + 1000 ≤ 1000000; omega, gt, gd, by omega, by omega, t1, by omega, fun H6 st6 => ⟨_, rfl, iteF ?_⟩⟩
        obtain ⟨us0, eU0, uL0, _⟩ := st6.te.ex
        have usl0 := uL0.len
        refine ⟨_, rfl, _, rfl, TL, us0, rfl, .inl (SqL.of eU0), h, o, _, _, rfl, by omega, by omega, st6.hd, by show N0 + 1000 + 300 * (j : Int) + 200 ≤ 1000000; omega, fun d H7 d0 d1 h7 b7 => ?_⟩
        have st7 := st6.take h7 b7
        obtain ⟨us, eU, uL, _⟩ := st7.te.ex
        have usl := uL.len
        obtain ⟨m, rfl⟩ : ∃ m : Nat, d = (m : Int) := ⟨d.toNat, by omega⟩
        have ml : m < us.length := by omega
        obtain ⟨v, ev⟩ : ∃ v, us[m]? = some v := ⟨_, List.getElem?_eq_getElem ml⟩
        obtain ⟨⟨p0, dd⟩, r, va, vb, em, rfl, er, na, nb'⟩ := uL.get ev
        obtain ⟨g1, g2⟩ := gt _ (List.mem_of_getElem? em)
        refine ⟨_, rfl, _, rfl, TL, us, (m : Int), .ref r, rfl, rfl, SqL.of eU, atI_nat ev, 2, rfl, r, _, rfl, SqL.of er, fun q0 nq => ?_⟩
        rw [show cutV [va, vb, V.bl dd] none (some 2) = [va, vb] from rfl]
        have sq := same_upd nq (o := .lst [va, vb])
        have eq0 : (L2.upd H7 q0 (.lst [va, vb])) q0 = some (.lst [va, vb]) := upd_same
        have st8 := st7.same sq
        have eU8 := sq _ _ eU
        have er8 := sq _ _ er
        have na8 := na.tp (W37.tp_same sq)
        have nb8 := nb'.tp (W37.tp_same sq)
        generalize L2.upd H7 q0 (.lst [va, vb]) = H8 at eq0 st8 eU8 er8 na8 nb8 ⊢
        refine ⟨q0, _, rfl, SqL.of eq0, rfl, _, _, rfl, _, _, rfl, rfl, ?_⟩
        refine ⟨_, rfl, _, rfl, TL, us, (m : Int), .ref r, rfl, rfl, SqL.of eU8, atI_nat ev, r, _, 2, .bl dd, rfl, rfl, SqL.of er8, atI_nat (j := 2) rfl, _, rfl, ?_⟩
        cases dd with
        | true =>
          refine iteT ⟨_, rfl, _, rfl, TL, us, (m : Int), .ref r, rfl, rfl, SqL.of eU8, atI_nat ev, r, [va, vb, .bl true], 2, 2, rfl, rfl, er8, rfl, ?_⟩
          have sF : St (fun _ => none) (L2.upd H8 r (.lst ([va, vb, .bl true].set 2 (.bl false)))) C h o L b c TL _ xs nn (tl.set m (p0, false)) tl L xs := st8.flag eU8 ev em er8 rfl
          generalize L2.upd H8 r (.lst ([va, vb, .bl true].set 2 (.bl false))) = Hw at sF ⊢
          obtain ⟨_, _, nbF⟩ := sF.nb
          obtain ⟨dx2, l2', g2', kvs2, eb2, _⟩ := nbF.ex
          refine ⟨_, rfl, b, dx2, _, rfl, eb2, rfl, _, rfl, _, b, c, _, (m : Int), _, p0.1, p0.2, rfl, nbF, by omega, by omega, ?_, live_nd _ _, fun e' he => ?_, by have := live_len 0 tl; omega, fun rr Hv nbv frv => ?_⟩
          · have := live_mem (k := 0) em
            rwa [Int.zero_add] at this
          · obtain ⟨i, q1, q2⟩ := live_iff.mp he
            exact gt _ (List.mem_of_getElem? q2)
          have sG := sF.struck em nbv frv
          refine ⟨_, _, _, _, tl.set m (p0, false), rfl, sG.mono (by omega), fun e' he => ?_, fun e' he => ?_, by rw [List.length_set]; exact t1, by rw [List.length_set]; omega⟩
          · obtain ⟨dd, hm⟩ := mem_set em he
            exact gt (e'.1, dd) hm
          · obtain ⟨dd, hm⟩ := mem_set em he
            exact un (e'.1, dd) hm
        | false =>
          refine iteF ⟨_, rfl, .inl ⟨rfl, _, SqL.of eU8⟩, _, rfl, _, rfl, (by show 3 ≤ sizeLine; decide), fun R nR => ?_⟩
          have sE := st8.put (p := p0) (d := true) nR eU8 na8 nb8
          refine ⟨TL, us, _, rfl, rfl, same_upd nR _ _ eU8, Nat.lt_of_le_of_lt (show us.length ≤ 100 by omega) (by decide), ?_⟩
          have tE : W37.Tp H8 (L2.upd (L2.upd H8 R (.lst [va, vb, .bl true])) TL (.lst (us ++ [.ref R]))) := (W37.tp_same (same_upd nR)).trans (W37.tp_upd fun ws z => by rw [same_upd nR _ _ eU8] at z; cases z)
          have na9 := na8.tp tE
          have nb9 := nb8.tp tE
          generalize L2.upd (L2.upd H8 R (.lst [va, vb, .bl true])) TL (.lst (us ++ [.ref R])) = He at sE na9 nb9 ⊢
          obtain ⟨_, _, nbE⟩ := sE.nb
          obtain ⟨dx2, l2', g2', kvs2, eb2, _⟩ := nbE.ex
          refine ⟨_, rfl, b, dx2, _, rfl, eb2, rfl, _, rfl, _, rfl, _, b, c, va, vb, _, _, p0.1, p0.2, rfl, nbE, na9, nb9, g1, g2, un _ (List.mem_of_getElem? em), fun e he => ?_, ?_, fun Hf nbf frf => ?_⟩
          · have := (live_in he).2.1
            omega
          · have := live_len 0 tl
            omega
          have sG := sE.told nbf frf
          refine ⟨_, _, _, _, tl ++ [(p0, true)], rfl, sG.mono (by omega), fun e' he => ?_, fun e' he => ?_, by rw [List.length_append]; omega, by rw [List.length_append]; show tl.length + 1 ≤ _; omega⟩
          · rcases List.mem_append.mp he with z | z
            · exact gt _ z
            · rw [List.mem_singleton.mp z]
              exact ⟨g1, g2⟩
          · rcases List.mem_append.mp he with z | z
            · exact un _ z
            · rw [List.mem_singleton.mp z]
              exact un (p0, false) (List.mem_of_getElem? em)
      · rintro σ Hy ⟨c6, c7, c8, c9, tl, rfl, st, _⟩
        exact ⟨_, _, _, _, _, _, _, _, rfl, st.hd.mono (show N0 + 1000 + 300 * (((3 : Int).toNat : Nat) : Int) ≤ 3000 * ((k + 1 : Nat) : Int) by show N0 + 1000 + 300 * 3 ≤ _; omega)⟩
    · rintro σ Hx ⟨c2, c3, c4, c5, c6, c7, c8, c9, rfl, hx⟩
      exact q Hx
end
end K16
set_option Elab.async false
set_option linter.all false
set_option maxRecDepth 100000
set_option maxHeartbeats 4000000
set_option pp.maxSteps 400
set_option pp.deepTerms false
namespace K16
open PySem PySem.Spec PyProof.Rows L2
open Xk Az Xnp
theorem all_mk {l : PySem.W.OpenLaw} {w : World} {K : PySem.W.Frag} {h : Heap} {mg : Str → Option Value} {fa cNames f0 f1 f2 f3 f4 f5 f6 f7 f8 f9 f10 f11 f12 f13 f14 f15 f16 f17 f18 f19 f20 f21 f22 f23 f24 f25 f26 f27 f28 f29 f30 f31 f32 f33 f34 f35 f36 f37 f38 f39 : Addr}
    {od0 an0 od1 an1 od2 an2 od3 an3 od4 an4 od5 an5 od6 an6 od7 an7 od8 an8 od9 an9 od10 an10 od11 an11 od12 an12 od13 an13 od14 an14 od15 an15 od16 an16 od17 an17 od18 an18 od19 an19 od20 an20 od21 an21 od22 an22 od23 an23 od24 an24 od25 an25 od26 an26 od27 an27 od28 an28 od29 an29 od30 an30 od31 an31 od32 an32 od33 an33 od34 an34 od35 an35 od36 an36 od37 an37 od38 an38 od39 an39 : Option Addr}
    {sl0 sl1 sl2 sl3 sl4 sl5 sl6 sl7 sl8 sl9 sl10 sl11 sl12 sl13 sl14 sl15 sl16 sl17 sl18 sl19 sl20 sl21 sl22 sl23 sl24 sl25 sl26 sl27 sl28 sl29 sl30 sl31 sl32 sl33 sl34 sl35 sl36 sl37 sl38 sl39 : Array (Option Value)}
    {oc0 kV0 dc0 pm0 cd0 ct0 oc1 kV1 dc1 pm1 cd1 ct1 oc2 kV2 dc2 pm2 cd2 ct2 oc3 kV3 dc3 pm3 cd3 ct3 oc4 kV4 dc4 pm4 cd4 ct4 oc5 kV5 dc5 pm5 cd5 ct5 oc6 kV6 dc6 pm6 cd6 ct6 oc7 kV7 dc7 pm7 cd7 ct7 oc8 kV8 dc8 pm8 cd8 ct8 oc9 kV9 dc9 pm9 cd9 ct9 oc10 kV10 dc10 pm10 cd10 ct10 oc11 kV11 dc11 pm11 cd11 ct11 oc12 kV12 dc12 pm12 cd12 ct12 oc13 kV13 dc13 pm13 cd13 ct13 oc14 kV14 dc14 pm14 cd14 ct14 oc15 kV15 dc15 pm15 cd15 ct15 oc16 kV16 dc16 pm16 cd16 ct16 oc17 kV17 dc17 pm17 cd17 ct17 oc18 kV18 dc18 pm18 cd18 ct18 oc19 kV19 dc19 pm19 cd19 ct19 oc20 kV20 dc20 pm20 cd20 ct20 oc21 kV21 dc21 pm21 cd21 ct21 oc22 kV22 dc22 pm22 cd22 ct22 oc23 kV23 dc23 pm23 cd23 ct23 oc24 kV24 dc24 pm24 cd24 ct24 oc25 kV25 dc25 pm25 cd25 ct25 oc26 kV26 dc26 pm26 cd26 ct26 oc27 kV27 dc27 pm27 cd27 ct27 oc28 kV28 dc28 pm28 cd28 ct28 oc29 kV29 dc29 pm29 cd29 ct29 oc30 kV30 dc30 pm30 cd30 ct30 oc31 kV31 dc31 pm31 cd31 ct31 oc32 kV32 dc32 pm32 cd32 ct32 oc33 kV33 dc33 pm33 cd33 ct33 oc34 kV34 dc34 pm34 cd34 ct34 oc35 kV35 dc35 pm35 cd35 ct35 oc36 kV36 dc36 pm36 cd36 ct36 oc37 kV37 dc37 pm37 cd37 ct37 oc38 kV38 dc38 pm38 cd38 ct38 oc39 kV39 dc39 pm39 cd39 ct39 : Value}
    {u_SMALL_LETTERS u_TEXT_SIGNS u_SHORTEST_TONGUE u_LONGEST_TONGUE u_LONGEST_TEXT : Tok}
    (X : K.In h) (G : h.Ns mainGlobals mg) (hfa : mg "law" = some (.ref fa))
    (a_Names : PySem.W.nsIn K mainGlobals "Names" = some (some (.ref cNames)))
    (a0 : PySem.W.nsIn K mainGlobals "is_whole" = some (some (.ref f0)))
    (l0 : K.lookup f0 = some ⟨oc0, od0, .func (PySem.W.fnOf "is_whole" "is_whole" (defArgs sIsWhole) (defBody sIsWhole) (defScope sIsWhole) .none kV0 dc0 pm0 an0 cd0 ct0), sl0⟩)
    (c0 : PySem.W.codeIn K cd0 "is_whole" = true)
    (k0 : PySem.W.keepIn K (.ref f0) = true)
    (a1 : PySem.W.nsIn K mainGlobals "is_within" = some (some (.ref f1)))
    (l1 : K.lookup f1 = some ⟨oc1, od1, .func (PySem.W.fnOf "is_within" "is_within" (defArgs sIsWithin) (defBody sIsWithin) (defScope sIsWithin) .none kV1 dc1 pm1 an1 cd1 ct1), sl1⟩)
    (c1 : PySem.W.codeIn K cd1 "is_within" = true)
    (k1 : PySem.W.keepIn K (.ref f1) = true)
    (a2 : PySem.W.nsIn K mainGlobals "is_text_of" = some (some (.ref f2)))
    (l2 : K.lookup f2 = some ⟨oc2, od2, .func (PySem.W.fnOf "is_text_of" "is_text_of" (defArgs sIsTextOf) (defBody sIsTextOf) (defScope sIsTextOf) .none kV2 dc2 pm2 an2 cd2 ct2), sl2⟩)
    (c2 : PySem.W.codeIn K cd2 "is_text_of" = true)
    (k2 : PySem.W.keepIn K (.ref f2) = true)
    (a3 : PySem.W.nsIn K mainGlobals "is_small_text" = some (some (.ref f3)))
    (l3 : K.lookup f3 = some ⟨oc3, od3, .func (PySem.W.fnOf "is_small_text" "is_small_text" (defArgs sIsSmallText) (defBody sIsSmallText) (defScope sIsSmallText) .none kV3 dc3 pm3 an3 cd3 ct3), sl3⟩)
    (c3 : PySem.W.codeIn K cd3 "is_small_text" = true)
    (k3 : PySem.W.keepIn K (.ref f3) = true)
    (a4 : PySem.W.nsIn K mainGlobals "linked" = some (some (.ref f4)))
    (l4 : K.lookup f4 = some ⟨oc4, od4, .func (PySem.W.fnOf "linked" "linked" (defArgs sLinked) (defBody sLinked) (defScope sLinked) .none kV4 dc4 pm4 an4 cd4 ct4), sl4⟩)
    (c4 : PySem.W.codeIn K cd4 "linked" = true)
    (k4 : PySem.W.keepIn K (.ref f4) = true)
    (a5 : PySem.W.nsIn K mainGlobals "steps_from" = some (some (.ref f5)))
    (l5 : K.lookup f5 = some ⟨oc5, od5, .func (PySem.W.fnOf "steps_from" "steps_from" (defArgs sStepsFrom) (defBody sStepsFrom) (defScope sStepsFrom) .none kV5 dc5 pm5 an5 cd5 ct5), sl5⟩)
    (c5 : PySem.W.codeIn K cd5 "steps_from" = true)
    (k5 : PySem.W.keepIn K (.ref f5) = true)
    (a6 : PySem.W.nsIn K mainGlobals "groups_in" = some (some (.ref f6)))
    (l6 : K.lookup f6 = some ⟨oc6, od6, .func (PySem.W.fnOf "groups_in" "groups_in" (defArgs sGroupsIn) (defBody sGroupsIn) (defScope sGroupsIn) .none kV6 dc6 pm6 an6 cd6 ct6), sl6⟩)
    (c6 : PySem.W.codeIn K cd6 "groups_in" = true)
    (k6 : PySem.W.keepIn K (.ref f6) = true)
    (a7 : PySem.W.nsIn K mainGlobals "is_closed" = some (some (.ref f7)))
    (l7 : K.lookup f7 = some ⟨oc7, od7, .func (PySem.W.fnOf "is_closed" "is_closed" (defArgs sIsClosed) (defBody sIsClosed) (defScope sIsClosed) .none kV7 dc7 pm7 an7 cd7 ct7), sl7⟩)
    (c7 : PySem.W.codeIn K cd7 "is_closed" = true)
    (k7 : PySem.W.keepIn K (.ref f7) = true)
    (a8 : PySem.W.nsIn K mainGlobals "is_tongue" = some (some (.ref f8)))
    (l8 : K.lookup f8 = some ⟨oc8, od8, .func (PySem.W.fnOf "is_tongue" "is_tongue" (defArgs sIsTongue) (defBody sIsTongue) (defScope sIsTongue) .none kV8 dc8 pm8 an8 cd8 ct8), sl8⟩)
    (c8 : PySem.W.codeIn K cd8 "is_tongue" = true)
    (k8 : PySem.W.keepIn K (.ref f8) = true)
    (a9 : PySem.W.nsIn K mainGlobals "is_name_text" = some (some (.ref f9)))
    (l9 : K.lookup f9 = some ⟨oc9, od9, .func (PySem.W.fnOf "is_name_text" "is_name_text" (defArgs sIsNameText) (defBody sIsNameText) (defScope sIsNameText) .none kV9 dc9 pm9 an9 cd9 ct9), sl9⟩)
    (c9 : PySem.W.codeIn K cd9 "is_name_text" = true)
    (k9 : PySem.W.keepIn K (.ref f9) = true)
    (a10 : PySem.W.nsIn K mainGlobals "is_name" = some (some (.ref f10)))
    (l10 : K.lookup f10 = some ⟨oc10, od10, .func (PySem.W.fnOf "is_name" "is_name" (defArgs sIsName) (defBody sIsName) (defScope sIsName) .none kV10 dc10 pm10 an10 cd10 ct10), sl10⟩)
    (c10 : PySem.W.codeIn K cd10 "is_name" = true)
    (k10 : PySem.W.keepIn K (.ref f10) = true)
    (a11 : PySem.W.nsIn K mainGlobals "other_end" = some (some (.ref f11)))
    (l11 : K.lookup f11 = some ⟨oc11, od11, .func (PySem.W.fnOf "other_end" "other_end" (defArgs sOtherEnd) (defBody sOtherEnd) (defScope sOtherEnd) .none kV11 dc11 pm11 an11 cd11 ct11), sl11⟩)
    (c11 : PySem.W.codeIn K cd11 "other_end" = true)
    (k11 : PySem.W.keepIn K (.ref f11) = true)
    (a12 : PySem.W.nsIn K mainGlobals "refuse_unless_two_names" = some (some (.ref f12)))
    (l12 : K.lookup f12 = some ⟨oc12, od12, .func (PySem.W.fnOf "refuse_unless_two_names" "refuse_unless_two_names" (defArgs sRefuseUnlessTwoNames) (defBody sRefuseUnlessTwoNames) (defScope sRefuseUnlessTwoNames) .none kV12 dc12 pm12 an12 cd12 ct12), sl12⟩)
    (c12 : PySem.W.codeIn K cd12 "refuse_unless_two_names" = true)
    (k12 : PySem.W.keepIn K (.ref f12) = true)
    (a13 : PySem.W.findIn K (.ref cNames) "__init__" = some (some (.ref f13)))
    (i13 : PySem.W.isFn K (.ref f13) = true)
    (l13 : K.lookup f13 = some ⟨oc13, od13, .func (PySem.W.fnOf "__init__" "Names.__init__" (defArgs sNamesInit) (defBody sNamesInit) (defScope sNamesInit) .none kV13 dc13 pm13 an13 cd13 ct13), sl13⟩)
    (c13 : PySem.W.codeIn K cd13 "Names.__init__" = true)
    (k13 : PySem.W.keepIn K (.ref f13) = true)
    (a14 : PySem.W.findIn K (.ref cNames) "sort_out" = some (some (.ref f14)))
    (i14 : PySem.W.isFn K (.ref f14) = true)
    (l14 : K.lookup f14 = some ⟨oc14, od14, .func (PySem.W.fnOf "sort_out" "Names.sort_out" (defArgs sNamesSortOut) (defBody sNamesSortOut) (defScope sNamesSortOut) .none kV14 dc14 pm14 an14 cd14 ct14), sl14⟩)
    (c14 : PySem.W.codeIn K cd14 "Names.sort_out" = true)
    (k14 : PySem.W.keepIn K (.ref f14) = true)
    (a15 : PySem.W.findIn K (.ref cNames) "tell" = some (some (.ref f15)))
    (i15 : PySem.W.isFn K (.ref f15) = true)
    (l15 : K.lookup f15 = some ⟨oc15, od15, .func (PySem.W.fnOf "tell" "Names.tell" (defArgs sNamesTell) (defBody sNamesTell) (defScope sNamesTell) .none kV15 dc15 pm15 an15 cd15 ct15), sl15⟩)
    (c15 : PySem.W.codeIn K cd15 "Names.tell" = true)
    (k15 : PySem.W.keepIn K (.ref f15) = true)
    (a16 : PySem.W.findIn K (.ref cNames) "strike" = some (some (.ref f16)))
    (i16 : PySem.W.isFn K (.ref f16) = true)
    (l16 : K.lookup f16 = some ⟨oc16, od16, .func (PySem.W.fnOf "strike" "Names.strike" (defArgs sNamesStrike) (defBody sNamesStrike) (defScope sNamesStrike) .none kV16 dc16 pm16 an16 cd16 ct16), sl16⟩)
    (c16 : PySem.W.codeIn K cd16 "Names.strike" = true)
    (k16 : PySem.W.keepIn K (.ref f16) = true)
    (a17 : PySem.W.findIn K (.ref cNames) "class_of" = some (some (.ref f17)))
    (i17 : PySem.W.isFn K (.ref f17) = true)
    (l17 : K.lookup f17 = some ⟨oc17, od17, .func (PySem.W.fnOf "class_of" "Names.class_of" (defArgs sNamesClassOf) (defBody sNamesClassOf) (defScope sNamesClassOf) .none kV17 dc17 pm17 an17 cd17 ct17), sl17⟩)
    (c17 : PySem.W.codeIn K cd17 "Names.class_of" = true)
    (k17 : PySem.W.keepIn K (.ref f17) = true)
    (a18 : PySem.W.findIn K (.ref cNames) "are_one" = some (some (.ref f18)))
    (i18 : PySem.W.isFn K (.ref f18) = true)
    (l18 : K.lookup f18 = some ⟨oc18, od18, .func (PySem.W.fnOf "are_one" "Names.are_one" (defArgs sNamesAreOne) (defBody sNamesAreOne) (defScope sNamesAreOne) .none kV18 dc18 pm18 an18 cd18 ct18), sl18⟩)
    (c18 : PySem.W.codeIn K cd18 "Names.are_one" = true)
    (k18 : PySem.W.keepIn K (.ref f18) = true)
    (a19 : PySem.W.findIn K (.ref cNames) "chain" = some (some (.ref f19)))
    (i19 : PySem.W.isFn K (.ref f19) = true)
    (l19 : K.lookup f19 = some ⟨oc19, od19, .func (PySem.W.fnOf "chain" "Names.chain" (defArgs sNamesChain) (defBody sNamesChain) (defScope sNamesChain) .none kV19 dc19 pm19 an19 cd19 ct19), sl19⟩)
    (c19 : PySem.W.codeIn K cd19 "Names.chain" = true)
    (k19 : PySem.W.keepIn K (.ref f19) = true)
    (a20 : PySem.W.findIn K (.ref cNames) "first_nearer" = some (some (.ref f20)))
    (i20 : PySem.W.isFn K (.ref f20) = true)
    (l20 : K.lookup f20 = some ⟨oc20, od20, .func (PySem.W.fnOf "first_nearer" "Names.first_nearer" (defArgs sNamesFirstNearer) (defBody sNamesFirstNearer) (defScope sNamesFirstNearer) .none kV20 dc20 pm20 an20 cd20 ct20), sl20⟩)
    (c20 : PySem.W.codeIn K cd20 "Names.first_nearer" = true)
    (k20 : PySem.W.keepIn K (.ref f20) = true)
    (a21 : PySem.W.findIn K (.ref cNames) "shows_chain" = some (some (.ref f21)))
    (i21 : PySem.W.isFn K (.ref f21) = true)
    (l21 : K.lookup f21 = some ⟨oc21, od21, .func (PySem.W.fnOf "shows_chain" "Names.shows_chain" (defArgs sNamesShowsChain) (defBody sNamesShowsChain) (defScope sNamesShowsChain) .none kV21 dc21 pm21 an21 cd21 ct21), sl21⟩)
    (c21 : PySem.W.codeIn K cd21 "Names.shows_chain" = true)
    (k21 : PySem.W.keepIn K (.ref f21) = true)
    (a22 : PySem.W.findIn K (.ref cNames) "shows_apart" = some (some (.ref f22)))
    (i22 : PySem.W.isFn K (.ref f22) = true)
    (l22 : K.lookup f22 = some ⟨oc22, od22, .func (PySem.W.fnOf "shows_apart" "Names.shows_apart" (defArgs sNamesShowsApart) (defBody sNamesShowsApart) (defScope sNamesShowsApart) .none kV22 dc22 pm22 an22 cd22 ct22), sl22⟩)
    (c22 : PySem.W.codeIn K cd22 "Names.shows_apart" = true)
    (k22 : PySem.W.keepIn K (.ref f22) = true)
    (a23 : PySem.W.nsIn K mainGlobals "_law_hand" = some (some (.ref f23)))
    (l23 : K.lookup f23 = some ⟨oc23, od23, .func (PySem.W.fnOf "_law_hand" "_law_hand" (defArgs sHand) (defBody sHand) (defScope sHand) .none kV23 dc23 pm23 an23 cd23 ct23), sl23⟩)
    (c23 : PySem.W.codeIn K cd23 "_law_hand" = true)
    (k23 : PySem.W.keepIn K (.ref f23) = true)
    (a24 : PySem.W.nsIn K mainGlobals "_law_take" = some (some (.ref f24)))
    (l24 : K.lookup f24 = some ⟨oc24, od24, .func (PySem.W.fnOf "_law_take" "_law_take" (defArgs sTake) (defBody sTake) (defScope sTake) .none kV24 dc24 pm24 an24 cd24 ct24), sl24⟩)
    (c24 : PySem.W.codeIn K cd24 "_law_take" = true)
    (k24 : PySem.W.keepIn K (.ref f24) = true)
    (a25 : PySem.W.nsIn K mainGlobals "_law_pick" = some (some (.ref f25)))
    (l25 : K.lookup f25 = some ⟨oc25, od25, .func (PySem.W.fnOf "_law_pick" "_law_pick" (defArgs sPick) (defBody sPick) (defScope sPick) .none kV25 dc25 pm25 an25 cd25 ct25), sl25⟩)
    (c25 : PySem.W.codeIn K cd25 "_law_pick" = true)
    (k25 : PySem.W.keepIn K (.ref f25) = true)
    (a26 : PySem.W.nsIn K mainGlobals "_law_word" = some (some (.ref f26)))
    (l26 : K.lookup f26 = some ⟨oc26, od26, .func (PySem.W.fnOf "_law_word" "_law_word" (defArgs sWord) (defBody sWord) (defScope sWord) .none kV26 dc26 pm26 an26 cd26 ct26), sl26⟩)
    (c26 : PySem.W.codeIn K cd26 "_law_word" = true)
    (k26 : PySem.W.keepIn K (.ref f26) = true)
    (a27 : PySem.W.nsIn K mainGlobals "_law_text" = some (some (.ref f27)))
    (l27 : K.lookup f27 = some ⟨oc27, od27, .func (PySem.W.fnOf "_law_text" "_law_text" (defArgs sText) (defBody sText) (defScope sText) .none kV27 dc27 pm27 an27 cd27 ct27), sl27⟩)
    (c27 : PySem.W.codeIn K cd27 "_law_text" = true)
    (k27 : PySem.W.keepIn K (.ref f27) = true)
    (a28 : PySem.W.nsIn K mainGlobals "_law_names" = some (some (.ref f28)))
    (l28 : K.lookup f28 = some ⟨oc28, od28, .func (PySem.W.fnOf "_law_names" "_law_names" (defArgs sNames) (defBody sNames) (defScope sNames) .none kV28 dc28 pm28 an28 cd28 ct28), sl28⟩)
    (c28 : PySem.W.codeIn K cd28 "_law_names" = true)
    (k28 : PySem.W.keepIn K (.ref f28) = true)
    (a29 : PySem.W.nsIn K mainGlobals "_law_heap" = some (some (.ref f29)))
    (l29 : K.lookup f29 = some ⟨oc29, od29, .func (PySem.W.fnOf "_law_heap" "_law_heap" (defArgs sHeap) (defBody sHeap) (defScope sHeap) .none kV29 dc29 pm29 an29 cd29 ct29), sl29⟩)
    (c29 : PySem.W.codeIn K cd29 "_law_heap" = true)
    (k29 : PySem.W.keepIn K (.ref f29) = true)
    (a30 : PySem.W.nsIn K mainGlobals "_law_book" = some (some (.ref f30)))
    (l30 : K.lookup f30 = some ⟨oc30, od30, .func (PySem.W.fnOf "_law_book" "_law_book" (defArgs sBook) (defBody sBook) (defScope sBook) .none kV30 dc30 pm30 an30 cd30 ct30), sl30⟩)
    (c30 : PySem.W.codeIn K cd30 "_law_book" = true)
    (k30 : PySem.W.keepIn K (.ref f30) = true)
    (a31 : PySem.W.nsIn K mainGlobals "_law_whole" = some (some (.ref f31)))
    (l31 : K.lookup f31 = some ⟨oc31, od31, .func (PySem.W.fnOf "_law_whole" "_law_whole" (defArgs sWhole) (defBody sWhole) (defScope sWhole) .none kV31 dc31 pm31 an31 cd31 ct31), sl31⟩)
    (c31 : PySem.W.codeIn K cd31 "_law_whole" = true)
    (k31 : PySem.W.keepIn K (.ref f31) = true)
    (a32 : PySem.W.nsIn K mainGlobals "_law_leads" = some (some (.ref f32)))
    (l32 : K.lookup f32 = some ⟨oc32, od32, .func (PySem.W.fnOf "_law_leads" "_law_leads" (defArgs sLeads) (defBody sLeads) (defScope sLeads) .none kV32 dc32 pm32 an32 cd32 ct32), sl32⟩)
    (c32 : PySem.W.codeIn K cd32 "_law_leads" = true)
    (k32 : PySem.W.keepIn K (.ref f32) = true)
    (a33 : PySem.W.nsIn K mainGlobals "_law_is_name" = some (some (.ref f33)))
    (l33 : K.lookup f33 = some ⟨oc33, od33, .func (PySem.W.fnOf "_law_is_name" "_law_is_name" (defArgs sLawIsName) (defBody sLawIsName) (defScope sLawIsName) .none kV33 dc33 pm33 an33 cd33 ct33), sl33⟩)
    (c33 : PySem.W.codeIn K cd33 "_law_is_name" = true)
    (k33 : PySem.W.keepIn K (.ref f33) = true)
    (a34 : PySem.W.nsIn K mainGlobals "_law_closed" = some (some (.ref f34)))
    (l34 : K.lookup f34 = some ⟨oc34, od34, .func (PySem.W.fnOf "_law_closed" "_law_closed" (defArgs sClosed) (defBody sClosed) (defScope sClosed) .none kV34 dc34 pm34 an34 cd34 ct34), sl34⟩)
    (c34 : PySem.W.codeIn K cd34 "_law_closed" = true)
    (k34 : PySem.W.keepIn K (.ref f34) = true)
    (a35 : PySem.W.nsIn K mainGlobals "_law_walked" = some (some (.ref f35)))
    (l35 : K.lookup f35 = some ⟨oc35, od35, .func (PySem.W.fnOf "_law_walked" "_law_walked" (defArgs sWalked) (defBody sWalked) (defScope sWalked) .none kV35 dc35 pm35 an35 cd35 ct35), sl35⟩)
    (c35 : PySem.W.codeIn K cd35 "_law_walked" = true)
    (k35 : PySem.W.keepIn K (.ref f35) = true)
    (a36 : PySem.W.nsIn K mainGlobals "_law_row_otherwise" = some (some (.ref f36)))
    (l36 : K.lookup f36 = some ⟨oc36, od36, .func (PySem.W.fnOf "_law_row_otherwise" "_law_row_otherwise" (defArgs sRowOtherwise) (defBody sRowOtherwise) (defScope sRowOtherwise) .none kV36 dc36 pm36 an36 cd36 ct36), sl36⟩)
    (c36 : PySem.W.codeIn K cd36 "_law_row_otherwise" = true)
    (k36 : PySem.W.keepIn K (.ref f36) = true)
    (a37 : PySem.W.nsIn K mainGlobals "_law_names_otherwise" = some (some (.ref f37)))
    (l37 : K.lookup f37 = some ⟨oc37, od37, .func (PySem.W.fnOf "_law_names_otherwise" "_law_names_otherwise" (defArgs sNamesOtherwise) (defBody sNamesOtherwise) (defScope sNamesOtherwise) .none kV37 dc37 pm37 an37 cd37 ct37), sl37⟩)
    (c37 : PySem.W.codeIn K cd37 "_law_names_otherwise" = true)
    (k37 : PySem.W.keepIn K (.ref f37) = true)
    (a38 : PySem.W.nsIn K mainGlobals "_law_right" = some (some (.ref f38)))
    (l38 : K.lookup f38 = some ⟨oc38, od38, .func (PySem.W.fnOf "_law_right" "_law_right" (defArgs sRight) (defBody sRight) (defScope sRight) .none kV38 dc38 pm38 an38 cd38 ct38), sl38⟩)
    (c38 : PySem.W.codeIn K cd38 "_law_right" = true)
    (k38 : PySem.W.keepIn K (.ref f38) = true)
    (a39 : PySem.W.nsIn K mainGlobals "law" = some (some (.ref f39)))
    (l39 : K.lookup f39 = some ⟨oc39, od39, .func (PySem.W.fnOf "law" "law" (defArgs sLaw) (defBody sLaw) (defScope sLaw) .none kV39 dc39 pm39 an39 cd39 ct39), sl39⟩)
    (c39 : PySem.W.codeIn K cd39 "law" = true)
    (k39 : PySem.W.keepIn K (.ref f39) = true)
    (g_SMALL_LETTERS : PySem.W.nsIn K mainGlobals "SMALL_LETTERS" = some (some (.str "abcdefghijklmnopqrstuvwxyz" u_SMALL_LETTERS)))
    (g_TEXT_SIGNS : PySem.W.nsIn K mainGlobals "TEXT_SIGNS" = some (some (.str "abcdefghijklmnopqrstuvwxyzABCDEFGHIJKLMNOPQRSTUVWXYZ0123456789 '-." u_TEXT_SIGNS)))
    (g_SHORTEST_TONGUE : PySem.W.nsIn K mainGlobals "SHORTEST_TONGUE" = some (some (.int 2 u_SHORTEST_TONGUE)))
    (g_LONGEST_TONGUE : PySem.W.nsIn K mainGlobals "LONGEST_TONGUE" = some (some (.int 3 u_LONGEST_TONGUE)))
    (g_LONGEST_TEXT : PySem.W.nsIn K mainGlobals "LONGEST_TEXT" = some (some (.int 40 u_LONGEST_TEXT)))
    (pg : PySem.W.plainGet K cNames Str.empty = true)
    (hd : PySem.W.hasDictIn K cNames = true)
    (po : PySem.W.plainOver K cNames = true)
    (sa : PySem.W.findIn K (.ref cNames) "__setattr__" = some (some (.builtin "object.__setattr__")))
    (mk : PySem.W.makesIn K cNames = true)
    (kc : PySem.W.keepIn K (.ref cNames) = true)
    (nmany : PySem.W.findIn K (.ref cNames) "many" = some none)
    (ncounting : PySem.W.findIn K (.ref cNames) "counting" = some none)
    (nlinks : PySem.W.findIn K (.ref cNames) "links" = some none)
    (ngroups : PySem.W.findIn K (.ref cNames) "groups" = some none)
    (z_isinstance : PySem.W.nsIn K mainGlobals "isinstance" = some none)
    (z_str : PySem.W.nsIn K mainGlobals "str" = some none)
    (z_tuple : PySem.W.nsIn K mainGlobals "tuple" = some none)
    (z_len : PySem.W.nsIn K mainGlobals "len" = some none)
    (z_all : PySem.W.nsIn K mainGlobals "all" = some none)
    (z_range : PySem.W.nsIn K mainGlobals "range" = some none)
    (z_repr : PySem.W.nsIn K mainGlobals "repr" = some none)
    (z_list : PySem.W.nsIn K mainGlobals "list" = some none)
    (z_max : PySem.W.nsIn K mainGlobals "max" = some none)
    (z_min : PySem.W.nsIn K mainGlobals "min" = some none)
    (z_bool : PySem.W.nsIn K mainGlobals "bool" = some none)
    (z_int : PySem.W.nsIn K mainGlobals "int" = some none)
    (z_sorted : PySem.W.nsIn K mainGlobals "sorted" = some none)
    (z_set : PySem.W.nsIn K mainGlobals "set" = some none)
    (z_enumerate : PySem.W.nsIn K mainGlobals "enumerate" = some none)
    (z_zip : PySem.W.nsIn K mainGlobals "zip" = some none)
    : ∃ fd : FuncData, (∀ (s : Shared) (v : Value), BindsTo s fd ⟨[v], []⟩ [("_law_script", v)]) ∧
      ∀ base : Heap, K.In base → base.Ns mainGlobals mg → base.NoDigits → Gn l.prog w K mg base 9 fa fd ["_law_script"] (spLaw K) := by
  have e := hfa.symm.trans (PySem.W.mg_of X G a39)
  cases e
  have F0 := fun_mk (st := sIsWhole) l0 c0 k0
  have D0 : Df K mg "is_whole" ["thing"] sIsWhole f0 _ := ⟨F0, PySem.W.mg_of X G a0, F0.binds (ps := ["thing"]) fun _ _ _ _ _ _ us hl => match us, hl with | [_], _ => rfl⟩
  have F1 := fun_mk (st := sIsWithin) l1 c1 k1
  have D1 : Df K mg "is_within" ["thing", "least", "most"] sIsWithin f1 _ := ⟨F1, PySem.W.mg_of X G a1, F1.binds (ps := ["thing", "least", "most"]) fun _ _ _ _ _ _ us hl => match us, hl with | [_, _, _], _ => rfl⟩
  have F2 := fun_mk (st := sIsTextOf) l2 c2 k2
  have D2 : Df K mg "is_text_of" ["thing", "signs", "least", "most"] sIsTextOf f2 _ := ⟨F2, PySem.W.mg_of X G a2, F2.binds (ps := ["thing", "signs", "least", "most"]) fun _ _ _ _ _ _ us hl => match us, hl with | [_, _, _, _], _ => rfl⟩
  have F3 := fun_mk (st := sIsSmallText) l3 c3 k3
  have D3 : Df K mg "is_small_text" ["thing", "least", "most"] sIsSmallText f3 _ := ⟨F3, PySem.W.mg_of X G a3, F3.binds (ps := ["thing", "least", "most"]) fun _ _ _ _ _ _ us hl => match us, hl with | [_, _, _], _ => rfl⟩
  have F4 := fun_mk (st := sLinked) l4 c4 k4
  have D4 : Df K mg "linked" ["nodes", "pairs"] sLinked f4 _ := ⟨F4, PySem.W.mg_of X G a4, F4.binds (ps := ["nodes", "pairs"]) fun _ _ _ _ _ _ us hl => match us, hl with | [_, _], _ => rfl⟩
  have F5 := fun_mk (st := sStepsFrom) l5 c5 k5
  have D5 : Df K mg "steps_from" ["links", "start"] sStepsFrom f5 _ := ⟨F5, PySem.W.mg_of X G a5, F5.binds (ps := ["links", "start"]) fun _ _ _ _ _ _ us hl => match us, hl with | [_, _], _ => rfl⟩
  have F6 := fun_mk (st := sGroupsIn) l6 c6 k6
  have D6 : Df K mg "groups_in" ["links"] sGroupsIn f6 _ := ⟨F6, PySem.W.mg_of X G a6, F6.binds (ps := ["links"]) fun _ _ _ _ _ _ us hl => match us, hl with | [_], _ => rfl⟩
  have F7 := fun_mk (st := sIsClosed) l7 c7 k7
  have D7 : Df K mg "is_closed" ["links", "nodes"] sIsClosed f7 _ := ⟨F7, PySem.W.mg_of X G a7, F7.binds (ps := ["links", "nodes"]) fun _ _ _ _ _ _ us hl => match us, hl with | [_, _], _ => rfl⟩
  have F8 := fun_mk (st := sIsTongue) l8 c8 k8
  have D8 : Df K mg "is_tongue" ["thing"] sIsTongue f8 _ := ⟨F8, PySem.W.mg_of X G a8, F8.binds (ps := ["thing"]) fun _ _ _ _ _ _ us hl => match us, hl with | [_], _ => rfl⟩
  have F9 := fun_mk (st := sIsNameText) l9 c9 k9
  have D9 : Df K mg "is_name_text" ["thing"] sIsNameText f9 _ := ⟨F9, PySem.W.mg_of X G a9, F9.binds (ps := ["thing"]) fun _ _ _ _ _ _ us hl => match us, hl with | [_], _ => rfl⟩
  have F10 := fun_mk (st := sIsName) l10 c10 k10
  have D10 : Df K mg "is_name" ["thing"] sIsName f10 _ := ⟨F10, PySem.W.mg_of X G a10, F10.binds (ps := ["thing"]) fun _ _ _ _ _ _ us hl => match us, hl with | [_], _ => rfl⟩
  have F11 := fun_mk (st := sOtherEnd) l11 c11 k11
  have D11 : Df K mg "other_end" ["pair", "name"] sOtherEnd f11 _ := ⟨F11, PySem.W.mg_of X G a11, F11.binds (ps := ["pair", "name"]) fun _ _ _ _ _ _ us hl => match us, hl with | [_, _], _ => rfl⟩
  have F12 := fun_mk (st := sRefuseUnlessTwoNames) l12 c12 k12
  have D12 : Df K mg "refuse_unless_two_names" ["one", "other"] sRefuseUnlessTwoNames f12 _ := ⟨F12, PySem.W.mg_of X G a12, F12.binds (ps := ["one", "other"]) fun _ _ _ _ _ _ us hl => match us, hl with | [_, _], _ => rfl⟩
  have F13 := fun_mk (st := sNamesInit) l13 c13 k13
  have B13 := F13.binds (ps := ["self"]) fun _ _ _ _ _ _ us hl => match us, hl with | [_], _ => rfl
  have F14 := fun_mk (st := sNamesSortOut) l14 c14 k14
  have B14 := F14.binds (ps := ["self"]) fun _ _ _ _ _ _ us hl => match us, hl with | [_], _ => rfl
  have F15 := fun_mk (st := sNamesTell) l15 c15 k15
  have B15 := F15.binds (ps := ["self", "one", "other"]) fun _ _ _ _ _ _ us hl => match us, hl with | [_, _, _], _ => rfl
  have F16 := fun_mk (st := sNamesStrike) l16 c16 k16
  have B16 := F16.binds (ps := ["self", "number"]) fun _ _ _ _ _ _ us hl => match us, hl with | [_, _], _ => rfl
  have F17 := fun_mk (st := sNamesClassOf) l17 c17 k17
  have B17 := F17.binds (ps := ["self", "name"]) fun _ _ _ _ _ _ us hl => match us, hl with | [_, _], _ => rfl
  have F18 := fun_mk (st := sNamesAreOne) l18 c18 k18
  have B18 := F18.binds (ps := ["self", "one", "other"]) fun _ _ _ _ _ _ us hl => match us, hl with | [_, _, _], _ => rfl
  have F19 := fun_mk (st := sNamesChain) l19 c19 k19
  have B19 := F19.binds (ps := ["self", "one", "other"]) fun _ _ _ _ _ _ us hl => match us, hl with | [_, _, _], _ => rfl
  have F20 := fun_mk (st := sNamesFirstNearer) l20 c20 k20
  have B20 := F20.binds (ps := ["self", "name", "steps"]) fun _ _ _ _ _ _ us hl => match us, hl with | [_, _, _], _ => rfl
  have F21 := fun_mk (st := sNamesShowsChain) l21 c21 k21
  have B21 := F21.binds (ps := ["self", "one", "other", "thing"]) fun _ _ _ _ _ _ us hl => match us, hl with | [_, _, _, _], _ => rfl
  have F22 := fun_mk (st := sNamesShowsApart) l22 c22 k22
  have B22 := F22.binds (ps := ["self", "one", "other", "thing"]) fun _ _ _ _ _ _ us hl => match us, hl with | [_, _, _, _], _ => rfl
  have F23 := fun_mk (st := sHand) l23 c23 k23
  have D23 : Df K mg "_law_hand" ["_law_script"] sHand f23 _ := ⟨F23, PySem.W.mg_of X G a23, F23.binds (ps := ["_law_script"]) fun _ _ _ _ _ _ us hl => match us, hl with | [_], _ => rfl⟩
  have F24 := fun_mk (st := sTake) l24 c24 k24
  have D24 : Df K mg "_law_take" ["_law_hand_here", "_law_many"] sTake f24 _ := ⟨F24, PySem.W.mg_of X G a24, F24.binds (ps := ["_law_hand_here", "_law_many"]) fun _ _ _ _ _ _ us hl => match us, hl with | [_, _], _ => rfl⟩
  have F25 := fun_mk (st := sPick) l25 c25 k25
  have D25 : Df K mg "_law_pick" ["_law_hand_here", "_law_some"] sPick f25 _ := ⟨F25, PySem.W.mg_of X G a25, F25.binds (ps := ["_law_hand_here", "_law_some"]) fun _ _ _ _ _ _ us hl => match us, hl with | [_, _], _ => rfl⟩
  have F26 := fun_mk (st := sWord) l26 c26 k26
  have D26 : Df K mg "_law_word" ["_law_hand_here", "_law_least", "_law_most"] sWord f26 _ := ⟨F26, PySem.W.mg_of X G a26, F26.binds (ps := ["_law_hand_here", "_law_least", "_law_most"]) fun _ _ _ _ _ _ us hl => match us, hl with | [_, _, _], _ => rfl⟩
  have F27 := fun_mk (st := sText) l27 c27 k27
  have D27 : Df K mg "_law_text" ["_law_hand_here", "_law_many"] sText f27 _ := ⟨F27, PySem.W.mg_of X G a27, F27.binds (ps := ["_law_hand_here", "_law_many"]) fun _ _ _ _ _ _ us hl => match us, hl with | [_, _], _ => rfl⟩
  have F28 := fun_mk (st := sNames) l28 c28 k28
  have D28 : Df K mg "_law_names" ["_law_hand_here", "_law_many"] sNames f28 _ := ⟨F28, PySem.W.mg_of X G a28, F28.binds (ps := ["_law_hand_here", "_law_many"]) fun _ _ _ _ _ _ us hl => match us, hl with | [_, _], _ => rfl⟩
  have F29 := fun_mk (st := sHeap) l29 c29 k29
  have D29 : Df K mg "_law_heap" ["_law_tellings", "_law_name"] sHeap f29 _ := ⟨F29, PySem.W.mg_of X G a29, F29.binds (ps := ["_law_tellings", "_law_name"]) fun _ _ _ _ _ _ us hl => match us, hl with | [_, _], _ => rfl⟩
  have F30 := fun_mk (st := sBook) l30 c30 k30
  have D30 : Df K mg "_law_book" ["_law_hand_here", "_law_names_here", "_law_many"] sBook f30 _ := ⟨F30, PySem.W.mg_of X G a30, F30.binds (ps := ["_law_hand_here", "_law_names_here", "_law_many"]) fun _ _ _ _ _ _ us hl => match us, hl with | [_, _, _], _ => rfl⟩
  have F31 := fun_mk (st := sWhole) l31 c31 k31
  have D31 : Df K mg "_law_whole" ["_law_thing"] sWhole f31 _ := ⟨F31, PySem.W.mg_of X G a31, F31.binds (ps := ["_law_thing"]) fun _ _ _ _ _ _ us hl => match us, hl with | [_], _ => rfl⟩
  have F32 := fun_mk (st := sLeads) l32 c32 k32
  have D32 : Df K mg "_law_leads" ["_law_tellings", "_law_one", "_law_other", "_law_thing"] sLeads f32 _ := ⟨F32, PySem.W.mg_of X G a32, F32.binds (ps := ["_law_tellings", "_law_one", "_law_other", "_law_thing"]) fun _ _ _ _ _ _ us hl => match us, hl with | [_, _, _, _], _ => rfl⟩
  have F33 := fun_mk (st := sLawIsName) l33 c33 k33
  have D33 : Df K mg "_law_is_name" ["_law_thing"] sLawIsName f33 _ := ⟨F33, PySem.W.mg_of X G a33, F33.binds (ps := ["_law_thing"]) fun _ _ _ _ _ _ us hl => match us, hl with | [_], _ => rfl⟩
  have F34 := fun_mk (st := sClosed) l34 c34 k34
  have D34 : Df K mg "_law_closed" ["_law_tellings", "_law_one", "_law_other", "_law_thing"] sClosed f34 _ := ⟨F34, PySem.W.mg_of X G a34, F34.binds (ps := ["_law_tellings", "_law_one", "_law_other", "_law_thing"]) fun _ _ _ _ _ _ us hl => match us, hl with | [_, _, _, _], _ => rfl⟩
  have F35 := fun_mk (st := sWalked) l35 c35 k35
  have D35 : Df K mg "_law_walked" ["_law_hand_here", "_law_tellings", "_law_one"] sWalked f35 _ := ⟨F35, PySem.W.mg_of X G a35, F35.binds (ps := ["_law_hand_here", "_law_tellings", "_law_one"]) fun _ _ _ _ _ _ us hl => match us, hl with | [_, _, _], _ => rfl⟩
  have F36 := fun_mk (st := sRowOtherwise) l36 c36 k36
  have D36 : Df K mg "_law_row_otherwise" ["_law_hand_here", "_law_row", "_law_many"] sRowOtherwise f36 _ := ⟨F36, PySem.W.mg_of X G a36, F36.binds (ps := ["_law_hand_here", "_law_row", "_law_many"]) fun _ _ _ _ _ _ us hl => match us, hl with | [_, _, _], _ => rfl⟩
  have F37 := fun_mk (st := sNamesOtherwise) l37 c37 k37
  have D37 : Df K mg "_law_names_otherwise" ["_law_hand_here", "_law_row", "_law_names_here"] sNamesOtherwise f37 _ := ⟨F37, PySem.W.mg_of X G a37, F37.binds (ps := ["_law_hand_here", "_law_row", "_law_names_here"]) fun _ _ _ _ _ _ us hl => match us, hl with | [_, _, _], _ => rfl⟩
  have F38 := fun_mk (st := sRight) l38 c38 k38
  have D38 : Df K mg "_law_right" ["_law_hand_here", "_law_book_here", "_law_tellings", "_law_names_here"] sRight f38 _ := ⟨F38, PySem.W.mg_of X G a38, F38.binds (ps := ["_law_hand_here", "_law_book_here", "_law_tellings", "_law_names_here"]) fun _ _ _ _ _ _ us hl => match us, hl with | [_, _, _, _], _ => rfl⟩
  have F39 := fun_mk (st := sLaw) l39 c39 k39
  have D39 : Df K mg "law" ["_law_script"] sLaw fa _ := ⟨F39, PySem.W.mg_of X G a39, F39.binds (ps := ["_law_script"]) fun _ _ _ _ _ _ us hl => match us, hl with | [_], _ => rfl⟩
  have T : Txt K mg := ⟨⟨_, PySem.W.mg_of X G g_SMALL_LETTERS⟩,
    ⟨_, PySem.W.mg_of X G g_TEXT_SIGNS⟩,
    ⟨_, PySem.W.mg_of X G g_SHORTEST_TONGUE⟩,
    ⟨_, PySem.W.mg_of X G g_LONGEST_TONGUE⟩,
    ⟨_, PySem.W.mg_of X G g_LONGEST_TEXT⟩,
    PySem.W.mg_none_of X G z_isinstance,
    PySem.W.mg_none_of X G z_str,
    PySem.W.mg_none_of X G z_tuple,
    PySem.W.mg_none_of X G z_len,
    PySem.W.mg_none_of X G z_all,
    PySem.W.mg_none_of X G z_range,
    PySem.W.mg_none_of X G z_repr,
    PySem.W.mg_none_of X G z_list,
    PySem.W.mg_none_of X G z_max,
    PySem.W.mg_none_of X G z_min,
    PySem.W.mg_none_of X G z_bool,
    PySem.W.mg_none_of X G z_int,
    PySem.W.mg_none_of X G z_sorted,
    PySem.W.mg_none_of X G z_set,
    PySem.W.mg_none_of X G z_enumerate,
    PySem.W.mg_none_of X G z_zip⟩
  have N : NbC K cNames := ⟨⟨pg, hd, po, sa⟩, nmany, ncounting, nlinks, ngroups⟩
  refine ⟨PySem.W.fnOf "law" "law" (defArgs sLaw) (defBody sLaw) (defScope sLaw) .none kV39 dc39 pm39 an39 cd39 ct39, fun s v => .of_eq rfl, fun base kb gb nd => ?g⟩
  case g =>
    have cWh := D0.ca (ok_whole (P := l.prog) (w := w) (base := base) D0 T)
    have cWi := D1.ca (ok_within D1 T cWh)
    have cO := D2.ca (ok_of (P := l.prog) (w := w) (base := base) D2 T)
    have cS := D3.ca (ok_small D3 T cO)
    have cTo := D8.ca (ok_tongue D8 T cS)
    have cN := D9.ca (ok_nt D9 T cO)
    have cNm := D10.ca (ok_name D10 T cTo cN)
    have cRf := D12.ca (ok_refuse D12 T cNm)
    have cLi := D4.ca (ok_linked (P := l.prog) (w := w) (base := base) D4 T)
    have cSt := D5.ca (ok_steps (P := l.prog) (w := w) (base := base) D5 T)
    have cGr := D6.ca (ok_groups D6 T cSt)
    have cCl := D7.ca (ok_closed (P := l.prog) (w := w) (base := base) D7 T)
    have cSo : Mt l.prog w K mg base 5 cNames "sort_out" ["self"] (spSort K) := ⟨⟨f14, _, ⟨a14, i14, k14⟩, ok_sort F14 T cLi cGr, B14⟩⟩
    have cCo : Mt l.prog w K mg base 1 cNames "class_of" ["self", "name"] (spClassOf cNames) := ⟨⟨f17, _, ⟨a17, i17, k17⟩, ok_cof F17 N.cls N.grp, B17⟩⟩
    have cAo : Mt l.prog w K mg base 2 cNames "are_one" ["self", "one", "other"] (spAreOne cNames) := ⟨⟨f18, _, ⟨a18, i18, k18⟩, ok_one F18 T N.cls N.grp cCo, B18⟩⟩
    have cTe : Mt l.prog w K mg base 6 cNames "tell" ["self", "one", "other"] (spTell cNames) := ⟨⟨f15, _, ⟨a15, i15, k15⟩, ok_tell F15 N cRf cSo, B15⟩⟩
    have cSk : Mt l.prog w K mg base 6 cNames "strike" ["self", "number"] (spStrike cNames) := ⟨⟨f16, _, ⟨a16, i16, k16⟩, ok_strike F16 T N cWi cSo cCo cAo, B16⟩⟩
    have GN : Mn l.prog w K mg base cNames f13 _ := ⟨⟨mk, a13, i13, kc⟩, PySem.W.mg_of X G a_Names, ok_init F13 N, B13⟩
    have cH := D23.ca (ok_hand (P := l.prog) (w := w) (base := base) D23 T)
    have cT := D24.ca (ok_take (P := l.prog) (w := w) (base := base) D24)
    have cP := D25.ca (ok_pick D25 T cT)
    have cW := D26.ca (ok_word D26 T cT cP)
    have cX := D27.ca (ok_text D27 T cT cP)
    have cNs := D28.ca (ok_names16 D28 T cT cP cW cX)
    have cOt := D11.ca (ok_other (P := l.prog) (w := w) (base := base) D11)
    have cNe : Mt l.prog w K mg base 2 cNames "first_nearer" ["self", "name", "steps"] (spNearer cNames) := ⟨⟨f20, _, ⟨a20, i20, k20⟩, ok_nearer F20 T N cOt, B20⟩⟩
    have cCh : Mt l.prog w K mg base 3 cNames "chain" ["self", "one", "other"] (spChain cNames) := ⟨⟨f19, _, ⟨a19, i19, k19⟩, ok_chain F19 T N cSt cOt cNe, B19⟩⟩
    have cSc : Mt l.prog w K mg base 2 cNames "shows_chain" ["self", "one", "other", "thing"] (spShowsC K cNames) := ⟨⟨f21, _, ⟨a21, i21, k21⟩, ok_showsC F21 T N cWh cOt, B21⟩⟩
    have cSa : Mt l.prog w K mg base 5 cNames "shows_apart" ["self", "one", "other", "thing"] (spApartD K cNames) := ⟨⟨f22, _, ⟨a22, i22, k22⟩, ok_showsA F22 T N cNm cCl, B22⟩⟩
    have cHe := D29.ca (ok_heap (P := l.prog) (w := w) (base := base) D29 T)
    have cBk := D30.ca (ok_book D30 T N GN cT cP cTe cSk)
    have cLw := D31.ca (ok_lawWhole (P := l.prog) (w := w) (base := base) D31 T)
    have cLe := D32.ca (ok_leads D32 T cLw)
    have cLn := D33.ca (ok_lname (P := l.prog) (w := w) (base := base) D33 T)
    have cLc := D34.ca (ok_lclosed D34 T cLn)
    have cWk := D35.ca (ok_walked D35 T cT cP)
    have cRo := D36.ca (ok_rowo D36 T cT cP)
    have cNo := D37.ca (ok_namo D37 T cT cP)
    exact ok_law D39 T N cH cT cNs cBk D38 (ok_right D38 T N cP cWk cRo cNo cLe cLc cHe cCh cSc cSa) cTe cSk
end K16
open PySem PySem.W PyProof.Rows
set_option maxRecDepth 100000 in
set_option maxHeartbeats 0 in
theorem PySem.Challenge.cw_takesworks_k16_rows_and_parts_shown_holds : PySem.Challenge.rw_takesworks_k16_rows_and_parts_shown.Holds := by
  w_on; o_law; k_head; (case hw => w_witness2)
  k_fill
  refine K16.walk_go (l := PySem.Challenge.rw_takesworks_k16_rows_and_parts_shown) (n := 63) (k := 9) (x := "_law_script") (sp := K16.spLaw) rfl (by decide) rfl ⟨rfl, by decide, by decide⟩ (fun w h Y => PySem.W.kIn_of Y) ?F
    (fun _ _ a ns hl hS => ⟨a, ns, rfl, hS, hl, fun _ => rfl⟩)
  case F =>
    intro w mg fa h KX G hmg
    refine' K16.all_mk KX G hmg ?a_Names ?a0 ?l0 ?c0 ?k0 ?a1 ?l1 ?c1 ?k1 ?a2 ?l2 ?c2 ?k2 ?a3 ?l3 ?c3 ?k3 ?a4 ?l4 ?c4 ?k4 ?a5 ?l5 ?c5 ?k5 ?a6 ?l6 ?c6 ?k6 ?a7 ?l7 ?c7 ?k7 ?a8 ?l8 ?c8 ?k8 ?a9 ?l9 ?c9 ?k9 ?a10 ?l10 ?c10 ?k10 ?a11 ?l11 ?c11 ?k11 ?a12 ?l12 ?c12 ?k12 ?a13 ?i13 ?l13 ?c13 ?k13 ?a14 ?i14 ?l14 ?c14 ?k14 ?a15 ?i15 ?l15 ?c15 ?k15 ?a16 ?i16 ?l16 ?c16 ?k16 ?a17 ?i17 ?l17 ?c17 ?k17 ?a18 ?i18 ?l18 ?c18 ?k18 ?a19 ?i19 ?l19 ?c19 ?k19 ?a20 ?i20 ?l20 ?c20 ?k20 ?a21 ?i21 ?l21 ?c21 ?k21 ?a22 ?i22 ?l22 ?c22 ?k22 ?a23 ?l23 ?c23 ?k23 ?a24 ?l24 ?c24 ?k24 ?a25 ?l25 ?c25 ?k25 ?a26 ?l26 ?c26 ?k26 ?a27 ?l27 ?c27 ?k27 ?a28 ?l28 ?c28 ?k28 ?a29 ?l29 ?c29 ?k29 ?a30 ?l30 ?c30 ?k30 ?a31 ?l31 ?c31 ?k31 ?a32 ?l32 ?c32 ?k32 ?a33 ?l33 ?c33 ?k33 ?a34 ?l34 ?c34 ?k34 ?a35 ?l35 ?c35 ?k35 ?a36 ?l36 ?c36 ?k36 ?a37 ?l37 ?c37 ?k37 ?a38 ?l38 ?c38 ?k38 ?a39 ?l39 ?c39 ?k39 ?g_SMALL_LETTERS ?g_TEXT_SIGNS ?g_SHORTEST_TONGUE ?g_LONGEST_TONGUE ?g_LONGEST_TEXT ?pg ?hd ?po ?sa ?mk ?kc ?nmany ?ncounting ?nlinks ?ngroups ?z_isinstance ?z_str ?z_tuple ?z_len ?z_all ?z_range ?z_repr ?z_list ?z_max ?z_min ?z_bool ?z_int ?z_sorted ?z_set ?z_enumerate ?z_zip
    (case a_Names => k_is)
    (case a0 => k_is)
    (case l0 => k_is)
    (case c0 => k_is)
    (case k0 => k_is)
    (case a1 => k_is)
    (case l1 => k_is)
    (case c1 => k_is)
    (case k1 => k_is)
    (case a2 => k_is)
    (case l2 => k_is)
    (case c2 => k_is)
    (case k2 => k_is)
    (case a3 => k_is)
    (case l3 => k_is)
    (case c3 => k_is)
    (case k3 => k_is)
    (case a4 => k_is)
    (case l4 => k_is)
    (case c4 => k_is)
    (case k4 => k_is)
    (case a5 => k_is)
    (case l5 => k_is)
    (case c5 => k_is)
    (case k5 => k_is)
    (case a6 => k_is)
    (case l6 => k_is)
    (case c6 => k_is)
    (case k6 => k_is)
    (case a7 => k_is)
    (case l7 => k_is)
    (case c7 => k_is)
    (case k7 => k_is)
    (case a8 => k_is)
    (case l8 => k_is)
    (case c8 => k_is)
    (case k8 => k_is)
    (case a9 => k_is)
    (case l9 => k_is)
    (case c9 => k_is)
    (case k9 => k_is)
    (case a10 => k_is)
    (case l10 => k_is)
    (case c10 => k_is)
    (case k10 => k_is)
    (case a11 => k_is)
    (case l11 => k_is)
    (case c11 => k_is)
    (case k11 => k_is)
    (case a12 => k_is)
    (case l12 => k_is)
    (case c12 => k_is)
    (case k12 => k_is)
    (case a13 => k_is)
    (case i13 => k_is)
    (case l13 => k_is)
    (case c13 => k_is)
    (case k13 => k_is)
    (case a14 => k_is)
    (case i14 => k_is)
    (case l14 => k_is)
    (case c14 => k_is)
    (case k14 => k_is)
    (case a15 => k_is)
    (case i15 => k_is)
    (case l15 => k_is)
    (case c15 => k_is)
    (case k15 => k_is)
    (case a16 => k_is)
    (case i16 => k_is)
    (case l16 => k_is)
    (case c16 => k_is)
    (case k16 => k_is)
    (case a17 => k_is)
    (case i17 => k_is)
    (case l17 => k_is)
    (case c17 => k_is)
    (case k17 => k_is)
    (case a18 => k_is)
    (case i18 => k_is)
    (case l18 => k_is)
    (case c18 => k_is)
    (case k18 => k_is)
    (case a19 => k_is)
    (case i19 => k_is)
    (case l19 => k_is)
    (case c19 => k_is)
    (case k19 => k_is)
    (case a20 => k_is)
    (case i20 => k_is)
    (case l20 => k_is)
    (case c20 => k_is)
    (case k20 => k_is)
    (case a21 => k_is)
    (case i21 => k_is)
    (case l21 => k_is)
    (case c21 => k_is)
    (case k21 => k_is)
    (case a22 => k_is)
    (case i22 => k_is)
    (case l22 => k_is)
    (case c22 => k_is)
    (case k22 => k_is)
    (case a23 => k_is)
    (case l23 => k_is)
    (case c23 => k_is)
    (case k23 => k_is)
    (case a24 => k_is)
    (case l24 => k_is)
    (case c24 => k_is)
    (case k24 => k_is)
    (case a25 => k_is)
    (case l25 => k_is)
    (case c25 => k_is)
    (case k25 => k_is)
    (case a26 => k_is)
    (case l26 => k_is)
    (case c26 => k_is)
    (case k26 => k_is)
    (case a27 => k_is)
    (case l27 => k_is)
    (case c27 => k_is)
    (case k27 => k_is)
    (case a28 => k_is)
    (case l28 => k_is)
    (case c28 => k_is)
    (case k28 => k_is)
    (case a29 => k_is)
    (case l29 => k_is)
    (case c29 => k_is)
    (case k29 => k_is)
    (case a30 => k_is)
    (case l30 => k_is)
    (case c30 => k_is)
    (case k30 => k_is)
    (case a31 => k_is)
    (case l31 => k_is)
    (case c31 => k_is)
    (case k31 => k_is)
    (case a32 => k_is)
    (case l32 => k_is)
    (case c32 => k_is)
    (case k32 => k_is)
    (case a33 => k_is)
    (case l33 => k_is)
    (case c33 => k_is)
    (case k33 => k_is)
    (case a34 => k_is)
    (case l34 => k_is)
    (case c34 => k_is)
    (case k34 => k_is)
    (case a35 => k_is)
    (case l35 => k_is)
    (case c35 => k_is)
    (case k35 => k_is)
    (case a36 => k_is)
    (case l36 => k_is)
    (case c36 => k_is)
    (case k36 => k_is)
    (case a37 => k_is)
    (case l37 => k_is)
    (case c37 => k_is)
    (case k37 => k_is)
    (case a38 => k_is)
    (case l38 => k_is)
    (case c38 => k_is)
    (case k38 => k_is)
    (case a39 => k_is)
    (case l39 => k_is)
    (case c39 => k_is)
    (case k39 => k_is)
    (case g_SMALL_LETTERS => k_is)
    (case g_TEXT_SIGNS => k_is)
    (case g_SHORTEST_TONGUE => k_is)
    (case g_LONGEST_TONGUE => k_is)
    (case g_LONGEST_TEXT => k_is)
    (case pg => k_is)
    (case hd => k_is)
    (case po => k_is)
    (case sa => k_is)
    (case mk => k_is)
    (case kc => k_is)
    (case nmany => k_is)
    (case ncounting => k_is)
    (case nlinks => k_is)
    (case ngroups => k_is)
    (case z_isinstance => k_is)
    (case z_str => k_is)
    (case z_tuple => k_is)
    (case z_len => k_is)
    (case z_all => k_is)
    (case z_range => k_is)
    (case z_repr => k_is)
    (case z_list => k_is)
    (case z_max => k_is)
    (case z_min => k_is)
    (case z_bool => k_is)
    (case z_int => k_is)
    (case z_sorted => k_is)
    (case z_set => k_is)
    (case z_enumerate => k_is)
    (case z_zip => k_is)
