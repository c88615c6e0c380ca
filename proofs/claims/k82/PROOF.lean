import PyProof.Rows.All
import Wide.All
import OpenK.AllK
import Wide.FinOn
import HandS.ForMost
import HandS.ForExc
import HandS.Wide
import HandS.Flow
import HandS.IsInst
import HandS.Codes
import HandS.ExcInit
import HandS.ExcField
import HandS.ExcIs
import HandS.CallSlots
import HandS.Defaults
import HandS.MakeKw
import HandS.MakeKwOnly
import KE.KExcIs
import KE.KTryMore
import KE.KExcInit
import HandS.RaiseMore
import HandS.FStrTup
import PyProof.ReprRoads
import PyProof.StrLawsRepr
import KE.GoesMore
import HandS.Iter
import HandS.Walk
import HandS.More
import KE.GoesZip
import KE.GoesEnum
import PyProof.NeKinds
import HandS.TupAny
import HandS.Style
import HandS.TupLe
import PyProof.StrOps2
import KE.DataMinMax
import KE.SortData
import KE.KStar
import HandS.EndTab
import KE.DataMinKey
import KE.KDictList
import KE.DatumOrd
import HandS.Star
import HandS.DictComp
import HandS.Zip
import HandS.SortInts
import HandS.Deep
import HandS.StrMore
import HandS.RevRange
import HandS.Conv
import HandS.SetFor
import HandS.Strs
import PySem.Challenge.RW_takesworks_k82_whole_parts_in_order
set_option Elab.async false
set_option linter.all false
set_option maxRecDepth 100000
set_option maxHeartbeats 4000000
set_option pp.maxSteps 400
set_option pp.deepTerms false
/-! A caught exception that is kept: tracked as an object of its own, with its class and its dict. -/
namespace Xk
open PySem PySem.Spec PyProof.Rows L2
/-- at a: an exception of the class cls, its dict at d (if it has one) -/
def ExK (cls : Value) (d : Option Addr) (a : Addr) : HO := .ext fun h => ∃ oe : Obj, h.get? a = some oe ∧ Zc cls d oe ∧ ∃ vs, oe.data = .fields vs
theorem exK_ok {P : Program} {w : World} {H : Hp} {h : Heap} {a : Addr} {cls : Value} {d : Option Addr} {oe : Obj} {vs : Array Value}
    (e : h.get? a = some oe) (z : Zc cls d oe) (hd : oe.data = .fields vs) : ObjOk P w H h a (ExK cls d a) :=
  ⟨⟨oe, e, z, vs, hd⟩, ⟨oe, e⟩, fun _ _ y k => by
    obtain ⟨o, q, r⟩ := y
    exact ⟨o, k o q, r⟩⟩
theorem exK_at {P : Program} {w : World} {H : Hp} {h : Heap} {a : Addr} {cls : Value} {d : Option Addr} (hok : HOk P w H h) (e : H a = some (ExK cls d a)) :
    ∃ oe : Obj, h.get? a = some oe ∧ Zc cls d oe ∧ ∃ vs, oe.data = .fields vs := by
  have z : ObjOk P w H h a (.ext fun h => ∃ oe : Obj, h.get? a = some oe ∧ Zc cls d oe ∧ ∃ vs, oe.data = .fields vs) := hok a _ e
  exact z.1
section
variable {X : Cx} {pins : List (Addr × Obj)} {σ : L2.St} {H : Hp} {s : Shared}
/-- an object that came during the call, untracked as yet, is tracked from here on -/
theorem track {a : Addr} {o : HO} (I : Inv X pins σ H s) (h0 : X.s_0.heap.get? a = none) (na : H a = none) (nL : a ≠ X.env.locals)
    (nC : ∀ x c, X.env.cells.lookup x = some c → c ≠ a) (nP : ∀ p ∈ X.pn ++ pins, p.1 ≠ a) (new : ObjOk X.prog X.w (upd H a o) s.heap a o) : Inv X pins σ (upd H a o) s := by
  have n0 : ∀ {b : Addr} {u : Obj}, X.s_0.heap.get? b = some u → b ≠ a := fun {b u} e z => by
    rw [z, h0] at e
    cases e
  refine ⟨I.ok, I.os, I.bare, ⟨I.base.keep, I.base.slot, fun b u e n hx => ?_, I.base.there, fun b xs e => ?_, fun b u v e => ?_, fun b ps e => ?_⟩, I.loc, I.cell, ?_, fun x c e => ?_, fun p hp => ?_, fun b u e => ?_, I.len⟩
  · rw [upd_ne (n0 e)]
    exact I.base.free b u e n hx
  · have q := I.base.tups b xs e
    rw [upd_ne (ne_of_none q na)]
    exact q
  · have q := I.base.frzs b u v e
    rw [upd_ne (ne_of_none q na)]
    exact q
  · obtain ⟨m, q⟩ := I.base.tbls b ps e
    exact ⟨m, by rw [upd_ne (ne_of_none q na)]; exact q⟩
  · rw [upd_ne (Ne.symm nL)]
    exact I.free
  · rw [upd_ne (nC x c e)]
    exact I.freeC x c e
  · obtain ⟨e1, e2, e3⟩ := I.pin p hp
    exact ⟨e1, by rw [upd_ne (nP p hp)]; exact e2, e3⟩
  · by_cases hb : b = a
    · subst hb
      rw [upd_same] at e
      cases e
      exact new
    · rw [upd_ne hb] at e
      refine (I.hok b u e).stay (fun _ _ _ q => q) (fun c q => ?_) fun c xs q => ?_
      · rw [upd_ne (ne_of_none q na)]
        exact q
      · rw [upd_ne (ne_of_none q na)]
        exact q
end
theorem flying_kept {B h h' : Heap} {l : List Env} {a : Addr} {Z : Obj → Prop} (f : HandSPX.FlyingZ B l a Z h) (k : ∀ b o, h.get? b = some o → h'.get? b = some o) : HandSPX.FlyingZ B l a Z h' := by
  obtain ⟨f1, f2, f3, oe, vs, T, oT, ts, t1, t2, t3, t4, t5, t6, t7, t8, t9⟩ := f
  exact ⟨fun b o e => k b o (f1 b o e), f2, f3.of_keeps fun b o e _ => ⟨o, k b o e, rfl⟩, oe, vs, T, oT, ts, k _ _ t1, t2, t3, t4, t5, t6, k _ _ t7, t8, t9⟩
/-- what the clause 'except (A, B, C) as n' wishes of an exception of the body: slot i is n's; the exception is tracked -/
def wKeep (K : PySem.W.Frag) (cs : List Value) (i : Nat) (ts : Addr → TS) (Wout : WX) (D : Ends) : WX := fun cls d σ H =>
  ∃ b, PySem.W.exmAny K cls cs = some b ∧
    (b = true → ∀ a, H a = none → ts a { nx := fun σ' H' => D.nx (σ'.set i none) H', rt := D.rt, bk := fun σ' H' => D.bk (σ'.set i none) H', ct := fun σ' H' => D.ct (σ'.set i none) H' } (σ.set i (some (.ref a))) (upd H a (ExK cls d a))) ∧
    (b = false → Wout cls d σ H)
/-- a module's own class by its name -/
structure Nm (X : Cx) (x : Str) (C : Addr) : Prop where
  gl : Gl X x
  db : (x == ("__debug__" : Str)) = false
  mg : X.mg x = some (.ref C)
section
variable {X : Cx} {x1 x2 x3 n : Str} {C1 C2 C3 : Addr} {i : Nat} {body suite : List Stmt} {b₀ : Stmt} {p1 p2 p3 tp pos pos' : Pos} {tb : WX → TS} {ts : Addr → TS} {Wout : WX} {cx}
theorem ps_try_keep (hs : X.stack = X.env :: X.outer) (hf : X.env.frame = some X.env.locals) (hex : X.ex = []) (hN : X.N.Nodup) (hi : X.N[i]? = some n) (hln : X.env.kindOf n = some .local)
    (n1 : Nm X x1 C1) (n2 : Nm X x2 C2) (n3 : Nm X x3 C3) (tk : Takes X Wout)
    (hb : ∀ (W : WX) (pn : List (Addr × Obj)) (xe : Value → Shared → Prop), Takes (X.tr pn xe) W → PassesOwn (model X.prog X.w) X.A X.env xe → PSs (X.tr pn xe) body (tb W))
    (hsu : ∀ (a : Addr) (pn : List (Addr × Obj)), PSs (X.suite a pn) (b₀ :: suite) (ts a)) :
    PS X (.Try body [.ExceptHandler (some (.Tuple [.Name x1 p1, .Name x2 p2, .Name x3 p3] cx tp)) (some n) (b₀ :: suite) pos'] [] [] pos) (fun D σ H => tb (wKeep X.K [.ref C1, .ref C2, .ref C3] i ts Wout D) D σ H) := by
  refine ⟨fun pins s σ H D I h => ?_⟩
  have ok := I.ok
  have frs2 : X.A.frames = some (X.env :: X.outer) := by rw [ok.frames, hs]
  refine wpAny_Try_except ?_
  refine wpAny_mono ((hb (wKeep X.K [.ref C1, .ref C2, .ref C3] i ts Wout D) (X.pn ++ pins)
    (fun e s₁ => wpAny (model X.prog X.w) X.A (noteFrame e X.env) (fun _ s₂ => wpAny (model X.prog X.w) X.A (setFlight e none) (fun _ s₃ => wpAny (model X.prog X.w) X.A
      (handleBy e X.env [.ExceptHandler (some (.Tuple [.Name x1 p1, .Name x2 p2, .Name x3 p3] cx tp)) (some n) (b₀ :: suite) pos']) (SP X pins D) X.xe s₃) X.xe s₂) X.xe s₁)
    (fun u s' air => ?_) PassesOwn.looking).run [] s σ H D (I.toTry _) h) (fun f s1 hsp => ?_) (fun e s1 he => he)
  · obtain ⟨a, B, sI, pins', σ', H', cls, d, rfl, J', nb, up, sky, na, os, ag, b, hb1, hyes, hno⟩ := air
    have J : Inv X pins σ' H' sI := J'.ofTry ok
    have sky2 : Sky B (X.env :: X.outer) a (Zc cls d) X.env.locals s'.heap := by
      rw [← hs]
      exact sky
    refine Sky.land Zc.steady frs2 hf sky2 fun h3 fl3 up3 => ?_
    obtain ⟨oe3, vs3, he3, hz3, hd3⟩ := fl3.there
    have nfr : a ∉ frs (X.env :: X.outer) := fun hm => by
      obtain ⟨_, o', e', hnf⟩ := fl3.2.2.1.mem hm
      rw [he3] at e'
      cases e'
      exact hnf _ hd3
    have nL : a ≠ X.env.locals := fun z => nfr (List.mem_filterMap.mpr ⟨X.env, List.mem_cons_self, by rw [hf, z]⟩)
    have nF : a ∉ X.fs := fun hm => by
      obtain ⟨e, he, q⟩ := List.mem_filterMap.mp hm
      exact nfr (List.mem_filterMap.mpr ⟨e, List.mem_cons_of_mem _ he, q⟩)
    -- it was not there when the call began
    have aI : sI.heap.get? a = none := by
      cases e : sI.heap.get? a with
      | none => rfl
      | some o =>
        have z := nb a o e (by rw [hs]; exact nfr)
        rw [fl3.2.1] at z
        cases z
    have a0 : X.s_0.heap.get? a = none := by
      cases e : X.s_0.heap.get? a with
      | none => rfl
      | some o =>
        obtain ⟨o', z⟩ := J.base.there a o e (by rw [hex]; exact fun z => nomatch z)
        rw [aI] at z
        cases z
    have nP : ∀ p ∈ X.pn ++ pins, p.1 ≠ a := fun p hp z => by
      have q := (J.pin p hp).1
      rw [z, aI] at q
      cases q
    have trk : ∀ {h4 : Heap} {s4 : Shared}, s4.heap = h4 → HandSPX.FlyingZ B (X.env :: X.outer) a (Zc cls d) h4 → Inv X pins σ' H' s4 → Inv X pins σ' (upd H' a (ExK cls d a)) s4 := fun {h4 s4} e4 fl4 J4 => by
      subst e4
      obtain ⟨oe4, vs4, he4, hz4, hd4⟩ := fl4.there
      refine track J4 a0 na nL (fun x c e z => ?_) nP (exK_ok he4 hz4 hd4)
      obtain ⟨v, o, eo, ed⟩ := J4.cell x c e
      rw [z, he4] at eo
      cases eo
      rw [hd4] at ed
      cases ed
    have J3 : Inv X pins σ' H' { s' with heap := h3 } := J.landed nb fl3.1 (up.trans up3) os ag
    have S3 : Inv (X.suite a (X.pn ++ pins)) [] σ' H' { s' with heap := h3 } :=
      ⟨J3.ok.suite _ _, J3.os, J3.bare, J3.base, J3.loc, J3.cell, J3.free, J3.freeC, fun p hp => J3.pin p (by rw [List.append_nil] at hp; exact hp), J3.hok, J3.len⟩
    refine wpAny_handleBy_cons (codeAny_handlers_test ?_) (by intro q; cases q)
    have own : ∀ {x : Str} {C : Addr} {p : Pos} {Q : Value → Shared → Prop} {E : Value → Shared → Prop}, Nm X x C → Q (.ref C) { s' with heap := h3 } →
        wpAny (model X.prog X.w) (X.A.mark (some (.ref a))) (eval (.Name x p) X.env) Q E { s' with heap := h3 } := fun {x C p Q E} z q => ld_glob (X := X.suite a (X.pn ++ pins)) S3 z.gl z.mg q z.db
    have tup : ∀ {Q : Value → Shared → Prop} {E : Value → Shared → Prop}, Q (.ref h3.objs.size) { s' with heap := h3.push { cls := .type "tuple", data := .seq [Value.ref C1, .ref C2, .ref C3].toArray } } →
        wpAny (model X.prog X.w) (X.A.mark (some (.ref a))) (eval (.Tuple [.Name x1 p1, .Name x2 p2, .Name x3 p3] cx tp) X.env) Q E { s' with heap := h3 } := fun {Q E} q => by
      refine wpAny_Tuple_spliced ?_
      show wpAny _ _ (spliced ((false, eval (.Name x1 p1) X.env) :: (false, eval (.Name x2 p2) X.env) :: (false, eval (.Name x3 p3) X.env) :: [])) _ _ _
      exact Calls.spliced_cons (own n1 (Calls.spliced_cons (own n2 (Calls.spliced_cons (own n3 (Calls.spliced_nil ⟨by show 3 ≤ sizeLine; decide, q⟩))))))
    refine tup ?_
    have k4 : ∀ b o, h3.get? b = some o → (h3.push { cls := .type "tuple", data := .seq [Value.ref C1, .ref C2, .ref C3].toArray }).get? b = some o := fun b o e => Heap.get?_push_of_some _ e
    have t4 := Heap.get?_push_size h3 (o := { cls := .type "tuple", data := .seq [Value.ref C1, .ref C2, .ref C3].toArray }) rfl
    generalize h3.push { cls := .type "tuple", data := .seq [Value.ref C1, .ref C2, .ref C3].toArray } = h4 at k4 t4 ⊢
    have fl4 := flying_kept fl3 k4
    have J4 : Inv X pins σ' H' { s' with heap := h4 } := J3.kept k4
    have LT : PySem.W.Looks (model X.prog X.w) h4 (typeOf (.ref a)) cls := fun A Q E s k q => wpAny_typeOf_ref (k _ _ (k4 _ _ he3)) (by rw [hz3.1]; exact q)
    refine (PySem.W.exm_tup3 (M := model X.prog X.w) J4.kIn LT t4 hb1).here ?_
    cases b with
    | true =>
      refine codeAny_handlers_suite_as ?_
      refine HandSPX.lands_againZ fl4 fun h5 fl5 up5 => ?_
      have J5 : Inv X pins σ' H' { s' with heap := h5 } := J.landed nb fl5.1 ((up.trans up3).trans ((Heap.UpToSlots.of_keeps k4).trans up5)) os ag
      have T5 := trk rfl fl5 J5
      have S5 : Inv (X.suite a (X.pn ++ pins)) [] σ' (upd H' a (ExK cls d a)) { s' with heap := h5 } :=
        ⟨T5.ok.suite _ _, T5.os, T5.bare, T5.base, T5.loc, T5.cell, T5.free, T5.freeC, fun p hp => T5.pin p (by rw [List.append_nil] at hp; exact hp), T5.hok, T5.len⟩
      refine store_ok (X := X.suite a (X.pn ++ pins)) (v := .ref a) S5 hN hi (.inl hln) rfl (fun s6 S6 => ?_) (.inr hln)
      refine wpAny_mono ((hsu a (X.pn ++ pins)).run [] s6 _ _ _ S6 (hyes rfl a na)) (fun f s7 hsp => ?_) (fun _ _ z => False.elim z)
      have back : ∀ {σ7 : L2.St} {H7 : Hp}, Inv (X.suite a (X.pn ++ pins)) [] σ7 H7 s7 → Inv X pins σ7 H7 s7 := fun {σ7 H7} S7 =>
        ⟨ok, S7.os, S7.bare, S7.base, S7.loc, S7.cell, S7.free, S7.freeC, fun p hp => S7.pin p (by rw [List.append_nil]; exact hp), S7.hok, S7.len⟩
      cases f with
      | next =>
        obtain ⟨σ7, H7, S7, q7⟩ := hsp
        exact gone_ok (back S7) hN hi hln fun s8 J8 => ⟨_, _, J8, q7⟩
      | brk =>
        obtain ⟨σ7, H7, S7, q7⟩ := hsp
        exact gone_ok (back S7) hN hi hln fun s8 J8 => ⟨_, _, J8, q7⟩
      | cont =>
        obtain ⟨σ7, H7, S7, q7⟩ := hsp
        exact gone_ok (back S7) hN hi hln fun s8 J8 => ⟨_, _, J8, q7⟩
      | ret u =>
        obtain ⟨v7, σ7, H7, S7, r7, q7⟩ := hsp
        exact gone_ok (back S7) hN hi hln fun s8 J8 => ⟨_, _, _, J8, r7, q7⟩
    | false =>
      refine wpAny_handleBy_nil ?_
      obtain ⟨k1, k2, k3, oe, vs, T, oT, ts', he, hz, hd, h1, hr⟩ := id fl4
      unfold PySem.passOn
      refine wpAny_bind (wpAny_field he hd h1 ?_)
      rw [if_neg (by simp : ¬ ((Value.ref T == Value.none) = true))]
      have fin : wpAny (model X.prog X.w) X.A (setFlight (.ref a) X.env.frame) (fun _ s5 => wpAny (model X.prog X.w) X.A (throw (.ref a) : Sem Flow) (SP X pins D) X.xe s5) X.xe { s' with heap := h4 } := by
        rw [hf]
        refine HandSPX.setFlight_upZ fl4 fun h5 hh5 up5 => wpAny_throw (tk _ _ ?_)
        exact ⟨a, B, sI, pins, σ', H', cls, d, rfl, J, nb, (up.trans up3).trans ((Heap.UpToSlots.of_keeps k4).trans up5), .inr (.inr (by rw [hs]; exact hh5)), na, os, ag, hno rfl⟩
      first
        | exact wpAny_bind (wpAny_pure (wpAny_bind fin))
        | exact wpAny_bind fin
  · cases f with
    | next =>
      obtain ⟨σ', H', J', q⟩ := hsp
      exact wpAny_execs_nil ⟨σ', H', J'.ofTry ok, q⟩
    | brk =>
      obtain ⟨σ', H', J', q⟩ := hsp
      exact ⟨σ', H', J'.ofTry ok, q⟩
    | cont =>
      obtain ⟨σ', H', J', q⟩ := hsp
      exact ⟨σ', H', J'.ofTry ok, q⟩
    | ret u =>
      obtain ⟨v, σ', H', J', r, q⟩ := hsp
      exact ⟨v, σ', H', J'.ofTry ok, r, q⟩
end
end Xk
set_option Elab.async false
set_option linter.all false
set_option maxRecDepth 100000
set_option maxHeartbeats 4000000
set_option pp.maxSteps 400
set_option pp.deepTerms false
namespace Xk
open PySem PySem.Spec PyProof.Rows L2
/-- what an own exception class says, so that its kept instances are read and asked -/
structure XcC (K : PySem.W.Frag) (C : Addr) : Prop where
  cl : (PySem.W.clsIn K C).isSome = true
  ga : PySem.W.findIn K (.ref C) "__getattribute__" = some (some (.builtin "BaseException.__getattribute__"))
  gg : PySem.W.findIn K (.ref C) "__getattr__" = some none
  sb : PySem.W.subIn K (.ref C) (.type "BaseException") = some true
  hd : PySem.W.hasDictIn K C = true
  ha : PySem.W.findIn K (.ref C) "__class__" = some (some (.builtin "object.__class__"))
  hn : PySem.W.specialIn K (.builtin "object.__class__") "__get__" = some (some (.builtin "getset_descriptor.__get__"))
  ht : PySem.W.takesIn K (.builtin "object.__class__") = some true
  hm : PySem.W.mroIn K C (.type "object") = some true
/-- a kept exception of the class at C with the fields fs -/
def Kept (H : Hp) (a C : Addr) (fs : List (Str × V)) : Prop := ∃ d, H a = some (ExK (.ref C) (some d) a) ∧ H d = some (.xd fs)
theorem Kept.same {H H' : Hp} {a C : Addr} {fs : List (Str × V)} (k : Kept H a C fs) (s : L2.Same H H') : Kept H' a C fs := by
  obtain ⟨d, e1, e2⟩ := k
  exact ⟨d, s _ _ e1, s _ _ e2⟩
section
variable {X : Cx} {pins : List (Addr × Obj)} {σ : L2.St} {H : Hp} {s : Shared}
theorem Kept.inst {a C : Addr} {fs : List (Str × V)} (I : Inv X pins σ H s) (k : Kept H a C fs) :
    ∃ (oe od : Obj) (mA : Str → Option Value), PySem.W.InstAt s.heap a oe C (some od) ∧ (∀ n, PySem.W.lookIn n od = some (mA n)) ∧ ∀ f, RelO (fs.lookup f) (mA f) := by
  obtain ⟨d, e1, e2⟩ := k
  obtain ⟨oe, he, hz, vs, hv⟩ := exK_at I.hok e1
  have hx : ObjOk X.prog X.w H s.heap d (.xd fs) := I.hok d _ e2
  obtain ⟨mA, hns, hr⟩ := hx
  obtain ⟨od, ho, hl⟩ := lookIn_ns hns
  refine ⟨oe, od, mA, ⟨he, hz.1, by unfold PySem.W.notCls; rw [hv] <;> rfl, by rw [hz.2]; exact ho⟩, hl, hr⟩
end
/-- e.f of a kept exception -/
def tKf (C : Addr) (f : Str) (te : TE) : TE := fun σ H Q => te σ H fun x H1 => ∃ (a : Addr) (fs : List (Str × V)) (v : V), x = .ref a ∧ Kept H1 a C fs ∧ fs.lookup f = some v ∧ Q v H1
theorem pe_kf {X : Cx} {C : Addr} {e : Expr} {te : TE} {pos : Pos} {n : Str} (T : XcC X.K C) (hno : PySem.W.findIn X.K (.ref C) n = some none) (he : PE X e te)
    (hb : attributeBase e n X.env (eval e X.env) = eval e X.env := by rfl) : PE X (.Attribute e n pos) (tKf C n te) := by
  refine ⟨fun pins s σ H Q I h => attr_of hb (thn (he.run pins s σ H _ I h) fun u s1 z => ?_)⟩
  obtain ⟨x, H1, I1, rx, a, fs, v, ex, k, l, q⟩ := z
  subst ex
  obtain rfl : u = Value.ref a := rx
  obtain ⟨oe, od, mA, J, hl, hr⟩ := k.inst I1
  obtain ⟨y, hy, ry⟩ := RelO.some_of (v := v) (o := mA n) (by rw [← l]; exact hr n)
  exact HandSPX.exc_get I1.kIn J T.ga T.gg T.sb (PySem.W.findObj_own T.hd hno rfl (by rw [hl, hy])) (handed_of ry) ⟨v, H1, I1.tok _, ry, q⟩
/-- isinstance(e, c), isinstance(e, (c1, ..)) of a kept exception -/
def rIsK (K : PySem.W.Frag) (C : Addr) : List V → Hp → VK → Prop := fun xs H Q => ∃ (a : Addr) (fs : List (Str × V)) (c : V) (u : Value) (b : Bool), xs = [.ref a, c] ∧ Kept H a C fs ∧ ClsV c u ∧ PySem.W.kitOne K (.ref C) u = some b ∧ Q (.bl b) H
def rIsKT (K : PySem.W.Frag) (C : Addr) : List V → Hp → VK → Prop := fun xs H Q => ∃ (a tp : Addr) (fs : List (Str × V)) (cs : List V) (us : List Value) (b : Bool), xs = [.ref a, .ref tp] ∧ Kept H a C fs ∧
  H tp = some (.tup cs) ∧ Paired ClsV cs us ∧ PySem.W.kitAny K (.ref C) us = some b ∧ Q (.bl b) H
theorem call_isK {X : Cx} {C : Addr} (T : XcC X.K C) : CallR X (.builtin "isinstance") (rIsK X.K C) := by
  intro pins s σ H xs us Q I r h
  obtain ⟨a, fs, c, u, b, rfl, k, hc, e, q⟩ := h
  obtain ⟨u1, u2, rfl, r1, r2⟩ := vals2 r
  have e2 := hc.eq r2
  subst e2
  cases (show u1 = Value.ref a from r1)
  obtain ⟨oe, od, mA, J, _, _⟩ := k.inst I
  exact PySem.W.kia_one (PySem.W.kitx_exc (ox := oe) (od := some od) T.cl T.ga T.gg T.sb T.ha T.hn T.ht T.hm) I.kIn J e (fun z => nomatch z) fun tk => ⟨.bl b, H, I.tok tk, rfl, q⟩
theorem call_isKT {X : Cx} {C : Addr} (T : XcC X.K C) : CallR X (.builtin "isinstance") (rIsKT X.K C) := by
  intro pins s σ H xs us Q I r h
  obtain ⟨a, tp, fs, cs, ws, b, rfl, k, hT, hc, e, q⟩ := h
  obtain ⟨u1, u2, rfl, r1, r2⟩ := vals2 r
  cases (show u1 = Value.ref a from r1)
  cases (show u2 = Value.ref tp from r2)
  obtain ⟨oe, od, mA, J, _, _⟩ := k.inst I
  have ht : ObjOk X.prog X.w H s.heap tp (.tup cs) := I.hok tp _ hT
  obtain ⟨_, its, rv, o, h1, h2, n, h3⟩ := ht
  have e3 := ClsV.all hc rv
  subst e3
  obtain ⟨oc, od2, dt, sl⟩ := o
  simp only at h2 h3
  subst h2 h3
  exact PySem.W.kia_tup (PySem.W.kitx_exc (ox := oe) (od := some od) T.cl T.ga T.gg T.sb T.ha T.hn T.ht T.hm) I.kIn J h1 e (fun z => nomatch z) fun tk => ⟨.bl b, H, I.tok tk, rfl, q⟩
/-! ### B.__init__(self, ..), B an own class over ValueError without own __init__ -/
structure BiC (K : PySem.W.Frag) (B : Addr) : Prop where
  rd : PySem.W.readsIn K B (.type "type") = true
  sp : PySem.W.specialIn K (.ref B) "__getattribute__" = some (some (.builtin "type.__getattribute__"))
  fi : PySem.W.findCls K (.ref B) (.type "type") "__init__" = some (.val (.builtin "ValueError.__init__"))
theorem pe_binit {X : Cx} {B : Addr} {x : Str} {e : Expr} {es : List Expr} {ta : TA} {p1 p2 pos : Pos} {pl : Sem Bool} (T : BiC X.K B) (gl : Gl X x) (mg : X.mg x = some (.ref B)) (ha : PA X (e :: es) ta) (hdb : (x == ("__debug__" : Str)) = false := by decide)
    (hc : eval (.Call (.Attribute (.Name x p1) "__init__" p2) (e :: es) [] pos) X.env = (do
      let ov ← eval (.Name x p1) X.env
      standAt p2.atName
      let (f, first) ← holding [ov] (getMethod ov "__init__" pl)
      callWith pos f first (backTo pos (starEach (e :: es) X.env)) (backToKw pos (keywordEach [] X.env))) := by rfl)
    (he : starEach (e :: es) X.env = (false, eval e X.env) :: starEach es X.env := by rfl) (hpl : (backTo pos (starEach es X.env)).any (·.1) = false := by rfl) :
    PE X (.Call (.Attribute (.Name x p1) "__init__" p2) (e :: es) [] pos) (tVeI X.K ta) := by
  refine ⟨fun pins s σ H Q I h => PySem.W.methodCall_KW (ld_glob I gl mg ?_ hdb) hc⟩
  refine PySem.W.method_cls I.kIn T.sp (PySem.W.cls_value I.kIn T.rd T.fi (by decide +kernel) ?_)
  show wpAny _ _ (callWith pos (Value.builtin "ValueError.__init__") [] (backTo pos (starEach (e :: es) X.env)) []) _ _ _
  refine PyProof.Rows.callWith_method1 (thn (ha.run pos pins _ σ H _ (I.tok _) h) fun us s1 z => ?_) he hpl
  obtain ⟨vs, H1, I1, r1, a, C, ws, ev, hl, Tx, ea, q⟩ := z
  subst ev
  cases r1 with
  | @cons _ u0 _ ur ra rw' =>
    obtain rfl : u0 = Value.ref a := ra
    refine oinit_ok Tx I1 ea ?_ fun s' J => ⟨.non, H1, J, rfl, q⟩
    rw [← Paired.length rw', sizeLine_eq]
    omega
/-! ### calls in a try's body: what is raised is wished for at the slots -/
section
variable {X : Cx} {CX : CXT} {k n : Nat} {f C : Addr} {fd : FuncData} {ps ks : List Str} {sp : Sp} {dvs : List V} {ds : List Value} {E : L2.St → XK} {x : Str} {p pos : Pos} {e : Expr} {es : List Expr} {kws : List Keyword} {t tk : TA}
  {g : List Value → List Value → List Value} {gV : List V → List V → List V}
def tMakeS (C : Addr) (sp : Sp) (dvs : List V) (E : L2.St → XK) (t : TA) : TE := fun σ H Q => t σ H fun vs H1 => ∀ x dx, H1 x = none → H1 dx = none → dx ≠ x →
  sp (.ref x :: (vs ++ dvs)) (upd (upd H1 dx (.own x)) x (.ins C dx [])) (fun v H2 => v = .non ∧ Q (.ref x) H2) (E σ)
theorem pe_makeS (M : Mk X.K C f) (F : FnOk X.prog X.w X.K X.mg X.base CX k f fd ps sp) (room : Room (k + 1) X.A) (gl : Gl X x) (mg : X.mg x = some (.ref C)) (bd : Binds X.K fd ps ds) (rd : Vals dvs ds) (px : ∀ σ, PassesAt CX X σ (E σ))
    (ha : PA X (e :: es) t) (hdb : (x == ("__debug__" : Str)) = false := by decide) (he : starEach (e :: es) X.env = (false, eval e X.env) :: starEach es X.env := by rfl) (hpl : (backTo pos (starEach es X.env)).any (·.1) = false := by rfl) :
    PE X (.Call (.Name x p) (e :: es) [] pos) (tMakeS C sp dvs E t) := by
  refine ⟨fun pins s σ H Q I h => wpAny_Call_Name_kw (ld_glob I gl mg ?_ hdb)⟩
  refine PySem.W.callWith_K (h₀ := X.base) I.ok.mod.kin M.kp (thn (ha.run pos pins s σ H _ I h) fun us s1 z => ?_) he hpl
  obtain ⟨vs, H1, I1, r, q⟩ := z
  refine ⟨I1.kIn, ?_⟩
  have q1 := q (s1.heap.objs.size + 1) s1.heap.objs.size (I1.hok.fresh (Nat.le_succ _)) (I1.hok.fresh (Nat.le_refl _)) (Nat.ne_of_lt (Nat.lt_succ_self _))
  have I2 := Inv.made (C := C) I1
  have r2 : Vals (V.ref (s1.heap.objs.size + 1) :: (vs ++ dvs)) (Value.ref (s1.heap.objs.size + 1) :: (us ++ ds)) := .cons rfl (r.append rd)
  have many : (Value.ref (s1.heap.objs.size + 1) :: us ++ ds).length = ps.length := (r2.length.symm.trans (F.len _ _ _ _ q1))
  refine wpAny_call (make_map (f := f) I1.kIn M.makes M.init (beq_iff_eq.mp M.fn) (codeAny_mono (F.run _ X.stack _ _ ⟨Value.ref (s1.heap.objs.size + 1) :: us, []⟩ (Value.ref (s1.heap.objs.size + 1) :: (us ++ ds)) _ _ (E σ)
    (room.make C us []) (I2.env0.make C us []) (bd _ (Value.ref (s1.heap.objs.size + 1) :: us) I2.kIn many) r2 q1) fun r s' z => ?_))
  cases r with
  | error e => exact px σ pins _ _ e s' I2 z
  | ok fl =>
    cases fl with
    | ret u =>
      obtain ⟨v, H', I3, rv, ev, q3⟩ := I2.after z
      subst ev
      exact ⟨rv, ⟨V.ref (s1.heap.objs.size + 1), H', I3, rfl, q3⟩⟩
    | next => exact False.elim z
    | brk => exact False.elim z
    | cont => exact False.elim z
def tMakeKS (C : Addr) (m : Nat) (sp : Sp) (gV : List V → List V → List V) (E : L2.St → XK) (tk : TA) : TE := fun σ H Q => tk σ H fun zs H2 => zs.length = m ∧
  ∀ x dx, H2 x = none → H2 dx = none → dx ≠ x → sp (gV [.ref x] zs) (upd (upd H2 dx (.own x)) x (.ins C dx [])) (fun v H3 => v = .non ∧ Q (.ref x) H3) (E σ)
theorem pe_makeKS (M : Mk X.K C f) (F : FnOk X.prog X.w X.K X.mg X.base CX k f fd ps sp) (room : Room (k + 1) X.A) (gl : Gl X x) (mg : X.mg x = some (.ref C)) (kb : KBn X.K fd ps 1 ks g gV) (px : ∀ σ, PassesAt CX X σ (E σ)) (pk : PK X kws tk)
    (hall : (backToKw pos (keywordEach kws X.env)).all (·.1.isSome) = true := by rfl) (hks : (backToKw pos (keywordEach kws X.env)).filterMap (·.1) = ks := by rfl) (hdb : (x == ("__debug__" : Str)) = false := by decide)
    (hpl : ((backTo pos (starEach [] X.env)).any (·.1) || (backToKw pos (keywordEach kws X.env)).any (·.1.isNone)) = false := by rfl) :
    PE X (.Call (.Name x p) [] kws pos) (tMakeKS C ks.length sp gV E tk) := by
  refine ⟨fun pins s σ H Q I h => wpAny_Call_Name_kw (ld_glob I gl mg ?_ hdb)⟩
  refine PySem.W.callWith_KW0 (h₀ := X.base) I.ok.mod.kin M.kp hall (thn (pk.run pos pins s σ H _ I h) fun ws s1 z => ?_) hpl
  obtain ⟨zs, H1, I1, rz, l2, q⟩ := z
  refine ⟨I1.kIn, ?_⟩
  rw [hks]
  have q1 := q (s1.heap.objs.size + 1) s1.heap.objs.size (I1.hok.fresh (Nat.le_succ _)) (I1.hok.fresh (Nat.le_refl _)) (Nat.ne_of_lt (Nat.lt_succ_self _))
  have I2 := Inv.made (C := C) I1
  have r1 : Vals [V.ref (s1.heap.objs.size + 1)] [Value.ref (s1.heap.objs.size + 1)] := .cons rfl .nil
  have r2 := kb.rel r1 rz
  refine wpAny_call (make_map (f := f) I1.kIn M.makes M.init (beq_iff_eq.mp M.fn) (codeAny_mono (F.run _ X.stack _ _ ⟨[Value.ref (s1.heap.objs.size + 1)], ks.zip ws⟩ (g [Value.ref (s1.heap.objs.size + 1)] ws) _ _ (E σ)
    (room.make C [] (ks.zip ws)) (I2.env0.make C [] (ks.zip ws)) (kb.to _ [Value.ref (s1.heap.objs.size + 1)] ws I2.kIn rfl (rz.length.symm.trans l2)) r2 q1) fun r s' z => ?_))
  cases r with
  | error e => exact px σ pins _ _ e s' I2 z
  | ok fl =>
    cases fl with
    | ret u =>
      obtain ⟨v, H', I3, rv, ev, q3⟩ := I2.after z
      subst ev
      exact ⟨rv, ⟨V.ref (s1.heap.objs.size + 1), H', I3, rfl, q3⟩⟩
    | next => exact False.elim z
    | brk => exact False.elim z
    | cont => exact False.elim z
def tCallKS (m : Nat) (sp : Sp) (gV : List V → List V → List V) (E : L2.St → XK) (tk : TA) : TE := fun σ H Q => tk σ H fun zs H2 => zs.length = m ∧ sp (gV [] zs) H2 Q (E σ)
theorem pe_callKS (F : FnOk X.prog X.w X.K X.mg X.base CX k f fd ps sp) (room : Room k X.A) (gl : Gl X x) (mg : X.mg x = some (.ref f)) (kp : PySem.W.keepIn X.K (.ref f) = true) (kb : KBn X.K fd ps 0 ks g gV) (px : ∀ σ, PassesAt CX X σ (E σ)) (pk : PK X kws tk)
    (hall : (backToKw pos (keywordEach kws X.env)).all (·.1.isSome) = true := by rfl) (hks : (backToKw pos (keywordEach kws X.env)).filterMap (·.1) = ks := by rfl) (hdb : (x == ("__debug__" : Str)) = false := by decide)
    (hpl : ((backTo pos (starEach [] X.env)).any (·.1) || (backToKw pos (keywordEach kws X.env)).any (·.1.isNone)) = false := by rfl) :
    PE X (.Call (.Name x p) [] kws pos) (tCallKS ks.length sp gV E tk) := by
  refine ⟨fun pins s σ H Q I h => wpAny_Call_Name_kw (ld_glob I gl mg ?_ hdb)⟩
  refine PySem.W.callWith_KW0 (h₀ := X.base) I.ok.mod.kin kp hall (thn (pk.run pos pins s σ H _ I h) fun ws s1 z => ?_) hpl
  obtain ⟨zs, H1, I1, rz, l2, q⟩ := z
  refine ⟨I1.kIn, ?_⟩
  rw [hks]
  have rn : Vals [] [] := .nil
  have r2 := kb.rel rn rz
  refine wpAny_call (codeAny_mono (F.run X.A X.stack s1 H1 ⟨[], ks.zip ws⟩ (g [] ws) (gV [] zs) Q (E σ) room I1.env0 (kb.to s1 [] ws I1.kIn rfl (rz.length.symm.trans l2)) r2 q) fun r s' z => ?_)
  cases r with
  | error e => exact px σ pins _ _ e s' I1 z
  | ok fl =>
    cases fl with
    | ret u => exact I1.after z
    | next => exact False.elim z
    | brk => exact False.elim z
    | cont => exact False.elim z
end
end Xk
set_option Elab.async false
set_option linter.all false
set_option maxRecDepth 100000
set_option maxHeartbeats 4000000
set_option pp.maxSteps 400
set_option pp.deepTerms false
/-! Own exceptions of any built-in family, whose __init__ asks the family's __init__ and stores one field. -/
namespace Xle
open PySem PySem.Spec PyProof.Rows L2
/-- own classes, then what a built-in class rests on -/
def mroL (cs : List Addr) (tl : List Value) : List Value := cs.map Value.ref ++ tl
theorem mro_has (cs : List Addr) (tl : List Value) (T : String) : (mroL cs tl).contains (.type T) = tl.contains (.type T) := by
  unfold mroL
  induction cs with
  | nil => rfl
  | cons c r ih => rw [List.map_cons, List.cons_append, List.contains_cons, ih]; rfl
theorem mro_pass {tl : List Value} {self : Value} (h : refuseLoop self "__setattr__" tl = pure ()) (cs : List Addr) : refuseLoop self "__setattr__" (mroL cs tl) = pure () := by
  unfold mroL
  induction cs with
  | nil => exact h
  | cons c r ih => rw [List.map_cons, List.cons_append, refuseLoop_ref]; exact ih
/-- what is known of a built-in family -/
structure Fam (B newId initId : String) (tl : List Value) : Prop where
  sf : StoreFacts B tl "object.__setattr__" "object"
  bf : ExcBaseFacts B newId initId tl
theorem fam_lookup : Fam "LookupError" "LookupError.__new__" "LookupError.__init__" [.type "LookupError", .type "Exception", .type "BaseException", .type "object"] := ⟨F.store_LookupError, F.excBase_LookupError⟩
/-- an own class over it -/
structure OfC (K : PySem.W.Frag) (newId : String) (tl : List Value) (C : Addr) : Prop where
  cls : ∃ nm q N bs cs sn sub ab col dd k0 k1 k2 k3 k5, K.lookup C = some (excClassObj nm q C N bs (mroL cs tl) true sn sub ab col dd k0 k1 k2 k3 k5 newId)
  sa : PySem.W.findIn K (.ref C) "__setattr__" = some (some (.builtin "object.__setattr__"))
  exC : PySem.W.subIn K (.ref C) (.type "BaseException") = some true
  tyC : PySem.W.typeIn K (.ref C) = some (.type "type")
  kC : PySem.W.keepIn K (.ref C) = true
section
open Builtin Builtin.ObjectAttr PySem.W PySem.Calls
variable {prog : Program} {w : World} {A : Around} {R : Result → Shared → Prop} {hp : Heap} {g : Array GenState} {d : Drawn} {t : Nat} {os : OsState}
/-- its first field -/
theorem first_field {B newId initId : String} {tl : List Value} (FF : Fam B newId initId tl) {K : Frag} {f : Str} {tk : Tok} {v : Value} {x C : Addr} {fv : Array Value} {cs : List Addr} {cd : ClassData} (X : K.In hp) (hx : hp.get? x = some { cls := .ref C, data := .fields fv })
    (hcd : clsIn K C = some cd) (hm : cd.mro = .ref C :: mroL cs tl) (hh : cd.hasDict = true) (ha : findIn K (.ref C) f = some none)
    (hq : ∀ h2 tk2 dx, (∀ b o, b ≠ x → hp.get? b = some o → h2.get? b = some o) → hp.objs.size ≤ dx → dx ≠ x → h2.get? x = some { cls := .ref C, dict := some dx, data := .fields fv } →
      h2.Ns1 dx (fun y => if y = f then some v else none) → R (.ok (.ret .none)) ⟨h2, g, d, tk2, os⟩) :
    codeAny (model prog w) A (.call (.builtin "object.__setattr__") ⟨[.ref x, .str f tk, v], []⟩) R ⟨hp, g, d, t, os⟩ := by
  have at_ : InstAt hp x { cls := .ref C, data := .fields fv } C none := ⟨hx, rfl, rfl, trivial⟩
  have ST := PySem.F.store_object
  have mro2 : cd.mro = mroL (C :: cs) tl := hm
  have full : cd.mro.isEmpty = false := by rw [hm]; rfl
  have ob : cd.mro.contains (.type "object") = true := by rw [mro2, mro_has]; exact FF.sf.hasOwner
  have old : x < hp.objs.size := Heap.lt_size hx
  have isO : Looks (model prog w) hp (isInstance (.ref x) (.type "object")) true := by
    refine at_.type.andThen (looks_mroIn X ?_)
    unfold mroIn
    rw [hcd, Option.bind_some, if_neg (by rw [full]; decide), ob]
  refine codeAny_call_builtin ST.slot.plain ST.entry ?_
  refine @check_slot (model prog w) _ _ ⟨hp, g, d, t, os⟩ "object.__setattr__" "object" "__setattr__" (.ref x) [.str f tk, v] [] _ ST.kind ST.split isO (ST.args (.ref x) (.str f tk) v) ?_
  have cl : Looks (model prog w) hp (classData C) cd := looks_clsIn X hcd
  have row : Looks (model prog w) hp (mroOf (.ref C)) cd.mro := cl.andThen .now
  rw [osa_eq, refuse_eq]
  refine wpAny_bind (wpAny_bind (at_.type.at (wpAny_bind (row.at ?_))))
  rw [mro2, mro_pass (FF.sf.passes _)]
  have tk0 : Looks (model prog w) hp (storeTaker? none) none := .now
  refine wpAny_pure (wpAny_bind (at_.type.at (wpAny_bind ((looks_findIn X ha).at (wpAny_bind (tk0.at ?_))))))
  show wpAny _ _ (storeInOwnDict (.ref x) (.ref C) (.str f tk) f v false) _ _ _
  obtain ⟨c1, c2, c3, c4, c5, c6, c7, c8, c9, c10, c11⟩ := cd
  obtain rfl : c6 = true := hh
  unfold storeInOwnDict ownDictForStores
  repeat (first | with_reducible refine PySem.HandSPX.store_in_new ?_ ?_ | with_reducible refine wpAny_loadPart_at hx ?_ | with_reducible refine cl.at ?_ | wp_step)
  · exact ⟨_, #[], _, (Heap.get?_update_ne _ _ _ _ (Nat.ne_of_gt old)).trans (Heap.get?_push_at rfl rfl), rfl, fun e he => absurd he (by simp), fun _ => rfl⟩
  · intro h2 tk2 ns sb
    refine hq h2 tk2 hp.objs.size (fun b o nb eb => ?_) (Nat.le_refl _) (Nat.ne_of_gt old) ?_ ns
    · rw [sb.2 b (Nat.ne_of_lt (Heap.lt_size eb)), Heap.get?_update_ne _ _ _ _ nb]
      exact Heap.get?_push_of_some _ eb
    · rw [sb.2 x (Nat.ne_of_lt old)]
      exact Heap.get?_update_self _ (Heap.get?_push_of_some _ hx) rfl
end
section
variable {B newId initId : String} {tl : List Value} {X : Cx} {pins : List (Addr × Obj)} {σ : L2.St} {H : Hp} {s : Shared} {a C : Addr} {f : Str} {y : V} {u : Value} {E : Value → Shared → Prop} {A : Around}
theorem store1 {Q : Unit → Shared → Prop} (FF : Fam B newId initId tl) (T : OfC X.K newId tl C) (I : Inv X pins σ H s) (e : H a = some (exo a C none)) (hno : PySem.W.findIn X.K (.ref C) f = some none) (ry : RelV y u)
    (h : ∀ dx s2, H dx = none → dx ≠ a → Inv X pins σ (upd (upd H dx (exd dx [(f, y)])) a (exo a C (some dx))) s2 → Q () s2) : wpAny (model X.prog X.w) A (setAttr (.ref a) f u) Q E s := by
  obtain ⟨nm, q, N, bs, cs, sn, sub, ab, col, dd, k0, k1, k2, k3, k5, hC⟩ := T.cls
  have cd : ∃ cd, PySem.W.clsIn X.K C = some cd ∧ cd.mro = .ref C :: mroL cs tl ∧ cd.hasDict = true := by
    unfold PySem.W.clsIn
    rw [hC]
    exact ⟨_, rfl, rfl, rfl⟩
  obtain ⟨cd, hcd, hmr, hdc⟩ := cd
  obtain ⟨t1, ho⟩ := exo_at I.hok e
  obtain ⟨hp, g, d, t, os⟩ := s
  refine PySem.W.set_plain I.kIn (ox := { cls := .ref C, dict := none, data := .fields #[.ref t1, .none, .none, .none, .bool false, .none] }) (od := none) ⟨ho, rfl, rfl, trivial⟩ T.sa ?_
  refine first_field FF I.kIn ho hcd hmr hdc hno fun h2 tk2 dx keep dn dne hx hn => ?_
  have hnd : H dx = none := I.hok.fresh dn
  have notd : ∀ {b : Addr} {o : Obj}, hp.get? b = some o → b ≠ dx := fun {b o} z => Nat.ne_of_lt (Nat.lt_of_lt_of_le (Heap.lt_size z) dn)
  have nota : ∀ {b : Addr}, H b = none → b ≠ a := fun {b} n z => by rw [z, e] at n; cases n
  -- what is tracked elsewhere stays
  have els : ∀ {b : Addr} {o : HO}, H b = some o → o ≠ exo a C none → upd (upd H dx (exd dx [(f, y)])) a (exo a C (some dx)) b = some o := fun {b o} q ne => by
    have ba : b ≠ a := fun z => by rw [z, e] at q; exact ne (Option.some.inj q).symm
    rw [upd_ne ba, upd_ne (ne_of_none q hnd), q]
  have U : Un X.fs [] H (upd (upd H dx (exd dx [(f, y)])) a (exo a C (some dx))) hp h2 :=
    ⟨fun b o q n _ _ => keep b o (nota n) q, fun b o q n _ _ => ⟨o.slots, keep b o (nota n) q⟩, fun b o q n _ => by rw [upd_ne (nota n), upd_ne (notd q)]; exact n,
     fun b o q _ => by
      by_cases hb : b = a
      · exact ⟨_, by rw [hb]; exact hx⟩
      · exact ⟨o, keep b o hb q⟩,
     fun b xs q => els q (Ne.symm exo_tup), fun b o v q => els q (Ne.symm exo_frz), fun b ps q => ⟨#[], by rw [els q (Ne.symm exo_tbl)]; simp⟩⟩
  refine h dx _ hnd dne (I.un (t' := tk2) U fun b o q => ?_)
  by_cases hb : b = a
  · rw [hb, upd_same] at q
    cases q
    rw [hb]
    exact exo_ok hx
  rw [upd_ne hb] at q
  by_cases hd : b = dx
  · rw [hd, upd_same] at q
    cases q
    rw [hd]
    exact exd_ok hn (relO_put (fs := []) ry fun _ => True.intro)
  rw [upd_ne hd] at q
  refine (I.hok b o q).stay (fun c v hc z => keep c v ?_ z) (fun c hc => els hc (Ne.symm exo_own)) (fun c xs hc => els hc (Ne.symm exo_tup))
  rcases hc with hc | hc
  · rw [hc]; exact hb
  · exact at_ne e hc exo_own
/-- the family's __init__: nothing of it is told -/
theorem init1 {us : List Value} {Q : Value → Shared → Prop} (FF : Fam B newId initId tl) (T : OfC X.K newId tl C) (I : Inv X pins σ H s) (e : H a = some (exo a C none)) (hl : us.length ≤ sizeLine) (h : ∀ s2, Inv X pins σ H s2 → Q .none s2) :
    wpAny (model X.prog X.w) A (call (.builtin initId) (.ref a :: us)) Q E s := by
  obtain ⟨nm, q, N, bs, cs, sn, sub, ab, col, dd, k0, k1, k2, k3, k5, hC⟩ := T.cls
  obtain ⟨t1, ho⟩ := exo_at I.hok e
  obtain ⟨hp, g, d, t, os⟩ := s
  refine wpAny_call (PySem.HandSPX.init_base FF.bf (mro_has cs tl) (I.kIn _ _ hC) ho hl fun h2 t2 k hx => ?_)
  have J := I.write (t' := t) (x := a) (e := a) (o := exo a C none) (by rw [e]; exact True.intro) (.inl rfl) k ⟨_, hx⟩ (exo_ok hx)
  rw [show upd H a (exo a C none) = H from funext fun b => by
    by_cases hb : b = a
    · rw [hb, upd_same, e]
    · rw [upd_ne hb]] at J
  exact h _ J
/-! ### readings, rules -/
/-- the own family's class that is asked for its __init__ -/
structure BaC (K : PySem.W.Frag) (initId : String) (D : Addr) : Prop where
  rd : PySem.W.readsIn K D (.type "type") = true
  sp : PySem.W.specialIn K (.ref D) "__getattribute__" = some (some (.builtin "type.__getattribute__"))
  fi : PySem.W.findCls K (.ref D) (.type "type") "__init__" = some (.val (.builtin initId))
def tFamI (K : PySem.W.Frag) (newId : String) (tl : List Value) (ta : TA) : TE := fun σ H Q => ta σ H fun vs H1 => ∃ (a C : Addr) (ws : List V), vs = .ref a :: ws ∧ ws.length ≤ 1000 ∧ OfC K newId tl C ∧ H1 a = some (exo a C none) ∧ Q .non H1
theorem pe_fam {D : Addr} {x : Str} {e : Expr} {es : List Expr} {ta : TA} {p1 p2 pos : Pos} {pl : Sem Bool} (FF : Fam B newId initId tl) (T : BaC X.K initId D) (gl : Gl X x) (mg : X.mg x = some (.ref D)) (ha : PA X (e :: es) ta) (hdb : (x == ("__debug__" : Str)) = false := by decide)
    (hc : eval (.Call (.Attribute (.Name x p1) "__init__" p2) (e :: es) [] pos) X.env = (do
      let ov ← eval (.Name x p1) X.env
      standAt p2.atName
      let (f, first) ← holding [ov] (getMethod ov "__init__" pl)
      callWith pos f first (backTo pos (starEach (e :: es) X.env)) (backToKw pos (keywordEach [] X.env))) := by rfl)
    (he : starEach (e :: es) X.env = (false, eval e X.env) :: starEach es X.env := by rfl) (hpl : (backTo pos (starEach es X.env)).any (·.1) = false := by rfl) (hin : PySem.W.handedIn (.builtin initId) = true := by decide +kernel) :
    PE X (.Call (.Attribute (.Name x p1) "__init__" p2) (e :: es) [] pos) (tFamI X.K newId tl ta) := by
  refine ⟨fun pins s σ H Q I h => PySem.W.methodCall_KW (ld_glob I gl mg ?_ hdb) hc⟩
  refine PySem.W.method_cls I.kIn T.sp (PySem.W.cls_value I.kIn T.rd T.fi hin ?_)
  refine PyProof.Rows.callWith_method1 (thn (ha.run pos pins _ σ H _ (I.tok _) h) fun us s1 z => ?_) he hpl
  obtain ⟨vs, H1, I1, r1, a, C, ws, rfl, hl, Tx, ea, q⟩ := z
  cases r1 with
  | @cons _ u0 _ ur ra rw' =>
    obtain rfl : u0 = Value.ref a := ra
    exact init1 FF Tx I1 ea (by rw [← Paired.length rw', sizeLine_eq]; omega) fun s2 J => ⟨.non, H1, J, rfl, q⟩
/-- self.f = e, the first and only field -/
def tOs1 (K : PySem.W.Frag) (newId : String) (tl : List Value) (f : Str) (to te : TE) : TS := fun D σ H => te σ H fun y H1 => to σ H1 fun x H2 => ∃ a C : Addr, x = .ref a ∧ OfC K newId tl C ∧ PySem.W.findIn K (.ref C) f = some none ∧
  H2 a = some (exo a C none) ∧ ∀ dx, H2 dx = none → dx ≠ a → D.nx σ (upd (upd H2 dx (exd dx [(f, y)])) a (exo a C (some dx)))
theorem ps_os1 {o e : Expr} {to te : TE} {p' pos : Pos} (FF : Fam B newId initId tl) (ho : PE X o to) (he : PE X e te) (hs : swapsWith e (some (.Attribute o f p')) pos.line X.env = pure false := by rfl) : PS X (.Assign [.Attribute o f p'] e pos) (tOs1 X.K newId tl f to te) := by
  refine ⟨fun pins s σ H D I h => plainObj_wpAny_Assign_Attribute (thn (he.run pins s σ H _ I h) fun v s1 z => ?_) hs⟩
  obtain ⟨y, H1, I1, r1, q1⟩ := z
  refine thn (ho.run pins s1 σ H1 _ I1 q1) fun u s2 z => ?_
  obtain ⟨x, H2, I2, r2, a, C, rfl, T, hno, ea, q⟩ := z
  obtain rfl : u = Value.ref a := r2
  exact store1 FF T I2 ea hno r1 fun dx s3 n ne J => ⟨σ, _, J, q dx n ne⟩
/-- C(e, ..), whose own __init__ keeps sp -/
theorem pmk_of {CX : CXT} {x : Str} {C fI : Addr} {k : Nat} {fd : FuncData} {ps : List Str} {sp : Sp} {ds : List Value} {dvs : List V} {e : Expr} {es : List Expr} {ta : TA} {p pos : Pos} (FF : Fam B newId initId tl) (T : OfC X.K newId tl C)
    (iC : PySem.W.findIn X.K (.ref C) "__init__" = some (some (.ref fI))) (tI : PySem.W.typeIn X.K (.ref fI) = some (.type "function")) (F1 : FnOk X.prog X.w X.K X.mg X.base CX k fI fd ps sp) (hr : Room (k + 1) X.A) (hb : Binds X.K fd ps ds) (hd : Vals dvs ds)
    (hx : Passes CX X (fun _ _ _ => False)) (hg : Gl X x) (hm : X.mg x = some (.ref C)) (ha : PA X (e :: es) ta) (hdb : (x == ("__debug__" : Str)) = false := by decide)
    (he : starEach (e :: es) X.env = (false, eval e X.env) :: starEach es X.env := by rfl) (hpl : (backTo pos (starEach es X.env)).any (·.1) = false := by rfl) :
    PMk X (.Call (.Name x p) (e :: es) [] pos) (tMkO C sp dvs ta) := by
  intro pins s σ H Q I h
  obtain ⟨nm, q, N, bs, cs, sn, sub, ab, col, dd, k0, k1, k2, k3, k5, hC⟩ := T.cls
  refine wpAny_Call_Name_kw (ld_glob I hg hm ?_ hdb)
  refine PySem.W.callWith_K (h₀ := X.base) I.ok.mod.kin T.kC (thn (ha.run pos pins s σ H _ I h) fun us s1 z => ?_) he hpl
  obtain ⟨vs, H1, I1, r1, hz, q1⟩ := z
  refine ⟨I1.kIn, ?_⟩
  show wpAny _ _ (call (.ref C) us) _ _ _
  obtain ⟨hp, g, dr, tk, os⟩ := s1
  -- the new object, its args ahead of it
  obtain ⟨m, em⟩ : ∃ m : Addr, m = hp.objs.size + 1 := ⟨_, rfl⟩
  have le : hp.objs.size ≤ m := by rw [em]; exact Nat.le_succ _
  obtain ⟨h1, eh⟩ : ∃ h1, h1 = (hp.push (PySem.W.kdv_tup us)).push (PySem.HandSPX.excO C hp.objs.size) := ⟨_, rfl⟩
  have old : ∀ b o, hp.get? b = some o → h1.get? b = some o := fun b o z => by rw [eh]; exact Heap.get?_push_of_some _ (Heap.get?_push_of_some _ z)
  have new : h1.get? m = some (PySem.HandSPX.excO C hp.objs.size) := by rw [eh, em]; heap_get
  have hq := q1 m (I1.hok.fresh le)
  have I2 : Inv X pins σ (upd H1 m (exo m C none)) ⟨h1, g, dr, tk, os⟩ := I1.laid (t' := tk) (a := m) (o := exo m C none) (h' := h1) old le (exo_ok new)
  have r2 : Vals (V.ref m :: (vs ++ dvs)) (Value.ref m :: (us ++ ds)) := .cons rfl (r1.append hd)
  have ln : (Value.ref m :: us ++ ds).length = ps.length := by
    have z := r2.length
    rw [F1.len _ _ _ _ hq] at z
    exact z.symm
  subst em eh
  refine wpAny_call (PySem.HandSPX.call_own FF.bf (mro_has cs tl) (I1.kIn _ _ hC) (PySem.W.looks_findIn I1.kIn iC) (fun self => PySem.W.bind_fn I1.kIn self tI) (by rw [← Paired.length r1, sizeLine_eq]; omega) ?_)
  refine codeAny_mono (F1.run _ X.stack _ _ ⟨Value.ref (hp.objs.size + 1) :: us, []⟩ (Value.ref (hp.objs.size + 1) :: (us ++ ds)) _ _ (fun _ _ _ => False) (hr.make C us []) (I2.env0.make C us []) (hb _ (Value.ref (hp.objs.size + 1) :: us) I2.kIn ln) r2 hq) fun r s2 z => ?_
  match r, z with
  | .error er, z => exact hx pins σ _ _ er s2 I2 z
  | .ok .next, z => exact z.elim
  | .ok .brk, z => exact z.elim
  | .ok .cont, z => exact z.elim
  | .ok (.ret u), z =>
    obtain ⟨v, H2, os2, bare2, un2, hok2, rv, rfl, d, fs, ea, ed, hd1, q2⟩ := z
    obtain ⟨h2, g2, d2, t2, os3⟩ := s2
    exact ⟨rv, mk_end (raises_own T.exC T.tyC) I1 le old un2 hok2 os2 bare2 ea ed hd1 q2⟩
end
end Xle
set_option Elab.async false
set_option linter.all false
set_option maxRecDepth 100000
set_option maxHeartbeats 4000000
set_option pp.maxSteps 400
set_option pp.deepTerms false
/-! Things of any kind: texts, numbers, truths, None, and lists, tuples, dicts of these, at any depth. -/
namespace Az
open PySem PySem.Spec PyProof.Rows L2
def keyD : Key → PyData
  | .inl i => .int i
  | .inr x => .str x
mutual
inductive Dz (K : PySem.W.Frag) (H : Hp) : V → PyData → Prop
  | non : Dz K H .non .none
  | bl (b : Bool) : Dz K H (.bl b) (.bool b)
  | int (i : Int) : Dz K H (.int i) (.int i)
  | str (x : Str) : Dz K H (.str x) (.str x)
  | lst {a : Addr} {xs : List V} {ds : List PyData} : H a = some (.lst xs) → a ≠ sysModules → DzAll K H xs ds → Dz K H (.ref a) (.list ds)
  | tup {a : Addr} {xs : List V} {ds : List PyData} : H a = some (.tup xs) → DzAll K H xs ds → Dz K H (.ref a) (.tuple ds)
  | dct {a : Addr} {kvs : List (Key × V)} {ds : List (PyData × PyData)} : H a = some (.dK kvs) → DzKv K H kvs ds → Dz K H (.ref a) (.dict ds)
inductive DzAll (K : PySem.W.Frag) (H : Hp) : List V → List PyData → Prop
  | nil : DzAll K H [] []
  | cons {v : V} {vs : List V} {d : PyData} {ds : List PyData} : Dz K H v d → DzAll K H vs ds → DzAll K H (v :: vs) (d :: ds)
inductive DzKv (K : PySem.W.Frag) (H : Hp) : List (Key × V) → List (PyData × PyData) → Prop
  | nil : DzKv K H [] []
  | cons {k : Key} {v : V} {kvs : List (Key × V)} {d : PyData} {ds : List (PyData × PyData)} : Dz K H v d → DzKv K H kvs ds → DzKv K H ((k, v) :: kvs) ((keyD k, d) :: ds)
end
section
variable {K : PySem.W.Frag} {H H' : Hp}
mutual
/-- what is read of a thing stays while its objects do -/
theorem Dz.keep (s : ∀ b o, H b = some o → (∀ x, o ≠ .own x) → H' b = some o) : ∀ {v : V} {d : PyData}, Dz K H v d → Dz K H' v d
  | _, _, .non => .non
  | _, _, .bl b => .bl b
  | _, _, .int i => .int i
  | _, _, .str x => .str x
  | _, _, .lst e n r => .lst (s _ _ e (fun _ z => by cases z)) n (DzAll.keep s r)
  | _, _, .tup e r => .tup (s _ _ e (fun _ z => by cases z)) (DzAll.keep s r)
  | _, _, .dct e r => .dct (s _ _ e (fun _ z => by cases z)) (DzKv.keep s r)
theorem DzAll.keep (s : ∀ b o, H b = some o → (∀ x, o ≠ .own x) → H' b = some o) : ∀ {v : List V} {d : List PyData}, DzAll K H v d → DzAll K H' v d
  | _, _, .nil => .nil
  | _, _, .cons h r => .cons (Dz.keep s h) (DzAll.keep s r)
theorem DzKv.keep (s : ∀ b o, H b = some o → (∀ x, o ≠ .own x) → H' b = some o) : ∀ {v : List (Key × V)} {d : List (PyData × PyData)}, DzKv K H v d → DzKv K H' v d
  | _, _, .nil => .nil
  | _, _, .cons h r => .cons (Dz.keep s h) (DzKv.keep s r)
end
theorem Dz.same {v : V} {d : PyData} (h : Dz K H v d) (s : L2.Same H H') : Dz K H' v d := h.keep fun b o e _ => s b o e
theorem DzAll.same {v : List V} {d : List PyData} (h : DzAll K H v d) (s : L2.Same H H') : DzAll K H' v d := h.keep fun b o e _ => s b o e
/-- the kind of a thing -/
def kindD : PyData → String
  | .none => "NoneType"
  | .bool _ => "bool"
  | .int _ => "int"
  | .str _ => "str"
  | .list _ => "list"
  | .tuple _ => "tuple"
  | .dict _ => "dict"
theorem Dz.ty {v : V} {d : PyData} (h : Dz K H v d) : TyX K H v (.type (kindD d)) := by
  cases h with
  | non => exact .base .non
  | bl b => exact .base (.bl b)
  | int i => exact .base (.int i)
  | str x => exact .base (.str x)
  | lst e _ _ => exact .base (.lst e)
  | tup e _ => exact .base (.tup e)
  | dct e _ => exact .base (.dK e)
end
section
variable {X : Cx} {pins : List (Addr × Obj)} {σ : L2.St} {H : Hp} {s : Shared}
theorem pairs_keys {P : Program} {w : World} : ∀ {es : List DictEntry} {vs : List (Key × Value)}, PySem.Pairs (mixKind P w) es vs → ∃ as, ReadsAll s.heap (es.map (·.key)) (vs.map fun p => keyD p.1) as ∧ as = []
  | _, _, .nil => ⟨[], .nil, rfl⟩
  | e :: es, (k, u) :: vs, .cons h1 h2 r => by
    obtain ⟨as, q, rfl⟩ := pairs_keys r
    rcases keyIs_shape (show keyIs k e.key = true from h1) with ⟨i, t, rfl, ek⟩ | ⟨x, t, rfl, ek⟩
    · refine ⟨[] ++ [], .cons ?_ q, rfl⟩
      show Reads s.heap e.key (.int i) []
      rw [ek]
      exact .int i t
    · refine ⟨[] ++ [], .cons ?_ q, rfl⟩
      show Reads s.heap e.key (.str x) []
      rw [ek]
      exact .str x t
theorem pairs_vals {P : Program} {w : World} : ∀ {es : List DictEntry} {vs : List (Key × Value)}, PySem.Pairs (mixKind P w) es vs → es.map (·.val) = vs.map (·.2)
  | _, _, .nil => rfl
  | e :: es, (k, u) :: vs, .cons h1 h2 r => by
    rw [List.map_cons, List.map_cons, pairs_vals r, h2]
mutual
theorem Dz.reads (I : Inv X pins σ H s) : ∀ (d : PyData) (v : V) (u : Value), Dz X.K H v d → RelV v u → ∃ as, Reads s.heap u d as ∧ sysModules ∉ as
  | .none, _, _, h, r => by
    cases h
    cases r
    exact ⟨[], .none, by simp⟩
  | .bool b, _, _, h, r => by
    cases h
    cases r
    exact ⟨[], .bool b, by simp⟩
  | .int i, _, _, h, r => by
    cases h
    obtain ⟨t, rfl⟩ := r
    exact ⟨[], .int i t, by simp⟩
  | .str x, _, _, h, r => by
    cases h
    obtain ⟨t, rfl⟩ := r
    exact ⟨[], .str x t, by simp⟩
  | .list ds, _, _, h, r => by
    cases h with
    | @lst a xs _ e ne ha =>
      cases r
      have ok : ObjOk X.prog X.w H s.heap a (.lst xs) := I.hok a _ e
      obtain ⟨_, its, n, rv, eh⟩ := ok
      obtain ⟨as, q, na⟩ := DzAll.reads I ds xs its ha rv
      refine ⟨a :: as, .list eh rfl rfl (by simpa using q), fun m => ?_⟩
      rcases List.mem_cons.mp m with z | z
      · exact ne z.symm
      · exact na z
  | .tuple ds, _, _, h, r => by
    cases h with
    | @tup a xs _ e ha =>
      cases r
      have ok : ObjOk X.prog X.w H s.heap a (.tup xs) := I.hok a _ e
      obtain ⟨_, its, rv, o, eh, ec, n, ed⟩ := ok
      obtain ⟨as, q, na⟩ := DzAll.reads I ds xs its ha rv
      exact ⟨as, .tuple eh ec ed (by simpa using q), na⟩
  | .dict ds, _, _, h, r => by
    cases h with
    | @dct a kvs _ e ha =>
      cases r
      obtain ⟨_, ne, vs, rel, o, es, ep, eh, ex, ed, _, pr, _⟩ := dk_of I.hok e
      obtain ⟨as, q1, rfl⟩ := pairs_keys (s := s) pr
      obtain ⟨bs, q2, nb⟩ := DzKv.reads I ds kvs vs ha rel
      have hk : (vs.map fun p => keyD p.1) = ds.map (·.1) := DzKv.keys ha rel
      rw [hk] at q1
      refine ⟨a :: [] ++ bs, .dict eh ex.1 ed q1 (by rw [pairs_vals pr]; exact q2), fun m => ?_⟩
      rcases List.mem_cons.mp m with z | z
      · rw [← z] at ne
        simp at ne
      · exact nb z
theorem DzAll.reads (I : Inv X pins σ H s) : ∀ (ds : List PyData) (vs : List V) (us : List Value), DzAll X.K H vs ds → Vals vs us → ∃ as, ReadsAll s.heap us ds as ∧ sysModules ∉ as
  | [], _, _, h, r => by
    cases h
    cases r
    exact ⟨[], .nil, by simp⟩
  | d :: ds, _, _, h, r => by
    cases h with
    | cons h1 h2 =>
      cases r with
      | cons r1 r2 =>
        obtain ⟨as, q1, n1⟩ := Dz.reads I d _ _ h1 r1
        obtain ⟨bs, q2, n2⟩ := DzAll.reads I ds _ _ h2 r2
        exact ⟨as ++ bs, .cons q1 q2, fun m => (List.mem_append.mp m).elim n1 n2⟩
theorem DzKv.reads (I : Inv X pins σ H s) : ∀ (ds : List (PyData × PyData)) (kvs : List (Key × V)) (vs : List (Key × Value)), DzKv X.K H kvs ds → KV kvs vs → ∃ as, ReadsAll s.heap (vs.map (·.2)) (ds.map (·.2)) as ∧ sysModules ∉ as
  | [], _, _, h, r => by
    cases h
    cases r
    exact ⟨[], .nil, by simp⟩
  | (_, d) :: ds, _, _, h, r => by
    cases h with
    | cons h1 h2 =>
      cases r with
      | cons r1 r2 =>
        obtain ⟨as, q1, n1⟩ := Dz.reads I d _ _ h1 r1.2
        obtain ⟨bs, q2, n2⟩ := DzKv.reads I ds _ _ h2 r2
        exact ⟨as ++ bs, .cons q1 q2, fun m => (List.mem_append.mp m).elim n1 n2⟩
theorem DzKv.keys {K : PySem.W.Frag} : ∀ {ds : List (PyData × PyData)} {kvs : List (Key × V)} {vs : List (Key × Value)}, DzKv K H kvs ds → KV kvs vs → (vs.map fun p => keyD p.1) = ds.map (·.1)
  | [], _, _, h, r => by
    cases h
    cases r
    rfl
  | (_, d) :: ds, _, _, h, r => by
    cases h with
    | cons h1 h2 =>
      cases r with
      | cons r1 r2 =>
        rw [List.map_cons, List.map_cons, DzKv.keys h2 r2, ← r1.1]
end
/-- repr of a thing -/
def rReprZ (K : PySem.W.Frag) : List V → Hp → VK → Prop := fun xs H Q => ∃ (v : V) (d : PyData), xs = [v] ∧ Dz K H v d ∧ d.showable = true ∧ d.depth ≤ 60 ∧ d.shown.length ≤ sizeLine ∧ Q (.str d.shown) H
theorem cr_reprZ {k : Nat} (quiet : X.A.guards = some []) (room : Room k X.A) : CallR X (.builtin "repr") (rReprZ X.K) := by
  intro pins s σ H xs us Q I r h
  obtain ⟨v, d, rfl, hd, hs, hp, hz, q⟩ := h
  obtain ⟨u, rfl, rx⟩ := vals1 r
  have hu := room.units
  cases hd with
  | non =>
    cases rx
    exact PySem.P.repr_of_none ⟨.str _, H, I.tok _, ⟨_, rfl⟩, q⟩
  | bl b =>
    cases rx
    exact PySem.P.repr_of_bool ⟨.str _, H, I.tok _, ⟨_, rfl⟩, q⟩
  | int i =>
    obtain ⟨t, rfl⟩ := rx
    exact PySem.P.repr_of_int (by simpa [PyData.showable] using hs) ⟨.str _, H, I.tok _, ⟨_, rfl⟩, q⟩
  | str x =>
    obtain ⟨t, rfl⟩ := rx
    exact PySem.P.repr_of_str ⟨.str _, H, I.tok _, ⟨_, rfl⟩, q⟩ hz
  | lst e n ha =>
    obtain ⟨as, rd, na⟩ := Dz.reads I _ _ u (.lst e n ha) rx
    cases rx
    exact repr_of_reads' rd hs (fun _ => na) quiet (by omega) (fun _ _ z => z) (fun h' u tk kept => ⟨.str _, H, I.kept kept, ⟨u, rfl⟩, q⟩) hz
  | tup e ha =>
    obtain ⟨as, rd, na⟩ := Dz.reads I _ _ u (.tup e ha) rx
    cases rx
    exact repr_of_reads' rd hs (fun _ => na) quiet (by omega) (fun _ _ z => z) (fun h' u tk kept => ⟨.str _, H, I.kept kept, ⟨u, rfl⟩, q⟩) hz
  | dct e ha =>
    obtain ⟨as, rd, na⟩ := Dz.reads I _ _ u (.dct e ha) rx
    cases rx
    exact repr_of_reads' rd hs (fun _ => na) quiet (by omega) (fun _ _ z => z) (fun h' u tk kept => ⟨.str _, H, I.kept kept, ⟨u, rfl⟩, q⟩) hz
/-- a list of written items: new, and no table of modules -/
def tLstZ (t : TA) : TE := fun σ H Q => t σ H fun xs H1 => xs.length ≤ sizeLine ∧ ∀ p, H1 p = none → p ≠ sysModules → Q (.ref p) (upd H1 p (.lst xs))
theorem pe_lstZ {es : List Expr} {t : TA} {pos : Pos} (h : PA X es t) : PE X (.List es pos) (tLstZ t) := by
  refine ⟨fun pins s σ H Q I hq => wpAny_List_spliced (thn (h.run pos pins s σ H _ I hq) fun us s1 z => ?_)⟩
  obtain ⟨xs, H1, I1, r, z, q⟩ := z
  refine ⟨by rw [← r.length]; exact z, ?_⟩
  have new : H1 s1.heap.objs.size = none := I1.hok.fresh (Nat.le_refl _)
  refine ⟨.ref s1.heap.objs.size, upd H1 s1.heap.objs.size (.lst xs), I1.laid (t' := s1.toks) (fun b u e => Heap.get?_push_of_some _ e) (Nat.le_refl _) ?_, rfl, q _ new (Nat.ne_of_gt I1.big)⟩
  exact ⟨z, us, 0, r, Heap.get?_push_size _ rfl⟩
end
end Az
namespace Az
open PySem PySem.Spec PyProof.Rows L2
/-- a thing that is shown in n signs at most, at most k deep -/
structure Nice (d : PyData) (k n : Nat) : Prop where
  sh : d.showable = true
  dp : d.depth ≤ k
  sz : d.shown.length ≤ n
theorem Nice.mono {d : PyData} {k k' n n' : Nat} (h : Nice d k n) (hk : k ≤ k') (hn : n ≤ n') : Nice d k' n' := ⟨h.sh, Nat.le_trans h.dp hk, Nat.le_trans h.sz hn⟩
theorem nice_int {i : Int} {n : Nat} (h : i.natAbs.log2 < 1920) (hn : (Str.ofString (toString i)).length ≤ n) : Nice (.int i) 0 n :=
  ⟨by simpa [PyData.showable] using h, by simp [PyData.depth], by simpa [PyData.shown] using hn⟩
theorem nice_none : Nice .none 0 4 := ⟨by simp [PyData.showable], by simp [PyData.depth], by simp only [PyData.shown]; decide +kernel⟩
theorem nice_bool (b : Bool) : Nice (.bool b) 0 5 := ⟨by simp [PyData.showable], by simp [PyData.depth], by simp only [PyData.shown]; cases b <;> decide +kernel⟩
theorem nice_str {x : Str} {n : Nat} (h : (reprText x).length ≤ n) : Nice (.str x) 0 n := ⟨by simp [PyData.showable], by simp [PyData.depth], by simpa [PyData.shown] using h⟩
theorem list_le : ∀ ts : List Str, (listText ts).length ≤ piled ts + 2
  | [] => by decide +kernel
  | t :: ts => by
    have e : (textFrom 0 "[" (t :: ts)).length = 1 + t.length + piled ts := by
      show (textFrom 1 (("[" : Str) ++ ((if 0 > 0 then ", " else "" : String) : Str) ++ t) ts).length = _
      rw [textFrom_length_pos ts 1 _ (by decide), strLen_append, strLen_append]
      rfl
    unfold listText
    rw [strLen_append, e, piled_cons]
    show 1 + t.length + piled ts + 1 ≤ _
    omega
theorem dict_le (ps : List Str) : (dictText ps).length ≤ piled ps + 2 := by
  unfold dictText
  rw [strLen_append, strLen_append]
  show 1 + (Str.join ", " ps).length + 1 ≤ _
  cases ps with
  | nil => decide
  | cons p r =>
    have := join_length_add (p :: r) (by simp)
    omega
theorem nice_tup1 {d : PyData} {k n : Nat} (h : Nice d k n) : Nice (.tuple [d]) (k + 1) (n + 4) := by
  refine ⟨by simp [PyData.showable, PyData.showableAll, h.sh], ?_, ?_⟩
  · simp only [PyData.depth, PyData.depthAll]
    have := h.dp
    omega
  · simp only [PyData.shown, PyData.shownAll]
    have a := fmt_text [d.shown]
    simp only [piled_cons, piled_nil] at a
    have := h.sz
    omega
theorem nice_lst1 {d : PyData} {k n : Nat} (h : Nice d k n) : Nice (.list [d]) (k + 1) (n + 4) := by
  refine ⟨by simp [PyData.showable, PyData.showableAll, h.sh], ?_, ?_⟩
  · simp only [PyData.depth, PyData.depthAll]
    have := h.dp
    omega
  · simp only [PyData.shown, PyData.shownAll]
    have a := list_le [d.shown]
    simp only [piled_cons, piled_nil] at a
    have := h.sz
    omega
theorem nice_dct1 {d : PyData} {k n m : Nat} {x : Str} (hx : (reprText x).length ≤ m) (h : Nice d k n) : Nice (.dict [(.str x, d)]) (k + 1) (n + m + 6) := by
  refine ⟨by simp [PyData.showable, PyData.showableKv, h.sh], ?_, ?_⟩
  · simp only [PyData.depth, PyData.depthKv]
    have := h.dp
    omega
  · simp only [PyData.shown, PyData.shownKv]
    have a := dict_le [reprText x ++ ": " ++ d.shown]
    simp only [piled_cons, piled_nil, strLen_append] at a
    have c : ((": " : Str)).length = 2 := by decide +kernel
    have := h.sz
    omega
theorem nice_tup0 : Nice (.tuple []) 1 2 := ⟨by simp [PyData.showable, PyData.showableAll], by simp [PyData.depth, PyData.depthAll], by simp only [PyData.shown, PyData.shownAll]; decide +kernel⟩
theorem nice_lst0 : Nice (.list []) 1 2 := ⟨by simp [PyData.showable, PyData.showableAll], by simp [PyData.depth, PyData.depthAll], by simp only [PyData.shown, PyData.shownAll]; decide +kernel⟩
theorem nice_dct0 : Nice (.dict []) 1 2 := ⟨by simp [PyData.showable, PyData.showableKv], by simp [PyData.depth, PyData.depthKv], by simp only [PyData.shown, PyData.shownKv]; decide +kernel⟩
end Az
set_option Elab.async false
set_option linter.all false
set_option maxRecDepth 100000
set_option maxHeartbeats 4000000
set_option pp.maxSteps 400
set_option pp.deepTerms false
namespace Az
open PySem PySem.Spec PyProof.Rows L2
/-! ### texts of signs that have a number of eight places -/
def Asc (x : Str) : Prop := ∀ c ∈ x.cps.toList, c < 16 ^ 8
theorem asc_str (s : String) : Asc (Str.ofString s) := fun c hc => by
  rw [Str.ofString_eq_toList] at hc
  simp only [List.mem_map] at hc
  obtain ⟨k, _, rfl⟩ := hc
  exact Nat.lt_of_lt_of_le (UInt32.toNat_lt k.val) (by decide)
theorem Asc.app {x y : Str} (h1 : Asc x) (h2 : Asc y) : Asc (x ++ y) := fun c hc => by
  rw [Str.cps_append, Array.toList_append, List.mem_append] at hc
  exact hc.elim (h1 c) (h2 c)
theorem asc_hex (l : List Char) (n : Nat) : ∀ c ∈ List.replicate n 48 ++ l.map Char.toNat, c < 16 ^ 8 := fun c hc => by
  rcases List.mem_append.mp hc with h | h
  · rw [(List.mem_replicate.mp h).2]
    decide
  · obtain ⟨k, _, rfl⟩ := List.mem_map.mp h
    exact Nat.lt_of_lt_of_le (UInt32.toNat_lt k.val) (by decide)
theorem asc_char {q c : Nat} (hc : c < 16 ^ 8) : ∀ d ∈ Builtin.Str.reprChar q c, d < 16 ^ 8 := fun d hd => by
  unfold Builtin.Str.reprChar at hd
  dsimp only at hd
  have two : ∀ a : Nat, a < 16 ^ 8 → d ∈ [92, a] → d < 16 ^ 8 := fun a ha h => by
    simp only [List.mem_cons, List.not_mem_nil, or_false] at h
    rcases h with h | h
    · rw [h]; decide
    · rw [h]; exact ha
  have app : ∀ (a : Nat) (l : List Nat), a < 16 ^ 8 → (∀ c ∈ l, c < 16 ^ 8) → d ∈ [92, a] ++ l → d < 16 ^ 8 := fun a l ha hl h => (List.mem_append.mp h).elim (two a ha) (hl d)
  split at hd
  · exact two c hc hd
  · split at hd
    · exact two 110 (by decide) hd
    · split at hd
      · exact two 114 (by decide) hd
      · split at hd
        · exact two 116 (by decide) hd
        · split at hd
          · simp only [List.mem_cons, List.not_mem_nil, or_false] at hd
            rw [hd]
            exact hc
          · split at hd
            · exact app 120 _ (by decide) (asc_hex _ _) hd
            · split at hd
              · exact app 117 _ (by decide) (asc_hex _ _) hd
              · exact app 85 _ (by decide) (asc_hex _ _) hd
theorem asc_fold {q : Nat} : ∀ (l : List Nat) (acc : Array Nat), (∀ c ∈ l, c < 16 ^ 8) → (∀ c ∈ acc.toList, c < 16 ^ 8) → ∀ c ∈ (l.foldl (fun out c => out ++ (Builtin.Str.reprChar q c).toArray) acc).toList, c < 16 ^ 8
  | [], acc, _, h => h
  | k :: r, acc, hl, ha => by
    rw [List.foldl_cons]
    refine asc_fold r _ (fun c hc => hl c (List.mem_cons_of_mem _ hc)) fun c hc => ?_
    rw [Array.toList_append, List.mem_append] at hc
    exact hc.elim (ha c) fun h => asc_char (hl k List.mem_cons_self) c (by simpa using h)
theorem asc_quote (x : Str) : reprQuote x < 16 ^ 8 := by
  unfold reprQuote
  split <;> decide
theorem asc_repr {x : Str} (h : Asc x) : Asc (reprText x) := fun c hc => by
  unfold reprText at hc
  rw [Array.toList_push, List.mem_append, ← Array.foldl_toList] at hc
  rcases hc with hc | hc
  · refine asc_fold x.cps.toList #[reprQuote x] h (fun d hd => ?_) c hc
    have z : d = reprQuote x := by simpa using hd
    rw [z]
    exact asc_quote x
  · have z : c = reprQuote x := by simpa using hc
    rw [z]
    exact asc_quote x
theorem asc_join : ∀ ts : List Str, (∀ t ∈ ts, Asc t) → Asc (Str.join ", " ts)
  | [], _ => fun c hc => by
    have z : c ∈ (Str.empty).cps.toList := hc
    simp [Str.empty] at z
  | [x], h => h x List.mem_cons_self
  | x :: y :: r, h => ((h x List.mem_cons_self).app (asc_str ", ")).app (asc_join (y :: r) fun t ht => h t (List.mem_cons_of_mem _ ht))
theorem asc_from : ∀ (ts : List Str) (k : Nat) (acc : Str), Asc acc → (∀ t ∈ ts, Asc t) → Asc (textFrom k acc ts)
  | [], _, _, h, _ => h
  | t :: ts, k, acc, h, ht => by
    unfold textFrom
    exact asc_from ts (k + 1) _ ((h.app (asc_str _)).app (ht t List.mem_cons_self)) fun u hu => ht u (List.mem_cons_of_mem _ hu)
mutual
/-- all texts within a thing -/
def ascD : PyData → Prop
  | .none | .bool _ | .int _ => True
  | .str x => Asc x
  | .list xs | .tuple xs => ascAll xs
  | .dict kvs => ascKv kvs
def ascAll : List PyData → Prop
  | [] => True
  | x :: xs => ascD x ∧ ascAll xs
def ascKv : List (PyData × PyData) → Prop
  | [] => True
  | (k, v) :: r => ascD k ∧ ascD v ∧ ascKv r
end
mutual
theorem asc_shown : ∀ d : PyData, ascD d → Asc d.shown
  | .none, _ => asc_str "None"
  | .bool b, _ => by
    simp only [PyData.shown]
    cases b
    · exact asc_str "False"
    · exact asc_str "True"
  | .int i, _ => asc_str (toString i)
  | .str x, h => asc_repr (by simpa [ascD] using h)
  | .list xs, h => by
    simp only [PyData.shown]
    exact (asc_from _ _ _ (asc_str "[") (asc_shownAll xs (by simpa [ascD] using h))).app (asc_str "]")
  | .tuple xs, h => by
    simp only [PyData.shown]
    exact ((asc_str "(").app (asc_join _ (asc_shownAll xs (by simpa [ascD] using h)))).app (asc_str _)
  | .dict kvs, h => by
    simp only [PyData.shown]
    exact ((asc_str "{").app (asc_join _ (asc_shownKv kvs (by simpa [ascD] using h)))).app (asc_str "}")
theorem asc_shownAll : ∀ xs : List PyData, ascAll xs → ∀ t ∈ PyData.shownAll xs, Asc t
  | [], _, t, ht => by
    simp [PyData.shownAll] at ht
  | x :: xs, h, t, ht => by
    have h' : ascD x ∧ ascAll xs := by simpa [ascAll] using h
    simp only [PyData.shownAll, List.mem_cons] at ht
    rcases ht with e | e
    · rw [e]
      exact asc_shown x h'.1
    · exact asc_shownAll xs h'.2 t e
theorem asc_shownKv : ∀ xs : List (PyData × PyData), ascKv xs → ∀ t ∈ PyData.shownKv xs, Asc t
  | [], _, t, ht => by
    simp [PyData.shownKv] at ht
  | (k, v) :: xs, h, t, ht => by
    have h' : ascD k ∧ ascD v ∧ ascKv xs := by simpa [ascKv] using h
    simp only [PyData.shownKv, List.mem_cons] at ht
    rcases ht with e | e
    · rw [e]
      exact ((asc_shown k h'.1).app (asc_str ": ")).app (asc_shown v h'.2.1)
    · exact asc_shownKv xs h'.2.2 t e
end
/-- str of a thing -/
def strD : PyData → Str
  | .str x => x
  | d => d.shown
theorem strD_asc {d : PyData} (h : ascD d) : Asc (strD d) := by
  cases d with
  | str x => simpa [strD, ascD] using h
  | _ => exact asc_shown _ h
theorem len_repr (x : Str) : x.length ≤ (reprText x).length := by
  have grow : ∀ (q : Nat) (l : List Nat) (acc : Array Nat), acc.size + l.length ≤ (l.foldl (fun out c => out ++ (Builtin.Str.reprChar q c).toArray) acc).size := fun q l => by
    induction l with
    | nil => intro acc; simp
    | cons k r ih =>
      intro acc
      have h := ih (acc ++ (Builtin.Str.reprChar q k).toArray)
      have one : 1 ≤ (Builtin.Str.reprChar q k).length := by
        unfold Builtin.Str.reprChar
        dsimp only
        repeat' split
        all_goals simp
        all_goals omega
      rw [List.foldl_cons]
      simp only [Array.size_append, List.size_toArray] at h
      simp only [List.length_cons]
      omega
  have h := grow (reprQuote x) x.cps.toList #[reprQuote x]
  unfold reprText
  show x.length ≤ ((x.cps.foldl (fun out c => out ++ (Builtin.Str.reprChar (reprQuote x) c).toArray) #[reprQuote x]).push (reprQuote x)).size
  rw [Array.size_push, ← Array.foldl_toList]
  have e : x.cps.toList.length = x.length := by simp [Str.length]
  omega
theorem strD_len {d : PyData} : (strD d).length ≤ d.shown.length := by
  cases d with
  | str x =>
    simp only [strD, PyData.shown]
    exact len_repr x
  | _ => exact Nat.le_refl _
section
variable {X : Cx}
def rStrZ (K : PySem.W.Frag) : List V → Hp → VK → Prop := fun xs H Q => ∃ (v : V) (d : PyData), xs = [v] ∧ Dz K H v d ∧ d.showable = true ∧ d.depth ≤ 60 ∧ d.shown.length ≤ sizeLine ∧ Q (.str (strD d)) H
theorem cr_strZ {k : Nat} (quiet : X.A.guards = some []) (room : Room k X.A) : CallR X (.type "str") (rStrZ X.K) := by
  intro pins s σ H xs us Q I r h
  obtain ⟨v, d, rfl, hd, hs, hp, hz, q⟩ := h
  obtain ⟨u, rfl, rx⟩ := vals1 r
  have hu := room.un
  cases hd with
  | non =>
    cases rx
    exact PySem.P.str_of_none ⟨.str _, H, I.tok _, ⟨_, rfl⟩, q⟩
  | bl b =>
    cases rx
    exact PySem.P.str_of_bool ⟨.str _, H, I.tok _, ⟨_, rfl⟩, q⟩
  | int i =>
    obtain ⟨t, rfl⟩ := rx
    exact PySem.P.str_of_int (by simpa [PyData.showable] using hs) ⟨.str _, H, I.tok _, ⟨_, rfl⟩, q⟩
  | str x =>
    obtain ⟨t, rfl⟩ := rx
    exact PySem.P.str_of_str ⟨.str _, H, I, ⟨_, rfl⟩, q⟩
  | lst e n ha =>
    obtain ⟨as, rd, na⟩ := Dz.reads I _ _ u (.lst e n ha) rx
    cases rx
    exact str_of_reads rd hs (fun _ => na) quiet (by omega) (fun _ _ z => z) (fun h' u tk kept => ⟨.str _, H, I.kept kept, ⟨u, rfl⟩, q⟩) hz
  | tup e ha =>
    obtain ⟨as, rd, na⟩ := Dz.reads I _ _ u (.tup e ha) rx
    cases rx
    exact str_of_reads rd hs (fun _ => na) quiet (by omega) (fun _ _ z => z) (fun h' u tk kept => ⟨.str _, H, I.kept kept, ⟨u, rfl⟩, q⟩) hz
  | dct e ha =>
    obtain ⟨as, rd, na⟩ := Dz.reads I _ _ u (.dct e ha) rx
    cases rx
    exact str_of_reads rd hs (fun _ => na) quiet (by omega) (fun _ _ z => z) (fun h' u tk kept => ⟨.str _, H, I.kept kept, ⟨u, rfl⟩, q⟩) hz
end
end Az
set_option Elab.async false
set_option linter.all false
set_option maxRecDepth 100000
set_option maxHeartbeats 4000000
set_option pp.maxSteps 400
set_option pp.deepTerms false
/-! Works: names and parts; how many things a thing has; what a work is. -/
namespace W37
open PySem PySem.Spec PyProof.Rows L2
open Az
abbrev Nm := Str × Str
def nD (n : Nm) : PyData := .tuple [.str n.1, .str n.2]
theorem nD_inj {n m : Nm} (h : nD n = nD m) : n = m := by
  obtain ⟨a, b⟩ := n
  obtain ⟨c, d⟩ := m
  unfold nD at h
  injection h with h
  injection h with h1 h2
  injection h2 with h2 _
  injection h1 with h1
  injection h2 with h2
  exact Prod.ext h1 h2
/-- a work -/
inductive W where
  | mk (n : Nm) (ps : List W)
mutual
def W.nms : W → List Nm
  | .mk n ps => n :: nmsL ps
def nmsL : List W → List Nm
  | [] => []
  | w :: r => w.nms ++ nmsL r
end
mutual
def W.dat : W → PyData
  | .mk n ps => .tuple [nD n, .tuple (datL ps)]
def datL : List W → List PyData
  | [] => []
  | w :: r => w.dat :: datL r
end
mutual
def W.dp : W → Nat
  | .mk _ ps => dpL ps + 1
def dpL : List W → Nat
  | [] => 0
  | w :: r => max w.dp (dpL r)
end
theorem nmsL_app : ∀ xs ys : List W, nmsL (xs ++ ys) = nmsL xs ++ nmsL ys
  | [], ys => by simp [nmsL]
  | w :: r, ys => by
    rw [List.cons_append, nmsL, nmsL_app r ys, nmsL, List.append_assoc]
theorem dpL_app : ∀ (xs : List W) (w : W) (k : Nat), dpL xs ≤ k → w.dp ≤ k → dpL (xs ++ [w]) ≤ k
  | [], w, k, _, h => by
    rw [List.nil_append, dpL, dpL]
    omega
  | x :: r, w, k, h, h' => by
    rw [dpL] at h
    rw [List.cons_append, dpL]
    have := dpL_app r w k (by omega) h'
    omega
theorem dpL_mem : ∀ {xs : List W} {w : W}, w ∈ xs → w.dp ≤ dpL xs
  | x :: r, w, h => by
    rw [dpL]
    rcases List.mem_cons.mp h with z | z
    · rw [z]; omega
    · have := dpL_mem z
      omega
theorem datL_map : ∀ ws : List W, datL ws = ws.map W.dat
  | [] => rfl
  | w :: r => by rw [datL, datL_map r, List.map_cons]
/-- a name as it stands -/
def NmV (H : Hp) (v : V) (n : Nm) : Prop := ∃ t, v = .ref t ∧ H t = some (.tup [.str n.1, .str n.2])
inductive NmL (H : Hp) : List V → List Nm → Prop
  | nil : NmL H [] []
  | cons {v : V} {vs : List V} {n : Nm} {ns : List Nm} : NmV H v n → NmL H vs ns → NmL H (v :: vs) (n :: ns)
/-- tuples stand -/
def Tp (H H' : Hp) : Prop := ∀ b xs, H b = some (.tup xs) → H' b = some (.tup xs)
theorem Tp.trans {H H1 H2 : Hp} (p : Tp H H1) (q : Tp H1 H2) : Tp H H2 := fun b xs e => q b xs (p b xs e)
theorem tp_same {H H' : Hp} (s : L2.Same H H') : Tp H H' := fun b ys e => s b _ e
theorem tp_upd {H : Hp} {p : Addr} {x : HO} (e : ∀ xs, H p ≠ some (.tup xs)) : Tp H (upd H p x) := fun b ys eb => by
  rw [upd_ne (fun z => e ys (by rw [← z]; exact eb))]
  exact eb
theorem NmV.tp {H H' : Hp} {v : V} {n : Nm} (h : NmV H v n) (s : Tp H H') : NmV H' v n := by
  obtain ⟨t, e, r⟩ := h
  exact ⟨t, e, s _ _ r⟩
theorem NmL.tp {H H' : Hp} (s : Tp H H') : ∀ {vs : List V} {ns : List Nm}, NmL H vs ns → NmL H' vs ns
  | _, _, .nil => .nil
  | _, _, .cons h r => .cons (h.tp s) (r.tp s)
theorem NmL.len {H : Hp} : ∀ {vs : List V} {ns : List Nm}, NmL H vs ns → vs.length = ns.length
  | _, _, .nil => rfl
  | _, _, .cons _ r => by rw [List.length_cons, List.length_cons, r.len]
theorem NmL.snoc {H : Hp} : ∀ {vs : List V} {ns : List Nm} {v : V} {n : Nm}, NmL H vs ns → NmV H v n → NmL H (vs ++ [v]) (ns ++ [n])
  | _, _, _, _, .nil, h => .cons h .nil
  | _, _, _, _, .cons h r, h' => .cons h (r.snoc h')
theorem NmL.app {H : Hp} : ∀ {vs ws : List V} {ns ms : List Nm}, NmL H vs ns → NmL H ws ms → NmL H (vs ++ ws) (ns ++ ms)
  | _, _, _, _, .nil, h => h
  | _, _, _, _, .cons h r, h' => .cons h (r.app h')
theorem NmL.take {H : Hp} : ∀ {vs : List V} {ns : List Nm} (k : Nat), NmL H vs ns → NmL H (vs.take k) (ns.take k)
  | _, _, 0, h => by rw [List.take_zero, List.take_zero]; exact .nil
  | _, _, _ + 1, .nil => .nil
  | _, _, k + 1, .cons h r => .cons h (r.take k)
theorem NmL.drop {H : Hp} : ∀ {vs : List V} {ns : List Nm} (k : Nat), NmL H vs ns → NmL H (vs.drop k) (ns.drop k)
  | _, _, 0, h => h
  | _, _, _ + 1, .nil => .nil
  | _, _, k + 1, .cons h r => r.drop k
theorem NmL.get {H : Hp} : ∀ {vs : List V} {ns : List Nm} {i : Nat} {v : V}, NmL H vs ns → vs[i]? = some v → ∃ n, ns[i]? = some n ∧ NmV H v n
  | _, _, _, _, .nil, e => by simp at e
  | _, _, 0, _, .cons h r, e => by
    rw [List.getElem?_cons_zero] at e
    cases e
    exact ⟨_, rfl, h⟩
  | _, _, i + 1, _, .cons h r, e => by
    rw [List.getElem?_cons_succ] at e
    obtain ⟨n, e1, q⟩ := r.get e
    exact ⟨n, by rw [List.getElem?_cons_succ]; exact e1, q⟩
theorem NmL.mem {H : Hp} {vs : List V} {ns : List Nm} (h : NmL H vs ns) {v : V} (m : v ∈ vs) : ∃ n ∈ ns, NmV H v n := by
  obtain ⟨i, hi⟩ := List.getElem?_of_mem m
  obtain ⟨n, e, q⟩ := h.get hi
  exact ⟨n, List.mem_of_getElem? e, q⟩
mutual
/-- a work as it stands -/
inductive Wk (H : Hp) : V → W → Prop
  | mk {t p : Addr} {v : V} {n : Nm} {xs : List V} {ps : List W} : H t = some (.tup [v, .ref p]) → NmV H v n → H p = some (.tup xs) → WkL H xs ps → Wk H (.ref t) (.mk n ps)
inductive WkL (H : Hp) : List V → List W → Prop
  | nil : WkL H [] []
  | cons {v : V} {vs : List V} {w : W} {ws : List W} : Wk H v w → WkL H vs ws → WkL H (v :: vs) (w :: ws)
end
mutual
theorem Wk.tp {H H' : Hp} (s : Tp H H') : ∀ {v : V} {w : W}, Wk H v w → Wk H' v w
  | _, _, .mk e1 n e2 r => .mk (s _ _ e1) (n.tp s) (s _ _ e2) (WkL.tp s r)
theorem WkL.tp {H H' : Hp} (s : Tp H H') : ∀ {vs : List V} {ws : List W}, WkL H vs ws → WkL H' vs ws
  | _, _, .nil => .nil
  | _, _, .cons h r => .cons (Wk.tp s h) (WkL.tp s r)
end
theorem WkL.len {H : Hp} : ∀ {vs : List V} {ws : List W}, WkL H vs ws → vs.length = ws.length
  | _, _, .nil => rfl
  | _, _, .cons _ r => by rw [List.length_cons, List.length_cons, r.len]
theorem WkL.snoc {H : Hp} : ∀ {vs : List V} {ws : List W} {v : V} {w : W}, WkL H vs ws → Wk H v w → WkL H (vs ++ [v]) (ws ++ [w])
  | _, _, _, _, .nil, h => .cons h .nil
  | _, _, _, _, .cons h r, h' => .cons h (r.snoc h')
theorem WkL.get {H : Hp} : ∀ {vs : List V} {ws : List W} {i : Nat} {v : V}, WkL H vs ws → vs[i]? = some v → ∃ w, ws[i]? = some w ∧ Wk H v w
  | _, _, _, _, .nil, e => by simp at e
  | _, _, 0, _, .cons h r, e => by
    rw [List.getElem?_cons_zero] at e
    cases e
    exact ⟨_, rfl, h⟩
  | _, _, i + 1, _, .cons h r, e => by
    rw [List.getElem?_cons_succ] at e
    obtain ⟨n, e1, q⟩ := r.get e
    exact ⟨n, by rw [List.getElem?_cons_succ]; exact e1, q⟩
section
variable {K : PySem.W.Frag}
theorem NmV.dz {H : Hp} {v : V} {n : Nm} (h : NmV H v n) : Dz K H v (nD n) := by
  obtain ⟨t, rfl, e⟩ := h
  exact .tup e (.cons (.str _) (.cons (.str _) .nil))
mutual
theorem Wk.dz {H : Hp} : ∀ {v : V} {w : W}, Wk H v w → Dz K H v w.dat
  | _, _, .mk e1 n e2 r => by
    rw [W.dat]
    exact .tup e1 (.cons n.dz (.cons (.tup e2 (WkL.dz r)) .nil))
theorem WkL.dz {H : Hp} : ∀ {vs : List V} {ws : List W}, WkL H vs ws → DzAll K H vs (datL ws)
  | _, _, .nil => by rw [datL]; exact .nil
  | _, _, .cons h r => by rw [datL]; exact .cons (Wk.dz h) (WkL.dz r)
end
end
/-! ## things: how many they have, how deep they are, their texts -/
def Ok7 (x : Str) : Prop := x.length ≤ 200 ∧ ∀ c ∈ x.cps.toList, c < 128
mutual
def wt : PyData → Nat
  | .tuple ds => wts ds + 1
  | _ => 1
def wts : List PyData → Nat
  | [] => 0
  | d :: r => wt d + wts r
end
mutual
def dt : PyData → Nat
  | .tuple ds => dts ds + 1
  | _ => 0
def dts : List PyData → Nat
  | [] => 0
  | d :: r => max (dt d) (dts r)
end
mutual
def gd : PyData → Prop
  | .str x => Ok7 x
  | .tuple ds => gds ds
  | _ => True
def gds : List PyData → Prop
  | [] => True
  | d :: r => gd d ∧ gds r
end
theorem wt_pos : ∀ d : PyData, 1 ≤ wt d
  | .tuple ds => by rw [wt]; omega
  | .none | .bool _ | .int _ | .str _ | .list _ | .dict _ => by simp [wt]
theorem wts_app : ∀ xs ys : List PyData, wts (xs ++ ys) = wts xs + wts ys
  | [], ys => by simp [wts]
  | d :: r, ys => by
    rw [List.cons_append, wts, wts_app r ys, wts]
    omega
theorem len_wts : ∀ ds : List PyData, ds.length ≤ wts ds
  | [] => by simp
  | d :: r => by
    have := len_wts r
    have := wt_pos d
    rw [List.length_cons, wts]
    omega
theorem wts_mem : ∀ {ds : List PyData} {d : PyData}, d ∈ ds → wt d ≤ wts ds
  | d :: r, e, h => by
    rw [wts]
    rcases List.mem_cons.mp h with z | z
    · rw [z]; omega
    · have := wts_mem z
      omega
theorem dts_app : ∀ xs ys : List PyData, dts (xs ++ ys) = max (dts xs) (dts ys)
  | [], ys => by simp [dts]
  | d :: r, ys => by
    rw [List.cons_append, dts, dts_app r ys, dts]
    omega
theorem dts_mem : ∀ {ds : List PyData} {d : PyData}, d ∈ ds → dt d ≤ dts ds
  | d :: r, e, h => by
    rw [dts]
    rcases List.mem_cons.mp h with z | z
    · rw [z]; omega
    · have := dts_mem z
      omega
theorem gds_iff : ∀ {ds : List PyData}, gds ds ↔ ∀ d ∈ ds, gd d
  | [] => by simp [gds]
  | d :: r => by rw [gds, gds_iff (ds := r)]; simp
theorem gds_app {xs ys : List PyData} : gds (xs ++ ys) ↔ gds xs ∧ gds ys := by
  rw [gds_iff, gds_iff, gds_iff]
  constructor
  · intro h
    exact ⟨fun d m => h d (List.mem_append_left _ m), fun d m => h d (List.mem_append_right _ m)⟩
  · rintro ⟨h1, h2⟩ d m
    rcases List.mem_append.mp m with z | z
    · exact h1 d z
    · exact h2 d z
/-! ## what a work is -/
section
variable (nm : PyData → Bool)
def form : Nat → PyData → Bool
  | 0, _ => false
  | k + 1, d => match d with
    | .tuple [n, .tuple ps] => nm n && ps.all (form k)
    | _ => false
def names : Nat → PyData → List PyData
  | 0, _ => []
  | k + 1, d => match d with
    | .tuple [n, .tuple ps] => n :: ps.flatMap (names k)
    | _ => []
/-- a name beside a tuple -/
def nwp (d : PyData) : Bool := match d with
  | .tuple [n, .tuple _] => nm n
  | _ => false
theorem form_nwp {k : Nat} {d : PyData} (h : nwp nm d = false) : form nm k d = false := by
  cases k with
  | zero => rfl
  | succ k =>
    unfold form
    unfold nwp at h
    split
    · rename_i n ps
      simp only at h
      rw [h]
      rfl
    · rfl
theorem nwp_mk {d : PyData} (h : nwp nm d = true) : ∃ n ps, d = .tuple [n, .tuple ps] ∧ nm n = true := by
  unfold nwp at h
  split at h
  · rename_i n ps
    exact ⟨n, ps, rfl, h⟩
  · cases h
def IsW (d : PyData) : Prop := form nm 5 d = true ∧ (names 5 d).Nodup
/-- a stack of things, the first to be taken at the end: how many levels each may have yet, and what was seen -/
def Ans (st : List (PyData × Nat)) (seen : List PyData) : Prop := (∀ p ∈ st, form nm p.2 p.1 = true) ∧ (seen ++ st.flatMap fun p => names p.2 p.1).Nodup
theorem ans_nil {seen : List PyData} (h : seen.Nodup) : Ans nm [] seen := ⟨by simp, by simpa using h⟩
theorem ans_one {d : PyData} : Ans nm [(d, 5)] [] ↔ IsW nm d := by
  unfold Ans IsW
  simp
theorem ans_bad {st : List (PyData × Nat)} {p : PyData × Nat} {seen : List PyData} (h : form nm p.2 p.1 = false) : ¬ Ans nm (st ++ [p]) seen := fun a => by
  have := a.1 p (by simp)
  rw [h] at this
  cases this
theorem ans_zero {st : List (PyData × Nat)} {d : PyData} {seen : List PyData} : ¬ Ans nm (st ++ [(d, 0)]) seen := ans_bad nm rfl
theorem ans_seen {st : List (PyData × Nat)} {n : PyData} {ps : List PyData} {k : Nat} {seen : List PyData} (h : n ∈ seen) : ¬ Ans nm (st ++ [(.tuple [n, .tuple ps], k + 1)]) seen := fun a => by
  have q := a.2
  rw [List.nodup_append] at q
  refine q.2.2 n h n ?_ rfl
  rw [List.mem_flatMap]
  exact ⟨(.tuple [n, .tuple ps], k + 1), by simp, by simp [names]⟩
theorem ans_step {st : List (PyData × Nat)} {n : PyData} {ps : List PyData} {k : Nat} {seen : List PyData} (hn : nm n = true) :
    Ans nm (st ++ [(.tuple [n, .tuple ps], k + 1)]) seen ↔ Ans nm (st ++ ps.map fun q => (q, k)) (seen ++ [n]) := by
  unfold Ans
  constructor
  · rintro ⟨a, b⟩
    constructor
    · intro p hp
      rcases List.mem_append.mp hp with z | z
      · exact a p (List.mem_append_left _ z)
      · obtain ⟨q, hq, rfl⟩ := List.mem_map.mp z
        have := a (.tuple [n, .tuple ps], k + 1) (by simp)
        simp only [form, hn, Bool.true_and, List.all_eq_true] at this
        exact this q hq
    · refine (List.Perm.nodup_iff ?_).mp b
      simp only [List.flatMap_append, List.flatMap_cons, List.flatMap_nil, names, List.append_nil, List.flatMap_map, List.append_assoc]
      refine List.Perm.append_left _ ?_
      show (_ ++ n :: _).Perm ([n] ++ _)
      exact List.perm_middle
  · rintro ⟨a, b⟩
    constructor
    · intro p hp
      rcases List.mem_append.mp hp with z | z
      · exact a p (List.mem_append_left _ z)
      · rw [List.mem_singleton.mp z]
        simp only [form, hn, Bool.true_and, List.all_eq_true]
        intro q hq
        exact a (q, k) (List.mem_append_right _ (List.mem_map.mpr ⟨q, hq, rfl⟩))
    · refine (List.Perm.nodup_iff ?_).mpr b
      simp only [List.flatMap_append, List.flatMap_cons, List.flatMap_nil, names, List.append_nil, List.flatMap_map, List.append_assoc]
      refine List.Perm.append_left _ ?_
      show (_ ++ n :: _).Perm ([n] ++ _)
      exact List.perm_middle
end
end W37
set_option Elab.async false
set_option linter.all false
set_option maxRecDepth 100000
set_option maxHeartbeats 4000000
set_option pp.maxSteps 400
set_option pp.deepTerms false
namespace Xt
open PySem PySem.Spec PyProof.Rows L2
open AutoSeq1 (wpAny_loadPart')
theorem meets_enumerate_newT (l : Addr) (items : Array Value) (n : Nat) (dct : Option Addr) (sl : Array (Option Value)) :
    Meets (Builtin.«enumerate.__new__» ⟨[.type "enumerate", .ref l], []⟩) (fun _ R s => s.heap.get? l = some { cls := .type "tuple", dict := dct, data := .seq items n, slots := sl } ∧
      R (.ok (.ret (.ref (s.heap.push { cls := .type "tuple_iterator", data := .fields #[.ref l, .int 0 0] }).objs.size)))
        { s with heap := (s.heap.push { cls := .type "tuple_iterator", data := .fields #[.ref l, .int 0 0] }).push { cls := .type "enumerate", data := .fields #[.none, .bool false, .ref s.heap.objs.size, rawInt 0, .none, .none] } }) :=
  .of_wp fun prog w A R s h => by
    obtain ⟨hp, g, d, tk, os⟩ := s; obtain ⟨hl, h⟩ := h
    have hsub := sub_enumerate
    have hL : Heap.IsTuple (Shared.heap ⟨hp, g, d, tk, os⟩) l items := ⟨_, hl, rfl, n, rfl⟩
    wp_walk using wpAny_loadPart' hl
    refine wpAny_stack_any fun st => wpAny_pure ?_
    split
    · rename_i c _ _ _ _ _
      cases (c == Value.type "enumerate")
      · wp_walk using wpAny_loadPart' hl, wpAny_pyIter_tuple hL
        exact ⟨_, rfl, h⟩
      · wp_walk using wpAny_loadPart' hl, wpAny_pyIter_tuple hL
        exact ⟨_, rfl, h⟩
    · wp_walk using wpAny_loadPart' hl, wpAny_pyIter_tuple hL
      exact ⟨_, rfl, h⟩
section
variable {prog : Program} {w : World} {A : Around} {E : Value → Shared → Prop} {s : Shared}
theorem call_enumerate_tuple {l : Addr} {items : Array Value} {Q : Value → Shared → Prop} (hL : s.heap.IsTuple l items)
    (h : ∀ h', IsEnum h' (s.heap.objs.size + 1) s.heap.objs.size 0 .none → h'.IsTupleIter s.heap.objs.size l 0 → h'.objs.size = s.heap.objs.size + 2 →
      (∀ b o, s.heap.get? b = some o → h'.get? b = some o) → Q (.ref (s.heap.objs.size + 1)) { s with heap := h' }) :
    wpAny (model prog w) A (call (.type "enumerate") [.ref l]) Q E s := by
  obtain ⟨⟨c, dct, dt, sl⟩, hl, hc, n, hd⟩ := hL
  replace hc : c = .type "tuple" := hc
  replace hd : dt = .seq items n := hd
  subst hc hd
  refine callType_new F.called_enumerate (by decide) (F.typeCall_enumerate_1 _) (F.newCall_enumerate_1 _) (fun obj => F.args_object_init_2 obj _) F.entry_enumerate_new
    (meets_enumerate_newT l items n dct sl) ⟨hl, ?_⟩
  have hz : (s.heap.push { cls := .type "tuple_iterator", data := .fields #[.ref l, .int 0 0] }).objs.size = s.heap.objs.size + 1 := Heap.size_push ..
  show _ ∧ _
  rw [hz]
  have he : IsEnum ((s.heap.push { cls := .type "tuple_iterator", data := .fields #[.ref l, .int 0 0] }).push
      { cls := .type "enumerate", data := .fields #[.none, .bool false, .ref s.heap.objs.size, rawInt 0, .none, .none] }) (s.heap.objs.size + 1) s.heap.objs.size 0 .none := by
    have := Heap.get?_push_size (s.heap.push { cls := .type "tuple_iterator", data := .fields #[.ref l, .int 0 0] })
      (o := { cls := .type "enumerate", data := .fields #[.none, .bool false, .ref s.heap.objs.size, rawInt 0, .none, .none] }) rfl
    rw [hz] at this; exact this
  refine ⟨⟨_, he, rfl⟩, h _ he ⟨_, Heap.get?_push_of_some _ (Heap.get?_push_size _ rfl), rfl, rfl⟩ (by rw [Heap.size_push, hz]) fun b o x => Heap.get?_push_of_some _ (Heap.get?_push_of_some _ x)⟩
end
/-- the tuple at a, each item in a new pair with its number -/
def IteT (K : PySem.W.Frag) (a : Addr) : It :=
  ⟨fun i H => ∃ (xs : List V) (x : V), SqT K H a xs ∧ xs[i]? = some x, fun i H v H' => ∃ T x, v = .ref T ∧ H T = none ∧ H' = upd H T (.tup [.int (i : Nat), x]) ∧ ∀ xs, SqT K H a xs → xs[i]? = some x, fun i H => ∃ xs : List V, SqT K H a xs ∧ xs.length = i⟩
theorem turn_enumT {P : Program} {w : World} {K : PySem.W.Frag} {elts : List Expr} {kk : Nat} {tpos : Pos} (a e it : Addr) (hae : a ≠ e) (hai : a ≠ it) :
    Turn P w K (.Tuple elts kk tpos) (IteT K a) [e, it] e (fun i h => (∃ old, IsEnum h e it ((i : Nat) : Int) old) ∧ h.IsTupleIter it a i ∧ e ≠ it) where
  mem := by simp
  obj := fun i h st b hb => by
    obtain ⟨⟨old, he⟩, ⟨o, ho, hc, hd⟩, _⟩ := st
    have e' : b = e ∨ b = it := by simpa using hb
    rcases e' with z | z
    · rw [z]; exact ⟨_, he, fun v q => nomatch q⟩
    · rw [z]; exact ⟨o, ho, fun v q => by rw [hd] at q; cases q⟩
  keep := fun i h h' st k => let ⟨⟨old, he⟩, hi, hne⟩ := st; ⟨⟨old, k e (by simp) _ he⟩, hi.at fun o q => k it (by simp) o q, hne⟩
  item := by
    intro X hP hw hK hc i pins s σ H E I hf st hg
    subst hP hw hK
    obtain ⟨⟨old, he⟩, hit, hne⟩ := st
    obtain ⟨xs, x, hq, hx⟩ := hg
    obtain ⟨its, rv, p, hz⟩ := I.tuple hq
    obtain ⟨u, hu, ru⟩ := rv.get hx
    have hel : e < s.heap.objs.size := Heap.lt_size he
    have hil : it < s.heap.objs.size := by obtain ⟨_, q, _⟩ := hit; exact Heap.lt_size q
    have hu' : its.toArray[i]? = some u := by simpa using hu
    have hi : i < its.toArray.size := by
      rcases Nat.lt_or_ge i its.toArray.size with h | h
      · exact h
      · rw [Array.getElem?_eq_none h] at hu'; cases hu'
    refine wpAny_pyNext_enum_itemD (Draws.tuple (A := X.A.in1) (I.ok.hd hc) it a hai its.toArray) he ⟨hit, p⟩ hi hne (by simp [Ne.symm hne]; exact ⟨hne, Ne.symm hae⟩) fun y h' tk hy ho hst' hT hsz hk => ?_
    obtain rfl : u = y := by rw [hu'] at hy; cases hy; rfl
    refine ⟨_, rfl, wpAny_letOwnedTupleGo_enum (s := { s with heap := h', toks := tk + 1 }) ho fun h'' he' sb => ?_⟩
    have hT2 : h''.get? s.heap.objs.size = some { cls := .type "tuple", data := .seq #[.int i tk, u] } := (sb.2 _ (Nat.ne_of_gt hel)).trans hT
    have new : ObjOk X.prog X.w (upd H s.heap.objs.size (.tup [.int (i : Nat), x])) h'' s.heap.objs.size (.tup [.int (i : Nat), x]) :=
      ⟨by show 2 ≤ sizeLine; decide, [.int i tk, u], .cons ⟨_, rfl⟩ (.cons ru .nil), ⟨_, hT2, rfl, _, rfl⟩⟩
    have I1 : Inv X pins σ (upd H s.heap.objs.size (.tup [.int (i : Nat), x])) { s with heap := h'', toks := tk + 1 } :=
      I.turnedNew (ch := [e, it]) (fun b ob hb q => (sb.2 b (fun z => hb (by simp [z]))).trans (hk b ob (fun z => hb (by simp [z])) (fun z => hb (by simp [z])) q)) hf (Nat.le_refl _) new
    refine ⟨.ref s.heap.objs.size, _, I1, rfl, ⟨_, x, rfl, I.hok.fresh (Nat.le_refl _), rfl, fun ys hy => by rw [I.tuple_inj hy hq]; exact hx⟩, ⟨⟨u, ?_⟩, hst'.1.at fun o q => (sb.2 it (Ne.symm hne)).trans q, hne⟩, fun b hb => ?_⟩
    · have e1 : ((i + 1 : Nat) : Int) = (i : Int) + 1 := by omega
      rw [e1]; exact he'
    · have hb' : b < s.heap.objs.size := by
        have e' : b = e ∨ b = it := by simpa using hb
        rcases e' with z | z
        · rw [z]; exact hel
        · rw [z]; exact hil
      rw [upd_ne (Nat.ne_of_lt hb')]
      exact (hf b hb).1
  done := by
    intro X hP hw hK hc i pins s σ H E I hf st hg
    subst hP hw hK
    obtain ⟨⟨old, he⟩, hit, hne⟩ := st
    obtain ⟨xs, hq, hx⟩ := hg
    obtain ⟨its, rv, p, hz⟩ := I.tuple hq
    obtain ⟨f0, f1, f2, f3, f4, f5⟩ := hf it (by simp)
    have hl := rv.length
    have en : its.toArray.size = i := by simp; omega
    exact wpAny_pyNext_enum_endD (Draws.tuple (A := X.A.in1) (I.ok.hd hc) it a hai its.toArray) he (by rw [en]; exact ⟨hit, p⟩) fun h' eb => ⟨rfl, I.turned (t' := s.toks) (fun b o hb q => eb b o hb q) f0 f1 f3 f4 f5⟩
  self := fun A i s Q E st h => let ⟨⟨_, he⟩, _⟩ := st; wpAny_pyIter_enum he h
def iEnumT (K : PySem.W.Frag) (ta : TA) : TI := fun σ H R => ta σ H fun vs H1 => ∃ a xs, vs = [.ref a] ∧ SqT K H1 a xs ∧ R (IteT K a) H1
theorem pi_enumT {X : Cx} {e : Expr} {ta : TA} {p pos tpos : Pos} {elts : List Expr} {kk : Nat} (hg : Gl X "enumerate") (hm : X.mg "enumerate" = none) (ha : PA X [e] ta) (hs : starEach [e] X.env = [(false, eval e X.env)] := by rfl) :
    PI X (.Tuple elts kk tpos) (.Call (.Name "enumerate" p) [e] [] pos) (iEnumT X.K ta) := by
  refine ⟨fun pins s σ H R I h => ?_⟩
  refine Call_ (ld_blt I hg hm boot_enumerate (PyProof.Rows.callWith_type1 (thn (ha.run pos pins s σ H _ I h) fun us s1 ⟨vs, H1, I1, r1, q1⟩ => ?_) hs rfl))
  obtain ⟨a, xs, ex, hq, q⟩ := q1
  subst ex
  cases r1 with
  | cons r rr =>
    cases rr
    cases r
    obtain ⟨its, rv, p', hz⟩ := I1.tuple hq
    have hal : a < s1.heap.objs.size := by obtain ⟨_, z, _⟩ := p'; exact Heap.lt_size z
    refine call_enumerate_tuple p' fun h' he hit hsz hk => wpAny_pyIter_enum he ?_
    have I2 : Inv X pins σ H1 { s1 with heap := h' } := I1.kept (t' := s1.toks) hk
    refine ⟨s1.heap.objs.size + 1, [s1.heap.objs.size + 1, s1.heap.objs.size], _, _, H1, rfl, I2, turn_enumT a (s1.heap.objs.size + 1) s1.heap.objs.size (Nat.ne_of_lt (Nat.lt_succ_of_lt hal)) (Nat.ne_of_lt hal), ⟨⟨.none, he⟩, hit, Nat.succ_ne_self _⟩, fun b hb => ?_, q⟩
    have e' : b = s1.heap.objs.size + 1 ∨ b = s1.heap.objs.size := by simpa using hb
    have hle : s1.heap.objs.size ≤ b := by
      rcases e' with z | z
      · rw [z]; exact Nat.le_add_right _ _
      · rw [z]; exact Nat.le_refl _
    exact I1.fpOk hle (I1.hok.fresh hle)
theorem walk_enumT {K : PySem.W.Frag} {a : Addr} {xs : List V} : Walk (IteT K a) xs.length (fun H => SqT K H a xs) (YPair (fun i => some (.int (i : Nat))) (fun i => xs[i]?)) := by
  refine ⟨fun i _ hi q => ⟨xs, xs[i], q, by simp [hi]⟩, fun _ q => ⟨xs, q, rfl⟩, fun i H v H' _ q y => ?_⟩
  obtain ⟨T, x, h1, h2, h3, h4⟩ := y
  exact ⟨T, .int (i : Nat), x, h1, h2, h3, rfl, h4 xs q⟩
end Xt
set_option Elab.async false
set_option linter.all false
set_option maxRecDepth 100000
set_option maxHeartbeats 4000000
set_option pp.maxSteps 400
set_option pp.deepTerms false
/-! zip(a list, a tuple) of one length; a list != [] -/
namespace Xt
open PySem PySem.Spec PyProof.Rows L2
def ItzLT (K : PySem.W.Frag) (a b : Addr) : It :=
  ⟨fun i H => ∃ (xs ys : List V) (x y : V), SqL K H a xs ∧ SqT K H b ys ∧ xs[i]? = some x ∧ ys[i]? = some y,
    fun i H v H' => ∃ T x y, v = .ref T ∧ H T = none ∧ H' = upd H T (.tup [x, y]) ∧ (∀ xs, SqL K H a xs → xs[i]? = some x) ∧ ∀ ys, SqT K H b ys → ys[i]? = some y,
    fun i H => ∃ xs ys : List V, SqL K H a xs ∧ SqT K H b ys ∧ xs.length = i ∧ ys.length = i⟩
theorem turn_zipLT {P : Program} {w : World} {K : PySem.W.Frag} {elts : List Expr} {kk : Nat} {tpos : Pos} {a b z TI TO i1 i2 : Addr} (D : ZipSep2 z TI TO i1 i2 [i1, a] [i2, b]) (n1 : a ≠ i1) (n2 : b ≠ i2) :
    Turn P w K (.Tuple elts kk tpos) (ItzLT K a b) [z, TI, TO, i1, i2] z (fun i h => IsZip h z TI TO .none ∧ IsTupOf2 h TI (.ref i1) (.ref i2) ∧ (∃ x y, IsTupOf2 h TO x y) ∧ h.IsListIter i1 a i ∧ h.IsTupleIter i2 b i) where
  mem := by simp
  obj := fun i h ⟨h1, h2, ⟨x, y, h3⟩, ⟨o1, e1, _, d1⟩, ⟨o2, e2, _, d2⟩⟩ c hc => by
    simp only [List.mem_cons, List.not_mem_nil, or_false] at hc
    rcases hc with rfl | rfl | rfl | rfl | rfl
    · exact ⟨_, h1, fun _ q => nomatch q⟩
    · exact ⟨_, h2, fun _ q => nomatch q⟩
    · exact ⟨_, h3, fun _ q => nomatch q⟩
    · exact ⟨o1, e1, fun _ q => by rw [d1] at q; cases q⟩
    · exact ⟨o2, e2, fun _ q => by rw [d2] at q; cases q⟩
  keep := fun i h h' ⟨h1, h2, ⟨x, y, h3⟩, h4, h5⟩ k => ⟨k z (by simp) _ h1, k TI (by simp) _ h2, ⟨x, y, k TO (by simp) _ h3⟩, h4.at fun o q => k i1 (by simp) o q, h5.at fun o q => k i2 (by simp) o q⟩
  item := by
    intro X hP hw hK hc i pins s σ H E I hf st hg
    subst hP hw hK
    obtain ⟨hz, hTI, ⟨x0, y0, hTO⟩, t1, t2⟩ := st
    obtain ⟨xs, ys, x, y, hqx, hqy, hx, hy⟩ := hg
    obtain ⟨us, r1, p1, _⟩ := I.list hqx
    obtain ⟨ws, r2, p2, _⟩ := I.tuple hqy
    obtain ⟨u, hu, ru⟩ := r1.get hx
    obtain ⟨v, hv, rv⟩ := r2.get hy
    have l1 : i < us.toArray.size := by simpa using (List.getElem?_eq_some_iff.mp hu).1
    have l2 : i < ws.toArray.size := by simpa using (List.getElem?_eq_some_iff.mp hv).1
    have nh := I.ok.hd hc
    have zl : z < s.heap.objs.size := Heap.lt_size hz
    refine wpAny_pyNext_zipD2_item D (Draws.list (A := X.A.in1) nh i1 a n1 us.toArray) (Draws.tuple (A := X.A.in1) nh i2 b n2 ws.toArray) hz hTI hTO ⟨t1, p1.isList⟩ ⟨t2, p2⟩ l1 l2 fun u' v' h' tk eu ev z' TO' s1 s2 hT hsz hk => ?_
    obtain rfl : u = u' := by
      have : us.toArray[i]? = some u := by simpa using hu
      rw [this] at eu; cases eu; rfl
    obtain rfl : v = v' := by
      have : ws.toArray[i]? = some v := by simpa using hv
      rw [this] at ev; cases ev; rfl
    refine ⟨_, rfl, wpAny_letOwnedTupleGo_zip (s := { s with heap := h', toks := tk }) z' fun h'' z'' sb => ?_⟩
    have hT2 : h''.get? s.heap.objs.size = some { cls := .type "tuple", data := .seq #[u, v] } := (sb.2 _ (Nat.ne_of_gt zl)).trans hT
    have I1 : Inv X pins σ (upd H s.heap.objs.size (.tup [x, y])) { s with heap := h'', toks := tk } :=
      I.turnedNew (ch := [z, TI, TO, i1, i2]) (fun c o hb q => (sb.2 c (fun e => hb (by simp [e]))).trans (hk c o (fun e => hb (by simp [e])) (fun e => hb (by simp [e])) (fun e => hb (by simp [e])) (fun e => hb (by simp [e])) q)) hf (Nat.le_refl _)
        ⟨by show 2 ≤ sizeLine; decide, [u, v], .cons ru (.cons rv .nil), ⟨_, hT2, rfl, _, rfl⟩⟩
    refine ⟨.ref s.heap.objs.size, _, I1, rfl, ⟨_, x, y, rfl, I.hok.fresh (Nat.le_refl _), rfl, fun l hl => by rw [I.list_inj hl hqx]; exact hx, fun l hl => by rw [I.tuple_inj hl hqy]; exact hy⟩,
      ⟨z'', (sb.2 _ D.TIz).trans (hk _ _ D.TIz D.TITO D.TIi1 D.TIi2 hTI), ⟨u, v, (sb.2 _ D.TOz).trans TO'⟩, s1.1.at fun o q => (sb.2 _ (Ne.symm D.zi1)).trans q, s2.1.at fun o q => (sb.2 _ (Ne.symm D.zi2)).trans q⟩, fun c hcm => ?_⟩
    have lt : c < s.heap.objs.size := by
      have hcm' := hcm
      simp only [List.mem_cons, List.not_mem_nil, or_false] at hcm'
      rcases hcm' with rfl | rfl | rfl | rfl | rfl
      · exact zl
      · exact Heap.lt_size hTI
      · exact Heap.lt_size hTO
      · exact Heap.lt_size t1.choose_spec.1
      · exact Heap.lt_size t2.choose_spec.1
    rw [upd_ne (Nat.ne_of_lt lt)]
    exact (hf c hcm).1
  done := by
    intro X hP hw hK hc i pins s σ H E I hf st hg
    subst hP hw hK
    obtain ⟨hz, hTI, ⟨x0, y0, hTO⟩, t1, t2⟩ := st
    obtain ⟨xs, ys, hqx, hqy, lx, ly⟩ := hg
    obtain ⟨us, r1, p1, _⟩ := I.list hqx
    obtain ⟨ws, r2, p2, _⟩ := I.tuple hqy
    have e1 : us.toArray.size = i := by rw [List.size_toArray, ← r1.length]; exact lx
    have e2 : ws.toArray.size = i := by rw [List.size_toArray, ← r2.length]; exact ly
    have nh := I.ok.hd hc
    exact wpAny_pyNext_zipD2_end D (Draws.list (A := X.A.in1) nh i1 a n1 us.toArray) (Draws.tuple (A := X.A.in1) nh i2 b n2 ws.toArray) hz hTI hTO ⟨t1, p1.isList⟩ ⟨t2, p2⟩ (by omega) (by omega) (.inl e1.symm) fun h' tk hk =>
      ⟨rfl, I.turnedL (t' := tk) (ch := [z, TI, TO, i1, i2]) (fun c o hb q => hk c o (fun e => hb (by simp [e])) (fun e => hb (by simp [e])) (fun e => hb (by simp [e])) (fun e => hb (by simp [e])) q) hf⟩
  self := fun A i s Q E st h => wpAny_pyIter_zip st.1 h
def iZipLT (K : PySem.W.Frag) (ta : TA) : TI := fun σ H R => ta σ H fun vs H1 => ∃ a b xs ys, vs = [.ref a, .ref b] ∧ SqL K H1 a xs ∧ SqT K H1 b ys ∧ R (ItzLT K a b) H1
theorem pi_zipLT {X : Cx} {e e2 : Expr} {ta : TA} {p pos tpos : Pos} {elts : List Expr} {kk : Nat} (hg : Gl X "zip") (hm : X.mg "zip" = none) (ha : PA X [e, e2] ta)
    (hs : starEach [e, e2] X.env = (false, eval e X.env) :: starEach [e2] X.env := by rfl) (hpl : (backTo pos (starEach [e2] X.env)).any (·.1) = false := by rfl) :
    PI X (.Tuple elts kk tpos) (.Call (.Name "zip" p) [e, e2] [] pos) (iZipLT X.K ta) := by
  refine ⟨fun pins s σ H R I h => ?_⟩
  refine Call_ (ld_blt I hg hm PyProof.Rows.boot_zip (PyProof.Rows.callWith_type1 (thn (ha.run pos pins s σ H _ I h) fun us s1 ⟨vs, H1, I1, r1, q1⟩ => ?go) hs hpl))
  case go =>
    obtain ⟨a, b, xs, ys, rfl, hqx, hqy, q⟩ := q1
    cases r1 with
    | cons r rr =>
      cases rr with
      | cons r' rr =>
        cases rr; cases r; cases r'
        obtain ⟨us, v1, p1, _⟩ := I1.list hqx
        obtain ⟨ws, v2, p2, _⟩ := I1.tuple hqy
        have la : a < s1.heap.objs.size := p1.lt
        have lb : b < s1.heap.objs.size := by obtain ⟨o, ho, _⟩ := id p2; exact Heap.lt_size ho
        refine zip_begins2 (begins_list a us.toArray) (begins_tuple b ws.toArray) p1.isList p2 fun h' hz hTI hTO h1 h2 _ hk => wpAny_pyIter_zip hz ?_
        have I2 : Inv X pins σ H1 { s1 with heap := h' } := I1.kept (t' := s1.toks) hk
        refine ⟨s1.heap.objs.size + 4, [s1.heap.objs.size + 4, s1.heap.objs.size + 2, s1.heap.objs.size + 3, s1.heap.objs.size, s1.heap.objs.size + 1], _, _, H1, rfl, I2,
          turn_zipLT (zip_sep2 (N := s1.heap.objs.size) (fp1 := [a]) (fp2 := [b]) (fun c hc => by rw [List.mem_singleton.mp hc]; exact la) (fun c hc => by rw [List.mem_singleton.mp hc]; exact lb)) (Nat.ne_of_lt la) (Nat.ne_of_lt (Nat.lt_succ_of_lt lb)),
          ⟨hz, hTI, ⟨_, _, hTO⟩, ⟨_, h1, rfl, rfl⟩, ⟨_, h2, rfl, rfl⟩⟩, fun c hc => ?_, q⟩
        have le : s1.heap.objs.size ≤ c := by
          simp only [List.mem_cons, List.not_mem_nil, or_false] at hc
          rcases hc with rfl | rfl | rfl | rfl | rfl
          · exact Nat.le_add_right _ _
          · exact Nat.le_add_right _ _
          · exact Nat.le_add_right _ _
          · exact Nat.le_refl _
          · exact Nat.le_add_right _ _
        exact I1.fpOk le (I1.hok.fresh le)
theorem walk_zipLT {K : PySem.W.Frag} {a b : Addr} {xs ys : List V} (e : xs.length = ys.length) : Walk (ItzLT K a b) xs.length (fun H => SqL K H a xs ∧ SqT K H b ys) (YPair (fun i => xs[i]?) (fun i => ys[i]?)) := by
  refine ⟨fun i H hi q => ⟨xs, ys, xs[i], ys[i]'(by omega), q.1, q.2, List.getElem?_eq_getElem hi, List.getElem?_eq_getElem (by omega)⟩, fun H q => ⟨xs, ys, q.1, q.2, rfl, e.symm⟩, fun i H v H' hi q y => ?_⟩
  obtain ⟨T, x, z, h1, h2, h3, h4, h5⟩ := y
  exact ⟨T, x, z, h1, h2, h3, h4 xs q.1, h5 ys q.2⟩
/-- a list of any things != [] -/
theorem op_neL0 {X : Cx} (hu : X.A.units + 64 < cLine) : OpR X (compareOp .NotEq) (fun x y H Q => ∃ a b xs, x = .ref a ∧ y = .ref b ∧ H a = some (.lst xs) ∧ H b = some (.lst []) ∧ Q (.bl (!xs.isEmpty)) H) := by
  intro pins s σ H x y v u Q I rx ry h
  obtain ⟨a, b, xs, rfl, rfl, ea, eb, q⟩ := h
  cases rx; cases ry
  obtain ⟨its, r1, p1, _⟩ := I.list (SqL.of ea)
  obtain ⟨its2, r2, p2, _⟩ := I.list (SqL.of eb)
  cases r2
  have l := r1.length
  cases xs with
  | nil =>
    cases r1
    exact (PySem.SeqAt.RcNeAt.lists (e := fun _ => true) p1.isList p2.isList rfl (by omega) (fun j h1 _ => absurd h1 (by simp))) _ _ _ _ ⟨.bl false, H, I, rfl, q⟩
  | cons x r =>
    refine (PySem.SeqAt.RcNeAt.lists_lengths p1.isList p2.isList ?_ (by omega)) _ _ _ _ ⟨.bl true, H, I, rfl, q⟩
    rw [List.size_toArray, ← l]
    simp
end Xt
set_option Elab.async false
set_option linter.all false
set_option maxRecDepth 100000
set_option maxHeartbeats 4000000
set_option pp.maxSteps 400
set_option pp.deepTerms false
/-! Tuples cut, put together, turned about, as lists, whatever the cases; a sign many times. -/
namespace Xtu
open PySem PySem.Spec PyProof.Rows L2
theorem same_upd {H : Hp} {p : Addr} {o : HO} (h : H p = none) : Same H (upd H p o) := fun b x e => by
  rw [upd_ne (ne_of_none e h)]
  exact e
section
variable {X : Cx}
def rSlU : V → Option Int → Option Int → Hp → VK → Prop := fun x lo hi H Q => ∃ a xs, x = .ref a ∧ H a = some (.tup xs) ∧ ∀ p H', L2.Same H H' → H' p = some (.tup (cutV xs lo hi)) → Q (.ref p) H'
theorem sl_tupU : SlR X rSlU := by
  intro pins s σ H x v vl vu lo hi sl Q I rx hs pl pu h
  obtain ⟨a, xs, rfl, e, q⟩ := h
  refine sl_tupA pins s σ H _ v vl vu lo hi sl Q I rx hs pl pu ⟨a, xs, rfl, SqT.of e, fun w => q a H (Same.refl H) ?_, fun _ p np => q p _ (same_upd np) upd_same⟩
  rw [e]
  unfold cutV
  rw [w.1, w.2, List.drop_zero, Nat.sub_zero, List.take_length]
def rCatU : R2 := fun x y H Q => ∃ a b xs ys, x = .ref a ∧ y = .ref b ∧ H a = some (.tup xs) ∧ H b = some (.tup ys) ∧ xs.length + ys.length ≤ sizeLine ∧ ∀ p H', L2.Same H H' → H' p = some (.tup (xs ++ ys)) → Q (.ref p) H'
theorem op_catU : OpR X (binaryOp .Add) rCatU := by
  intro pins s σ H x y v u Q I rx ry h
  obtain ⟨a, b, xs, ys, rfl, rfl, ea, eb, hz, q⟩ := h
  refine op_catA pins s σ H _ _ v u Q I rx ry ⟨a, b, xs, ys, rfl, rfl, SqT.of ea, SqT.of eb, hz, fun z => q b H (Same.refl H) ?_, fun _ z => q a H (Same.refl H) ?_, fun _ _ p np => q p _ (same_upd np) upd_same⟩
  · rw [z]; exact eb
  · rw [z, List.append_nil]; exact ea
end
section
variable {prog : Program} {w : World} {A : Around} {E : Value → Shared → Prop} {s : Shared}
theorem turnN {sl : Addr} {u : Tok} {n : Nat} {Q : Int × Int × Nat → Shared → Prop} (hs : s.heap.IsSliceOf sl .none .none (.int (-1) u)) (h : Q ((n : Int) - 1, -1, n) s) : wpAny (model prog w) A (Builtin.Slice.sliceApplied (.ref sl) (pure (n : Int))) Q E s := by
  obtain ⟨os, a1, a2, a3⟩ := id hs
  unfold Builtin.Slice.sliceApplied Builtin.Slice.sliceFields
  refine wpAny_bind (wpAny_bind (wpAny_field a1 a3 (x := .none) rfl (wpAny_bind (wpAny_field a1 a3 (x := .none) rfl (wpAny_bind (wpAny_field a1 a3 (x := .int (-1) u) rfl (wpAny_pure ?_)))))))
  refine wpAny_bind (slicePart_int ?_)
  show wpAny _ _ (if ((-1 : Int) == 0) = true then _ else _) _ _ s
  rw [if_neg (by decide)]
  have pl : Builtin.Slice.slicePlaces ((n : Int) - 1) (-1) (-1) = n := by
    unfold Builtin.Slice.slicePlaces
    have h1 : ¬ ((-1 : Int) > 0) := by decide
    simp only [h1, if_false, show (- -1 : Int) = 1 by decide, Int.ediv_one]
    split <;> omega
  refine wpAny_bind (slicePart_none (wpAny_bind (slicePart_none (wpAny_bind (wpAny_pure ?_)))))
  show wpAny _ _ (pure ((n : Int) - 1, (-1 : Int), Builtin.Slice.slicePlaces ((n : Int) - 1) (-1) (-1))) _ _ s
  rw [pl]
  exact wpAny_pure h
theorem fm_congr {α β : Type} {f g : α → Option β} : ∀ l : List α, (∀ m ∈ l, f m = g m) → l.filterMap f = l.filterMap g
  | [], _ => rfl
  | a :: r, h => by
    rw [List.filterMap_cons, List.filterMap_cons, h a List.mem_cons_self, fm_congr r fun m hm => h m (List.mem_cons_of_mem _ hm)]
theorem turn_all (xs : Array Value) : ((List.range xs.size).filterMap fun (m : Nat) => xs[((xs.size : Int) - 1 + (m : Int) * -1).toNat]?).toArray = xs.toList.reverse.toArray := by
  have e : ((List.range xs.size).filterMap fun (m : Nat) => xs[((xs.size : Int) - 1 + (m : Int) * -1).toNat]?) = ((List.range xs.size).map fun k => xs.size - 1 - k).filterMap (xs[·]?) := by
    rw [List.filterMap_map]
    refine fm_congr _ fun m hm => ?_
    have := List.mem_range.mp hm
    show xs[((xs.size : Int) - 1 + (m : Int) * -1).toNat]? = xs[xs.size - 1 - m]?
    congr 1
    omega
  rw [e, PySem.W.krv_range, List.filterMap_reverse, PySem.W.krv_all]
theorem itemN {t sl : Addr} {items : Array Value} {u : Tok} {Q : Value → Shared → Prop} (ht : IsTup s.heap t items) (hs : s.heap.IsSliceOf sl .none .none (.int (-1) u)) (hz : items.size ≤ sizeLine)
    (h : Q (.ref s.heap.objs.size) { s with heap := s.heap.push { cls := .type "tuple", data := .seq items.toList.reverse.toArray } }) : wpAny (model prog w) A (getItem (.ref t) (.ref sl)) Q E s := by
  have fits : sizeOk (.seq items.toList.reverse.toArray) := by
    show items.toList.reverse.toArray.size ≤ sizeLine
    rw [List.size_toArray, List.length_reverse, Array.length_toList]
    exact hz
  obtain ⟨os, a1, a2, a3⟩ := id hs
  have ty : s.TypeIs (.ref sl) "slice" := ⟨os, a1, a2⟩
  unfold getItem; try with_reducible refine wpAny_holding ?_
  (first | refine wpAny_bind (wpAny_pure ?_) | skip); refine wpAny_bind (wpAny_sequenceKey ht.typeIs (by decide) ?_)
  refine wpAny_bind (wpAny_callSpecial?_slot (name := Str.ofString "__getitem__") ht.typeIs PyProof.Rows.slot_tuple_getitem (wpAny_call_entry PyProof.Rows.slot_tuple_getitem ht.typeIs entry_tuple_getitem ?_ (args_tuple_getitem _ _)))
  show wpAny _ _ (Builtin.Tuple.tupleItemsOf (.ref t) >>= _) _ _ s; refine wpAny_bind (tupleItemsOf_ ht ?_)
  refine wpAny_bind (wpAny_typeOf ty ?_); rw [if_pos (by decide)]
  refine wpAny_bind (turnN hs ?_)
  show wpAny _ _ (if (((items.size : Int) - 1) == 0 && (-1 : Int) == 1 && (items.size == items.size)) = true then _ else _) _ _ s
  rw [if_neg (by simp), turn_all]
  (first
    | exact wpAny_bind (m := Builtin.Tuple.tupleExact _) (wpAny_newObj_type (wpAny_pure ⟨_, rfl, wpAny_pure h⟩) fits)
    | exact wpAny_bind (m := Builtin.Tuple.tupleExact _) (wpAny_newObj_type (wpAny_bind (wpAny_pure (wpAny_pure ⟨_, rfl, wpAny_pure h⟩))) fits)
    | exact wpAny_bind (wpAny_bind (m := Builtin.Tuple.tupleExact _) (wpAny_newObj_type (wpAny_pure (wpAny_pure ⟨_, rfl, wpAny_pure h⟩)) fits)))
end
section
variable {X : Cx}
def tRevN (K : PySem.W.Frag) (te : TE) : TE := fun σ H Q => te σ H fun x H1 => ∃ (a : Addr) (xs : List V), x = .ref a ∧ H1 a = some (.tup xs) ∧ ∀ p H', L2.Same H1 H' → H' p = some (.tup xs.reverse) → Q (.ref p) H'
theorem pe_revN {e : Expr} {te : TE} {k : Nat} {p1 p2 p3 pos : Pos} (he : PE X e te) : PE X (.Subscript e (.Slice none none (some (.UnaryOp .USub (.Constant (.int 1) k p1) p2)) p3) pos) (tRevN X.K te) := by
  refine ⟨fun pins s σ H Q I h => Subscript_ (thn (he.run pins s σ H _ I h) fun v s1 ⟨x, H1, I1, r1, a, xs, ex, hx, q⟩ => ?_)⟩
  subst ex; cases r1
  have hst : PO X (some (.UnaryOp .USub (.Constant (.int 1) k p1) p2)) (tPart (tUn (rU fun i => .int (-i)) (tC (.int 1)))) := po_some (pe_un un_neg pe_int)
  refine wpAny_Slice (thn (po_none.run pins s1 σ H1 (fun o G => o = none ∧ G = H1) I1 ⟨rfl, rfl⟩) fun vl s2 ⟨l, G, I2, pl, el, e2⟩ => ?_)
  subst el e2
  refine thn (po_none.run pins s2 σ G (fun o G2 => o = none ∧ G2 = G) I2 ⟨rfl, rfl⟩) fun vu s3 ⟨u, G2, I3, pu, eu, e3⟩ => ?_
  subst eu e3
  refine thn (hst.run pins s3 σ G2 (fun o G3 => o = some (-1) ∧ G3 = G2) I3 ⟨1, rfl, -1, rfl, rfl, rfl⟩) fun vs s4 ⟨o, G3, I4, ps, eo, e4⟩ => ?_
  subst eo e4
  cases pl; cases pu
  cases ps with
  | int _ tk =>
  have I5 : Inv X pins σ G3 { s4 with heap := s4.heap.push { cls := .type "slice", data := .fields #[.none, .none, .int (-1) tk] } } := I4.kept (t' := s4.toks) fun b ob q => Heap.get?_push_of_some _ q
  obtain ⟨its, r, ht, hz⟩ := I5.tuple (SqT.of hx)
  have hlen := r.length
  show wpAny (model X.prog X.w) X.A (subscriptTail e (.Slice none none (some (.UnaryOp .USub (.Constant (.int 1) k p1) p2)) p3) (.ref a) (.ref s4.heap.objs.size)) (EP X pins σ Q) X.xe { s4 with heap := s4.heap.push { cls := .type "slice", data := .fields #[.none, .none, .int (-1) tk] } }
  refine tail_any (ops := [.ref a, .ref s4.heap.objs.size]) ht.typeIs PyProof.Rows.slot_tuple_getitem.lookup ?_ (by with_unfolding_all rfl)
  refine itemN ht (Heap.IsSliceOf.new _ _ _ _) (by rw [List.size_toArray]; omega) ?_
  have nw := I5.hok.fresh (Nat.le_refl _)
  refine ⟨.ref _, _, I5.laid (t' := s4.toks) (o := .tup xs.reverse) (fun b ob q => Heap.get?_push_of_some _ q) (Nat.le_refl _) ?_, rfl, q _ _ (same_upd nw) upd_same⟩
  exact ⟨by rw [List.length_reverse]; exact hz, _, r.reverse, IsTup.new _ _⟩
/-- a list of a tuple's things, new -/
theorem cr_listT : CallR X (.type "list") (fun xs H Q => ∃ p ys, xs = [.ref p] ∧ SqT X.K H p ys ∧ ∀ l, H l = none → l ≠ sysModules → Q (.ref l) (upd H l (.lst ys))) := by
  intro pins s σ H xs us Q I r h
  obtain ⟨p, ys, rfl, hq, q⟩ := h
  obtain ⟨u, rfl, rx⟩ := vals1 r; cases rx
  obtain ⟨its, r', ⟨o, ho, hc, n, hd⟩, hz⟩ := I.tuple hq
  have hlen := r'.length
  exact call_list_seq p (.inr rfl) ho hc hd (fun h' c' kp e => ⟨.ref s.heap.objs.size, _, I.laid (t' := s.toks) kp (Nat.le_refl _) (show ObjOk X.prog X.w _ h' _ (.lst ys) from ⟨hz, its, c', r', e⟩), rfl, q _ (I.hok.fresh (Nat.le_refl _)) (Nat.ne_of_gt I.big)⟩) (by simp only [List.size_toArray]; omega)
end
section
variable {X : Cx}
/-- "x" * 41 -/
theorem op_x41 : OpR X (binaryOp .Mult) (fun x y H Q => x = .str "x" ∧ y = .int 41 ∧ ∀ z : Str, z.length = 41 → (∀ c ∈ z.cps.toList, c = 120) → Q (.str z) H) := by
  intro pins s σ H x y v u Q I rx ry h
  obtain ⟨rfl, rfl, q⟩ := h
  obtain ⟨t, rfl⟩ := rx
  obtain ⟨t2, rfl⟩ := ry
  refine PySem.P.mul_str (by decide) (fun _ _ => by decide +kernel) (fun _ _ => by decide +kernel) ⟨by decide +kernel, .str ⟨(List.replicate 41 ("x" : Str).cps).foldl (· ++ ·) #[]⟩, H, I.tok _, ⟨_, rfl⟩, q _ (by decide +kernel) (by decide +kernel)⟩
end
end Xtu
set_option Elab.async false
set_option linter.all false
set_option maxRecDepth 100000
set_option maxHeartbeats 4000000
set_option pp.maxSteps 400
set_option pp.deepTerms false
namespace Xt
open PySem PySem.Spec PyProof.Rows L2 Az PySem.W
/-- *e ahead of other items, e a tuple -/
def tStar (K : PySem.W.Frag) (ta : TE) (tr : TA) : TA := fun σ H Q => ta σ H fun x H1 => ∃ a xs, x = .ref a ∧ SqT K H1 a xs ∧ tr σ H1 fun ys H2 => Q (xs ++ ys) H2
theorem pa_star {X : Cx} {e : Expr} {es : List Expr} {te : TE} {t : TA} {p : Pos} (ha : PE X e te) (hr : PA X es t) : PA X (.Starred e p :: es) (tStar X.K te t) := by
  refine ⟨fun pos pins s σ H Q I h => ?_⟩
  refine items_star (thn (ha.run pins s σ H _ I h) fun u s1 ⟨x, H1, I1, r1, a, xs, ex, hq, q⟩ => ?_)
  subst ex
  obtain rfl : u = Value.ref a := r1
  refine star_tup I1 hq fun us s2 I2 rv => ?_
  exact thn (hr.run pos pins s2 σ H1 _ I2 q) fun ws s3 ⟨ys, H2, I3, r2, q2⟩ => ⟨xs ++ ys, H2, I3, rv.append r2, q2⟩
section
variable {prog : Program} {w : World} {A : Around} {E : Value → Shared → Prop} {s : Shared}
/-- min(a, b), compared where a heap stands -/
theorem call_min_twoH {a b : Value} {Q : Value → Shared → Prop}
    (h : wpAny (model prog w) A.in1 (pyIter (.ref s.heap.objs.size)) (fun it s₂ => ∃ I fp wr G n P St H bt, it = .ref I ∧ WalksS prog w A.in1 I fp wr G n P St ∧ St 0 s₂ ∧ (∀ b ∈ fp, b < s₂.heap.objs.size) ∧ 0 < n ∧
      (∀ b o, H.get? b = some o → b ∉ wr) ∧ (∀ b o, H.get? b = some o → s₂.heap.get? b = some o) ∧ CmpIn prog w A.in1 .Lt H P bt ∧ ∀ v s', P (argBest bt (n - 1)) v → Moved wr G s₂ s' → Q v s') E
      { s with heap := s.heap.push { cls := .type "tuple", data := .seq #[a, b] } }) :
    wpAny (model prog w) A (call (.builtin "min") [a, b]) Q E s := by
  have hname : (toString "min" ++ toString ".loop" : String) = "min.loop" := by decide
  refine call_function_tree F.kind_min F.plain_min F.entry_min (F.args_min2 _ _) ?_
  show wpAny _ A.in1 (Builtin.Builtins.bindParams "min" ["key", "default"] 0 ⟨[], []⟩ >>= _) _ _ s
  refine wpAny_bind (wpAny_of_eq (show Builtin.Builtins.bindParams "min" ["key", "default"] 0 ⟨[], []⟩ = pure [none, none] from rfl) ?_)
  show wpAny _ A.in1 (newTuple [a, b] >>= _) _ _ s
  refine wpAny_bind (wpAny_newObj_type ?_)
  refine wpAny_bind (wpAny_mono h (fun it s₂ h₂ => ?_) fun _ _ e => e)
  obtain ⟨I, fp, wr, G, n, P, St, H, bt, rfl, W, hst, hfp, hn, hw, hkeep, hcmp, hQ⟩ := h₂
  refine wpAny_bind (wpAny_newObj_type ?_)
  have hSf : s₂.heap.objs.size ∉ fp := fun hm => Nat.lt_irrefl _ (hfp _ hm)
  rw [hname]
  refine wpAny_pure ⟨plainId_quiet F.plain_min_loop _, codeAny_min_loop_firstH W H hw bt hcmp s₂.heap.objs.size hSf (fresh_in hkeep) _ hn (fun b o e => Heap.get?_push_of_some _ (hkeep b o e)) (W.frame 0 s₂ _ s₂.toks hst (Nat.le_refl _) fun b _ o e => Heap.get?_push_of_some _ e) (Heap.get?_push_size _ rfl) fun v s' hP hm => ?_⟩
  exact hQ v s' hP (Moved.drop_new (tk := s₂.toks) hm (Nat.le_refl _))
theorem min_two_data {a b : Value} {da db : PyData} {as bs : List Addr} {Q : Value → Shared → Prop} (hh : A.handled = none) (ra : Reads s.heap a da as) (rb : Reads s.heap b db bs) (ha : AlikeAll [da, db]) (hu : A.units + 1 + PyData.depthAll [da, db] < cLine)
    (h : ∀ h' tk, (∀ c o, s.heap.get? c = some o → h'.get? c = some o) → Q (if dataLt db da = true then b else a) { s with heap := h', toks := tk }) :
    wpAny (model prog w) A (call (.builtin "min") [a, b]) Q E s := by
  have hT : (s.heap.push { cls := .type "tuple", data := .seq #[a, b] }).IsTuple s.heap.objs.size #[a, b] := ⟨_, Heap.get?_push_size _ rfl, rfl, 0, rfl⟩
  have hr : ReadsAll s.heap (#[a, b] : Array Value).toList [da, db] (as ++ (bs ++ [])) := .cons ra (.cons rb .nil)
  have k0 : ∀ c o, s.heap.get? c = some o → (s.heap.push { cls := .type "tuple", data := .seq #[a, b] }).get? c = some o := fun c o e => Heap.get?_push_of_some _ e
  refine call_min_twoH (iter_tupleW (A := A.in1) (s := { s with heap := s.heap.push { cls := .type "tuple", data := .seq #[a, b] } }) hh hT fun s₂ e W st hfp hw hk => ?_)
  refine ⟨_, _, _, _, _, _, _, s.heap, _, rfl, W, st, hfp, (by simp), fun b o q => hw b o (k0 b o q), fun b o q => hk b o (k0 b o q), cmpIn_lt (A := A.in1) hr ha (by show A.units + 1 + _ < _; exact hu), fun v s' hP m => ?_⟩
  obtain ⟨h', tk, rfl, hk'⟩ := moved_old e rfl m
  have := h h' tk fun c o q => hk' c o (k0 c o q)
  have ev : v = if dataLt db da = true then b else a := by
    replace hP : (#[a, b] : Array Value)[argBest (fun i j => dataLt ([da, db].getD i .none) ([da, db].getD j .none)) 1]? = some v := hP
    cases c : dataLt db da with
    | true =>
      have e1 : argBest (fun i j => dataLt ([da, db].getD i .none) ([da, db].getD j .none)) 1 = 1 := by simp [argBest, c]
      rw [e1] at hP
      rw [if_pos rfl]
      exact (Option.some.inj hP).symm
    | false =>
      have e1 : argBest (fun i j => dataLt ([da, db].getD i .none) ([da, db].getD j .none)) 1 = 0 := by simp [argBest, c]
      rw [e1] at hP
      rw [if_neg Bool.false_ne_true]
      exact (Option.some.inj hP).symm
  rw [ev]
  exact this
end
/-- min(a, b) of two things that can be compared -/
def rMin2Z (K : PySem.W.Frag) : List V → Hp → VK → Prop := fun vs H Q => ∃ (a b : V) (da db : PyData), vs = [a, b] ∧ Dz K H a da ∧ Dz K H b db ∧ AlikeAll [da, db] ∧ PyData.depthAll [da, db] ≤ 50 ∧ Q (if dataLt db da = true then b else a) H
theorem cr_min2Z {X : Cx} {k : Nat} (hc : X.calm = true) (room : Room k X.A) : CallR X (.builtin "min") (rMin2Z X.K) := by
  intro pins s σ H vs us Q I r h
  obtain ⟨a, b, da, db, rfl, hda, hdb, al, dp, q⟩ := h
  cases r with
  | cons r1 rr =>
    cases rr with
    | cons r2 rr =>
      cases rr
      obtain ⟨as, ra, _⟩ := Dz.reads I _ _ _ hda r1
      obtain ⟨bs, rb, _⟩ := Dz.reads I _ _ _ hdb r2
      refine min_two_data (I.ok.hd hc) ra rb al (by have := room.units; omega) fun h' tk kk => ?_
      cases c : dataLt db da with
      | true => rw [c, if_pos rfl] at q; exact ⟨_, H, I.kept kk, r2, q⟩
      | false => rw [c, if_neg Bool.false_ne_true] at q; exact ⟨_, H, I.kept kk, r1, q⟩
/-- pairs of a number and a row of numbers -/
def pairD (p : Int × List Int) : PyData := .tuple [.int p.1, .tuple (p.2.map .int)]
def pairLt (p q : Int × List Int) : Bool := decide (p.1 < q.1 ∨ (p.1 = q.1 ∧ p.2 < q.2))
theorem alike_ints : ∀ xs ys : List Int, alikeAll (xs.map .int) (ys.map .int) = true
  | [], _ => by simp [alikeAll]
  | _ :: _, [] => by simp [alikeAll]
  | x :: xs, y :: ys => by simp [alikeAll, alike, alike_ints xs ys]
theorem alike_pairs (p q : Int × List Int) : AlikeAll [pairD p, pairD q] := by
  have al : ∀ p q : Int × List Int, alike (pairD p) (pairD q) = true := fun p q => by simp [pairD, alike, alikeAll, alike_ints]
  constructor
  · intro x hx y hy
    simp only [List.mem_cons, List.not_mem_nil, or_false] at hx hy
    rcases hx with rfl | rfl <;> rcases hy with rfl | rfl <;> exact al _ _
  · intro x hx
    simp only [List.mem_cons, List.not_mem_nil, or_false] at hx
    rcases hx with rfl | rfl <;> simp [pairD]
theorem eqv_ints : ∀ xs ys : List Int, PyData.eqvAll (xs.map .int) (ys.map .int) = decide (xs = ys)
  | [], [] => by simp [PyData.eqvAll]
  | [], _ :: _ => by simp [PyData.eqvAll]
  | _ :: _, [] => by simp [PyData.eqvAll]
  | x :: xs, y :: ys => by
    rw [List.map_cons, List.map_cons, PyData.eqvAll, eqv_ints xs ys]
    by_cases h1 : x = y <;> by_cases h2 : xs = ys <;> simp [PyData.eqv, h1, h2]
theorem lt_pairs (p q : Int × List Int) : dataLt (pairD p) (pairD q) = pairLt p q := by
  obtain ⟨a, xs⟩ := p
  obtain ⟨b, ys⟩ := q
  unfold pairD pairLt
  rw [dataLt_pair (by simp [alike]) (by simp [alike, alike_ints]), dataLt_int, dataLt_tuple]
  have e := dataLt_ints xs ys
  unfold rowLt at e
  rw [e]
  simp only [PyData.eqv, eqv_ints]
  by_cases h1 : a = b
  · subst h1
    by_cases h2 : xs = ys
    · subst h2
      simp [List.lt_irrefl]
    · simp [h2]
  · simp [h1]
theorem depth_ints : ∀ xs : List Int, PyData.depthAll (xs.map .int) = 0
  | [] => rfl
  | x :: xs => by
    rw [List.map_cons, PyData.depthAll, depth_ints xs]
    simp [PyData.depth]
theorem depth_pairs (p q : Int × List Int) : PyData.depthAll [pairD p, pairD q] ≤ 50 := by
  simp [pairD, PyData.depthAll, PyData.depth, depth_ints]
end Xt
set_option Elab.async false
set_option linter.all false
set_option maxRecDepth 100000
set_option maxHeartbeats 4000000
set_option pp.maxSteps 400
set_option pp.deepTerms false
/-! min(xs, key=lambda p: ..) in a def: the lambda is made anew each time, its code object once -/
namespace Xln
open PySem PySem.Spec PyProof.Rows L2 Az PySem.W LamX
/-- the names of a lambda of one parameter: the parameter, captured ones, globals -/
structure Lam1 (sc scope : Scope) (p : Str) : Prop where
  kind : scope.kind = .function
  co : scope.isCoroutine = false
  gen : scope.isGenerator = false
  par : scope.names.lookup p = some .local
  own : ∀ y ∈ scope.names, y.2 ≠ .cell ∧ (y.2 = .local → y.1 = p)
  free : ∀ y ∈ scope.names, y.2 = .free → sc.names.lookup y.1 = some .cell ∨ sc.names.lookup y.1 = some .free
/-- where the lambda's body stands -/
def lamX (X : Cx) (A : Around) (s : Shared) (H : Hp) (p : Str) (scope : Scope) (f c : Addr) : Cx :=
  { lamCx X A X.stack s H (fun _ _ _ => False) scope f c with N := p :: X.N, xe := fun _ _ => False }
section
variable {X : Cx} {pins : List (Addr × Obj)} {σ : L2.St} {H : Hp} {s : Shared}
theorem Lam1.has {scope : Scope} {p : Str} (L : Lam1 X.env.scope scope p) (ok : X.Ok) : ∀ y ∈ scope.names, y.2 = .free → ∃ c, X.env.cells.lookup y.1 = some c := fun y hy e =>
  (L.free y hy e).elim (fun k => ok.has _ (.inl k)) fun k => ok.has _ (.inr k)
theorem lam_in {A : Around} {scope : Scope} {f c : Addr} {p : Str} {v : V} {u : Value} {h₁ : Heap} {tk : Nat} (I : Inv X pins σ H s) (L : Lam1 X.env.scope scope p) (hp : p ∉ X.N) (fr : A.frames = some X.stack) (hd : A.handled = none) (rv : RelV v u)
    (hns : h₁.Ns s.heap.objs.size fun y => ([(p, u)] : List (Str × Value)).reverse.lookup y) (kp : ∀ b o, s.heap.get? b = some o → h₁.get? b = some o) :
    Inv (lamX X A s H p scope f c) [] (some v :: σ) H { s with heap := h₁, toks := tk } := by
  have z := I.env0
  have old : ∀ {y : Str} {a : Addr}, (cloFrom X.env.cells scope.names []).lookup y = some a → X.env.cells.lookup y = some a := fun {y a} e => by
    rcases cloFrom_mem (PySem.mem_of_lookup e) with q | ⟨q1, q2⟩
    · exact absurd q List.not_mem_nil
    · obtain ⟨a', e'⟩ := L.has I.ok _ q1 rfl
      replace e' : X.env.cells.lookup y = some a' := e'
      rw [e'] at q2 ⊢
      rw [q2]; rfl
  have look : ∀ {y : Str}, scope.names.lookup y = some .free → ∃ a, (cloFrom X.env.cells scope.names []).lookup y = some a := fun {y} e =>
    mem_lookup (cloFrom_has (cells := X.env.cells) (acc := []) (PySem.mem_of_lookup e))
  have nx : ∀ b : Addr, b ∉ (lamX X A s H p scope f c).ex := fun b y => absurd (show b ∈ ([] : List Addr) from y) List.not_mem_nil
  refine ⟨⟨z.mod, L.kind, rfl, rfl, Nat.le_refl _, fun y y' a e e' => I.ok.inj y y' a (old e) (old e'), fun y k => ?_, fun y a k _ => ?_, fun _ => hd, Around.frames_deeper fr, .inr ⟨rfl, rfl⟩, fun b y => absurd y (nx b), z.bs, z.bsz, fun b _ _ => nx b, fun b y => absurd y (nx b), z.funs, z.frf⟩,
    rfl, z.bare, Un.kept kp, ⟨_, hns, fun i y w e1 e2 e3 => ?_⟩, fun y a e => ?_, z.hok.fresh (Nat.le_refl _), fun y a e => I.freeC y a (old e), fun q hq => absurd (show q ∈ ([] : List (Addr × Obj)) from hq) List.not_mem_nil, z.hok.kept kp, congrArg Nat.succ I.len⟩
  · replace k : scope.names.lookup y = some .cell ∨ scope.names.lookup y = some .free := k
    rcases k with k | k
    · exact absurd rfl (L.own _ (PySem.mem_of_lookup k)).1
    · exact look k
  · exact absurd (show false = true from k) Bool.false_ne_true
  · cases i with
    | zero =>
      replace e1 : some p = some y := e1
      cases e1
      cases e2
      exact ⟨u, rv, .inl ⟨L.par, by simp⟩⟩
    | succ i =>
      replace e1 : X.N[i]? = some y := e1
      replace e2 : σ[i]? = some (some w) := e2
      have n : y ≠ p := fun q => hp (q ▸ List.mem_of_getElem? e1)
      replace e3 : Vis scope y := e3
      rcases e3 with k | k | k
      · exact absurd ((L.own _ (PySem.mem_of_lookup k)).2 rfl) n
      · exact absurd rfl (L.own _ (PySem.mem_of_lookup k)).1
      · obtain ⟨m, _, hl⟩ := I.loc
        have kf := L.free _ (PySem.mem_of_lookup k) rfl
        obtain ⟨u', r', q⟩ := hl i y w e1 e2 (kf.elim (fun k => .inr (.inl k)) fun k => .inr (.inr k))
        obtain ⟨a, ha⟩ := look k
        refine ⟨u', r', .inr ⟨.inr k, a, ha, ?_⟩⟩
        rcases q with ⟨k', _⟩ | ⟨_, a', e', o, ho, hd'⟩
        · replace k' : X.env.scope.names.lookup y = some .local := k'
          rcases kf with k2 | k2 <;> rw [show X.env.scope.names.lookup y = _ from k2] at k' <;> cases k'
        · have e2 := old ha
          rw [e'] at e2
          cases e2
          exact ⟨o, kp _ _ ho, hd'⟩
  · obtain ⟨w, o, ho, hd'⟩ := I.cell y a (old e)
    exact ⟨w, o, kp _ _ ho, hd'⟩
/-- the lambda called -/
theorem lam_call {A : Around} {params : Arguments} {body : Expr} {scope : Scope} {f c : Addr} {pm ctv : Value} {p : Str} {v : V} {u : Value} {k : Nat} {tb : TE} {Q : VK} {E : Value → Shared → Prop} (I : Inv X pins σ H s) (L : Lam1 X.env.scope scope p) (hp : p ∉ X.N)
    (hf : s.heap.get? f = some (kla_obj "<lambda>" (X.env.qual ++ "<lambda>") params body scope (cloFrom X.env.cells scope.names []) pm c ctv)) (hc : H c = some (CodeO c (X.env.qual ++ "<lambda>")))
    (bind : bindArgs (kla_fn "<lambda>" (X.env.qual ++ "<lambda>") params body scope (cloFrom X.env.cells scope.names []) pm (.ref c) ctv) ⟨[u], []⟩ = pure [(p, u)])
    (fr : A.frames = some X.stack) (room : Room (k + 1) A) (hb : Room k (A.deeper (lamEnv X scope s.heap.objs.size f c)) → PE (lamX X A s H p scope f c) body tb) (rv : RelV v u) (h : tb (some v :: σ) H Q) :
    wpAny (model X.prog X.w) A (call (.ref f) [u]) (fun y s' => CE X.stack X.prog X.w H s Q y s') E s := by
  obtain ⟨⟨oc, vs, t, hoc, hdc, hvc⟩, _, _⟩ := I.hok c _ hc
  refine wpAny_call (codeAny_mono (R := fun r s' => ∃ y, r = .ok (.ret y) ∧ CE X.stack X.prog X.w H s Q y s') (kla_callFunE room.depth hf rfl L.co L.gen rfl ⟨c, oc, vs, t, rfl, hoc, hdc, hvc⟩ ?_) fun r s' ⟨y, e, q⟩ => by subst e; exact q)
  rw [bind]
  refine wpAny_pure (wpAny_newFunctionEnv (fun y hy => (L.own y hy).1) (fun y hy => by rw [List.mem_singleton.mp hy]; exact L.par) (fun h₁ hns hsb => ⟨I.nolimit.fresh _ hsb, ?_⟩) L.kind)
  show codeAny _ _ (.expr body (lamEnv X scope s.heap.objs.size f c)) _ _
  have kp : ∀ b o, s.heap.get? b = some o → h₁.get? b = some o := fun b o e => hsb.extBut b o (Nat.ne_of_lt (Heap.lt_size e)) (Heap.get?_push_of_some _ e)
  have J := lam_in (A := A) (f := f) (c := c) (tk := s.toks + ([(p, u)] : List (Str × Value)).length) I L hp fr room.hd rv hns kp
  refine kla_codeExpr (wpAny_mono ((hb (room.deeper _)).run [] _ _ H Q J h) (fun y s' hq => ?_) fun _ _ q => False.elim q)
  obtain ⟨x, H', J', r, q⟩ := hq
  exact ⟨y, rfl, x, H', J'.os, J'.bare, J'.base, J'.hok, r, q⟩
end
/-! ## the walk of min -/
section
variable (X : Cx) (pins : List (Addr × Obj)) (σ : L2.St) (T : List (Addr × Str)) (H1 : Hp) (S It f c : Addr) (fo : Obj) (q : Str)
structure Jm (H : Hp) (s : Shared) : Prop where
  inv : Inv X pins σ H s
  ext : ExtN H1 H
  tab : Tabs T H
  fS : FpOk X pins H S
  fI : FpOk X pins H It
  fn : s.heap.get? f = some fo
  nf : H f = none
  cd : H c = some (CodeO c q)
  eS : ∃ o, s.heap.get? S = some o
  eI : ∃ o, s.heap.get? It = some o
end
section
variable {X : Cx} {pins : List (Addr × Obj)} {σ : L2.St} {T : List (Addr × Str)} {H1 : Hp} {S It f c : Addr} {fo : Obj} {q : Str}
theorem Jm.still {H : Hp} {s s' : Shared} (j : Jm X pins σ T H1 S It f c fo q H s) (m : Moved [S, It] (fun a b => b = a) s s') : Inv X pins σ H s' := by
  obtain ⟨h', g', d', t', o'⟩ := s'
  obtain rfl : g' = s.gens := m.gens
  obtain rfl : d' = s.drawn := m.drawn
  obtain rfl : o' = s.os := m.os
  refine Inv.turnedL (ch := [S, It]) j.inv (fun b o hb e => m.heap b o hb e) fun b hb => ?_
  rcases List.mem_cons.mp hb with e | e
  · rw [e]; exact j.fS
  · rw [List.mem_singleton.mp e]; exact j.fI
theorem Jm.moved {H : Hp} {s s' : Shared} (j : Jm X pins σ T H1 S It f c fo q H s) (hS : f ≠ S) (hI : f ≠ It) (m : Moved [S, It] (fun a b => b = a) s s') (eS : ∃ o, s'.heap.get? S = some o) (eI : ∃ o, s'.heap.get? It = some o) : Jm X pins σ T H1 S It f c fo q H s' := by
  refine ⟨j.still m, j.ext, j.tab, j.fS, j.fI, m.heap _ _ (fun z => ?_) j.fn, j.nf, j.cd, eS, eI⟩
  rcases List.mem_cons.mp z with e | e
  · exact hS e
  · exact hI (List.mem_singleton.mp e)
theorem moved_upd (s : Shared) (S It : Addr) (g : Obj → Obj) : Moved [S, It] (fun a b => b = a) s { s with heap := s.heap.update S g, toks := s.toks } :=
  ⟨fun b o hb e => (Heap.get?_update_other _ _ (fun z : S = b => hb (by rw [← z]; exact List.mem_cons_self))).trans e, rfl, rfl, rfl, Nat.le_refl _⟩
variable {Ky : Hp → V → PyData → Prop} {kd : V → PyData} {xs : List V} {A : Around} {n : Nat} {Pv : Nat → Value → Prop} {St : Nat → Shared → Prop} {fp : List Addr}
/-- what is asked of the key -/
structure KeyL (X : Cx) (pins : List (Addr × Obj)) (σ : L2.St) (T : List (Addr × Str)) (H1 : Hp) (S It f c : Addr) (fo : Obj) (q : Str) (Ky : Hp → V → PyData → Prop) (kd : V → PyData) (xs : List V) (A : Around) : Prop where
  turn : ∀ (H : Hp) (s : Shared) (v : V) (u : Value) (E : Value → Shared → Prop), Jm X pins σ T H1 S It f c fo q H s → v ∈ xs → RelV v u →
    wpAny (model X.prog X.w) A (call (.ref f) [u]) (fun k s' => ∃ y H', Jm X pins σ T H1 S It f c fo q H' s' ∧ RelV y k ∧ Ky H' y (kd v) ∧ (∀ b zs, H b = some (.tup zs) → H' b = some (.tup zs)) ∧
      (∀ b o, FpOk X pins H b → s.heap.get? b = some o → s'.heap.get? b = some o)) E s
  dz : ∀ H y d, Ky H y d → Dz X.K H y d
  keep : ∀ H H' y d, (∀ b zs, H b = some (.tup zs) → H' b = some (.tup zs)) → Ky H y d → Ky H' y d
  alike : ∀ v ∈ xs, ∀ v' ∈ xs, alike (kd v) (kd v') = true
  some : ∀ v ∈ xs, kd v ≠ .none ∧ (kd v).depth ≤ 50
  units : A.units + 60 < cLine
  irr : ∀ v ∈ xs, dataLt (kd v) (kd v) = false
  tr : ∀ u ∈ xs, ∀ v ∈ xs, ∀ z ∈ xs, dataLt (kd u) (kd v) = true → dataLt (kd v) (kd z) = true → dataLt (kd u) (kd z) = true
theorem KeyL.less {A : Around} (K : KeyL X pins σ T H1 S It f c fo q Ky kd xs A) {H : Hp} {s : Shared} {v v' : V} {y y' : V} {k k' : Value} {E : Value → Shared → Prop} {Q : Value → Shared → Prop} (j : Jm X pins σ T H1 S It f c fo q H s) (hv : v ∈ xs) (hv' : v' ∈ xs)
    (r : RelV y k) (r' : RelV y' k') (d : Ky H y (kd v)) (d' : Ky H y' (kd v')) (h : Q (.bool (dataLt (kd v) (kd v'))) s) : wpAny (model X.prog X.w) A (richCompare .Lt k k') Q E s := by
  obtain ⟨as, ra, _⟩ := Dz.reads j.inv _ _ _ (K.dz _ _ _ d) r
  obtain ⟨bs, rb, _⟩ := Dz.reads j.inv _ _ _ (K.dz _ _ _ d') r'
  refine rcLt_alike _ _ A s k k' as bs ra rb (K.alike v hv v' hv') (K.some v hv).1 ?_ X.prog X.w E Q h
  have := K.units
  have := (K.some v hv).2
  omega
variable {R : Result → Shared → Prop} {kw : List (Str × Value)}
theorem min_more (W : WalksS X.prog X.w A.in1 It fp [It] (fun a b => b = a) n Pv St) (hSf : S ∉ fp) (nfS : f ≠ S) (nfI : f ≠ It) (K : KeyL X pins σ T H1 S It f c fo q Ky kd xs A.in1) (hPv : ∀ i v, Pv i v → ∃ x, xs[i]? = some x ∧ RelV x v) (hnx : n = xs.length)
    (hSt : ∀ i s s', St i s → (∀ b o, b ∈ fp → s.heap.get? b = some o → s'.heap.get? b = some o) → St i s') (hfp : ∀ (H : Hp) (s : Shared) (i : Nat), Jm X pins σ T H1 S It f c fo q H s → St i s → ∀ (s' : Shared) (H' : Hp), Jm X pins σ T H1 S It f c fo q H' s' → (∀ b o, FpOk X pins H b → s.heap.get? b = some o → s'.heap.get? b = some o) → St i s')
    (hIt : ∀ i s, St i s → ∃ o, s.heap.get? It = some o) (hR : ∀ x v s' H', x ∈ xs → (∀ x' ∈ xs, dataLt (kd x') (kd x) = false) → RelV x v → Inv X pins σ H' s' → ExtN H1 H' → Tabs T H' → R (.ok (.ret v)) s') :
    ∀ (m j : Nat) (s : Shared) (H : Hp) (vb kb : Value) (e : Nat) (xb yb : V), n - (j + 1) = m → j + 1 ≤ n → Jm X pins σ T H1 S It f c fo q H s → St (j + 1) s → xb ∈ xs → (∀ i' x', i' ≤ j → xs[i']? = some x' → dataLt (kd x') (kd xb) = false) → RelV xb vb → RelV yb kb → Ky H yb (kd xb) →
      s.heap.get? S = some { cls := .type "list", dict := none, data := .seq #[vb, kb] e, slots := #[] } → codeAny (model X.prog X.w) A (.builtin "min.loop" ⟨[.ref It, .ref f, .ref S], kw⟩) R s := by
  have nS : S ∉ [It] := fun z => hSf (W.sub _ z)
  have sub : ∀ b ∈ [It], b ∈ [S, It] := fun b hb => List.mem_cons_of_mem _ hb
  have nm : (toString "min" ++ toString ".loop" : String) = "min.loop" := by decide
  have other : ∀ {b : Addr}, b ∉ [S, It] → S ≠ b := fun {b} hb z => hb (z ▸ List.mem_cons_self)
  intro m
  induction m with
  | zero =>
    intro j s H vb kb e xb yb hm hj J st hx mb rb ry ky hS
    have last : j + 1 = n := by omega
    refine codeAny_builtin F.entry_min_loop ?go
    case go =>
      rw [Around.under_plainId F.plain_min_loop _]
      show wpAny _ A.in1 (seqItems? (.ref S) >>= _) _ _ s
      refine wpAny_bind (wpAny_seqItems hS rfl ?_); show wpAny _ A.in1 (tryCatch (pyNext (.ref It)) _ >>= _) _ _ s
      refine wpAny_bind (wpAny_tryCatch (W.done s _ _ (last ▸ st) fun s' hm' => ?_))
      have hS' := hm'.heap S _ nS hS
      show wpAny _ A.in1 (updateSeq S (fun _ => #[]) >>= _) _ _ _
      refine wpAny_bind ?_
      refine wpAny_updateSeq hS' rfl (wpAny_bind (wpAny_letGo (wpAny_pure ?_)))
      exact hR xb vb _ H hx (fun x' hx' => by
        obtain ⟨i', hi', ei'⟩ := List.getElem_of_mem hx'
        exact mb i' x' (by omega) (by rw [List.getElem?_eq_getElem hi', ei'])) rb (J.still ((hm'.mono sub).then_heap (tk := s'.toks) (Nat.le_refl _) fun b o hb e => (Heap.get?_update_other _ _ (other hb)).trans e)) J.ext J.tab
  | succ m ih =>
    intro j s H vb kb e xb yb hm hj J st hx mb rb ry ky hS
    have lt : j + 1 < n := by omega
    refine codeAny_builtin F.entry_min_loop ?go
    case go =>
      rw [Around.under_plainId F.plain_min_loop _]
      show wpAny _ A.in1 (seqItems? (.ref S) >>= _) _ _ s
      refine wpAny_bind (wpAny_seqItems hS rfl ?_); show wpAny _ A.in1 (tryCatch (pyNext (.ref It)) _ >>= _) _ _ s
      refine wpAny_bind (wpAny_tryCatch (W.item (j + 1) s _ _ lt st fun v s' hP st' hm' => ?_))
      have hS' := hm'.heap S _ nS hS
      have J' := J.moved nfS nfI (hm'.mono sub) ⟨_, hS'⟩ (hIt _ _ st')
      obtain ⟨x, ex', rx⟩ := hPv _ _ hP
      have hx' := List.mem_of_getElem? ex'
      show wpAny _ A.in1 (tryCatch (holding [v] (call (.ref f) [v])) _ >>= _) _ _ _
      refine wpAny_bind (wpAny_tryCatch (wpAny_holding (wpAny_mono (K.turn H s' x v _ J' hx' rx) (fun kx s2 hk => ?_) fun _ _ y => y)))
      obtain ⟨y, H2, J2, r2, k2, tups, fps⟩ := hk
      have hS2 := fps S _ J'.fS hS'
      have st2 := hfp H s' _ J' st' s2 H2 J2 fps
      show wpAny _ A.in1 (tryCatch (holding [v, kx] (richCompare .Lt kx kb >>= _)) _ >>= _) _ _ _
      refine wpAny_bind (wpAny_tryCatch (wpAny_holding (wpAny_bind (K.less J2 hx' hx r2 ry k2 (K.keep _ _ _ _ tups ky) ?_))))
      refine wpAny_bind (wpAny_holding (wpAny_truthy_bool ?_)); refine wpAny_bind (wpAny_letGo (wpAny_pure ?_))
      cases b : dataLt (kd x) (kd xb) with
      | true =>
        simp only [if_true]
        refine wpAny_bind ?_
        refine wpAny_updateSeq hS2 rfl (wpAny_bind (wpAny_letGo ?_)); rw [nm]
        refine wpAny_pure ⟨plainId_quiet F.plain_min_loop _, ih (j + 1) _ H2 v kx _ x y (by omega) lt (J2.moved nfS nfI (moved_upd s2 S It _) ⟨_, Heap.get?_update_self _ hS2 rfl⟩ (by obtain ⟨o, e⟩ := J2.eI; exact ⟨o, (Heap.get?_update_other _ _ (fun z : S = It => nS (by rw [z]; exact List.mem_singleton.mpr rfl))).trans e⟩)) (hSt _ _ _ st2 fun b o hb e => ?_) hx' (fun i' x' hi' e' => by
          rcases Nat.lt_or_ge i' (j + 1) with c | c
          · cases z : dataLt (kd x') (kd x) with
            | false => rfl
            | true =>
              have := K.tr x' (List.mem_of_getElem? e') x hx' xb hx z b
              rw [mb i' x' (by omega) e'] at this
              cases this
          · obtain rfl : i' = j + 1 := by omega
            rw [ex'] at e'
            cases e'
            exact K.irr x hx') rx r2 k2 (Heap.get?_update_self _ hS2 rfl)⟩
        exact (Heap.get?_update_other _ _ (fun z : S = b => hSf (z ▸ hb))).trans e
      | false =>
        simp only [Bool.false_eq_true, if_false]
        refine wpAny_bind (wpAny_letGo ?_); rw [nm]
        exact wpAny_pure ⟨plainId_quiet F.plain_min_loop _, ih (j + 1) _ H2 vb kb e xb yb (by omega) lt J2 st2 hx (fun i' x' hi' e' => by
          rcases Nat.lt_or_ge i' (j + 1) with c | c
          · exact mb i' x' (by omega) e'
          · obtain rfl : i' = j + 1 := by omega
            rw [ex'] at e'
            cases e'
            exact b) rb ry (K.keep _ _ _ _ tups ky) hS2⟩
theorem min_first (W : WalksS X.prog X.w A.in1 It fp [It] (fun a b => b = a) n Pv St) (hSf : S ∉ fp) (nfS : f ≠ S) (nfI : f ≠ It) (K : KeyL X pins σ T H1 S It f c fo q Ky kd xs A.in1) (hPv : ∀ i v, Pv i v → ∃ x, xs[i]? = some x ∧ RelV x v) (hnx : n = xs.length)
    (hSt : ∀ i s s', St i s → (∀ b o, b ∈ fp → s.heap.get? b = some o → s'.heap.get? b = some o) → St i s') (hfp : ∀ (H : Hp) (s : Shared) (i : Nat), Jm X pins σ T H1 S It f c fo q H s → St i s → ∀ (s' : Shared) (H' : Hp), Jm X pins σ T H1 S It f c fo q H' s' → (∀ b o, FpOk X pins H b → s.heap.get? b = some o → s'.heap.get? b = some o) → St i s')
    (hIt : ∀ i s, St i s → ∃ o, s.heap.get? It = some o) (hR : ∀ x v s' H', x ∈ xs → (∀ x' ∈ xs, dataLt (kd x') (kd x) = false) → RelV x v → Inv X pins σ H' s' → ExtN H1 H' → Tabs T H' → R (.ok (.ret v)) s') (hn : 0 < n) {s : Shared} {H : Hp} {e : Nat} (J : Jm X pins σ T H1 S It f c fo q H s) (st : St 0 s)
    (hS : s.heap.get? S = some { cls := .type "list", dict := none, data := .seq #[] e, slots := #[] }) : codeAny (model X.prog X.w) A (.builtin "min.loop" ⟨[.ref It, .ref f, .ref S], kw⟩) R s := by
  have nS : S ∉ [It] := fun z => hSf (W.sub _ z)
  have sub : ∀ b ∈ [It], b ∈ [S, It] := fun b hb => List.mem_cons_of_mem _ hb
  have nm : (toString "min" ++ toString ".loop" : String) = "min.loop" := by decide
  refine codeAny_builtin F.entry_min_loop ?go
  case go =>
    rw [Around.under_plainId F.plain_min_loop _]
    show wpAny _ A.in1 (seqItems? (.ref S) >>= _) _ _ s
    refine wpAny_bind (wpAny_seqItems hS rfl ?_); show wpAny _ A.in1 (tryCatch (pyNext (.ref It)) _ >>= _) _ _ s
    refine wpAny_bind (wpAny_tryCatch (W.item 0 s _ _ hn st fun v s' hP st' hm' => ?_))
    have hS' := hm'.heap S _ nS hS
    have J' := J.moved nfS nfI (hm'.mono sub) ⟨_, hS'⟩ (hIt _ _ st')
    obtain ⟨x, ex', rx⟩ := hPv _ _ hP
    have hx' := List.mem_of_getElem? ex'
    show wpAny _ A.in1 (tryCatch (holding [v] (call (.ref f) [v])) _ >>= _) _ _ _
    refine wpAny_bind (wpAny_tryCatch (wpAny_holding (wpAny_mono (K.turn H s' x v _ J' hx' rx) (fun kx s2 hk => ?_) fun _ _ y => y)))
    obtain ⟨y, H2, J2, r2, k2, tups, fps⟩ := hk
    have hS2 := fps S _ J'.fS hS'
    have st2 := hfp H s' _ J' st' s2 H2 J2 fps
    show wpAny _ A.in1 (updateSeq S (fun _ => #[v, kx]) >>= _) _ _ _
    refine wpAny_bind ?_
    refine wpAny_updateSeq hS2 rfl ?_; rw [nm]
    refine wpAny_pure ⟨plainId_quiet F.plain_min_loop _, min_more W hSf nfS nfI K hPv hnx hSt hfp hIt hR _ 0 _ H2 v kx _ x y rfl hn (J2.moved nfS nfI (moved_upd s2 S It _) ⟨_, Heap.get?_update_self _ hS2 rfl⟩ (by obtain ⟨o, e⟩ := J2.eI; exact ⟨o, (Heap.get?_update_other _ _ (fun z : S = It => nS (by rw [z]; exact List.mem_singleton.mpr rfl))).trans e⟩)) (hSt _ _ _ st2 fun b o hb e => ?_) hx' (fun i' x' hi' e' => by
      obtain rfl : i' = 0 := by omega
      rw [ex'] at e'
      cases e'
      exact K.irr x hx') rx r2 k2 (Heap.get?_update_self _ hS2 rfl)⟩
    exact (Heap.get?_update_other _ _ (fun z : S = b => hSf (z ▸ hb))).trans e
end
section
theorem sqT_extN {K : PySem.W.Frag} {H H' : Hp} (s : ExtN H H') {t : Addr} {xs : List V} (q : SqT K H t xs) : SqT K H' t xs := by
  rcases q with (q | ⟨o, q⟩) | q
  · exact .inl (.inl (s _ _ q fun ps z => by cases z))
  · exact .inl (.inr ⟨o, s _ _ q fun ps z => by cases z⟩)
  · exact .inr q
/-- where the walk of a tuple stands -/
def Stt (xs : List V) (It l : Addr) (i : Nat) (s : Shared) : Prop := ∃ vs : Array Value, Vals xs vs.toList ∧ s.heap.IsTupleIter It l i ∧ s.heap.IsTuple l vs
theorem walk_tt {prog : Program} {w : World} {A : Around} {It l : Addr} {xs : List V} (hh : A.handled = none) (ne : l ≠ It) :
    WalksS prog w A It [It, l] [It] (fun a b => b = a) xs.length (fun i v => ∃ x, xs[i]? = some x ∧ RelV x v) (Stt xs It l) := by
  have W := fun vs : Array Value => (Walks.tuple (prog := prog) (w := w) (A := A) hh It l ne vs).toS
  have sz : ∀ {vs : Array Value}, Vals xs vs.toList → vs.size = xs.length := fun {vs} r => by rw [r.length, Array.length_toList]
  refine ⟨fun b hb => by simp at hb; simp [hb], fun _ => rfl, fun a b c h1 h2 => h2.trans h1, fun i s h' tk st le k => ?_, fun i s Q E hi st h => ?_, fun s Q E st h => ?_, fun i s Q E st h => ?_⟩
  · obtain ⟨vs, r, st⟩ := st
    exact ⟨vs, r, (W vs).frame i s h' tk st le k⟩
  · obtain ⟨vs, r, st⟩ := st
    refine (W vs).item i s Q E (by rw [sz r]; exact hi) st fun v s' hP st' hm => h v s' ?_ ⟨vs, r, st'⟩ hm
    obtain ⟨v', e', rx⟩ := r.get (List.getElem?_eq_getElem hi)
    rw [Array.getElem?_toList, show vs[i]? = some v from hP] at e'
    cases e'
    exact ⟨_, List.getElem?_eq_getElem hi, rx⟩
  · obtain ⟨vs, r, st⟩ := st
    exact (W vs).done s Q E (by rw [sz r]; exact st) h
  · obtain ⟨vs, r, st⟩ := st
    exact (W vs).self i s Q E st h
end
abbrev itO (l : Addr) : Obj := { cls := .type "tuple_iterator", data := .fields #[.ref l, .int 0 0] }
/-- min(e, key=lambda pn: body): some item -/
def tMinLam (K : PySem.W.Frag) (T : List (Addr × Str)) (Ky : Hp → V → PyData → Prop) (ta tb : TE) : TE := fun σ H Q => ta σ H fun x H1 => ∃ (l : Addr) (xs : List V) (kd : V → PyData), x = .ref l ∧ SqT K H1 l xs ∧ xs ≠ [] ∧ Tabs T H1 ∧
  (∀ v ∈ xs, ∀ v' ∈ xs, alike (kd v) (kd v') = true) ∧ (∀ v ∈ xs, kd v ≠ .none ∧ (kd v).depth ≤ 50) ∧ (∀ v ∈ xs, dataLt (kd v) (kd v) = false) ∧ (∀ u ∈ xs, ∀ v ∈ xs, ∀ z ∈ xs, dataLt (kd u) (kd v) = true → dataLt (kd v) (kd z) = true → dataLt (kd u) (kd z) = true) ∧
  (∀ H2, ExtN H1 H2 → Tabs T H2 → ∀ v ∈ xs, tb (some v :: σ) H2 fun y H3 => ExtN H2 H3 ∧ Tabs T H3 ∧ Ky H3 y (kd v)) ∧ ∀ v ∈ xs, (∀ v' ∈ xs, dataLt (kd v') (kd v) = false) → ∀ H', ExtN H1 H' → Tabs T H' → Q v H'
section
variable {X : Cx}
theorem pe_minLam {T : List (Addr × Str)} {Ky : Hp → V → PyData → Prop} {e : Expr} {params : Arguments} {body : Expr} {scope : Scope} {lpos kpos p pos : Pos} {pn : Str} {c P : Addr} {k : Nat} {ta tb : TE}
    (hg : Gl X "min") (hm : X.mg "min" = none) (calm : X.calm = true) (room : Room (k + 3) X.A) (ha : PE X e ta)
    (TB : TabB X.base X.mg c P) (hcode : X.env.code = .ref c) (hmT : (P, X.env.qual ++ "<lambda>") ∈ T) (hu : ∀ p ∈ T, p.1 = P → p.2 = X.env.qual ++ "<lambda>") (L : Lam1 X.env.scope scope pn) (hpn : pn ∉ X.N) (hdef : defaultsOf params X.env = ([], []))
    (hbind : ∀ (q : Str) (cl : List (Str × Addr)) (pm cv ctv u : Value), bindArgs (kla_fn "<lambda>" q params body scope cl pm cv ctv) ⟨[u], []⟩ = pure [(pn, u)])
    (hbody : ∀ (A : Around) (s : Shared) (H : Hp) (f c' : Addr), Room k (A.deeper (lamEnv X scope s.heap.objs.size f c')) → PE (lamX X A s H pn scope f c') body tb)
    (hdz : ∀ H y d, Ky H y d → Dz X.K H y d) (hkeep : ∀ (H H' : Hp) y d, (∀ b zs, H b = some (.tup zs) → H' b = some (.tup zs)) → Ky H y d → Ky H' y d)
    (hs0 : starEach [e] X.env = (false, eval e X.env) :: starEach [] X.env := by rfl) (he : backTo pos (starEach [e] X.env) = (false, eval e X.env) :: backTo pos (starEach [] X.env) := by rfl) (hpl : (backTo pos (starEach [e] X.env)).any (·.1) = false := by rfl) :
    PE X (.Call (.Name "min" p) [e] [⟨some "key", .Lambda params body scope lpos, kpos⟩] pos) (tMinLam X.K T Ky ta tb) := by
  refine ⟨fun pins s σ H Q I h => ?_⟩
  refine wpAny_Call_Name_kw (ld_blt I hg hm (u := .builtin "min") (by decide +kernel) ?_)
  refine PyProof.Rows.callWith_kw (thn ((pa_cons (hs := hs0) ha pa_nil).run pos pins s σ H (fun vs H1 => match vs with
    | [x] => ∃ (l : Addr) (xs : List V) (kd : V → PyData), x = .ref l ∧ SqT X.K H1 l xs ∧ xs ≠ [] ∧ Tabs T H1 ∧
      (∀ v ∈ xs, ∀ v' ∈ xs, alike (kd v) (kd v') = true) ∧ (∀ v ∈ xs, kd v ≠ .none ∧ (kd v).depth ≤ 50) ∧ (∀ v ∈ xs, dataLt (kd v) (kd v) = false) ∧ (∀ u ∈ xs, ∀ v ∈ xs, ∀ z ∈ xs, dataLt (kd u) (kd v) = true → dataLt (kd v) (kd z) = true → dataLt (kd u) (kd z) = true) ∧
      (∀ H2, ExtN H1 H2 → Tabs T H2 → ∀ v ∈ xs, tb (some v :: σ) H2 fun y H3 => ExtN H2 H3 ∧ Tabs T H3 ∧ Ky H3 y (kd v)) ∧ ∀ v ∈ xs, (∀ v' ∈ xs, dataLt (kd v') (kd v) = false) → ∀ H', ExtN H1 H' → Tabs T H' → Q v H'
    | _ => False) I h) fun us s1 hq => ?_) he hpl
  obtain ⟨ws, H1, I1, r1, q1⟩ := hq
  match ws, q1 with
  | [], q1 => exact False.elim q1
  | _ :: _ :: _, q1 => exact False.elim q1
  | [x], q1 =>
    obtain ⟨l, xs, kd, rfl, hs, ne, hT, hal, hso, hirr, htr, hbd, hq⟩ := q1
    obtain ⟨u, rfl, ru⟩ := vals1 r1
    cases ru
    show wpAny _ _ (evalAll ((do let v ← eval (.Lambda params body scope lpos) X.env; standAt pos; pure v) :: [])) _ _ s1
    refine wpAny_evalAll_cons (wpAny_bind (lam_make2 I1 TB hcode hmT hu hT hdef (L.has I1.ok) fun f c' pm ctv H2 s2 I2 eN T2 hf hfn hfr hco => wpAny_bind (wpAny_standAt (wpAny_pure (wpAny_evalAll_nil ?_)))))
    show wpAny _ _ (call (.builtin "min") [.ref l] [(Str.ofString "key", .ref f)]) _ _ s2
    have hs2 := sqT_extN eN hs
    obtain ⟨its, rx, hit, _⟩ := I2.tuple hs2
    have hIt : s2.heap.IsTuple l its.toArray := hit
    have hl : l < s2.heap.objs.size := by obtain ⟨o, ho, _⟩ := hIt; exact Heap.lt_size ho
    have hf' : f < s2.heap.objs.size := Heap.lt_size hf
    have hh : X.A.handled = none := I.ok.hd calm
    have nm : (toString "min" ++ toString ".loop" : String) = "min.loop" := by decide
    refine kmk_tree F.kind_min F.plain_min F.entry_min (kmk_min_key _ _) ?go
    case go =>
      show wpAny _ X.A.in1 (Builtin.Builtins.bindParams "min" ["key", "default"] 0 ⟨[], [(Str.ofString "key", .ref f)]⟩ >>= _) _ _ s2
      refine wpAny_bind (wpAny_of_eq (show Builtin.Builtins.bindParams "min" ["key", "default"] 0 ⟨[], [(Str.ofString "key", .ref f)]⟩ = pure [some (.ref f), none] from rfl) ?_)
      refine wpAny_bind (wpAny_pure (wpAny_bind (wpAny_pyIter_tuple hIt (wpAny_bind (wpAny_newObj_type ?_)))))
      rw [nm]
      -- the iterator, the list
      have sz : (s2.heap.push (itO l)).objs.size = s2.heap.objs.size + 1 := Heap.size_push ..
      show wpAny _ _ _ _ _ { s2 with heap := (s2.heap.push (itO l)).push { cls := .type "list", data := .seq #[] 0 } }
      have le1 : s2.heap.objs.size ≤ s2.heap.objs.size := Nat.le_refl _
      have le2 : s2.heap.objs.size ≤ (s2.heap.push (itO l)).objs.size := by rw [sz]; omega
      have kp : ∀ b o, s2.heap.get? b = some o → ((s2.heap.push (itO l)).push { cls := .type "list", data := .seq #[] 0 }).get? b = some o := fun b o e => Heap.get?_push_of_some _ (Heap.get?_push_of_some _ e)
      have J : Jm X pins σ T H1 (s2.heap.push (itO l)).objs.size s2.heap.objs.size f c' _ (X.env.qual ++ "<lambda>") H2 { s2 with heap := (s2.heap.push (itO l)).push { cls := .type "list", data := .seq #[] 0 } } :=
        ⟨I2.kept (t' := s2.toks) kp, eN, T2, I2.fpOk le2 (I2.hok.fresh le2), I2.fpOk le1 (I2.hok.fresh le1), kp _ _ hf, hfn, hco, ⟨_, Heap.get?_push_size _ rfl⟩, ⟨_, Heap.get?_push_of_some _ (Heap.get?_push_size _ rfl)⟩⟩
      have nS : (s2.heap.push (itO l)).objs.size ∉ [s2.heap.objs.size, l] := fun z => by
        rw [sz] at z
        rcases List.mem_cons.mp z with z | z
        · exact absurd z (Nat.succ_ne_self _)
        · exact absurd hl (by rw [← List.mem_singleton.mp z]; exact Nat.not_lt.mpr (Nat.le_succ _))
      have K : KeyL X pins σ T H1 (s2.heap.push (itO l)).objs.size s2.heap.objs.size f c' (kla_obj "<lambda>" (X.env.qual ++ "<lambda>") params body scope (cloFrom X.env.cells scope.names []) pm c' ctv) (X.env.qual ++ "<lambda>") Ky kd xs X.A.in1 := by
        refine ⟨fun H s v u E J hv rv => ?_, hdz, hkeep, hal, hso, ?_, hirr, htr⟩
        · have fr : X.A.in1.frames = some X.stack := by show X.A.frames = some X.stack; exact I.ok.frames
          refine wpAny_mono (lam_call (E := E) J.inv L hpn J.fn J.cd (hbind _ _ _ _ _ _) fr (room.in1.mono (by omega) : Room (k + 1) _) (fun hr => hbody _ _ _ _ _ hr) rv (hbd H J.ext J.tab v hv)) (fun y s' hq' => ?_) fun _ _ z => z
          obtain ⟨z, H', os, bare, un, hok, rz, eN', T', ky⟩ := hq'
          have I' : Inv X pins σ H' s' := J.inv.call' os un hok bare fun b hb => absurd hb List.not_mem_nil
          have kpt : ∀ b o, FpOk X pins H b → s.heap.get? b = some o → s'.heap.get? b = some o := fun b o fb e => un.keep _ _ e fb.1 (fun hz => by
            rcases List.mem_cons.mp (J.inv.stkSub b hz) with e' | e'
            · exact fb.2.1 e'
            · exact fb.2.2.1 e') List.not_mem_nil
          have fz : ∀ b o, s.heap.get? b = some o → FpOk X pins H b → FpOk X pins H' b := fun b o e fb => ⟨un.free _ _ e fb.1 List.not_mem_nil, fb.2⟩
          obtain ⟨oS, eS⟩ := J.eS
          obtain ⟨oI, eI⟩ := J.eI
          refine ⟨z, H', ⟨I', J.ext.trans eN', T', fz _ _ eS J.fS, fz _ _ eI J.fI, un.keep _ _ J.fn J.nf (fun hz => ?_) List.not_mem_nil, un.free _ _ J.fn J.nf List.not_mem_nil, eN' _ _ J.cd codeO_ne, ⟨_, kpt _ _ J.fS eS⟩, ⟨_, kpt _ _ J.fI eI⟩⟩, rz, ky, un.tups, kpt⟩
          exact hfr hz
        · have := room.units
          show X.A.units + 1 + 60 < cLine
          omega
      refine wpAny_pure ⟨plainId_quiet F.plain_min_loop _, min_first (A := X.A) (fp := [s2.heap.objs.size, l]) (St := Stt xs s2.heap.objs.size l) (walk_tt (A := X.A.in1) hh (Nat.ne_of_lt hl)) nS (Nat.ne_of_lt (Nat.lt_of_lt_of_le hf' le2)) (Nat.ne_of_lt hf') K
        (fun i v ⟨x, e, r⟩ => ⟨x, e, r⟩) rfl (fun i s s' st k => ?_) (fun H s i J st s' H' J' kk => ?_) (fun i s ⟨vs, r, ⟨o, e, _⟩, _⟩ => ⟨o, e⟩) (fun x v s' H' hx hm r I' e' t' => ⟨x, H', I', r, hq x hx hm H' e' t'⟩) (List.length_pos_iff.mpr ne) J ⟨its.toArray, by simpa using rx, ?_, ?_⟩ (Heap.get?_push_size _ rfl)⟩
      · obtain ⟨vs, r, ⟨o, e, r1⟩, ⟨o', e', r2⟩⟩ := st
        exact ⟨vs, r, ⟨o, k _ _ List.mem_cons_self e, r1⟩, ⟨o', k _ _ (by simp) e', r2⟩⟩
      · obtain ⟨vs, r, ⟨o, e, r1⟩, _⟩ := st
        obtain ⟨its', rx', hit', _⟩ := J'.inv.tuple (sqT_extN J'.ext hs)
        exact ⟨its'.toArray, by simpa using rx', ⟨o, kk _ _ J.fI e, r1⟩, hit'⟩
      · exact ⟨_, Heap.get?_push_of_some _ (Heap.get?_push_size _ rfl), rfl, rfl⟩
      · exact (hIt.push _).push _
end
end Xln
set_option Elab.async false
set_option linter.all false
set_option maxRecDepth 100000
set_option maxHeartbeats 4000000
set_option pp.maxSteps 400
set_option pp.deepTerms false
/-! min(a list, key=lambda p: ..): the first of the least -/
namespace Xll
open PySem PySem.Spec PyProof.Rows L2 Az PySem.W LamX Xln
section
theorem sqL_extN {K : PySem.W.Frag} {H H' : Hp} (s : ExtN H H') {t : Addr} {xs : List V} (q : SqL K H t xs) : SqL K H' t xs := by
  rcases q with (q | ⟨o, q⟩) | q
  · exact .inl (.inl (s _ _ q fun ps z => by cases z))
  · exact .inl (.inr ⟨o, s _ _ q fun ps z => by cases z⟩)
  · exact .inr q
/-- where the walk of a tuple stands -/
def Stl (xs : List V) (It l : Addr) (i : Nat) (s : Shared) : Prop := ∃ vs : Array Value, Vals xs vs.toList ∧ s.heap.IsListIter It l i ∧ s.heap.IsList l vs
theorem walk_tl {prog : Program} {w : World} {A : Around} {It l : Addr} {xs : List V} (hh : A.handled = none) (ne : l ≠ It) :
    WalksS prog w A It [It, l] [It] (fun a b => b = a) xs.length (fun i v => ∃ x, xs[i]? = some x ∧ RelV x v) (Stl xs It l) := by
  have W := fun vs : Array Value => (Walks.list (prog := prog) (w := w) (A := A) hh It l ne vs).toS
  have sz : ∀ {vs : Array Value}, Vals xs vs.toList → vs.size = xs.length := fun {vs} r => by rw [r.length, Array.length_toList]
  refine ⟨fun b hb => by simp at hb; simp [hb], fun _ => rfl, fun a b c h1 h2 => h2.trans h1, fun i s h' tk st le k => ?_, fun i s Q E hi st h => ?_, fun s Q E st h => ?_, fun i s Q E st h => ?_⟩
  · obtain ⟨vs, r, st⟩ := st
    exact ⟨vs, r, (W vs).frame i s h' tk st le k⟩
  · obtain ⟨vs, r, st⟩ := st
    refine (W vs).item i s Q E (by rw [sz r]; exact hi) st fun v s' hP st' hm => h v s' ?_ ⟨vs, r, st'⟩ hm
    obtain ⟨v', e', rx⟩ := r.get (List.getElem?_eq_getElem hi)
    rw [Array.getElem?_toList, show vs[i]? = some v from hP] at e'
    cases e'
    exact ⟨_, List.getElem?_eq_getElem hi, rx⟩
  · obtain ⟨vs, r, st⟩ := st
    exact (W vs).done s Q E (by rw [sz r]; exact st) h
  · obtain ⟨vs, r, st⟩ := st
    exact (W vs).self i s Q E st h
end
abbrev itL (l : Addr) : Obj := { cls := .type "list_iterator", data := .fields #[.ref l, .int 0 0] }
/-- min(e, key=lambda pn: body): some item -/
def tMinLamL (K : PySem.W.Frag) (T : List (Addr × Str)) (Ky : Hp → V → PyData → Prop) (ta tb : TE) : TE := fun σ H Q => ta σ H fun x H1 => ∃ (l : Addr) (xs : List V) (kd : V → PyData), x = .ref l ∧ SqL K H1 l xs ∧ xs ≠ [] ∧ Tabs T H1 ∧
  (∀ v ∈ xs, ∀ v' ∈ xs, alike (kd v) (kd v') = true) ∧ (∀ v ∈ xs, kd v ≠ .none ∧ (kd v).depth ≤ 50) ∧ (∀ v ∈ xs, dataLt (kd v) (kd v) = false) ∧ (∀ u ∈ xs, ∀ v ∈ xs, ∀ z ∈ xs, dataLt (kd u) (kd v) = true → dataLt (kd v) (kd z) = true → dataLt (kd u) (kd z) = true) ∧
  (∀ H2, ExtN H1 H2 → Tabs T H2 → ∀ v ∈ xs, tb (some v :: σ) H2 fun y H3 => ExtN H2 H3 ∧ Tabs T H3 ∧ Ky H3 y (kd v)) ∧ ∀ v ∈ xs, (∀ v' ∈ xs, dataLt (kd v') (kd v) = false) → ∀ H', ExtN H1 H' → Tabs T H' → Q v H'
section
variable {X : Cx}
theorem pe_minLamL {T : List (Addr × Str)} {Ky : Hp → V → PyData → Prop} {e : Expr} {params : Arguments} {body : Expr} {scope : Scope} {lpos kpos p pos : Pos} {pn : Str} {c P : Addr} {k : Nat} {ta tb : TE}
    (hg : Gl X "min") (hm : X.mg "min" = none) (calm : X.calm = true) (room : Room (k + 3) X.A) (ha : PE X e ta)
    (TB : TabB X.base X.mg c P) (hcode : X.env.code = .ref c) (hmT : (P, X.env.qual ++ "<lambda>") ∈ T) (hu : ∀ p ∈ T, p.1 = P → p.2 = X.env.qual ++ "<lambda>") (L : Lam1 X.env.scope scope pn) (hpn : pn ∉ X.N) (hdef : defaultsOf params X.env = ([], []))
    (hbind : ∀ (q : Str) (cl : List (Str × Addr)) (pm cv ctv u : Value), bindArgs (kla_fn "<lambda>" q params body scope cl pm cv ctv) ⟨[u], []⟩ = pure [(pn, u)])
    (hbody : ∀ (A : Around) (s : Shared) (H : Hp) (f c' : Addr), Room k (A.deeper (lamEnv X scope s.heap.objs.size f c')) → PE (lamX X A s H pn scope f c') body tb)
    (hdz : ∀ H y d, Ky H y d → Dz X.K H y d) (hkeep : ∀ (H H' : Hp) y d, (∀ b zs, H b = some (.tup zs) → H' b = some (.tup zs)) → Ky H y d → Ky H' y d)
    (hs0 : starEach [e] X.env = (false, eval e X.env) :: starEach [] X.env := by rfl) (he : backTo pos (starEach [e] X.env) = (false, eval e X.env) :: backTo pos (starEach [] X.env) := by rfl) (hpl : (backTo pos (starEach [e] X.env)).any (·.1) = false := by rfl) :
    PE X (.Call (.Name "min" p) [e] [⟨some "key", .Lambda params body scope lpos, kpos⟩] pos) (tMinLamL X.K T Ky ta tb) := by
  refine ⟨fun pins s σ H Q I h => ?_⟩
  refine wpAny_Call_Name_kw (ld_blt I hg hm (u := .builtin "min") (by decide +kernel) ?_)
  refine PyProof.Rows.callWith_kw (thn ((pa_cons (hs := hs0) ha pa_nil).run pos pins s σ H (fun vs H1 => match vs with
    | [x] => ∃ (l : Addr) (xs : List V) (kd : V → PyData), x = .ref l ∧ SqL X.K H1 l xs ∧ xs ≠ [] ∧ Tabs T H1 ∧
      (∀ v ∈ xs, ∀ v' ∈ xs, alike (kd v) (kd v') = true) ∧ (∀ v ∈ xs, kd v ≠ .none ∧ (kd v).depth ≤ 50) ∧ (∀ v ∈ xs, dataLt (kd v) (kd v) = false) ∧ (∀ u ∈ xs, ∀ v ∈ xs, ∀ z ∈ xs, dataLt (kd u) (kd v) = true → dataLt (kd v) (kd z) = true → dataLt (kd u) (kd z) = true) ∧
      (∀ H2, ExtN H1 H2 → Tabs T H2 → ∀ v ∈ xs, tb (some v :: σ) H2 fun y H3 => ExtN H2 H3 ∧ Tabs T H3 ∧ Ky H3 y (kd v)) ∧ ∀ v ∈ xs, (∀ v' ∈ xs, dataLt (kd v') (kd v) = false) → ∀ H', ExtN H1 H' → Tabs T H' → Q v H'
    | _ => False) I h) fun us s1 hq => ?_) he hpl
  obtain ⟨ws, H1, I1, r1, q1⟩ := hq
  match ws, q1 with
  | [], q1 => exact False.elim q1
  | _ :: _ :: _, q1 => exact False.elim q1
  | [x], q1 =>
    obtain ⟨l, xs, kd, rfl, hs, ne, hT, hal, hso, hirr, htr, hbd, hq⟩ := q1
    obtain ⟨u, rfl, ru⟩ := vals1 r1
    cases ru
    show wpAny _ _ (evalAll ((do let v ← eval (.Lambda params body scope lpos) X.env; standAt pos; pure v) :: [])) _ _ s1
    refine wpAny_evalAll_cons (wpAny_bind (lam_make2 I1 TB hcode hmT hu hT hdef (L.has I1.ok) fun f c' pm ctv H2 s2 I2 eN T2 hf hfn hfr hco => wpAny_bind (wpAny_standAt (wpAny_pure (wpAny_evalAll_nil ?_)))))
    show wpAny _ _ (call (.builtin "min") [.ref l] [(Str.ofString "key", .ref f)]) _ _ s2
    have hs2 := sqL_extN eN hs
    obtain ⟨its, rx, ⟨ol, nl, el, el1, el2, el3⟩, _⟩ := I2.list hs2
    have hIt : s2.heap.IsList l its.toArray := by first | exact ⟨ol, el, el1, nl, el2⟩ | exact ⟨ol, el, el1, nl, el3⟩ | exact ⟨ol, el, el2, nl, el3⟩
    have hl : l < s2.heap.objs.size := by obtain ⟨o, ho, _⟩ := hIt; exact Heap.lt_size ho
    have hf' : f < s2.heap.objs.size := Heap.lt_size hf
    have hh : X.A.handled = none := I.ok.hd calm
    have nm : (toString "min" ++ toString ".loop" : String) = "min.loop" := by decide
    refine kmk_tree F.kind_min F.plain_min F.entry_min (kmk_min_key _ _) ?go
    case go =>
      show wpAny _ X.A.in1 (Builtin.Builtins.bindParams "min" ["key", "default"] 0 ⟨[], [(Str.ofString "key", .ref f)]⟩ >>= _) _ _ s2
      refine wpAny_bind (wpAny_of_eq (show Builtin.Builtins.bindParams "min" ["key", "default"] 0 ⟨[], [(Str.ofString "key", .ref f)]⟩ = pure [some (.ref f), none] from rfl) ?_)
      refine wpAny_bind (wpAny_pure (wpAny_bind (wpAny_pyIter_list hIt (wpAny_bind (wpAny_newObj_type ?_)))))
      rw [nm]
      -- the iterator, the list
      have sz : (s2.heap.push (itL l)).objs.size = s2.heap.objs.size + 1 := Heap.size_push ..
      show wpAny _ _ _ _ _ { s2 with heap := (s2.heap.push (itL l)).push { cls := .type "list", data := .seq #[] 0 } }
      have le1 : s2.heap.objs.size ≤ s2.heap.objs.size := Nat.le_refl _
      have le2 : s2.heap.objs.size ≤ (s2.heap.push (itL l)).objs.size := by rw [sz]; omega
      have kp : ∀ b o, s2.heap.get? b = some o → ((s2.heap.push (itL l)).push { cls := .type "list", data := .seq #[] 0 }).get? b = some o := fun b o e => Heap.get?_push_of_some _ (Heap.get?_push_of_some _ e)
      have J : Jm X pins σ T H1 (s2.heap.push (itL l)).objs.size s2.heap.objs.size f c' _ (X.env.qual ++ "<lambda>") H2 { s2 with heap := (s2.heap.push (itL l)).push { cls := .type "list", data := .seq #[] 0 } } :=
        ⟨I2.kept (t' := s2.toks) kp, eN, T2, I2.fpOk le2 (I2.hok.fresh le2), I2.fpOk le1 (I2.hok.fresh le1), kp _ _ hf, hfn, hco, ⟨_, Heap.get?_push_size _ rfl⟩, ⟨_, Heap.get?_push_of_some _ (Heap.get?_push_size _ rfl)⟩⟩
      have nS : (s2.heap.push (itL l)).objs.size ∉ [s2.heap.objs.size, l] := fun z => by
        rw [sz] at z
        rcases List.mem_cons.mp z with z | z
        · exact absurd z (Nat.succ_ne_self _)
        · exact absurd hl (by rw [← List.mem_singleton.mp z]; exact Nat.not_lt.mpr (Nat.le_succ _))
      have K : KeyL X pins σ T H1 (s2.heap.push (itL l)).objs.size s2.heap.objs.size f c' (kla_obj "<lambda>" (X.env.qual ++ "<lambda>") params body scope (cloFrom X.env.cells scope.names []) pm c' ctv) (X.env.qual ++ "<lambda>") Ky kd xs X.A.in1 := by
        refine ⟨fun H s v u E J hv rv => ?_, hdz, hkeep, hal, hso, ?_, hirr, htr⟩
        · have fr : X.A.in1.frames = some X.stack := by show X.A.frames = some X.stack; exact I.ok.frames
          refine wpAny_mono (lam_call (E := E) J.inv L hpn J.fn J.cd (hbind _ _ _ _ _ _) fr (room.in1.mono (by omega) : Room (k + 1) _) (fun hr => hbody _ _ _ _ _ hr) rv (hbd H J.ext J.tab v hv)) (fun y s' hq' => ?_) fun _ _ z => z
          obtain ⟨z, H', os, bare, un, hok, rz, eN', T', ky⟩ := hq'
          have I' : Inv X pins σ H' s' := J.inv.call' os un hok bare fun b hb => absurd hb List.not_mem_nil
          have kpt : ∀ b o, FpOk X pins H b → s.heap.get? b = some o → s'.heap.get? b = some o := fun b o fb e => un.keep _ _ e fb.1 (fun hz => by
            rcases List.mem_cons.mp (J.inv.stkSub b hz) with e' | e'
            · exact fb.2.1 e'
            · exact fb.2.2.1 e') List.not_mem_nil
          have fz : ∀ b o, s.heap.get? b = some o → FpOk X pins H b → FpOk X pins H' b := fun b o e fb => ⟨un.free _ _ e fb.1 List.not_mem_nil, fb.2⟩
          obtain ⟨oS, eS⟩ := J.eS
          obtain ⟨oI, eI⟩ := J.eI
          refine ⟨z, H', ⟨I', J.ext.trans eN', T', fz _ _ eS J.fS, fz _ _ eI J.fI, un.keep _ _ J.fn J.nf (fun hz => ?_) List.not_mem_nil, un.free _ _ J.fn J.nf List.not_mem_nil, eN' _ _ J.cd codeO_ne, ⟨_, kpt _ _ J.fS eS⟩, ⟨_, kpt _ _ J.fI eI⟩⟩, rz, ky, un.tups, kpt⟩
          exact hfr hz
        · have := room.units
          show X.A.units + 1 + 60 < cLine
          omega
      refine wpAny_pure ⟨plainId_quiet F.plain_min_loop _, min_first (A := X.A) (fp := [s2.heap.objs.size, l]) (St := Stl xs s2.heap.objs.size l) (walk_tl (A := X.A.in1) hh (Nat.ne_of_lt hl)) nS (Nat.ne_of_lt (Nat.lt_of_lt_of_le hf' le2)) (Nat.ne_of_lt hf') K
        (fun i v ⟨x, e, r⟩ => ⟨x, e, r⟩) rfl (fun i s s' st k => ?_) (fun H s i J st s' H' J' kk => ?_) (fun i s ⟨vs, r, ⟨o, e, _⟩, _⟩ => ⟨o, e⟩) (fun x v s' H' hx hm r I' e' t' => ⟨x, H', I', r, hq x hx hm H' e' t'⟩) (List.length_pos_iff.mpr ne) J ⟨its.toArray, by simpa using rx, ?_, ?_⟩ (Heap.get?_push_size _ rfl)⟩
      · obtain ⟨vs, r, ⟨o, e, r1⟩, ⟨o', e', r2⟩⟩ := st
        exact ⟨vs, r, ⟨o, k _ _ List.mem_cons_self e, r1⟩, ⟨o', k _ _ (by simp) e', r2⟩⟩
      · obtain ⟨vs, r, ⟨o, e, r1⟩, _⟩ := st
        obtain ⟨its', rx', ⟨ol', nl', f1, f2, f3, f4⟩, _⟩ := J'.inv.list (sqL_extN J'.ext hs)
        exact ⟨its'.toArray, by simpa using rx', ⟨o, kk _ _ J.fI e, r1⟩, by first | exact ⟨ol', f1, f2, nl', f3⟩ | exact ⟨ol', f1, f2, nl', f4⟩ | exact ⟨ol', f1, f3, nl', f4⟩⟩
      · exact ⟨_, Heap.get?_push_of_some _ (Heap.get?_push_size _ rfl), rfl, rfl⟩
      · exact (hIt.push _).push _
end
end Xll
set_option Elab.async false
set_option linter.all false
set_option maxRecDepth 100000
set_option maxHeartbeats 4000000
set_option pp.maxSteps 400
set_option pp.deepTerms false
/-! list(d.values()); max(l, default=d) of numbers -/
namespace Xvl
open PySem PySem.Spec PyProof.Rows L2 PySem.W
theorem kv_vals {κ : Type} : ∀ {kvs : List (κ × V)} {vs : List (κ × Value)}, KV kvs vs → Vals (kvs.map (·.2)) (vs.map (·.2))
  | [], _, h => by cases h; exact .nil
  | (k, v) :: r, _, h => by
    cases h with
    | cons h1 h2 => exact .cons h1.2 (kv_vals h2)
/-- *e ahead of other items, e a list -/
def tStarL (K : PySem.W.Frag) (ta : TE) (tr : TA) : TA := fun σ H Q => ta σ H fun x H1 => ∃ a xs, x = .ref a ∧ SqL K H1 a xs ∧ tr σ H1 fun ys H2 => Q (xs ++ ys) H2
theorem pa_starL {X : Cx} {e : Expr} {es : List Expr} {te : TE} {t : TA} {p : Pos} (ha : PE X e te) (hr : PA X es t) : PA X (.Starred e p :: es) (tStarL X.K te t) := by
  refine ⟨fun pos pins s σ H Q I h => ?_⟩
  refine items_star (thn (ha.run pins s σ H _ I h) fun u s1 ⟨x, H1, I1, r1, a, xs, ex, hq, q⟩ => ?_)
  subst ex
  obtain rfl : u = Value.ref a := r1
  refine StX.star_lst I1 hq fun us s2 I2 rv => ?_
  exact thn (hr.run pos pins s2 σ H1 _ I2 q) fun ws s3 ⟨ys, H2, I3, r2, q2⟩ => ⟨xs ++ ys, H2, I3, rv.append r2, q2⟩
def tListVals (td : TE) : TE := fun σ H Q => td σ H fun x H1 => ∃ d kvs, x = .ref d ∧ H1 d = some (.dK kvs) ∧ ∀ p, H1 p = none → p ≠ sysModules → Q (.ref p) (upd H1 p (.lst (kvs.map (·.2))))
section
variable {X : Cx}
theorem pe_listVals {e : Expr} {td : TE} {p pos apos cpos : Pos} (hc : X.calm = true) (hg : Gl X "list") (hm : X.mg "list" = none) (he : PE X e td) (hbase : attributeBase e "values" X.env (eval e X.env) = eval e X.env := by rfl) (hline : (apos.endLine == cpos.line) = true := by rfl)
    (na : starEach [.Call (.Attribute e "values" apos) [] [] cpos] X.env = (false, eval (.Call (.Attribute e "values" apos) [] [] cpos) X.env) :: starEach [] X.env := by rfl) :
    PE X (.Call (.Name "list" p) [.Call (.Attribute e "values" apos) [] [] cpos] [] pos) (tListVals td) := by
  refine ⟨fun pins s σ H Q I h => ?_⟩
  refine Call_ (ld_blt I hg hm (u := .type "list") (by decide +kernel) ?_); refine PyProof.Rows.callWith_type1 (PyProof.Rows.args_cons ?_ na) na rfl
  refine wpAny_Call_method (T := "dict") (id := "dict.values") hbase rfl hline F.plainAttrs_dict F.slot_dict_values F.type_dict_values (thn (he.run pins s σ H _ I h) fun u s1 ⟨x, H1, I1, rx, d, kvs, ex, hd, q⟩ => ?_)
  subst ex
  obtain rfl : u = Value.ref d := rx
  obtain ⟨z, hsys, vs, rel, dd⟩ := dk_of I1.hok hd
  refine ⟨dd.typeIs, dd.mapOf.noDict, ?_⟩
  have I2 : Inv X pins σ H1 { s1 with heap := s1.heap.push { cls := .type "dict_values", data := .fields #[.ref d] } } := I1.kept (t' := s1.toks) fun b ob q => Heap.get?_push_of_some _ q
  obtain ⟨ep, da⟩ := dd.dictAt
  have hl : kvs.length = vs.length := Paired.length rel
  refine method_meetsIn F.slot_dict_values F.entry_dict_values rfl (PySem.evalArgs_none ⟨rfl, dd.typeIs, F.args_dict_values_1 _, _, meets_dict_values (mixKind X.prog X.w) d hsys, ⟨vs, dd⟩, PyProof.Rows.args_nil ?_⟩)
  refine kdl_call (kdl_values (knd := mixKind X.prog X.w) (kvs := vs) (ep := ep) (d := d) (r := s1.heap.objs.size)) (I1.ok.hd hc) ⟨⟨_, Heap.get?_push_size _ rfl, rfl, rfl⟩, da.push _⟩ (by rw [← hl]; exact z) fun h' tk acc' c' hk hS it => ?_
  have ea : acc'.toList = vs.map (·.2) := kdl_vals_eq acc'.toList (by rw [Array.length_toList]; exact it.1) fun j v e => it.2 j v (by rw [← Array.getElem?_toList]; exact e)
  have rv : Vals (kvs.map (·.2)) acc'.toList := by rw [ea]; exact kv_vals rel
  have new : H1 (s1.heap.push { cls := .type "dict_values", data := .fields #[.ref d] }).objs.size = none := I2.hok.fresh (Nat.le_refl _)
  refine ⟨.ref _, upd H1 (s1.heap.push { cls := .type "dict_values", data := .fields #[.ref d] }).objs.size (.lst (kvs.map (·.2))), I2.laid (t' := tk) hk (Nat.le_refl _) ?_, rfl, q _ new (Nat.ne_of_gt I2.big)⟩
  exact ⟨by rw [List.length_map]; exact z, acc'.toList, c', rv, by rw [Array.toArray_toList]; exact hS⟩
/-- max(l, default=d) of numbers -/
def tMaxDef (K : PySem.W.Frag) (d : Int) (ta : TE) : TE := fun σ H Q => ta σ H fun x H1 => ∃ l, ∃ ns : List Int, x = .ref l ∧ SqL K H1 l (ns.map V.int) ∧ Q (.int (match ns with | [] => d | n :: r => r.foldl max n)) H1
theorem pe_maxDef {e : Expr} {ta : TE} {d : Int} {j : Nat} {p pos kpos cpos : Pos} {k : Nat} (hc : X.calm = true) (room : Room k X.A) (hg : Gl X "max") (hm : X.mg "max" = none) (ha : PE X e ta)
    (hs0 : starEach [e] X.env = (false, eval e X.env) :: starEach [] X.env := by rfl) (he : backTo pos (starEach [e] X.env) = (false, eval e X.env) :: backTo pos (starEach [] X.env) := by rfl) (hpl : (backTo pos (starEach [e] X.env)).any (·.1) = false := by rfl) :
    PE X (.Call (.Name "max" p) [e] [⟨some "default", .Constant (.int d) j cpos, kpos⟩] pos) (tMaxDef X.K d ta) := by
  refine ⟨fun pins s σ H Q I h => ?_⟩
  refine wpAny_Call_Name_kw (ld_blt I hg hm (u := .builtin "max") (by decide +kernel) ?_)
  refine PyProof.Rows.callWith_kw (thn ((pa_cons (hs := hs0) ha pa_nil).run pos pins s σ H (fun vs H1 => match vs with
    | [x] => ∃ l, ∃ ns : List Int, x = .ref l ∧ SqL X.K H1 l (ns.map V.int) ∧ Q (.int (match ns with | [] => d | n :: r => r.foldl max n)) H1
    | _ => False) I h) fun us s1 hq => ?_) he hpl
  obtain ⟨ws, H1, I1, r1, q1⟩ := hq
  match ws, q1 with
  | [], q1 => exact False.elim q1
  | _ :: _ :: _, q1 => exact False.elim q1
  | [x], q1 =>
    obtain ⟨l, ns, rfl, hs, hq⟩ := q1
    obtain ⟨u, rfl, ru⟩ := vals1 r1
    cases ru
    show wpAny _ _ (evalAll ((do let v ← eval (.Constant (.int d) j cpos) X.env; standAt pos; pure v) :: [])) _ _ s1
    refine wpAny_evalAll_cons (wpAny_bind (thn ((pe_int (X := X) (i := d)).run pins s1 σ H1 (fun y H2 => y = .int d ∧ H2 = H1) I1 ⟨rfl, rfl⟩) fun v s2 hv => wpAny_bind (wpAny_standAt (wpAny_pure (wpAny_evalAll_nil ?_)))))
    obtain ⟨y, H2, I2, ry, rfl, rfl⟩ := hv
    obtain ⟨t, rfl⟩ := ry
    obtain ⟨its, rx, ⟨ol, nl, el, el1, el2, el3⟩, _⟩ := I2.list hs
    have hIt : s2.heap.IsList l its.toArray := by first | exact ⟨ol, el, el1, nl, el2⟩ | exact ⟨ol, el, el1, nl, el3⟩ | exact ⟨ol, el, el2, nl, el3⟩
    have ia : IntsAre its ns := ints_of_vals rx
    have hh : X.A.handled = none := I2.ok.hd hc
    have hu := room.un
    show wpAny _ _ (call (.builtin "max") [.ref l] [(Str.ofString "default", .int d t)]) _ _ s2
    refine max_list_default hh hIt (IntsAre.reads _ (by simpa using ia)) (⟨fun x hx y hy => by
      obtain ⟨a, _, rfl⟩ := List.mem_map.mp hx
      obtain ⟨b, _, rfl⟩ := List.mem_map.mp hy
      rfl, fun x hx z => by
      obtain ⟨a, _, rfl⟩ := List.mem_map.mp hx
      cases z⟩ : AlikeAll (ns.map .int)) (by rw [Xt.depth_ints]; omega) (fun e h' tk kp => ?_) fun y ys i v h' tk bs e hi r kp => ?_
    · have e0 : ns = [] := List.map_eq_nil_iff.mp e
      rw [e0] at hq
      exact ⟨.int d, H2, I2.kept kp, ⟨_, rfl⟩, hq⟩
    · cases ns with
      | nil => cases e
      | cons n r2 =>
        rw [List.map_cons] at e
        injection e with e1 e2
        subst e1
        subst e2
        rw [maxD_ints] at r
        cases r
        exact ⟨.int _, H2, I2.kept kp, ⟨_, rfl⟩, hq⟩
/-- max(t) of a tuple of numbers -/
def rMaxT (K : PySem.W.Frag) : List V → Hp → VK → Prop := fun vs H Q => ∃ (a : Addr) (n : Int) (ns : List Int), vs = [V.ref a] ∧ SqT K H a ((n :: ns).map V.int) ∧ Q (.int (ns.foldl max n)) H
theorem cr_maxT {k : Nat} (hc : X.calm = true) (room : Room k X.A) : CallR X (.builtin "max") (rMaxT X.K) := by
  intro pins s σ H vs us Q I r h
  obtain ⟨a, n, ns, rfl, hs, q⟩ := h
  obtain ⟨u, rfl, ru⟩ := vals1 r
  cases ru
  obtain ⟨its, rv, ⟨o, ho, hcl, nn, hd⟩, hz⟩ := I.tuple hs
  have hIt : s.heap.IsTuple a its.toArray := by first | exact ⟨o, ho, hcl, nn, hd⟩ | exact ⟨o, ho, hcl, hd⟩
  have ia : IntsAre its (n :: ns) := ints_of_vals rv
  have hu := room.un
  refine max_tuple_data (I.ok.hd hc) hIt (x := .int n) (xs := ns.map .int) (by have := IntsAre.reads s.heap (by simpa using ia : IntsAre its.toArray.toList (n :: ns)); simpa using this) (⟨fun x hx y hy => by
      have hx : x ∈ (n :: ns).map PyData.int := hx
      have hy : y ∈ (n :: ns).map PyData.int := hy
      obtain ⟨a, _, rfl⟩ := List.mem_map.mp hx
      obtain ⟨b, _, rfl⟩ := List.mem_map.mp hy
      rfl, fun x hx z => by
      have hx : x ∈ (n :: ns).map PyData.int := hx
      obtain ⟨a, _, rfl⟩ := List.mem_map.mp hx
      cases z⟩ : AlikeAll (.int n :: ns.map .int)) (by
        have e : PyData.depthAll (.int n :: ns.map .int) = 0 := Xt.depth_ints (n :: ns)
        rw [e]
        omega) fun i v h' tk bs hi rd kp => ?_
  rw [maxD_ints] at rd
  cases rd
  exact ⟨.int _, H, I.kept kp, ⟨_, rfl⟩, q⟩
end
end Xvl
set_option Elab.async false
set_option linter.all false
set_option maxRecDepth 100000
set_option maxHeartbeats 8000000
set_option pp.maxSteps 400
set_option pp.deepTerms false
/-! A dict made of two sources, its keys numbers, texts or tuples of them. -/
namespace Xdc
open PySem PySem.Spec PyProof.Rows L2
/-- nothing goes wrong -/
abbrev no : Value → Shared → Prop := fun _ _ => False
/-- the two sources -/
abbrev two (t0 i0 t1 i1 : Expr) (c0 c1 : List Expr) : List Comprehension := [⟨t0, i0, c0, 0⟩, ⟨t1, i1, c1, 0⟩]
/-- the tests of one source -/
abbrev tst (cs : List Expr) (env : Env) : Sem Bool := forIn cs true fun c r => if r = true then do let z ← isTrue c env (eval c env); pure (ForInStep.yield z) else pure (ForInStep.yield r)
section
variable {kx vx t0 i0 t1 i1 : Expr} {c0 c1 : List Expr} {scope : Scope} {pos : Pos} {it : Value} {D : Addr} {env : Env}
theorem turn0 : compTurn (.DictComp kx vx (two t0 i0 t1 i1 c0 c1) scope pos) 0 it (.ref D) env = (do
      standAt i0.pos
      match ← pyNext it with
      | none => pure (.done .next)
      | some v => letOwnedTupleGo t0 it v; assign t0 env v; let mut z := true
                  for c in c0 do if z then z ← isTrue c env (eval c env)
                  if z then
                    let x ← eval i1 env
                    standAt i1.pos; let x ← foldedSetIterable i1 env x
                    let _ ← runOwn (.compStart (.DictComp kx vx (two t0 i0 t1 i1 c0 c1) scope pos) 1 (← holding [x] (pyIter x)) (.ref D) env) env
                  again (.compLoop (.DictComp kx vx (two t0 i0 t1 i1 c0 c1) scope pos) 0 it (.ref D) env)) := by rfl
theorem turn1 : compTurn (.DictComp kx vx (two t0 i0 t1 i1 c0 c1) scope pos) 1 it (.ref D) env = (do
      standAt i1.pos
      match ← pyNext it with
      | none => pure (.done .next)
      | some v => letOwnedTupleGo t1 it v; assign t1 env v; let mut z := true
                  for c in c1 do if z then z ← isTrue c env (eval c env)
                  if z then
                    (do let k ← eval kx env
                        let y ← holding [k] (eval vx env)
                        standAt { kx.pos with endLine := vx.pos.endLine, endCol := vx.pos.endCol }; holding [k, y] (dictSet D k y))
                  again (.compLoop (.DictComp kx vx (two t0 i0 t1 i1 c0 c1) scope pos) 1 it (.ref D) env)) := by rfl
variable {prog : Program} {w : World} {A : Around} {R : Result → Shared → Prop} {s : Shared}
/-- over the first source -/
theorem loop0 (hs : ∀ x, foldedSetIterable i1 env x = pure x) (G : Nat → Shared → Prop)
    (turn : ∀ n s, G n s → wpAny (model prog w) A (pyNext it) (fun r s1 => match r with
      | none => R (.ok .next) s1
      | some v => wpAny (model prog w) A (letOwnedTupleGo t0 it v) (fun _ s2 => wpAny (model prog w) A (assign t0 env v) (fun _ s3 => wpAny (model prog w) A (tst c0 env) (fun z s4 =>
          if z = true then wpAny (model prog w) A (eval i1 env) (fun x s5 => wpAny (model prog w) A (pyIter x) (fun j s6 =>
            codeAny (model prog w) A (.compStart (.DictComp kx vx (two t0 i0 t1 i1 c0 c1) scope pos) 1 j (.ref D) env) (fun r s7 => match r with
              | .ok _ => ∃ m, m < n ∧ G m s7
              | .error _ => False) s6) no s5) no s4 else ∃ m, m < n ∧ G m s4) no s3) no s2) no s1) no s)
    (n : Nat) (h : G n s) : codeAny (model prog w) A (.compLoop (.DictComp kx vx (two t0 i0 t1 i1 c0 c1) scope pos) 0 it (.ref D) env) R s := by
  refine codeAny_loop rfl G (fun n s hI => ?_) n h
  show wpAny _ A ((compTurn (.DictComp kx vx (two t0 i0 t1 i1 c0 c1) scope pos) 0 it (.ref D) env).onRaise (fun x => do noteFrame x env; theTreesLotGoes x)) _ _ s
  refine wpAny_noted ?_; rw [turn0]
  refine wpAny_bind (wpAny_standAt (wpAny_bind (thnF (turn n s hI) fun r s1 h1 => ?_)))
  cases r with
  | none => exact wpAny_pure h1
  | some v =>
    refine wpAny_bind (thnF h1 fun _ s2 h2 => ?_)
    refine wpAny_bind (thnF h2 fun _ s3 h3 => wpAny_bind (thnF h3 fun z s4 h4 => ?_))
    cases z with
    | false => exact wpAny_pure ⟨rfl, h4⟩
    | true =>
      refine wpAny_bind (thnF h4 fun x s5 h5 => wpAny_bind (wpAny_standAt (wpAny_bind (wpAny_of_eq (hs x) (wpAny_bind (wpAny_holding (thnF h5 fun j s6 h6 => ?_)))))))
      refine wpAny_bind (wpAny_runOwn ?_); rw [Around.mark_none]
      refine codeAny_mono h6 fun r s7 hr => ?_
      cases r with
      | error e => exact hr.elim
      | ok f => first | exact wpAny_pure ⟨rfl, hr⟩ | exact wpAny_bind (wpAny_pure (wpAny_pure ⟨rfl, hr⟩))
/-- over the second -/
theorem loop1 (G : Nat → Shared → Prop)
    (turn : ∀ n s, G n s → wpAny (model prog w) A (pyNext it) (fun r s1 => match r with
      | none => R (.ok .next) s1
      | some v => wpAny (model prog w) A (letOwnedTupleGo t1 it v) (fun _ s2 => wpAny (model prog w) A (assign t1 env v) (fun _ s3 => wpAny (model prog w) A (tst c1 env) (fun z s4 =>
          if z = true then wpAny (model prog w) A (eval kx env) (fun k s5 => wpAny (model prog w) A (eval vx env) (fun y s6 => wpAny (model prog w) A (dictSet D k y) (fun _ s7 => ∃ m, m < n ∧ G m s7) no s6) no s5) no s4
          else ∃ m, m < n ∧ G m s4) no s3) no s2) no s1) no s)
    (n : Nat) (h : G n s) : codeAny (model prog w) A (.compLoop (.DictComp kx vx (two t0 i0 t1 i1 c0 c1) scope pos) 1 it (.ref D) env) R s := by
  refine codeAny_loop rfl G (fun n s hI => ?_) n h
  show wpAny _ A ((compTurn (.DictComp kx vx (two t0 i0 t1 i1 c0 c1) scope pos) 1 it (.ref D) env).onRaise (fun x => do noteFrame x env; theTreesLotGoes x)) _ _ s
  refine wpAny_noted ?_; rw [turn1]
  refine wpAny_bind (wpAny_standAt (wpAny_bind (thnF (turn n s hI) fun r s1 h1 => ?_)))
  cases r with
  | none => exact wpAny_pure h1
  | some v =>
    refine wpAny_bind (thnF h1 fun _ s2 h2 => ?_)
    refine wpAny_bind (thnF h2 fun _ s3 h3 => wpAny_bind (thnF h3 fun z s4 h4 => ?_))
    cases z with
    | false => exact wpAny_pure ⟨rfl, h4⟩
    | true =>
      exact wpAny_bind (wpAny_bind (thnF h4 fun k s5 h5 => wpAny_bind (wpAny_holding (thnF h5 fun y s6 h6 => wpAny_bind (wpAny_standAt (wpAny_holding (thnF h6 fun _ s7 h7 => wpAny_pure ⟨rfl, h7⟩)))))))
/-- the second source's start -/
theorem start1 (h0 : codeAny (model prog w) A (.compLoop (.DictComp kx vx (two t0 i0 t1 i1 c0 c1) scope pos) 1 it (.ref D) env) R s)
    (h : wpAny (model prog w) A (pyIter it) (fun j s1 => codeAny (model prog w) A (.compLoop (.DictComp kx vx (two t0 i0 t1 i1 c0 c1) scope pos) 1 j (.ref D) env) R s1) (notedBy (model prog w) A env fun x s1 => R (.error x) s1) s) :
    codeAny (model prog w) A (.compStart (.DictComp kx vx (two t0 i0 t1 i1 c0 c1) scope pos) 1 it (.ref D) env) R s := by
  refine codeAny_of_tree ?_
  show wpAny _ _ ((compStart (.DictComp kx vx (two t0 i0 t1 i1 c0 c1) scope pos) 1 it (.ref D) env).onRaise (fun x => do noteFrame x env; standAt theWindowsPlace)) _ _ s
  refine wpAny_notedAt ?_; unfold compStart; show wpAny _ _ (ask >>= _) _ _ s
  refine wpAny_bind (wpAny_askSetting (wpAny_ite ?_))
  split
  · first | exact wpAny_bind (wpAny_pure (wpAny_pure (And.intro rfl h0))) | exact wpAny_pure (And.intro rfl h0)
  · first | exact wpAny_bind (wpAny_rule (wpAny_bind (wpAny_standAt (wpAny_bind (thn h fun j s1 z => wpAny_pure (And.intro rfl z))))))
          | (refine wpAny_bind (wpAny_rule ?_); show wpAny _ _ (standAt i1.pos >>= _) _ _ s; exact wpAny_bind (wpAny_standAt (wpAny_bind (thn h fun j s1 z => wpAny_pure (And.intro rfl z)))))
end
/-- d[k] = v as a comprehension does it -/
theorem d_put {X : Cx} {pins : List (Addr × Obj)} {σ : L2.St} {H H' : Hp} {s : Shared} {E : Value → Shared → Prop} {D : Addr} {y z : V} {u r : Value} {Q : Unit → Shared → Prop} (hu : X.A.units < cLine) (I : Inv X pins σ H s) (g : DPut H D y z H') (ry : RelV y u) (rz : RelV z r)
    (h : ∀ s', Inv X pins σ H' s' → Q () s') : wpAny (model X.prog X.w) X.A (dictSet D u r) Q E s := by
  rcases g with ⟨kvs, k, e, ey, l, eH⟩ | ⟨kvs, k, b, e, ey, eb, l, eH⟩
  · subst ey eH
    exact d_dictSet I e l ry rz h
  · subst ey eH
    cases (show u = Value.ref b from ry)
    obtain ⟨z1, hd, xs, rel, dd⟩ := dt_of I.hok e
    have pl := length_putK kvs k z
    refine wpAny_dictSet_heap (hsz := by rw [← Paired.length rel]; exact z1) hu (key_of I.hok eb) dd fun h' dd' hs => h _ ?_
    obtain ⟨q, es, ep, hq, h2, h3, h4, _, h5⟩ := dd'
    refine d_write I (by rw [e]; exact True.intro) hs ⟨q, hq⟩ ⟨by omega, hd, _, (rel.put k eb rz).keeps fun c ys ec => ?_, q, es, ep, hq, h2, h3, h4, h5⟩
    rw [upd_ne (ne_of ec e (fun z => nomatch z))]; exact ec
/-- a source's turns, whatever is done with each thing -/
theorem goes {J : It} {n : Nat} {G : Hp → Prop} {Y : Nat → Hp → V → Hp → Prop} (w : Walk J n G Y) {g : TG} {tt : TT} {B : (Hp → Prop) → L2.St → Hp → Prop} {vs : List Nat} {σ : L2.St} {H0 : Hp} {R : Hp → Prop} (Pv : Nat → Hp → Prop) (h0 : Pv 0 H0) (hG : ∀ i H, i ≤ n → Pv i H → G H)
    (hs : ∀ i x H H', i < n → Pv i H → Y i H x H' → g x (wipe σ vs) H' fun σ2 H2 => wipe σ2 vs = wipe σ vs ∧ tt σ2 H2 fun b H3 => if b = true then B (Pv (i + 1)) σ2 H3 else Pv (i + 1) H3) (hd : ∀ H, Pv n H → R H) :
    ∃ W : Nat → Nat → Hp → Prop, (∃ m, W 0 m H0) ∧ ∀ i m H, W i m H → (J.stop i H ∧ R H) ∨ (J.go i H ∧ ∃ N : Hp → Prop, (∀ H', N H' → ∃ m', m' < m ∧ W (i + 1) m' H') ∧
      ∀ x H', J.yld i H x H' → g x (wipe σ vs) H' fun σ2 H2 => wipe σ2 vs = wipe σ vs ∧ tt σ2 H2 fun b H3 => if b = true then B N σ2 H3 else N H3) := by
  refine ⟨fun i m H => m = n - i ∧ i ≤ n ∧ Pv i H, ⟨n, by simp, Nat.zero_le _, h0⟩, fun i m H ⟨e, hi, p⟩ => ?_⟩
  subst e
  by_cases lt : i < n
  · exact .inr ⟨w.goes i H lt (hG i H hi p), Pv (i + 1), fun H' p' => ⟨n - (i + 1), by omega, rfl, lt, p'⟩, fun x H' y => hs i x H H' lt p (w.yields i H x H' lt (hG i H hi p) y)⟩
  · obtain rfl : i = n := by omega
    exact .inl ⟨w.stops H (hG i H hi p), hd H p⟩
section
variable {X : Cx}
/-- {k: y for t0 in i0 if .. for t1 in i1 if ..}; o: the new dict, of no keys yet; vs the block's names, us those of the second target -/
def tDc2 (o : HO) (wi : TI) (g : TG) (tt : TT) (wj : TI) (gj : TG) (tj : TT) (tk ty : TE) (vs us : List Nat) : TE := fun σ H Q => wi σ H fun J H1 => ∀ D, H1 D = none → ∃ W : Nat → Nat → Hp → Prop, (∃ m, W 0 m (upd H1 D o)) ∧ ∀ i m H, W i m H →
  (J.stop i H ∧ Q (.ref D) H) ∨ (J.go i H ∧ ∃ N : Hp → Prop, (∀ H', N H' → ∃ m', m' < m ∧ W (i + 1) m' H') ∧ ∀ x H', J.yld i H x H' → g x (wipe σ vs) H' fun σ2 H2 => wipe σ2 vs = wipe σ vs ∧ tt σ2 H2 fun b H3 =>
    if b = true then wj σ2 H3 fun L H4 => ∃ V : Nat → Nat → Hp → Prop, (∃ m, V 0 m H4) ∧ ∀ j k H, V j k H →
      (L.stop j H ∧ N H) ∨ (L.go j H ∧ ∃ M : Hp → Prop, (∀ H', M H' → ∃ k', k' < k ∧ V (j + 1) k' H') ∧ ∀ x H', L.yld j H x H' → gj x (wipe σ2 us) H' fun σ3 H5 => wipe σ3 us = wipe σ2 us ∧ tj σ3 H5 fun b H6 =>
        if b = true then tk σ3 H6 fun y H7 => ty σ3 H7 fun z H8 => ∃ H9, DPut H8 D y z H9 ∧ M H9 else M H6)
    else N H3)
variable {kx vx t0 i0 t1 i1 : Expr} {c0 c1 : List Expr} {scope : Scope} {own : List (Str × Nat)} {us : List Nat} {pos pos' : Pos} {wi wj : TI} {g gj : TG} {tt tj : TT} {tk ty : TE} {o : HO}
/-- the context of the block -/
abbrev Bk (X : Cx) (scope : Scope) (s : Shared) (H : Hp) (C : Addr) (cl : List (Str × Addr)) (fp : List Addr) : Cx := X.blk s H scope (compEnvC scope cl C X.env) fp
theorem dc2_core {pins : List (Addr × Obj)} {s : Shared} {σ : L2.St} {H : Hp} {Q : VK} {use : Option (Value → Sem Unit)} {Qf : Value → Shared → Prop} (ho : o = .dK [] ∨ o = .dT []) (hu : X.A.units < cLine)
    (hc : X.calm = true) (hN : X.N.Nodup) (I : Inv X pins σ H s) (hi : PI X t0 i0 wi) (ok : BlkOk X.N X.env.scope scope own) (hv : ∀ i ∈ us, i ∈ own.map (·.2))
    (hg : ∀ s H C cl fp, PG (Bk X scope s H C cl fp) t0 g) (ht : ∀ s H C cl fp, PTs (Bk X scope s H C cl fp) c0 tt)
    (hj : ∀ s H C cl fp, PI (Bk X scope s H C cl fp) t1 i1 wj) (hgj : ∀ s H C cl fp, PG (Bk X scope s H C cl fp) t1 gj) (htj : ∀ s H C cl fp, PTs (Bk X scope s H C cl fp) c1 tj)
    (hk : ∀ s H C cl fp, PE (Bk X scope s H C cl fp) kx tk) (hy : ∀ s H C cl fp, PE (Bk X scope s H C cl fp) vx ty)
    (hs : ∀ x, foldedSetIterable i0 X.env x = pure x) (hs1 : ∀ env x, foldedSetIterable i1 env x = pure x)
    (h : tDc2 o wi g tt wj gj tj tk ty (own.map (·.2)) us σ H Q)
    (fine : ∀ D C s' m H', Inv X pins σ H' s' → Q (.ref D) H' → s'.heap.Ns C m → FpOk X pins H' C → compPost (model X.prog X.w) X.A X.xe use Qf (.ref D) C (.ok .next) s') :
    wpAny (model X.prog X.w) X.A (comprehension (.DictComp kx vx (two t0 i0 t1 i1 c0 c1) scope pos) scope X.env pos' newDict false (eval i0 X.env) use) Qf X.xe s := by
  have free : ∀ y ∈ scope.names, y.2 = .free → ∃ c, X.env.cells.lookup y.1 = some c := fun y hy e => (ok.free y hy e).elim (fun k => I.ok.has _ (.inl k)) fun k => I.ok.has _ (.inr k)
  refine wpAny_comprehension_free (use := use) rfl hs (closure_ok free) ok.kind (fun y hy e => by rw [ok.uniq y hy, e]) (thn (hi.run pins s σ H _ I h) fun xv s1 hx => thn hx fun itv s2 h2 => ?_)
  obtain ⟨it, fp, tn, J, H2, e, I2, T, st2, f2, q⟩ := h2; subst e
  refine wpAny_newObj_type (newEnv_comp ?_)
  generalize hD : s2.heap.objs.size = D
  obtain ⟨W, ⟨m0, w0⟩, turn⟩ := q D (I2.hok.fresh (Nat.le_of_eq hD))
  -- the new dict
  generalize hs3 : ({ s2 with heap := s2.heap.push { cls := .type "dict", data := .dict #[] } } : Shared) = s3
  have I3 : Inv X pins σ (upd H2 D o) s3 := by
    rw [← hs3]
    refine I2.laid (t' := s2.toks) (fun b z e => Heap.get?_push_of_some _ e) (Nat.le_of_eq hD) ?_
    rw [← hD]
    rcases ho with rfl | rfl
    · exact dk_empty s2.heap I2.big
    · exact dt_empty s2.heap I2.big
  have h3 : s3.heap = s2.heap.push { cls := .type "dict", data := .dict #[] } := by rw [← hs3]
  have small : ∀ b ∈ fp, b < s2.heap.objs.size := fun b hb => let ⟨z, e, _⟩ := T.obj _ _ st2 b hb; Heap.lt_size e
  have f3 : ∀ b ∈ fp, FpOk X pins (upd H2 D o) b ∧ b < s3.heap.objs.size := fun b hb =>
    ⟨⟨by rw [upd_ne (by rw [← hD]; exact Nat.ne_of_lt (small b hb))]; exact (f2 b hb).1, (f2 b hb).2⟩, by rw [h3, Heap.size_push]; exact Nat.lt_succ_of_lt (small b hb)⟩
  have st3 : tn 0 s3.heap := T.keep _ _ _ st2 fun b _ z e => by rw [h3]; exact Heap.get?_push_of_some _ e
  have I4 := block_start I3 ok hN f3
  generalize hcl : cellsFrom (s3.heap.objs.size + 1) scope.names (cloFrom X.env.cells scope.names []) = cl at I4 ⊢
  have pg := hg s3 (upd H2 D o) s3.heap.objs.size cl fp; have pt := ht s3 (upd H2 D o) s3.heap.objs.size cl fp; have pk := hk s3 (upd H2 D o) s3.heap.objs.size cl fp; have py := hy s3 (upd H2 D o) s3.heap.objs.size cl fp
  have pj := hj s3 (upd H2 D o) s3.heap.objs.size cl fp; have pgj := hgj s3 (upd H2 D o) s3.heap.objs.size cl fp; have ptj := htj s3 (upd H2 D o) s3.heap.objs.size cl fp
  show codeAny _ _ (.compStart (.DictComp kx vx (two t0 i0 t1 i1 c0 c1) scope pos) 0 (.ref it) (.ref D) (compEnvC scope cl s3.heap.objs.size X.env)) (compPost (model X.prog X.w) X.A X.xe use Qf (.ref D) s3.heap.objs.size) { s3 with heap := pushCells (s3.heap.push { cls := .type "dict", data := .dict #[] }) scope.names }
  have nfp : ∀ b ∈ fp, (upd H2 D o) b = none := fun b hb => (f3 b hb).1.1
  generalize hce : compEnvC scope cl s3.heap.objs.size X.env = ce at I4 ⊢
  have cL : ce.locals = s3.heap.objs.size := by subst hce; rfl
  unfold Bk at pg pt pk py pj pgj ptj
  rw [hce] at pg pt pk py pj pgj ptj
  generalize hH3 : upd H2 D o = H3 at I3 I4 pg pt pk py pj pgj ptj w0 nfp f3
  generalize hs4 : ({ s3 with heap := pushCells (s3.heap.push { cls := .type "dict", data := .dict #[] }) scope.names } : Shared) = s4 at I4 ⊢
  have st4 : tn 0 s4.heap := T.keep _ _ _ st3 fun b _ z e => by rw [← hs4]; exact pushCells_keeps _ _ _ _ (Heap.get?_push_of_some _ e)
  generalize hY : X.blk s3 H3 scope ce fp = Y at I4 pg pt pk py pj pgj ptj
  have yc : Y.calm = true := by subst hY; exact hc
  have stat : ∀ {σ' : L2.St} {H' : Hp} {s' : Shared}, Inv Y [] σ' H' s' → (∀ b ∈ fp, H' b = none) → ∀ b ∈ fp, FpOk Y [] H' b := by
    subst hY
    exact fun {σ' H' s'} I' hn b hb => ⟨hn b hb, (I'.ok.exf b hb).1, I'.ok.exfs b hb, .inl hb, fun x c e => (I'.ok.exf b hb).2 x c e, fun p hp => absurd (show p ∈ ([] : List (Addr × Obj)) ++ [] from hp) (by simp)⟩
  -- a turn's ends, of whichever source
  have same : ∀ {P : List (Addr × Obj)} {ch : List Addr} {hp : Heap} {σ' : L2.St} {H' : Hp} {s' : Shared}, Inv Y (P ++ pinsAt ch hp) σ' H' s' → ∀ b ∈ ch, ∀ z, hp.get? b = some z → s'.heap.get? b = some z ∧ H' b = none := by
    subst hY
    exact fun {P ch hp σ' H' s'} I' b hb z e => let q := I'.pin (b, z) (List.mem_append_right _ (List.mem_append_right _ (mem_pinsAt hb e))); ⟨q.1, q.2.1⟩
  have loop : codeAny (model X.prog X.w) X.A (.compLoop (.DictComp kx vx (two t0 i0 t1 i1 c0 c1) scope pos) 0 (.ref it) (.ref D) ce) (compPost (model X.prog X.w) X.A X.xe use Qf (.ref D) s3.heap.objs.size) s4 := by
    refine loop0 (hs1 ce) (fun n s' => ∃ i H', Inv Y [] (wipe σ (own.map (·.2))) H' s' ∧ tn i s'.heap ∧ (∀ b ∈ fp, H' b = none) ∧ W i n H') ?_ m0 ⟨0, H3, I4, st4, nfp, w0⟩
    rintro n s5 ⟨i, H5, I5, st5, n5, w5⟩
    rcases turn i n H5 w5 with ⟨stop, qq⟩ | ⟨go, N, hNx, step⟩
    · have td := T.done Y (by subst hY; rfl) (by subst hY; rfl) (by subst hY; rfl) yc i [] s5 _ H5 no I5 (stat I5 n5) st5 stop
      subst hY
      refine thnF td fun r s6 ⟨hr, I6⟩ => ?_
      subst hr
      have nC : H5 s3.heap.objs.size = none := by have z : H5 ce.locals = none := I6.free; rwa [cL] at z
      obtain ⟨m, hn, _⟩ := I6.loc
      have hn : s6.heap.Ns ce.locals m := hn
      rw [cL] at hn
      exact fine D s3.heap.objs.size s6 m H5 (I3.call' (ch := fp) I6.os I6.base I6.hok I6.bare fun b hb => ⟨(f3 b hb).1.2.2.2.1, (f3 b hb).1.2.1, (f3 b hb).1.2.2.2.2.1, (f3 b hb).1.2.2.2.2.2⟩) qq hn (I3.fpOk (Nat.le_refl _) nC)
    · have ti := T.item Y (by subst hY; rfl) (by subst hY; rfl) (by subst hY; rfl) yc i [] s5 _ H5 no I5 (stat I5 n5) st5 go
      subst hY
      refine thnF ti fun r s6 ⟨u, hr, h6⟩ => ?_
      subst hr
      refine thnF h6 fun _ s7 ⟨x, H7, I7, r7, y7, st7, n7⟩ => thnF (pg.run _ s7 _ H7 x u _ (I7.pinned (stat I7 n7) (T.obj _ _ st7)) r7 (step x H7 y7)) fun _ s8 ⟨σ8, H8, I8, hw8, q8⟩ => thnF (pt.run _ s8 σ8 H8 _ I8 q8) fun b s9 ⟨H9, I9, q9⟩ => ?_
      -- this turn's end
      have fin : ∀ {σ' : L2.St} {s' : Shared} {H' : Hp}, Inv (X.blk s3 H3 scope ce fp) ([] ++ pinsAt fp s7.heap) σ' H' s' → (wipe σ (own.map (·.2))).length = σ'.length → (∀ (j : Nat) v, (wipe σ (own.map (·.2)))[j]? = some (some v) → σ'[j]? = some (some v)) → N H' →
          ∃ m, m < n ∧ ∃ i H', Inv (X.blk s3 H3 scope ce fp) [] (wipe σ (own.map (·.2))) H' s' ∧ tn i s'.heap ∧ (∀ b ∈ fp, H' b = none) ∧ W i m H' := fun {σ' s' H'} I' hl hk nx => by
        obtain ⟨m', hm, w'⟩ := hNx H' nx
        exact ⟨m', hm, i + 1, H', (I'.unpinned (pins := [])).weak hl hk, T.keep _ _ _ st7 fun b hb z e => (same I' b hb z e).1, fun b hb => let ⟨z, e, _⟩ := T.obj _ _ st7 b hb; (same I' b hb z e).2, w'⟩
      have hl8 : (wipe σ (own.map (·.2))).length = σ8.length := by rw [← hw8, wipe_length]
      have hk8 : ∀ (j : Nat) v, (wipe σ (own.map (·.2)))[j]? = some (some v) → σ8[j]? = some (some v) := fun j v e => by rw [← hw8] at e; exact (wipe_some e).1
      have hk9 : ∀ (j : Nat) v, (wipe σ (own.map (·.2)))[j]? = some (some v) → (wipe σ8 us)[j]? = some (some v) := fun j v e => by
        rw [← hw8] at e
        rw [wipe_out fun z => (wipe_some e).2 (hv j z)]; exact (wipe_some e).1
      cases b with
      | false =>
        simp only [Bool.false_eq_true, if_false] at q9 ⊢; exact fin I9 hl8 hk8 q9
      | true =>
        simp only [if_true] at q9 ⊢
        refine thnF (pj.run _ s9 σ8 H9 _ I9 q9) fun xv s10 hx => thnF hx fun itv s11 h11 => ?_
        obtain ⟨jt, gp, tm, L, H11, e1, I11, T1, st11, f11, V, ⟨m1, w1⟩, turn1⟩ := h11; subst e1
        -- the inner loop
        have stat1 : ∀ {H' : Hp}, (∀ b ∈ gp, H' b = none) → ∀ b ∈ gp, FpOk (X.blk s3 H3 scope ce fp) ([] ++ pinsAt fp s7.heap) H' b := fun hn b hb => ⟨hn b hb, (f11 b hb).2⟩
        have inner : codeAny (model X.prog X.w) X.A (.compLoop (.DictComp kx vx (two t0 i0 t1 i1 c0 c1) scope pos) 1 (.ref jt) (.ref D) ce) (fun r s' => match r with
              | .ok _ => ∃ m, m < n ∧ ∃ i H', Inv (X.blk s3 H3 scope ce fp) [] (wipe σ (own.map (·.2))) H' s' ∧ tn i s'.heap ∧ (∀ b ∈ fp, H' b = none) ∧ W i m H'
              | .error _ => False) s11 := by
          refine loop1 (fun k s' => ∃ j H', Inv (X.blk s3 H3 scope ce fp) ([] ++ pinsAt fp s7.heap) (wipe σ8 us) H' s' ∧ tm j s'.heap ∧ (∀ b ∈ gp, H' b = none) ∧ V j k H') ?_ m1 ⟨0, H11, I11.weak (wipe_length _ _) (fun j v e => (wipe_some e).1), st11, fun b hb => (f11 b hb).1, w1⟩
          rintro k s12 ⟨j, H12, I12, st12, n12, w12⟩
          rcases turn1 j k H12 w12 with ⟨stop1, nx1⟩ | ⟨go1, M, hM, step1⟩
          · refine thnF (T1.done (X.blk s3 H3 scope ce fp) rfl rfl rfl hc j _ s12 (wipe σ8 us) H12 no I12 (stat1 n12) st12 stop1) fun r s13 ⟨hr, I13⟩ => ?_
            subst hr; exact fin I13 (hl8.trans (wipe_length σ8 us).symm) hk9 nx1
          · refine thnF (T1.item (X.blk s3 H3 scope ce fp) rfl rfl rfl hc j _ s12 (wipe σ8 us) H12 no I12 (stat1 n12) st12 go1) fun r s13 ⟨u1, hr, h13⟩ => ?_
            subst hr
            refine thnF h13 fun _ s14 ⟨x1, H14, I14, r14, y14, st14, n14⟩ => thnF (pgj.run _ s14 (wipe σ8 us) H14 x1 u1 _ (I14.pinned (stat1 n14) (T1.obj _ _ st14)) r14 (step1 x1 H14 y14)) fun _ s15 ⟨σ15, H15, I15, hw15, q15⟩ => thnF (ptj.run _ s15 σ15 H15 _ I15 q15) fun b1 s16 ⟨H16, I16, q16⟩ => ?_
            have fin1 : ∀ {s' : Shared} {H' : Hp}, Inv (X.blk s3 H3 scope ce fp) (([] ++ pinsAt fp s7.heap) ++ pinsAt gp s14.heap) σ15 H' s' → M H' → ∃ m, m < k ∧ ∃ j H', Inv (X.blk s3 H3 scope ce fp) ([] ++ pinsAt fp s7.heap) (wipe σ8 us) H' s' ∧ tm j s'.heap ∧ (∀ b ∈ gp, H' b = none) ∧ V j m H' := fun {s' H'} I' nx => by
              obtain ⟨m', hm, w'⟩ := hM H' nx
              exact ⟨m', hm, j + 1, H', I'.unpinned.weak (by rw [← hw15, wipe_length]) (fun j v e => by rw [← hw15] at e; exact (wipe_some e).1), T1.keep _ _ _ st14 fun b hb z e => (same I' b hb z e).1, fun b hb => let ⟨z, e, _⟩ := T1.obj _ _ st14 b hb; (same I' b hb z e).2, w'⟩
            cases b1 with
            | false =>
              simp only [Bool.false_eq_true, if_false] at q16 ⊢; exact fin1 I16 q16
            | true =>
              simp only [if_true] at q16 ⊢
              refine thnF (pk.run _ s16 σ15 H16 _ I16 q16) fun z s17 ⟨yv, H17, I17, r17, q17⟩ => thnF (py.run _ s17 σ15 H17 _ I17 q17) fun z2 s18 ⟨yv2, H18, I18, r18, H19, put, nx⟩ => ?_
              exact d_put (X := X.blk s3 H3 scope ce fp) hu I18 put r17 r18 fun s19 I19 => fin1 I19 nx
        exact start1 inner (T1.self X.A 0 _ _ _ st11 inner)
  exact codeAny_compStart_dict loop (T.self X.A 0 _ _ _ st4 loop)
/-- as a value -/
theorem pe_dc2 (o : HO) (ho : o = .dK [] ∨ o = .dT []) (hu : X.A.units < cLine) (hc : X.calm = true) (hN : X.N.Nodup) (hi : PI X t0 i0 wi) (ok : BlkOk X.N X.env.scope scope own) (hv : ∀ i ∈ us, i ∈ own.map (·.2))
    (hg : ∀ s H C cl fp, PG (Bk X scope s H C cl fp) t0 g) (ht : ∀ s H C cl fp, PTs (Bk X scope s H C cl fp) c0 tt)
    (hj : ∀ s H C cl fp, PI (Bk X scope s H C cl fp) t1 i1 wj) (hgj : ∀ s H C cl fp, PG (Bk X scope s H C cl fp) t1 gj) (htj : ∀ s H C cl fp, PTs (Bk X scope s H C cl fp) c1 tj)
    (hk : ∀ s H C cl fp, PE (Bk X scope s H C cl fp) kx tk) (hy : ∀ s H C cl fp, PE (Bk X scope s H C cl fp) vx ty)
    (hs : ∀ x, foldedSetIterable i0 X.env x = pure x := by intro _; rfl) (hs1 : ∀ env x, foldedSetIterable i1 env x = pure x := by intro _ _; rfl) :
    PE X (.DictComp kx vx [⟨t0, i0, c0, 0⟩, ⟨t1, i1, c1, 0⟩] scope pos) (tDc2 o wi g tt wj gj tj tk ty (own.map (·.2)) us) := by
  refine ⟨fun pins s σ H Q I h => ?_⟩; rw [arm_eval_DictComp]
  refine dc2_core ho hu hc hN I hi ok hv hg ht hj hgj htj hk hy hs hs1 h fun D C s' m H' I' q hn f => ⟨m, hn, fun h'' sb => ?_⟩
  obtain ⟨f0, f1, f2, f3, f4, f5⟩ := f
  exact ⟨.ref D, H', I'.turned (t' := s'.toks) (fun b z hb e => (sb.2 b hb).trans e) f0 f1 f3 f4 f5, rfl, q⟩
end
end Xdc
set_option Elab.async false
set_option linter.all false
set_option maxRecDepth 100000
set_option maxHeartbeats 4000000
set_option pp.maxSteps 400
set_option pp.deepTerms false
/-! min(xs, key=lambda p: ..) in a def: the lambda is made anew each time, its code object once -/
namespace Xlm
open PySem PySem.Spec PyProof.Rows L2 Az PySem.W LamX
/-- the names of a lambda of one parameter: the parameter, captured ones, globals -/
structure Lam1 (sc scope : Scope) (p : Str) : Prop where
  kind : scope.kind = .function
  co : scope.isCoroutine = false
  gen : scope.isGenerator = false
  par : scope.names.lookup p = some .local
  own : ∀ y ∈ scope.names, y.2 ≠ .cell ∧ (y.2 = .local → y.1 = p)
  free : ∀ y ∈ scope.names, y.2 = .free → sc.names.lookup y.1 = some .cell ∨ sc.names.lookup y.1 = some .free
/-- where the lambda's body stands -/
def lamX (X : Cx) (A : Around) (s : Shared) (H : Hp) (p : Str) (scope : Scope) (f c : Addr) : Cx :=
  { lamCx X A X.stack s H (fun _ _ _ => False) scope f c with N := p :: X.N, xe := fun _ _ => False }
section
variable {X : Cx} {pins : List (Addr × Obj)} {σ : L2.St} {H : Hp} {s : Shared}
theorem Lam1.has {scope : Scope} {p : Str} (L : Lam1 X.env.scope scope p) (ok : X.Ok) : ∀ y ∈ scope.names, y.2 = .free → ∃ c, X.env.cells.lookup y.1 = some c := fun y hy e =>
  (L.free y hy e).elim (fun k => ok.has _ (.inl k)) fun k => ok.has _ (.inr k)
theorem lam_in {A : Around} {scope : Scope} {f c : Addr} {p : Str} {v : V} {u : Value} {h₁ : Heap} {tk : Nat} (I : Inv X pins σ H s) (L : Lam1 X.env.scope scope p) (hp : p ∉ X.N) (fr : A.frames = some X.stack) (hd : A.handled = none) (rv : RelV v u)
    (hns : h₁.Ns s.heap.objs.size fun y => ([(p, u)] : List (Str × Value)).reverse.lookup y) (kp : ∀ b o, s.heap.get? b = some o → h₁.get? b = some o) :
    Inv (lamX X A s H p scope f c) [] (some v :: σ) H { s with heap := h₁, toks := tk } := by
  have z := I.env0
  have old : ∀ {y : Str} {a : Addr}, (cloFrom X.env.cells scope.names []).lookup y = some a → X.env.cells.lookup y = some a := fun {y a} e => by
    rcases cloFrom_mem (PySem.mem_of_lookup e) with q | ⟨q1, q2⟩
    · exact absurd q List.not_mem_nil
    · obtain ⟨a', e'⟩ := L.has I.ok _ q1 rfl
      replace e' : X.env.cells.lookup y = some a' := e'
      rw [e'] at q2 ⊢
      rw [q2]; rfl
  have look : ∀ {y : Str}, scope.names.lookup y = some .free → ∃ a, (cloFrom X.env.cells scope.names []).lookup y = some a := fun {y} e =>
    mem_lookup (cloFrom_has (cells := X.env.cells) (acc := []) (PySem.mem_of_lookup e))
  have nx : ∀ b : Addr, b ∉ (lamX X A s H p scope f c).ex := fun b y => absurd (show b ∈ ([] : List Addr) from y) List.not_mem_nil
  refine ⟨⟨z.mod, L.kind, rfl, rfl, Nat.le_refl _, fun y y' a e e' => I.ok.inj y y' a (old e) (old e'), fun y k => ?_, fun y a k _ => ?_, fun _ => hd, Around.frames_deeper fr, .inr ⟨rfl, rfl⟩, fun b y => absurd y (nx b), z.bs, z.bsz, fun b _ _ => nx b, fun b y => absurd y (nx b), z.funs, z.frf⟩,
    rfl, z.bare, Un.kept kp, ⟨_, hns, fun i y w e1 e2 e3 => ?_⟩, fun y a e => ?_, z.hok.fresh (Nat.le_refl _), fun y a e => I.freeC y a (old e), fun q hq => absurd (show q ∈ ([] : List (Addr × Obj)) from hq) List.not_mem_nil, z.hok.kept kp, congrArg Nat.succ I.len⟩
  · replace k : scope.names.lookup y = some .cell ∨ scope.names.lookup y = some .free := k
    rcases k with k | k
    · exact absurd rfl (L.own _ (PySem.mem_of_lookup k)).1
    · exact look k
  · exact absurd (show false = true from k) Bool.false_ne_true
  · cases i with
    | zero =>
      replace e1 : some p = some y := e1
      cases e1
      cases e2
      exact ⟨u, rv, .inl ⟨L.par, by simp⟩⟩
    | succ i =>
      replace e1 : X.N[i]? = some y := e1
      replace e2 : σ[i]? = some (some w) := e2
      have n : y ≠ p := fun q => hp (q ▸ List.mem_of_getElem? e1)
      replace e3 : Vis scope y := e3
      rcases e3 with k | k | k
      · exact absurd ((L.own _ (PySem.mem_of_lookup k)).2 rfl) n
      · exact absurd rfl (L.own _ (PySem.mem_of_lookup k)).1
      · obtain ⟨m, _, hl⟩ := I.loc
        have kf := L.free _ (PySem.mem_of_lookup k) rfl
        obtain ⟨u', r', q⟩ := hl i y w e1 e2 (kf.elim (fun k => .inr (.inl k)) fun k => .inr (.inr k))
        obtain ⟨a, ha⟩ := look k
        refine ⟨u', r', .inr ⟨.inr k, a, ha, ?_⟩⟩
        rcases q with ⟨k', _⟩ | ⟨_, a', e', o, ho, hd'⟩
        · replace k' : X.env.scope.names.lookup y = some .local := k'
          rcases kf with k2 | k2 <;> rw [show X.env.scope.names.lookup y = _ from k2] at k' <;> cases k'
        · have e2 := old ha
          rw [e'] at e2
          cases e2
          exact ⟨o, kp _ _ ho, hd'⟩
  · obtain ⟨w, o, ho, hd'⟩ := I.cell y a (old e)
    exact ⟨w, o, kp _ _ ho, hd'⟩
/-- the lambda called -/
theorem lam_call {A : Around} {params : Arguments} {body : Expr} {scope : Scope} {f c : Addr} {pm ctv : Value} {p : Str} {v : V} {u : Value} {k : Nat} {tb : TE} {Q : VK} {E : Value → Shared → Prop} (I : Inv X pins σ H s) (L : Lam1 X.env.scope scope p) (hp : p ∉ X.N)
    (hf : s.heap.get? f = some (kla_obj "<lambda>" (X.env.qual ++ "<lambda>") params body scope (cloFrom X.env.cells scope.names []) pm c ctv)) (hc : H c = some (CodeO c (X.env.qual ++ "<lambda>")))
    (bind : bindArgs (kla_fn "<lambda>" (X.env.qual ++ "<lambda>") params body scope (cloFrom X.env.cells scope.names []) pm (.ref c) ctv) ⟨[u], []⟩ = pure [(p, u)])
    (fr : A.frames = some X.stack) (room : Room (k + 1) A) (hb : Room k (A.deeper (lamEnv X scope s.heap.objs.size f c)) → PE (lamX X A s H p scope f c) body tb) (rv : RelV v u) (h : tb (some v :: σ) H Q) :
    wpAny (model X.prog X.w) A (call (.ref f) [u]) (fun y s' => CE X.stack X.prog X.w H s Q y s') E s := by
  obtain ⟨⟨oc, vs, t, hoc, hdc, hvc⟩, _, _⟩ := I.hok c _ hc
  refine wpAny_call (codeAny_mono (R := fun r s' => ∃ y, r = .ok (.ret y) ∧ CE X.stack X.prog X.w H s Q y s') (kla_callFunE room.depth hf rfl L.co L.gen rfl ⟨c, oc, vs, t, rfl, hoc, hdc, hvc⟩ ?_) fun r s' ⟨y, e, q⟩ => by subst e; exact q)
  rw [bind]
  refine wpAny_pure (wpAny_newFunctionEnv (fun y hy => (L.own y hy).1) (fun y hy => by rw [List.mem_singleton.mp hy]; exact L.par) (fun h₁ hns hsb => ⟨I.nolimit.fresh _ hsb, ?_⟩) L.kind)
  show codeAny _ _ (.expr body (lamEnv X scope s.heap.objs.size f c)) _ _
  have kp : ∀ b o, s.heap.get? b = some o → h₁.get? b = some o := fun b o e => hsb.extBut b o (Nat.ne_of_lt (Heap.lt_size e)) (Heap.get?_push_of_some _ e)
  have J := lam_in (A := A) (f := f) (c := c) (tk := s.toks + ([(p, u)] : List (Str × Value)).length) I L hp fr room.hd rv hns kp
  refine kla_codeExpr (wpAny_mono ((hb (room.deeper _)).run [] _ _ H Q J h) (fun y s' hq => ?_) fun _ _ q => False.elim q)
  obtain ⟨x, H', J', r, q⟩ := hq
  exact ⟨y, rfl, x, H', J'.os, J'.bare, J'.base, J'.hok, r, q⟩
end
/-! ## the walk of min -/
section
variable (X : Cx) (pins : List (Addr × Obj)) (σ : L2.St) (T : List (Addr × Str)) (H1 : Hp) (S It f c : Addr) (fo : Obj) (q : Str)
structure Jm (H : Hp) (s : Shared) : Prop where
  inv : Inv X pins σ H s
  ext : ExtN H1 H
  tab : Tabs T H
  fS : FpOk X pins H S
  fI : FpOk X pins H It
  fn : s.heap.get? f = some fo
  nf : H f = none
  cd : H c = some (CodeO c q)
  eS : ∃ o, s.heap.get? S = some o
  eI : ∃ o, s.heap.get? It = some o
end
section
variable {X : Cx} {pins : List (Addr × Obj)} {σ : L2.St} {T : List (Addr × Str)} {H1 : Hp} {S It f c : Addr} {fo : Obj} {q : Str}
theorem Jm.still {H : Hp} {s s' : Shared} (j : Jm X pins σ T H1 S It f c fo q H s) (m : Moved [S, It] (fun a b => b = a) s s') : Inv X pins σ H s' := by
  obtain ⟨h', g', d', t', o'⟩ := s'
  obtain rfl : g' = s.gens := m.gens
  obtain rfl : d' = s.drawn := m.drawn
  obtain rfl : o' = s.os := m.os
  refine Inv.turnedL (ch := [S, It]) j.inv (fun b o hb e => m.heap b o hb e) fun b hb => ?_
  rcases List.mem_cons.mp hb with e | e
  · rw [e]; exact j.fS
  · rw [List.mem_singleton.mp e]; exact j.fI
theorem Jm.moved {H : Hp} {s s' : Shared} (j : Jm X pins σ T H1 S It f c fo q H s) (hS : f ≠ S) (hI : f ≠ It) (m : Moved [S, It] (fun a b => b = a) s s') (eS : ∃ o, s'.heap.get? S = some o) (eI : ∃ o, s'.heap.get? It = some o) : Jm X pins σ T H1 S It f c fo q H s' := by
  refine ⟨j.still m, j.ext, j.tab, j.fS, j.fI, m.heap _ _ (fun z => ?_) j.fn, j.nf, j.cd, eS, eI⟩
  rcases List.mem_cons.mp z with e | e
  · exact hS e
  · exact hI (List.mem_singleton.mp e)
theorem moved_upd (s : Shared) (S It : Addr) (g : Obj → Obj) : Moved [S, It] (fun a b => b = a) s { s with heap := s.heap.update S g, toks := s.toks } :=
  ⟨fun b o hb e => (Heap.get?_update_other _ _ (fun z : S = b => hb (by rw [← z]; exact List.mem_cons_self))).trans e, rfl, rfl, rfl, Nat.le_refl _⟩
variable {Ky : Hp → V → PyData → Prop} {kd : V → PyData} {xs : List V} {A : Around} {n : Nat} {Pv : Nat → Value → Prop} {St : Nat → Shared → Prop} {fp : List Addr}
/-- what is asked of the key -/
structure KeyL (X : Cx) (pins : List (Addr × Obj)) (σ : L2.St) (T : List (Addr × Str)) (H1 : Hp) (S It f c : Addr) (fo : Obj) (q : Str) (Ky : Hp → V → PyData → Prop) (kd : V → PyData) (xs : List V) (A : Around) : Prop where
  turn : ∀ (H : Hp) (s : Shared) (v : V) (u : Value) (E : Value → Shared → Prop), Jm X pins σ T H1 S It f c fo q H s → v ∈ xs → RelV v u →
    wpAny (model X.prog X.w) A (call (.ref f) [u]) (fun k s' => ∃ y H', Jm X pins σ T H1 S It f c fo q H' s' ∧ RelV y k ∧ Ky H' y (kd v) ∧ (∀ b zs, H b = some (.tup zs) → H' b = some (.tup zs)) ∧
      (∀ b o, FpOk X pins H b → s.heap.get? b = some o → s'.heap.get? b = some o)) E s
  dz : ∀ H y d, Ky H y d → Dz X.K H y d
  keep : ∀ H H' y d, (∀ b zs, H b = some (.tup zs) → H' b = some (.tup zs)) → Ky H y d → Ky H' y d
  alike : ∀ v ∈ xs, ∀ v' ∈ xs, alike (kd v) (kd v') = true
  some : ∀ v ∈ xs, kd v ≠ .none ∧ (kd v).depth ≤ 50
  units : A.units + 60 < cLine
theorem KeyL.less {A : Around} (K : KeyL X pins σ T H1 S It f c fo q Ky kd xs A) {H : Hp} {s : Shared} {v v' : V} {y y' : V} {k k' : Value} {E : Value → Shared → Prop} {Q : Value → Shared → Prop} (j : Jm X pins σ T H1 S It f c fo q H s) (hv : v ∈ xs) (hv' : v' ∈ xs)
    (r : RelV y k) (r' : RelV y' k') (d : Ky H y (kd v)) (d' : Ky H y' (kd v')) (h : ∀ b, Q (.bool b) s) : wpAny (model X.prog X.w) A (richCompare .Lt k k') Q E s := by
  obtain ⟨as, ra, _⟩ := Dz.reads j.inv _ _ _ (K.dz _ _ _ d) r
  obtain ⟨bs, rb, _⟩ := Dz.reads j.inv _ _ _ (K.dz _ _ _ d') r'
  refine rcLt_alike _ _ A s k k' as bs ra rb (K.alike v hv v' hv') (K.some v hv).1 ?_ X.prog X.w E Q (h _)
  have := K.units
  have := (K.some v hv).2
  omega
variable {R : Result → Shared → Prop} {kw : List (Str × Value)}
theorem min_more (W : WalksS X.prog X.w A.in1 It fp [It] (fun a b => b = a) n Pv St) (hSf : S ∉ fp) (nfS : f ≠ S) (nfI : f ≠ It) (K : KeyL X pins σ T H1 S It f c fo q Ky kd xs A.in1) (hPv : ∀ i v, Pv i v → ∃ x, x ∈ xs ∧ RelV x v)
    (hSt : ∀ i s s', St i s → (∀ b o, b ∈ fp → s.heap.get? b = some o → s'.heap.get? b = some o) → St i s') (hfp : ∀ (H : Hp) (s : Shared) (i : Nat), Jm X pins σ T H1 S It f c fo q H s → St i s → ∀ (s' : Shared) (H' : Hp), Jm X pins σ T H1 S It f c fo q H' s' → (∀ b o, FpOk X pins H b → s.heap.get? b = some o → s'.heap.get? b = some o) → St i s')
    (hIt : ∀ i s, St i s → ∃ o, s.heap.get? It = some o) (hR : ∀ x v s' H', x ∈ xs → RelV x v → Inv X pins σ H' s' → ExtN H1 H' → Tabs T H' → R (.ok (.ret v)) s') :
    ∀ (m j : Nat) (s : Shared) (H : Hp) (vb kb : Value) (e : Nat) (xb yb : V), n - (j + 1) = m → j + 1 ≤ n → Jm X pins σ T H1 S It f c fo q H s → St (j + 1) s → xb ∈ xs → RelV xb vb → RelV yb kb → Ky H yb (kd xb) →
      s.heap.get? S = some { cls := .type "list", dict := none, data := .seq #[vb, kb] e, slots := #[] } → codeAny (model X.prog X.w) A (.builtin "min.loop" ⟨[.ref It, .ref f, .ref S], kw⟩) R s := by
  have nS : S ∉ [It] := fun z => hSf (W.sub _ z)
  have sub : ∀ b ∈ [It], b ∈ [S, It] := fun b hb => List.mem_cons_of_mem _ hb
  have nm : (toString "min" ++ toString ".loop" : String) = "min.loop" := by decide
  have other : ∀ {b : Addr}, b ∉ [S, It] → S ≠ b := fun {b} hb z => hb (z ▸ List.mem_cons_self)
  intro m
  induction m with
  | zero =>
    intro j s H vb kb e xb yb hm hj J st hx rb ry ky hS
    have last : j + 1 = n := by omega
    refine codeAny_builtin F.entry_min_loop ?go
    case go =>
      rw [Around.under_plainId F.plain_min_loop _]
      show wpAny _ A.in1 (seqItems? (.ref S) >>= _) _ _ s
      refine wpAny_bind (wpAny_seqItems hS rfl ?_); show wpAny _ A.in1 (tryCatch (pyNext (.ref It)) _ >>= _) _ _ s
      refine wpAny_bind (wpAny_tryCatch (W.done s _ _ (last ▸ st) fun s' hm' => ?_))
      have hS' := hm'.heap S _ nS hS
      show wpAny _ A.in1 (updateSeq S (fun _ => #[]) >>= _) _ _ _
      refine wpAny_bind ?_
      refine wpAny_updateSeq hS' rfl (wpAny_bind (wpAny_letGo (wpAny_pure ?_)))
      exact hR xb vb _ H hx rb (J.still ((hm'.mono sub).then_heap (tk := s'.toks) (Nat.le_refl _) fun b o hb e => (Heap.get?_update_other _ _ (other hb)).trans e)) J.ext J.tab
  | succ m ih =>
    intro j s H vb kb e xb yb hm hj J st hx rb ry ky hS
    have lt : j + 1 < n := by omega
    refine codeAny_builtin F.entry_min_loop ?go
    case go =>
      rw [Around.under_plainId F.plain_min_loop _]
      show wpAny _ A.in1 (seqItems? (.ref S) >>= _) _ _ s
      refine wpAny_bind (wpAny_seqItems hS rfl ?_); show wpAny _ A.in1 (tryCatch (pyNext (.ref It)) _ >>= _) _ _ s
      refine wpAny_bind (wpAny_tryCatch (W.item (j + 1) s _ _ lt st fun v s' hP st' hm' => ?_))
      have hS' := hm'.heap S _ nS hS
      have J' := J.moved nfS nfI (hm'.mono sub) ⟨_, hS'⟩ (hIt _ _ st')
      obtain ⟨x, hx', rx⟩ := hPv _ _ hP
      show wpAny _ A.in1 (tryCatch (holding [v] (call (.ref f) [v])) _ >>= _) _ _ _
      refine wpAny_bind (wpAny_tryCatch (wpAny_holding (wpAny_mono (K.turn H s' x v _ J' hx' rx) (fun kx s2 hk => ?_) fun _ _ y => y)))
      obtain ⟨y, H2, J2, r2, k2, tups, fps⟩ := hk
      have hS2 := fps S _ J'.fS hS'
      have st2 := hfp H s' _ J' st' s2 H2 J2 fps
      show wpAny _ A.in1 (tryCatch (holding [v, kx] (richCompare .Lt kx kb >>= _)) _ >>= _) _ _ _
      refine wpAny_bind (wpAny_tryCatch (wpAny_holding (wpAny_bind (K.less J2 hx' hx r2 ry k2 (K.keep _ _ _ _ tups ky) fun b => ?_))))
      refine wpAny_bind (wpAny_holding (wpAny_truthy_bool ?_)); refine wpAny_bind (wpAny_letGo (wpAny_pure ?_))
      cases b with
      | true =>
        simp only [if_true]
        refine wpAny_bind ?_
        refine wpAny_updateSeq hS2 rfl (wpAny_bind (wpAny_letGo ?_)); rw [nm]
        refine wpAny_pure ⟨plainId_quiet F.plain_min_loop _, ih (j + 1) _ H2 v kx _ x y (by omega) lt (J2.moved nfS nfI (moved_upd s2 S It _) ⟨_, Heap.get?_update_self _ hS2 rfl⟩ (by obtain ⟨o, e⟩ := J2.eI; exact ⟨o, (Heap.get?_update_other _ _ (fun z : S = It => nS (by rw [z]; exact List.mem_singleton.mpr rfl))).trans e⟩)) (hSt _ _ _ st2 fun b o hb e => ?_) hx' rx r2 k2 (Heap.get?_update_self _ hS2 rfl)⟩
        exact (Heap.get?_update_other _ _ (fun z : S = b => hSf (z ▸ hb))).trans e
      | false =>
        simp only [Bool.false_eq_true, if_false]
        refine wpAny_bind (wpAny_letGo ?_); rw [nm]
        exact wpAny_pure ⟨plainId_quiet F.plain_min_loop _, ih (j + 1) _ H2 vb kb e xb yb (by omega) lt J2 st2 hx rb ry (K.keep _ _ _ _ tups ky) hS2⟩
theorem min_first (W : WalksS X.prog X.w A.in1 It fp [It] (fun a b => b = a) n Pv St) (hSf : S ∉ fp) (nfS : f ≠ S) (nfI : f ≠ It) (K : KeyL X pins σ T H1 S It f c fo q Ky kd xs A.in1) (hPv : ∀ i v, Pv i v → ∃ x, x ∈ xs ∧ RelV x v)
    (hSt : ∀ i s s', St i s → (∀ b o, b ∈ fp → s.heap.get? b = some o → s'.heap.get? b = some o) → St i s') (hfp : ∀ (H : Hp) (s : Shared) (i : Nat), Jm X pins σ T H1 S It f c fo q H s → St i s → ∀ (s' : Shared) (H' : Hp), Jm X pins σ T H1 S It f c fo q H' s' → (∀ b o, FpOk X pins H b → s.heap.get? b = some o → s'.heap.get? b = some o) → St i s')
    (hIt : ∀ i s, St i s → ∃ o, s.heap.get? It = some o) (hR : ∀ x v s' H', x ∈ xs → RelV x v → Inv X pins σ H' s' → ExtN H1 H' → Tabs T H' → R (.ok (.ret v)) s') (hn : 0 < n) {s : Shared} {H : Hp} {e : Nat} (J : Jm X pins σ T H1 S It f c fo q H s) (st : St 0 s)
    (hS : s.heap.get? S = some { cls := .type "list", dict := none, data := .seq #[] e, slots := #[] }) : codeAny (model X.prog X.w) A (.builtin "min.loop" ⟨[.ref It, .ref f, .ref S], kw⟩) R s := by
  have nS : S ∉ [It] := fun z => hSf (W.sub _ z)
  have sub : ∀ b ∈ [It], b ∈ [S, It] := fun b hb => List.mem_cons_of_mem _ hb
  have nm : (toString "min" ++ toString ".loop" : String) = "min.loop" := by decide
  refine codeAny_builtin F.entry_min_loop ?go
  case go =>
    rw [Around.under_plainId F.plain_min_loop _]
    show wpAny _ A.in1 (seqItems? (.ref S) >>= _) _ _ s
    refine wpAny_bind (wpAny_seqItems hS rfl ?_); show wpAny _ A.in1 (tryCatch (pyNext (.ref It)) _ >>= _) _ _ s
    refine wpAny_bind (wpAny_tryCatch (W.item 0 s _ _ hn st fun v s' hP st' hm' => ?_))
    have hS' := hm'.heap S _ nS hS
    have J' := J.moved nfS nfI (hm'.mono sub) ⟨_, hS'⟩ (hIt _ _ st')
    obtain ⟨x, hx', rx⟩ := hPv _ _ hP
    show wpAny _ A.in1 (tryCatch (holding [v] (call (.ref f) [v])) _ >>= _) _ _ _
    refine wpAny_bind (wpAny_tryCatch (wpAny_holding (wpAny_mono (K.turn H s' x v _ J' hx' rx) (fun kx s2 hk => ?_) fun _ _ y => y)))
    obtain ⟨y, H2, J2, r2, k2, tups, fps⟩ := hk
    have hS2 := fps S _ J'.fS hS'
    have st2 := hfp H s' _ J' st' s2 H2 J2 fps
    show wpAny _ A.in1 (updateSeq S (fun _ => #[v, kx]) >>= _) _ _ _
    refine wpAny_bind ?_
    refine wpAny_updateSeq hS2 rfl ?_; rw [nm]
    refine wpAny_pure ⟨plainId_quiet F.plain_min_loop _, min_more W hSf nfS nfI K hPv hSt hfp hIt hR _ 0 _ H2 v kx _ x y rfl hn (J2.moved nfS nfI (moved_upd s2 S It _) ⟨_, Heap.get?_update_self _ hS2 rfl⟩ (by obtain ⟨o, e⟩ := J2.eI; exact ⟨o, (Heap.get?_update_other _ _ (fun z : S = It => nS (by rw [z]; exact List.mem_singleton.mpr rfl))).trans e⟩)) (hSt _ _ _ st2 fun b o hb e => ?_) hx' rx r2 k2 (Heap.get?_update_self _ hS2 rfl)⟩
    exact (Heap.get?_update_other _ _ (fun z : S = b => hSf (z ▸ hb))).trans e
end
section
theorem sqT_extN {K : PySem.W.Frag} {H H' : Hp} (s : ExtN H H') {t : Addr} {xs : List V} (q : SqT K H t xs) : SqT K H' t xs := by
  rcases q with (q | ⟨o, q⟩) | q
  · exact .inl (.inl (s _ _ q fun ps z => by cases z))
  · exact .inl (.inr ⟨o, s _ _ q fun ps z => by cases z⟩)
  · exact .inr q
/-- where the walk of a tuple stands -/
def Stt (xs : List V) (It l : Addr) (i : Nat) (s : Shared) : Prop := ∃ vs : Array Value, Vals xs vs.toList ∧ s.heap.IsTupleIter It l i ∧ s.heap.IsTuple l vs
theorem walk_tt {prog : Program} {w : World} {A : Around} {It l : Addr} {xs : List V} (hh : A.handled = none) (ne : l ≠ It) :
    WalksS prog w A It [It, l] [It] (fun a b => b = a) xs.length (fun i v => ∃ x, xs[i]? = some x ∧ RelV x v) (Stt xs It l) := by
  have W := fun vs : Array Value => (Walks.tuple (prog := prog) (w := w) (A := A) hh It l ne vs).toS
  have sz : ∀ {vs : Array Value}, Vals xs vs.toList → vs.size = xs.length := fun {vs} r => by rw [r.length, Array.length_toList]
  refine ⟨fun b hb => by simp at hb; simp [hb], fun _ => rfl, fun a b c h1 h2 => h2.trans h1, fun i s h' tk st le k => ?_, fun i s Q E hi st h => ?_, fun s Q E st h => ?_, fun i s Q E st h => ?_⟩
  · obtain ⟨vs, r, st⟩ := st
    exact ⟨vs, r, (W vs).frame i s h' tk st le k⟩
  · obtain ⟨vs, r, st⟩ := st
    refine (W vs).item i s Q E (by rw [sz r]; exact hi) st fun v s' hP st' hm => h v s' ?_ ⟨vs, r, st'⟩ hm
    obtain ⟨v', e', rx⟩ := r.get (List.getElem?_eq_getElem hi)
    rw [Array.getElem?_toList, show vs[i]? = some v from hP] at e'
    cases e'
    exact ⟨_, List.getElem?_eq_getElem hi, rx⟩
  · obtain ⟨vs, r, st⟩ := st
    exact (W vs).done s Q E (by rw [sz r]; exact st) h
  · obtain ⟨vs, r, st⟩ := st
    exact (W vs).self i s Q E st h
end
abbrev itO (l : Addr) : Obj := { cls := .type "tuple_iterator", data := .fields #[.ref l, .int 0 0] }
/-- min(e, key=lambda pn: body): some item -/
def tMinLam (K : PySem.W.Frag) (T : List (Addr × Str)) (Ky : Hp → V → PyData → Prop) (ta tb : TE) : TE := fun σ H Q => ta σ H fun x H1 => ∃ (l : Addr) (xs : List V) (kd : V → PyData), x = .ref l ∧ SqT K H1 l xs ∧ xs ≠ [] ∧ Tabs T H1 ∧
  (∀ v ∈ xs, ∀ v' ∈ xs, alike (kd v) (kd v') = true) ∧ (∀ v ∈ xs, kd v ≠ .none ∧ (kd v).depth ≤ 50) ∧
  (∀ H2, ExtN H1 H2 → Tabs T H2 → ∀ v ∈ xs, tb (some v :: σ) H2 fun y H3 => ExtN H2 H3 ∧ Tabs T H3 ∧ Ky H3 y (kd v)) ∧ ∀ v ∈ xs, ∀ H', ExtN H1 H' → Tabs T H' → Q v H'
section
variable {X : Cx}
theorem pe_minLam {T : List (Addr × Str)} {Ky : Hp → V → PyData → Prop} {e : Expr} {params : Arguments} {body : Expr} {scope : Scope} {lpos kpos p pos : Pos} {pn : Str} {c P : Addr} {k : Nat} {ta tb : TE}
    (hg : Gl X "min") (hm : X.mg "min" = none) (calm : X.calm = true) (room : Room (k + 3) X.A) (ha : PE X e ta)
    (TB : TabB X.base X.mg c P) (hcode : X.env.code = .ref c) (hmT : (P, X.env.qual ++ "<lambda>") ∈ T) (hu : ∀ p ∈ T, p.1 = P → p.2 = X.env.qual ++ "<lambda>") (L : Lam1 X.env.scope scope pn) (hpn : pn ∉ X.N) (hdef : defaultsOf params X.env = ([], []))
    (hbind : ∀ (q : Str) (cl : List (Str × Addr)) (pm cv ctv u : Value), bindArgs (kla_fn "<lambda>" q params body scope cl pm cv ctv) ⟨[u], []⟩ = pure [(pn, u)])
    (hbody : ∀ (A : Around) (s : Shared) (H : Hp) (f c' : Addr), Room k (A.deeper (lamEnv X scope s.heap.objs.size f c')) → PE (lamX X A s H pn scope f c') body tb)
    (hdz : ∀ H y d, Ky H y d → Dz X.K H y d) (hkeep : ∀ (H H' : Hp) y d, (∀ b zs, H b = some (.tup zs) → H' b = some (.tup zs)) → Ky H y d → Ky H' y d)
    (hs0 : starEach [e] X.env = (false, eval e X.env) :: starEach [] X.env := by rfl) (he : backTo pos (starEach [e] X.env) = (false, eval e X.env) :: backTo pos (starEach [] X.env) := by rfl) (hpl : (backTo pos (starEach [e] X.env)).any (·.1) = false := by rfl) :
    PE X (.Call (.Name "min" p) [e] [⟨some "key", .Lambda params body scope lpos, kpos⟩] pos) (tMinLam X.K T Ky ta tb) := by
  refine ⟨fun pins s σ H Q I h => ?_⟩
  refine wpAny_Call_Name_kw (ld_blt I hg hm (u := .builtin "min") (by decide +kernel) ?_)
  refine PyProof.Rows.callWith_kw (thn ((pa_cons (hs := hs0) ha pa_nil).run pos pins s σ H (fun vs H1 => match vs with
    | [x] => ∃ (l : Addr) (xs : List V) (kd : V → PyData), x = .ref l ∧ SqT X.K H1 l xs ∧ xs ≠ [] ∧ Tabs T H1 ∧
      (∀ v ∈ xs, ∀ v' ∈ xs, alike (kd v) (kd v') = true) ∧ (∀ v ∈ xs, kd v ≠ .none ∧ (kd v).depth ≤ 50) ∧
      (∀ H2, ExtN H1 H2 → Tabs T H2 → ∀ v ∈ xs, tb (some v :: σ) H2 fun y H3 => ExtN H2 H3 ∧ Tabs T H3 ∧ Ky H3 y (kd v)) ∧ ∀ v ∈ xs, ∀ H', ExtN H1 H' → Tabs T H' → Q v H'
    | _ => False) I h) fun us s1 hq => ?_) he hpl
  obtain ⟨ws, H1, I1, r1, q1⟩ := hq
  match ws, q1 with
  | [], q1 => exact False.elim q1
  | _ :: _ :: _, q1 => exact False.elim q1
  | [x], q1 =>
    obtain ⟨l, xs, kd, rfl, hs, ne, hT, hal, hso, hbd, hq⟩ := q1
    obtain ⟨u, rfl, ru⟩ := vals1 r1
    cases ru
    show wpAny _ _ (evalAll ((do let v ← eval (.Lambda params body scope lpos) X.env; standAt pos; pure v) :: [])) _ _ s1
    refine wpAny_evalAll_cons (wpAny_bind (lam_make2 I1 TB hcode hmT hu hT hdef (L.has I1.ok) fun f c' pm ctv H2 s2 I2 eN T2 hf hfn hfr hco => wpAny_bind (wpAny_standAt (wpAny_pure (wpAny_evalAll_nil ?_)))))
    show wpAny _ _ (call (.builtin "min") [.ref l] [(Str.ofString "key", .ref f)]) _ _ s2
    have hs2 := sqT_extN eN hs
    obtain ⟨its, rx, hit, _⟩ := I2.tuple hs2
    have hIt : s2.heap.IsTuple l its.toArray := hit
    have hl : l < s2.heap.objs.size := by obtain ⟨o, ho, _⟩ := hIt; exact Heap.lt_size ho
    have hf' : f < s2.heap.objs.size := Heap.lt_size hf
    have hh : X.A.handled = none := I.ok.hd calm
    have nm : (toString "min" ++ toString ".loop" : String) = "min.loop" := by decide
    refine kmk_tree F.kind_min F.plain_min F.entry_min (kmk_min_key _ _) ?go
    case go =>
      show wpAny _ X.A.in1 (Builtin.Builtins.bindParams "min" ["key", "default"] 0 ⟨[], [(Str.ofString "key", .ref f)]⟩ >>= _) _ _ s2
      refine wpAny_bind (wpAny_of_eq (show Builtin.Builtins.bindParams "min" ["key", "default"] 0 ⟨[], [(Str.ofString "key", .ref f)]⟩ = pure [some (.ref f), none] from rfl) ?_)
      refine wpAny_bind (wpAny_pure (wpAny_bind (wpAny_pyIter_tuple hIt (wpAny_bind (wpAny_newObj_type ?_)))))
      rw [nm]
      -- the iterator, the list
      have sz : (s2.heap.push (itO l)).objs.size = s2.heap.objs.size + 1 := Heap.size_push ..
      show wpAny _ _ _ _ _ { s2 with heap := (s2.heap.push (itO l)).push { cls := .type "list", data := .seq #[] 0 } }
      have le1 : s2.heap.objs.size ≤ s2.heap.objs.size := Nat.le_refl _
      have le2 : s2.heap.objs.size ≤ (s2.heap.push (itO l)).objs.size := by rw [sz]; omega
      have kp : ∀ b o, s2.heap.get? b = some o → ((s2.heap.push (itO l)).push { cls := .type "list", data := .seq #[] 0 }).get? b = some o := fun b o e => Heap.get?_push_of_some _ (Heap.get?_push_of_some _ e)
      have J : Jm X pins σ T H1 (s2.heap.push (itO l)).objs.size s2.heap.objs.size f c' _ (X.env.qual ++ "<lambda>") H2 { s2 with heap := (s2.heap.push (itO l)).push { cls := .type "list", data := .seq #[] 0 } } :=
        ⟨I2.kept (t' := s2.toks) kp, eN, T2, I2.fpOk le2 (I2.hok.fresh le2), I2.fpOk le1 (I2.hok.fresh le1), kp _ _ hf, hfn, hco, ⟨_, Heap.get?_push_size _ rfl⟩, ⟨_, Heap.get?_push_of_some _ (Heap.get?_push_size _ rfl)⟩⟩
      have nS : (s2.heap.push (itO l)).objs.size ∉ [s2.heap.objs.size, l] := fun z => by
        rw [sz] at z
        rcases List.mem_cons.mp z with z | z
        · exact absurd z (Nat.succ_ne_self _)
        · exact absurd hl (by rw [← List.mem_singleton.mp z]; exact Nat.not_lt.mpr (Nat.le_succ _))
      have K : KeyL X pins σ T H1 (s2.heap.push (itO l)).objs.size s2.heap.objs.size f c' (kla_obj "<lambda>" (X.env.qual ++ "<lambda>") params body scope (cloFrom X.env.cells scope.names []) pm c' ctv) (X.env.qual ++ "<lambda>") Ky kd xs X.A.in1 := by
        refine ⟨fun H s v u E J hv rv => ?_, hdz, hkeep, hal, hso, ?_⟩
        · have fr : X.A.in1.frames = some X.stack := by show X.A.frames = some X.stack; exact I.ok.frames
          refine wpAny_mono (lam_call (E := E) J.inv L hpn J.fn J.cd (hbind _ _ _ _ _ _) fr (room.in1.mono (by omega) : Room (k + 1) _) (fun hr => hbody _ _ _ _ _ hr) rv (hbd H J.ext J.tab v hv)) (fun y s' hq' => ?_) fun _ _ z => z
          obtain ⟨z, H', os, bare, un, hok, rz, eN', T', ky⟩ := hq'
          have I' : Inv X pins σ H' s' := J.inv.call' os un hok bare fun b hb => absurd hb List.not_mem_nil
          have kpt : ∀ b o, FpOk X pins H b → s.heap.get? b = some o → s'.heap.get? b = some o := fun b o fb e => un.keep _ _ e fb.1 (fun hz => by
            rcases List.mem_cons.mp (J.inv.stkSub b hz) with e' | e'
            · exact fb.2.1 e'
            · exact fb.2.2.1 e') List.not_mem_nil
          have fz : ∀ b o, s.heap.get? b = some o → FpOk X pins H b → FpOk X pins H' b := fun b o e fb => ⟨un.free _ _ e fb.1 List.not_mem_nil, fb.2⟩
          obtain ⟨oS, eS⟩ := J.eS
          obtain ⟨oI, eI⟩ := J.eI
          refine ⟨z, H', ⟨I', J.ext.trans eN', T', fz _ _ eS J.fS, fz _ _ eI J.fI, un.keep _ _ J.fn J.nf (fun hz => ?_) List.not_mem_nil, un.free _ _ J.fn J.nf List.not_mem_nil, eN' _ _ J.cd codeO_ne, ⟨_, kpt _ _ J.fS eS⟩, ⟨_, kpt _ _ J.fI eI⟩⟩, rz, ky, un.tups, kpt⟩
          exact hfr hz
        · have := room.units
          show X.A.units + 1 + 60 < cLine
          omega
      refine wpAny_pure ⟨plainId_quiet F.plain_min_loop _, min_first (A := X.A) (fp := [s2.heap.objs.size, l]) (St := Stt xs s2.heap.objs.size l) (walk_tt (A := X.A.in1) hh (Nat.ne_of_lt hl)) nS (Nat.ne_of_lt (Nat.lt_of_lt_of_le hf' le2)) (Nat.ne_of_lt hf') K
        (fun i v ⟨x, e, r⟩ => ⟨x, List.mem_of_getElem? e, r⟩) (fun i s s' st k => ?_) (fun H s i J st s' H' J' kk => ?_) (fun i s ⟨vs, r, ⟨o, e, _⟩, _⟩ => ⟨o, e⟩) (fun x v s' H' hx r I' e' t' => ⟨x, H', I', r, hq x hx H' e' t'⟩) (List.length_pos_iff.mpr ne) J ⟨its.toArray, by simpa using rx, ?_, ?_⟩ (Heap.get?_push_size _ rfl)⟩
      · obtain ⟨vs, r, ⟨o, e, r1⟩, ⟨o', e', r2⟩⟩ := st
        exact ⟨vs, r, ⟨o, k _ _ List.mem_cons_self e, r1⟩, ⟨o', k _ _ (by simp) e', r2⟩⟩
      · obtain ⟨vs, r, ⟨o, e, r1⟩, _⟩ := st
        obtain ⟨its', rx', hit', _⟩ := J'.inv.tuple (sqT_extN J'.ext hs)
        exact ⟨its'.toArray, by simpa using rx', ⟨o, kk _ _ J.fI e, r1⟩, hit'⟩
      · exact ⟨_, Heap.get?_push_of_some _ (Heap.get?_push_size _ rfl), rfl, rfl⟩
      · exact (hIt.push _).push _
end
end Xlm
set_option Elab.async false
set_option linter.all false
set_option maxRecDepth 100000
set_option maxHeartbeats 4000000
namespace K82
open PySem PySem.Spec PyProof.Rows L2
/-! ## defs that show things: promises where no showing is under way -/
structure Gn (P : Program) (w : World) (K : PySem.W.Frag) (mg : Str → Option Value) (base : Heap) (k : Nat) (f : Addr) (fd : FuncData) (ps : List Str) (sp : Sp) : Prop where
  many : ∀ vs H Q E, sp vs H Q E → vs.length = ps.length
  go : ∀ (A : Around) (outer : List Env) (s : Shared) (H : Hp) (args : Args) (us : List Value) (vs : List V) (Q : VK) (E : XK), A.guards = some [] → Room k A →
    Env0 P w K mg base A outer s H → BindsTo s fd args (ps.zip us) → Vals vs us → sp vs H Q E → codeAny (model P w) A (.call (.ref f) args) (CR CX0 outer P w H s Q E) s
section
variable {P : Program} {w : World} {K : PySem.W.Frag} {mg : Str → Option Value} {base : Heap}
theorem gn_body {x qual : Str} {st : Stmt} {f : Addr} {fd : FuncData} {N ps : List Str} {k : Nat} {sp : Sp} (F : Fun K x qual st f fd) (S : FnScope N ps (defScope st))
    (many : ∀ vs H Q E, sp vs H Q E → vs.length = ps.length)
    (body : ∀ (cdv : Value) (A : Around) (outer : List Env) (s : Shared) (H : Hp) (vs : List V) (Q : VK) (E : XK), A.guards = some [] →
      Room k (A.deeper (envOfC qual (defScope st) s.heap.objs.size f cdv)) → sp vs H Q E →
      ∃ t, PSs (cxOf CX0 P w K mg base N qual (defScope st) f cdv A outer s H E).nox (defBody st) t ∧ t { nx := fun _ H' => Q .non H', rt := Q } (start N vs) H) :
    Gn P w K mg base (k + 1) f fd ps sp := by
  obtain ⟨oc, od, kV, doc, pm, an, cdv, ct, osl, rfl, lk, hcd⟩ := F.ex
  refine ⟨many, fun A outer s H args us vs Q E hg room en bd rv hsp => ?_⟩
  have kin : K.In s.heap := en.mod.kin.keeps fun b o q => (en.bs b o q).1
  refine Att.call_fn kin (en.mod.nolimit.keeps fun b o q => (en.bs b o q).1) lk hcd room.depth bd ?_ (fun s1 inc => ?_) S.co S.gen S.kind
  · refine List.all_eq_true.mpr fun y hy => ?_
    rcases S.par y.1 (List.of_mem_zip (a := y.1) (b := y.2) hy).1 with q | q
    · rw [q]; rfl
    · rw [q]; rfl
  · obtain ⟨t, ht, hq⟩ := body cdv A outer s H vs Q E hg (room.deeper _) hsp
    have I := inv_start (CX := CX0) (E := E) S room.hd en (many _ _ _ _ hsp) rv inc
    refine wpAny_mono (ht.nox.run [] s1 _ H _ I hq) (fun fl s' hs => ?_) fun _ _ z => z
    cases fl with
    | ret u =>
      obtain ⟨v, _, H', J, r, q⟩ := hs
      exact ⟨v, H', J.os, J.bare, J.base, J.hok, r, q⟩
    | next =>
      obtain ⟨_, H', J, q⟩ := hs
      exact ⟨.non, H', J.os, J.bare, J.base, J.hok, rfl, q⟩
    | brk =>
      obtain ⟨_, _, _, z⟩ := hs
      exact False.elim z
    | cont =>
      obtain ⟨_, _, _, z⟩ := hs
      exact False.elim z
end
section
variable {X : Cx} {k : Nat} {f : Addr} {fd : FuncData} {ps : List Str} {sp : Sp} {x : Str} {p pos : Pos} {e : Expr} {es : List Expr} {t : TA}
theorem pe_gn (F : Gn X.prog X.w X.K X.mg X.base k f fd ps sp) (quiet : X.A.guards = some []) (room : Room k X.A) (gl : Gl X x) (mgf : X.mg x = some (.ref f))
    (kp : PySem.W.keepIn X.K (.ref f) = true) (bd : Binds X.K fd ps []) (ha : PA X (e :: es) t) (hdb : (x == ("__debug__" : Str)) = false := by decide)
    (he : starEach (e :: es) X.env = (false, eval e X.env) :: starEach es X.env := by rfl) (hpl : (backTo pos (starEach es X.env)).any (·.1) = false := by rfl) :
    PE X (.Call (.Name x p) (e :: es) [] pos) (tCall sp [] E0 t) := by
  refine ⟨fun pins s σ H Q I h => wpAny_Call_Name_kw (ld_glob I gl mgf ?_ hdb)⟩
  refine PySem.W.callWith_K (h₀ := X.base) I.ok.mod.kin kp ?_ he hpl
  refine thn (ha.run pos pins s σ H _ I h) fun us s1 z => ?_
  obtain ⟨vs, H1, I1, rv, q⟩ := z
  have q' : sp vs H1 Q E0 := by
    have z := q
    rw [List.append_nil] at z
    exact z
  have many : us.length = ps.length := rv.length.symm.trans (F.many _ _ _ _ q')
  have b1 := bd s1 us I1.kIn (by rw [List.append_nil]; exact many)
  rw [List.append_nil] at b1
  refine ⟨I1.kIn, wpAny_call (codeAny_mono (F.go X.A X.stack s1 H1 ⟨us, []⟩ us vs Q E0 quiet room I1.env0 b1 rv q') fun r s' hr => ?_)⟩
  cases r with
  | error z => exact False.elim hr
  | ok fl =>
    cases fl with
    | ret u => exact I1.after hr
    | next => exact False.elim hr
    | brk => exact False.elim hr
    | cont => exact False.elim hr
/-- repr of data at any depth -/
theorem cr_reprD (quiet : X.A.guards = some []) (room : Room k X.A) : CallR X (.builtin "repr") (fun xs H Q => ∃ (a : Addr) (d : PyData), xs = [.ref a] ∧ Dp X.K H (.ref a) d ∧ d.showable = true ∧ d.hasDict = false ∧
    d.depth ≤ 50 ∧ d.shown.length ≤ sizeLine ∧ Q (.str d.shown) H) := by
  intro pins s σ H xs us Q I r h
  obtain ⟨a, d, rfl, hd, hs, hn, hp, hz, q⟩ := h
  obtain ⟨u, rfl, rx⟩ := vals1 r
  obtain ⟨as, rd⟩ := Dp.reads I d _ u hd rx
  cases rx
  have hu := room.units
  exact repr_of_reads' rd hs (fun z => absurd (hn.symm.trans z) Bool.false_ne_true) quiet (by omega) (fun _ _ z => z) (fun h' u tk kept => ⟨.str d.shown, H, I.kept kept, ⟨u, rfl⟩, q⟩) hz
theorem cr_repr_bl : CallR X (.builtin "repr") (fun xs H Q => ∃ b : Bool, xs = [.bl b] ∧ Q (.str (if b then "True" else "False")) H) := by
  intro pins s σ H xs us Q I r h
  obtain ⟨b, rfl, q⟩ := h
  obtain ⟨u, rfl, rx⟩ := vals1 r
  cases rx
  exact PySem.P.repr_of_bool ⟨.str _, H, I.tok _, ⟨_, rfl⟩, q⟩
end
end K82
set_option Elab.async false
set_option linter.all false
set_option maxRecDepth 100000
set_option maxHeartbeats 4000000
namespace K82
open PySem PySem.Spec PyProof.Rows L2
theorem law_go {P : Program} {w : World} {K : PySem.W.Frag} {mg mb : Str → Option Value} {k : Nat} {fa a : Addr} {fd : FuncData} {x : Str} {sp : Sp} {z : Shared} {vs : List Value} {ns : List Int}
    (kin : K.In z.heap) (nsG : z.heap.Ns mainGlobals mg) (nsB : z.heap.Ns builtinsNs mb) (same : ∀ y : Str, y ≠ "__name__" → mb y = bootBuiltins y) (lim : z.heap.NoLimit) (dig : z.heap.NoDigits) (no : z.gens = #[])
    (at_ : z.heap.get? a = some { cls := .type "list", data := .seq vs.toArray }) (intsA : IntsAre vs ns) (many : ns.length ≤ sizeLine) (room : Room k callerA)
    (F : ∀ base : Heap, K.In base → base.Ns mainGlobals mg → base.NoDigits → Gn P w K mg base k fa fd [x] sp) (bind : ∀ (s : Shared) (u : Value), BindsTo s fd ⟨[u], []⟩ [(x, u)])
    (hsp : ∀ H : Hp, SqL K H a (ns.map V.int) → sp [.ref a] H (fun v _ => v = .bl true) fun _ _ _ => False) :
    codeAny (model P w) callerA (.call (.ref fa) ⟨[.ref a], []⟩) (fun r s' => r = .ok (.ret (.bool true)) ∧ OldK z.heap s'.heap ∧ s'.os = z.os ∧ AllBare s'.gens) z := by
  have rv : Vals (ns.map V.int) vs := vals_ints intsA
  have sz : (ns.map V.int).length ≤ sizeLine := by rw [List.length_map]; exact many
  -- what is tracked: the script, unless it is the module's own
  let u : HO := .frz { cls := .type "list", data := .seq vs.toArray } (.lst (ns.map V.int))
  let H : Hp := fun b => if b = a ∧ K.lookup a = none then some u else none
  have only : ∀ b o, H b = some o → b = a ∧ K.lookup a = none ∧ o = u := fun b o e => by
    by_cases c : b = a ∧ K.lookup a = none
    · have e2 : H b = some u := if_pos c
      rw [e2] at e
      exact ⟨c.1, c.2, (Option.some.inj e).symm⟩
    · have e2 : H b = none := if_neg c
      rw [e2] at e
      cases e
  have sq : SqL K H a (ns.map V.int) := by
    cases hk : K.lookup a with
    | none => exact .inl (.inr ⟨_, if_pos ⟨rfl, hk⟩⟩)
    | some o =>
      have e := kin a o hk
      rw [at_] at e
      cases e
      exact .inr ⟨_, vs.toArray, _, hk, rfl, rfl, rfl, by rw [List.size_toArray, ← rv.length]; exact sz, by simpa using rv⟩
  have hok : HOk P w H z.heap := fun b o e => by
    obtain ⟨rfl, _, rfl⟩ := only b o e
    exact ⟨at_, sz, vs, _, rv, at_⟩
  have dictFree : ∀ {b : Addr} {o : Obj} {es : Array DictEntry} {ep : Nat}, z.heap.get? b = some o → o.data = .dict es ep → H b = none := fun {b o es ep} e d => by
    cases q : H b with
    | none => rfl
    | some v =>
      obtain ⟨rfl, _, _⟩ := only b v q
      rw [at_] at e
      cases e
      cases (show Data.seq vs.toArray _ = Data.dict es ep from d)
  have nsK : ∀ {b : Addr} {m : Str → Option Value}, z.heap.Ns b m → (hidT z.heap H).Ns b m := fun {b m} q => by
    obtain ⟨o, es, ep, e, d, r⟩ := q
    exact ⟨o, es, ep, hidT_get e (dictFree e d), d, r⟩
  have kb : K.In (hidT z.heap H) := fun b o e => by
    refine hidT_get (kin b o e) ?_
    cases q : H b with
    | none => rfl
    | some v =>
      obtain ⟨rfl, n, _⟩ := only b v q
      rw [n] at e
      cases e
  have limB : (hidT z.heap H).NoLimit := by
    obtain ⟨mc, h1, h2⟩ := lim
    exact ⟨mc, nsK h1, h2⟩
  have digB : (hidT z.heap H).NoDigits := by
    obtain ⟨mc, h1, h2⟩ := dig
    exact ⟨mc, nsK h1, h2⟩
  have en : Env0 P w K mg (hidT z.heap H) callerA [] z H :=
    ⟨rfl, ⟨kb, nsK nsG, ⟨mb, nsK nsB, same⟩, limB⟩, fun _ _ e => of_hidT e, Nat.le_of_eq (hidT_size _ _), trivial, (fun b hb => absurd (show b ∈ ([] : List Addr) from hb) List.not_mem_nil), hok, .of_eq no⟩
  refine codeAny_mono ((F _ kb (nsK nsG) digB).go callerA [] z H ⟨[.ref a], []⟩ [.ref a] [.ref a] _ _ rfl room en (bind z (.ref a)) (.cons rfl .nil) (hsp H sq)) fun r s' h => ?_
  match r, h with
  | .error e, h => exact False.elim h
  | .ok .next, h => exact False.elim h
  | .ok .brk, h => exact False.elim h
  | .ok .cont, h => exact False.elim h
  | .ok (.ret y), h =>
    obtain ⟨v, H', os, bare, un, hok', r', q⟩ := h
    obtain rfl : v = .bl true := q
    obtain rfl : y = Value.bool true := r'
    refine ⟨rfl, OldK.of_keep fun b o e => ?_, os, bare⟩
    cases q : H b with
    | none => exact un.keep b o e q (fun y => by cases y) (fun y => by cases y)
    | some v =>
      obtain ⟨rfl, _, rfl⟩ := only b v q
      have e2 := (hok' _ _ (un.frzs _ _ _ q)).1
      rw [at_] at e
      cases e
      exact e2
theorem walk_go {l : PySem.W.OpenLaw} {n k : Nat} {q : Program} {loose : List Str} {XP : (Str → Option Value) → Heap → Prop} {YP : World → Heap → Prop} {d : DefRec} {K : Params → PySem.W.Frag} {sp : PySem.W.Frag → Sp} {x : Str}
    (most : l.most = some n) (small : n ≤ sizeLine) (nodef : d.params.defaults = []) (room : Room k callerA) (hY : ∀ (w : World) (h : Heap), YP w h → (K w.params).In h)
    (F : ∀ (w : World) (mg : Str → Option Value) (fa : Addr) (h : Heap), (K w.params).In h → h.Ns mainGlobals mg → mg d.name = some (.ref fa) →
      ∃ fd : FuncData, (∀ (s : Shared) (u : Value), BindsTo s fd ⟨[u], []⟩ [(x, u)]) ∧ ∀ base : Heap, (K w.params).In base → base.Ns mainGlobals mg → base.NoDigits →
        Gn l.prog w (K w.params) mg base k fa fd [x] (sp (K w.params)))
    (hsp : ∀ (K : PySem.W.Frag) (H : Hp) (a : Addr) (ns : List Int), ns.length ≤ n → SqL K H a (ns.map V.int) → sp K [.ref a] H (fun v _ => v = .bl true) fun _ _ _ => False) :
    PySem.W.WalkO q loose XP YP l.row.toRowW d [] (fun f vs => PySem.call f vs) := by
  refine Att.attach_call most nodef fun w s₀ s₁ mg mb fa o pm cd doc a vs ns G Y _ _ _ hmg hobj hints hlen hg => ?_
  have kin := hY w _ Y
  obtain ⟨fd, hb, hF⟩ := F w mg fa _ kin G.T.g hmg
  exact law_go kin G.T.g G.T.b G.T.builtins G.T.nolimit G.T.nodigits hg hobj hints (Nat.le_trans hlen small) room hF hb fun H hS => hsp _ H a ns hlen hS
end K82
set_option Elab.async false
set_option linter.all false
set_option maxRecDepth 100000
set_option maxHeartbeats 4000000
set_option pp.maxSteps 400
set_option pp.deepTerms false
namespace K82
open PySem PySem.Spec PyProof.Rows L2
open Xk Az W37
def top (i : Nat) : Stmt := PySem.Challenge.pw_takesworks_k82_whole_parts_in_order.main.body.getD i (.Pass ⟨0, 0, 0, 0⟩)
abbrev sIsWhole : Stmt := top 1
abbrev sIsWithin : Stmt := top 2
abbrev sLeaves : Stmt := top 4
abbrev sSpansIn : Stmt := top 5
abbrev sSpanOf : Stmt := top 6
abbrev sSpansOf : Stmt := top 8
abbrev sLeavesWithin : Stmt := top 9
abbrev sIsAhead : Stmt := top 10
abbrev sBestOf : Stmt := top 11
abbrev sBestByFirst : Stmt := top 12
abbrev sMostInOrder : Stmt := top 13
abbrev sLeastHeight : Stmt := top 14
abbrev sHeights : Stmt := top 15
abbrev sShowsMost : Stmt := top 16
abbrev sHand : Stmt := top 18
abbrev sTake : Stmt := top 19
abbrev sPick : Stmt := top 20
abbrev sSigns : Stmt := top 21
abbrev sText : Stmt := top 22
abbrev sTongue : Stmt := top 23
abbrev sNames : Stmt := top 24
abbrev sTree : Stmt := top 25
abbrev sWork : Stmt := top 26
abbrev sAll : Stmt := top 27
abbrev sTitles : Stmt := top 29
abbrev sBackward : Stmt := top 30
abbrev sChoiceRight : Stmt := top 31
abbrev sPapersRight : Stmt := top 32
abbrev sRight : Stmt := top 33
abbrev sLaw : Stmt := top 34
theorem scIsWhole : FnScope ["thing"] ["thing"] (defScope sIsWhole) := ⟨rfl, rfl, rfl, by decide +kernel, rfl, by decide +kernel, by decide +kernel⟩
theorem scIsWithin : FnScope ["thing", "least", "most"] ["thing", "least", "most"] (defScope sIsWithin) := ⟨rfl, rfl, rfl, by decide +kernel, rfl, by decide +kernel, by decide +kernel⟩
theorem scLeaves : FnScope ["work", "name", "parts", "part", "leaf"] ["work"] (defScope sLeaves) := ⟨rfl, rfl, rfl, by decide +kernel, rfl, by decide +kernel, by decide +kernel⟩
theorem scSpansIn : FnScope ["work", "start", "name", "parts", "within", "end", "part", "rows"] ["work", "start"] (defScope sSpansIn) := ⟨rfl, rfl, rfl, by decide +kernel, rfl, by decide +kernel, by decide +kernel⟩
theorem scSpanOf : FnScope ["work", "name", "names", "known", "span"] ["work", "name", "names"] (defScope sSpanOf) := ⟨rfl, rfl, rfl, by decide +kernel, rfl, by decide +kernel, by decide +kernel⟩
theorem scSpansOf : FnScope ["work", "titles", "names", "title"] ["work", "titles", "names"] (defScope sSpansOf) := ⟨rfl, rfl, rfl, by decide +kernel, rfl, by decide +kernel, by decide +kernel⟩
theorem scLeavesWithin : FnScope ["span"] ["span"] (defScope sLeavesWithin) := ⟨rfl, rfl, rfl, by decide +kernel, rfl, by decide +kernel, by decide +kernel⟩
theorem scIsAhead : FnScope ["one", "other"] ["one", "other"] (defScope sIsAhead) := ⟨rfl, rfl, rfl, by decide +kernel, rfl, by decide +kernel, by decide +kernel⟩
theorem scBestOf : FnScope ["choices"] ["choices"] (defScope sBestOf) := ⟨rfl, rfl, rfl, by decide +kernel, rfl, by decide +kernel, by decide +kernel⟩
theorem scBestByFirst : FnScope ["spans", "best", "number", "span", "many", "rest", "later"] ["spans"] (defScope sBestByFirst) := ⟨rfl, rfl, rfl, by decide +kernel, rfl, by decide +kernel, by decide +kernel⟩
theorem scMostInOrder : FnScope ["work", "titles", "names", "spans", "many", "choice", "chosen", "lacks", "number", "leaf", "low", "high"] ["work", "titles", "names"] (defScope sMostInOrder) := ⟨rfl, rfl, rfl, by decide +kernel, rfl, by decide +kernel, by decide +kernel⟩
theorem scLeastHeight : FnScope ["spans", "known", "number", "span", "below", "at"] ["spans", "known", "number"] (defScope sLeastHeight) := ⟨rfl, rfl, rfl, by decide +kernel, rfl, by decide +kernel, by decide +kernel⟩
theorem scHeights : FnScope ["work", "titles", "names", "spans", "found", "number", "span"] ["work", "titles", "names"] (defScope sHeights) := ⟨rfl, rfl, rfl, by decide +kernel, rfl, by decide +kernel, by decide +kernel⟩
theorem scShowsMost : FnScope ["work", "titles", "many", "thing", "names", "spans", "height", "number"] ["work", "titles", "many", "thing", "names"] (defScope sShowsMost) := ⟨rfl, rfl, rfl, by decide +kernel, rfl, by decide +kernel, by decide +kernel⟩
theorem scHand : FnScope ["_law_script", "_law_k", "_law_cell", "_law_great"] ["_law_script", "_law_k"] (defScope sHand) := ⟨rfl, rfl, rfl, by decide +kernel, rfl, by decide +kernel, by decide +kernel⟩
theorem scTake : FnScope ["_law_hand_here", "_law_many", "_law_digit", "_law_turn", "_law_one", "_law_two", "_law_mixed", "_law_last"] ["_law_hand_here", "_law_many"] (defScope sTake) := ⟨rfl, rfl, rfl, by decide +kernel, rfl, by decide +kernel, by decide +kernel⟩
theorem scPick : FnScope ["_law_hand_here", "_law_some"] ["_law_hand_here", "_law_some"] (defScope sPick) := ⟨rfl, rfl, rfl, by decide +kernel, rfl, by decide +kernel, by decide +kernel⟩
theorem scSigns : FnScope [] [] (defScope sSigns) := ⟨rfl, rfl, rfl, by decide +kernel, rfl, by decide +kernel, by decide +kernel⟩
theorem scText : FnScope ["_law_hand_here", "_law_most", "_law_text_here", "_law_size", "_law_k", "_law_sign"] ["_law_hand_here", "_law_most"] (defScope sText) := ⟨rfl, rfl, rfl, by decide +kernel, rfl, by decide +kernel, by decide +kernel⟩
theorem scTongue : FnScope ["_law_hand_here", "_law_letters", "_law_k"] ["_law_hand_here"] (defScope sTongue) := ⟨rfl, rfl, rfl, by decide +kernel, rfl, by decide +kernel, by decide +kernel⟩
theorem scNames : FnScope ["_law_hand_here", "_law_many", "_law_stem", "_law_at", "_law_signs_here", "_law_found", "_law_tongues", "_law_k", "_law_sign"] ["_law_hand_here", "_law_many"] (defScope sNames) := ⟨rfl, rfl, rfl, by decide +kernel, rfl, by decide +kernel, by decide +kernel⟩
theorem scTree : FnScope ["_law_hand_here", "_law_deep", "_law_left", "_law_name", "_law_parts", "_law_k"] ["_law_hand_here", "_law_deep", "_law_left"] (defScope sTree) := ⟨rfl, rfl, rfl, by decide +kernel, rfl, by decide +kernel, by decide +kernel⟩
theorem scWork : FnScope ["_law_hand_here", "_law_many", "_law_names_here", "_law_left", "_law_work_here"] ["_law_hand_here", "_law_many"] (defScope sWork) := ⟨rfl, rfl, rfl, by decide +kernel, rfl, by decide +kernel, by decide +kernel⟩
theorem scAll : FnScope ["_law_work_here", "_law_found", "_law_part"] ["_law_work_here"] (defScope sAll) := ⟨rfl, rfl, rfl, by decide +kernel, rfl, by decide +kernel, by decide +kernel⟩
theorem scTitles : FnScope ["_law_hand_here", "_law_names_here", "_law_others", "_law_most", "_law_found", "_law_at", "_law_k", "_law_way"] ["_law_hand_here", "_law_names_here", "_law_others", "_law_most"] (defScope sTitles) := ⟨rfl, rfl, rfl, by decide +kernel, rfl, by decide +kernel, by decide +kernel⟩
theorem scBackward : FnScope ["_law_work_here", "_law_part"] ["_law_work_here"] (defScope sBackward) := ⟨rfl, rfl, rfl, by decide +kernel, rfl, by decide +kernel, by decide +kernel⟩
theorem scChoiceRight : FnScope ["_law_work_here", "_law_titles_here", "_law_told", "_law_many", "_law_choice", "_law_lacks", "_law_held", "_law_last", "_law_at", "_law_span"] ["_law_work_here", "_law_titles_here", "_law_told"] (defScope sChoiceRight) := ⟨rfl, rfl, rfl, by decide +kernel, rfl, by decide +kernel, by decide +kernel⟩
theorem scPapersRight : FnScope ["_law_hand_here", "_law_work_here", "_law_titles_here", "_law_many", "_law_told", "_law_turn", "_law_raised", "_law_drawn", "_law_paper", "_law_number", "_law_one"] ["_law_hand_here", "_law_work_here", "_law_titles_here", "_law_many"] (defScope sPapersRight) := ⟨rfl, rfl, rfl, by decide +kernel, rfl, by decide +kernel, by decide +kernel⟩
theorem scRight : FnScope ["_law_hand_here", "_law_work_here", "_law_titles_here", "_law_extra", "_law_told", "_law_many", "_law_at"] ["_law_hand_here", "_law_work_here", "_law_titles_here", "_law_extra"] (defScope sRight) := ⟨rfl, rfl, rfl, by decide +kernel, rfl, by decide +kernel, by decide +kernel⟩
theorem scLaw : FnScope ["_law_script", "_law_k", "_law_hand_here", "_law_work_here", "_law_names_here", "_law_others", "_law_titles_here"] ["_law_script"] (defScope sLaw) := ⟨rfl, rfl, rfl, by decide +kernel, rfl, by decide +kernel, by decide +kernel⟩
/-! ## objects -/
/-- all that was tracked stands but for the hand -/
def But (h : Addr) (H H' : Hp) : Prop := ∀ b o, b ≠ h → H b = some o → H' b = some o
theorem But.refl (h : Addr) (H : Hp) : But h H H := fun _ _ _ e => e
theorem But.trans {h : Addr} {H H1 H2 : Hp} (p : But h H H1) (q : But h H1 H2) : But h H H2 := fun b o n e => q b o n (p b o n e)
theorem Same.but {H H' : Hp} (s : Same H H') (h : Addr) : But h H H' := fun b o _ e => s b o e
theorem But.seqT {K : PySem.W.Frag} {h : Addr} {H H' : Hp} (s : But h H H') {t : Addr} {xs : List V} (n : t ≠ h) (q : SqT K H t xs) : SqT K H' t xs := by
  rcases q with (q | ⟨o, q⟩) | q
  · exact .inl (.inl (s _ _ n q))
  · exact .inl (.inr ⟨o, s _ _ n q⟩)
  · exact .inr q
theorem But.seqL {K : PySem.W.Frag} {h : Addr} {H H' : Hp} (s : But h H H') {t : Addr} {xs : List V} (n : t ≠ h) (q : SqL K H t xs) : SqL K H' t xs := by
  rcases q with (q | ⟨o, q⟩) | q
  · exact .inl (.inl (s _ _ n q))
  · exact .inl (.inr ⟨o, s _ _ n q⟩)
  · exact .inr q
theorem Same.seqT {K : PySem.W.Frag} {H H' : Hp} (s : Same H H') {t : Addr} {xs : List V} (q : SqT K H t xs) : SqT K H' t xs := by
  rcases q with (q | ⟨o, q⟩) | q
  · exact .inl (.inl (s _ _ q))
  · exact .inl (.inr ⟨o, s _ _ q⟩)
  · exact .inr q
theorem same_upd {H : Hp} {p : Addr} {o : HO} (h : H p = none) : Same H (upd H p o) := fun b x e => by
  rw [upd_ne (ne_of_none e h)]
  exact e
theorem but_upd {H : Hp} {p : Addr} {o : HO} : But p H (upd H p o) := fun b x n e => by
  rw [upd_ne n]
  exact e
/-- the hand: what is left of the cell, what it is mixed of, how often it was asked -/
def Hand (n : Int) (H : Hp) (a : Addr) : Prop := ∃ g m c : Int, H a = some (.lst [.int g, .int m, .int c]) ∧ 0 ≤ g ∧ 0 ≤ m ∧ m < 2305843009213693951 ∧ 0 ≤ c ∧ c ≤ n
theorem Hand.mono {n n' : Int} {H : Hp} {a : Addr} (h : Hand n H a) (l : n ≤ n') : Hand n' H a := by
  obtain ⟨g, m, c, e, h1, h2, h3, h4, h5⟩ := h
  exact ⟨g, m, c, e, h1, h2, h3, h4, Int.le_trans h5 l⟩
theorem Hand.same {n : Int} {H H' : Hp} {a : Addr} (h : Hand n H a) (s : Same H H') : Hand n H' a := by
  obtain ⟨g, m, c, e, r⟩ := h
  exact ⟨g, m, c, s _ _ e, r⟩
theorem Hand.at_ {n : Int} {H : Hp} {a : Addr} (h : Hand n H a) : ∃ xs, H a = some (.lst xs) := by
  obtain ⟨g, m, c, e, r⟩ := h
  exact ⟨_, e⟩
theorem Hand.ne_tup {K : PySem.W.Frag} {n : Int} {H : Hp} {a t : Addr} {xs : List V} (h : Hand n H a) (e : H t = some (.tup xs)) : t ≠ a := by
  obtain ⟨ys, e2⟩ := h.at_
  exact ne_of e e2 (by intro z; cases z)
theorem But.free {h l : Addr} {H H' : Hp} (b : But h H H') (ne : l ≠ h) (e : H' l = none) : H l = none := by
  cases q : H l with
  | none => rfl
  | some o =>
    rw [b l o ne q] at e
    cases e
theorem Hand.fresh {n : Int} {H : Hp} {a l : Addr} (h : Hand n H a) (e : H l = none) : l ≠ a := by
  obtain ⟨xs, q⟩ := h.at_
  exact (ne_of_none q e).symm
theorem Hand.upd {n : Int} {H : Hp} {a p : Addr} {x : HO} (h : Hand n H a) (ne : a ≠ p) : Hand n (L2.upd H p x) a := by
  obtain ⟨g, m, c, e, r⟩ := h
  exact ⟨g, m, c, by rw [upd_ne ne]; exact e, r⟩
theorem off_all {h : Addr} {H : Hp} : L2.Same (del H h) H := fun b o e => by
  by_cases z : b = h
  · rw [z, del_same] at e
    cases e
  · rw [del_ne z] at e
    exact e
theorem off_but {h : Addr} {H H' : Hp} (s : But h H H') : L2.Same (del H h) (del H' h) := fun b o e => by
  by_cases z : b = h
  · rw [z, del_same] at e
    cases e
  · rw [del_ne z] at e
    rw [del_ne z]
    exact s b o z e
theorem off_new {h p : Addr} {H : Hp} {o : HO} (ne : p ≠ h) : del (upd H p o) h p = some o := by rw [del_ne ne, upd_same]
theorem off_at {h p : Addr} {H : Hp} {o : HO} (ne : p ≠ h) (e : H p = some o) : del H h p = some o := by rw [del_ne ne, e]
section
variable {X : Cx}
theorem cr_alt {f : Value} {r1 r2 : List V → Hp → VK → Prop} (h1 : CallR X f r1) (h2 : CallR X f r2) : CallR X f (fun xs H Q => r1 xs H Q ∨ r2 xs H Q) :=
  fun pins s σ H xs us Q I r h => h.elim (h1 pins s σ H xs us Q I r) (h2 pins s σ H xs us Q I r)
end
end K82
set_option Elab.async false
set_option linter.all false
set_option maxRecDepth 100000
set_option maxHeartbeats 4000000
set_option pp.maxSteps 400
set_option pp.deepTerms false
namespace K82
open PySem PySem.Spec PyProof.Rows L2
open Xk Az W37
section
variable {P : Program} {w : World} {K : PySem.W.Frag} {mg : Str → Option Value} {base : Heap}
/-- a def that may be called by its name -/
structure Ca (P : Program) (w : World) (K : PySem.W.Frag) (mg : Str → Option Value) (base : Heap) (k : Nat) (x : Str) (ps : List Str) (sp : Sp) : Prop where
  ex : ∃ (f : Addr) (fd : FuncData), FnOk P w K mg base CX0 k f fd ps sp ∧ mg x = some (.ref f) ∧ PySem.W.keepIn K (.ref f) = true ∧ Binds K fd ps []
/-- a def of the text, as the head finds it -/
structure Df (K : PySem.W.Frag) (mg : Str → Option Value) (x : Str) (ps : List Str) (st : Stmt) (f : Addr) (fd : FuncData) : Prop where
  fn : Fun K x x st f fd
  mgf : mg x = some (.ref f)
  bd : Binds K fd ps []
theorem Df.ca {k : Nat} {x : Str} {ps : List Str} {st : Stmt} {f : Addr} {fd : FuncData} {sp : Sp} (d : Df K mg x ps st f fd)
    (h : FnOk P w K mg base CX0 k f fd ps sp) : Ca P w K mg base k x ps sp := ⟨f, fd, h, d.mgf, d.fn.kp, d.bd⟩
section
variable {X : Cx} {k j : Nat} {x : Str} {ps : List Str} {sp : Sp} {p pos : Pos} {e : Expr} {es : List Expr} {t : TA}
theorem pe_ca (c : Ca X.prog X.w X.K X.mg X.base k x ps sp) (hr : Room j X.A) (hk : k ≤ j) (hg : Gl X x) (ha : PA X (e :: es) t) (hdb : (x == ("__debug__" : Str)) = false := by decide)
    (he : starEach (e :: es) X.env = (false, eval e X.env) :: starEach es X.env := by rfl) (hpl : (backTo pos (starEach es X.env)).any (·.1) = false := by rfl) :
    PE X (.Call (.Name x p) (e :: es) [] pos) (tCall sp [] E0 t) := by
  obtain ⟨f, fd, F, hm, kp, b⟩ := c.ex
  exact pe_call F (hr.mono hk) hg hm kp b .nil pass0 ha hdb he hpl
end
def small : Str := "abcdefghijklmnopqrstuvwxyz"
def signs : Str := "abcdefghijklmnopqrstuvwxyzABCDEFGHIJKLMNOPQRSTUVWXYZ0123456789 '-."
/-- what the top has left, besides the defs -/
structure Txt (mg : Str → Option Value) : Prop where
  isi : mg "isinstance" = none
  int : mg "int" = none
  bool : mg "bool" = none
  str : mg "str" = none
  tuple : mg "tuple" = none
  list : mg "list" = none
  len : mg "len" = none
  range : mg "range" = none
  max : mg "max" = none
  min : mg "min" = none
  abs : mg "abs" = none
  all : mg "all" = none
  any : mg "any" = none
  sorted : mg "sorted" = none
  set : mg "set" = none
  enumerate : mg "enumerate" = none
  reversed : mg "reversed" = none
abbrev far : Int := 1000000
def spHand (K : PySem.W.Frag) : Sp := fun vs H Q _ => ∃ (a : Addr) (k : Int) (ns : List Int), vs = [.ref a, .int k] ∧ 0 ≤ k ∧ SqL K H a (ns.map V.int) ∧
  ∀ p g m, H p = none → 0 ≤ g → 0 ≤ m → m < 2305843009213693951 → Q (.ref p) (upd H p (.lst [.int g, .int m, .int 0]))
def spTake : Sp := fun vs H Q _ => ∃ (h : Addr) (many n : Int), vs = [.ref h, .int many] ∧ 0 < many ∧ many < 10 ^ 30 ∧ Hand n H h ∧ n ≤ far ∧
  ∀ d H', 0 ≤ d → d < many → Hand (n + 1) H' h → But h H H' → Q (.int d) H'
def spPick : Sp := fun vs H Q _ => ∃ (h : Addr) (n : Int) (s : V), vs = [.ref h, s] ∧ Hand n H h ∧ n ≤ far ∧
  ((∃ (l : Addr) (xs : List V), s = .ref l ∧ H l = some (.lst xs) ∧ l ≠ h ∧ xs ≠ [] ∧ xs.length < 1000 ∧ ∀ v H', v ∈ xs → Hand (n + 1) H' h → But h H H' → Q v H') ∨
   (∃ x : Str, s = .str x ∧ 0 < x.length ∧ x.length < 1000 ∧ ∀ c H', c ∈ x.cps.toList → Hand (n + 1) H' h → But h H H' → Q (.str ⟨#[c]⟩) H'))
theorem wide30 {g many : Int} (m1 : 0 < many) (m2 : many < 10 ^ 30) : CDivW g many := by
  have h : (10 : Int) ^ 30 < 2 ^ 110 := by decide
  exact wide_div (b := 110) m1 (by omega) (by decide) (by decide)
theorem lt30 {n : Nat} (h : n < 1000) : (n : Int) < 10 ^ 30 := Int.lt_trans (Int.ofNat_lt.mpr h) (by decide)
theorem ok_hand {f : Addr} {fd : FuncData} (D : Df K mg "_law_hand" ["_law_script", "_law_k"] sHand f fd) (T : Txt mg) : FnOk P w K mg base CX0 1 f fd ["_law_script", "_law_k"] (spHand K) := by
  refine D.fn.ok scHand (fun vs H Q E h => ?_) (fun cdv A outer s H vs Q E hr h => ?_)
  · obtain ⟨a, k, ns, rfl, hk, hS, q⟩ := h
    rfl
  · obtain ⟨a, k, ns, rfl, hk, hS, q⟩ := h
    refine ⟨_, (C8.pss_cut (ps_set (i := 2) scHand.nd rfl (.inl rfl) (pe_ifExp (pt_cmpR op_lt (pv 1) (pe_callB call_len_seq (by rfl) T.len PySem.boot_len (pa_cons (pv 0) pa_nil)) (nomark _)) (pe_callB call_abs (by rfl) T.abs (by decide +kernel) (pa_cons (pe_ix ix_list (pv 0) (pv 1) (fun _ _ => rfl)) pa_nil)) pe_int))
      (C8.pss_cut (ps_set (i := 3) scHand.nd rfl (.inl rfl) (pe_ifExp (pt_cmpR op_ge (pv 2) (pe_op op_pow pe_int pe_int) (nomark _)) (pe_op op_mod (pv 2) (pe_op op_mulW (pe_op op_mulW (pe_op op_pow pe_int pe_int) (pe_op op_pow pe_int pe_int)) (pe_op op_pow pe_int pe_int))) pe_int))
      (pss_one (ps_ret (pe_lst (pa_cons (pv 3) (pa_cons (pe_op op_mod (pe_op op_add (pe_op op_add (pe_op op_mul (pe_op op_mod (pv 2) pe_int) pe_int) (pe_op op_mul pe_int (pv 1))) pe_int) pe_int) (pa_cons pe_int pa_nil)))))))), ?_⟩
    refine ⟨fun σ Hx => Hx = H ∧ ∃ c : Int, σ = [some (.ref a), some (.int k), some (.int c), none] ∧ 0 ≤ c, ?_, ?_⟩
    · refine ⟨_, rfl, _, rfl, a, _, rfl, .inl hS, k, _, rfl, rfl, _, rfl, ?_⟩
      refine ite2 (fun e => ?_) (fun e => ?_)
      · have hlt : k < ((ns.map V.int).length : Int) := of_decide_eq_true e
        rw [List.length_map] at hlt
        obtain ⟨j, rfl⟩ : ∃ j : Nat, k = (j : Int) := ⟨k.toNat, by omega⟩
        have hj : j < ns.length := by omega
        have hat : atI (ns.map V.int) ((j : Nat) : Int) = some (.int ns[j]) := atI_nat (by rw [List.getElem?_map, List.getElem?_eq_getElem hj]; rfl)
        exact ⟨_, rfl, _, rfl, a, _, _, _, rfl, rfl, hS, hat, _, rfl, rfl, _, rfl, by split <;> omega⟩
      · exact ⟨rfl, _, rfl, Int.le_refl _⟩
    rintro σ Hx ⟨rfl, c, rfl, c0⟩
    refine ⟨fun σ Hy => Hy = Hx ∧ ∃ g : Int, σ = [some (.ref a), some (.int k), some (.int c), some (.int g)] ∧ 0 ≤ g, ?_, ?_⟩
    · refine ⟨_, rfl, 10, 18, rfl, rfl, ⟨by decide, by decide, by decide⟩, c, _, rfl, rfl, _, rfl, ?_⟩
      refine ite2 (fun e => ?_) (fun e => ?_)
      · refine ⟨_, rfl, 10, 60, rfl, rfl, ⟨by decide, by decide, by decide⟩, 10, 60, rfl, rfl, ⟨by decide, by decide, by decide⟩, _, _, rfl, rfl, ?_, 10, 60, rfl, rfl, ⟨by decide, by decide, by decide⟩, _, _, rfl, rfl, ?_, c, _, rfl, rfl, ?_, ?_⟩
        · exact wide_mul (a := 300) (b := 300) (by decide +kernel) (by decide +kernel) (by decide) (by decide) (by decide)
        · exact wide_mul (a := 600) (b := 300) (by decide +kernel) (by decide +kernel) (by decide) (by decide) (by decide)
        · show (0 : Int) < 10 ^ (60 : Int).toNat * 10 ^ (60 : Int).toNat * 10 ^ (60 : Int).toNat
          decide +kernel
        · exact ⟨rfl, _, rfl, Int.emod_nonneg _ (by decide +kernel)⟩
      · exact ⟨rfl, _, rfl, Int.le_refl _⟩
    rintro σ Hy ⟨rfl, g, rfl, g0⟩
    refine ⟨_, rfl, _, rfl, c, 2305843009213693951, rfl, rfl, (by show (0 : Int) < 2305843009213693951; decide), _, 1000003, rfl, rfl, .inr (by decide), _, rfl, 7919, k, rfl, rfl, .inl (by decide), _, _, rfl, rfl, _, 11, rfl, rfl, _, 2305843009213693921, rfl, rfl, (by show (0 : Int) < 2305843009213693921; decide), (by show 3 ≤ sizeLine; decide), fun p np => ?_⟩
    exact q p _ _ np g0 (Int.emod_nonneg _ (by decide)) (Int.lt_trans (Int.emod_lt_of_pos _ (by decide)) (by decide))
theorem ok_take {f : Addr} {fd : FuncData} (D : Df K mg "_law_take" ["_law_hand_here", "_law_many"] sTake f fd)  : FnOk P w K mg base CX0 1 f fd ["_law_hand_here", "_law_many"] spTake := by
  refine D.fn.ok scTake (fun vs H Q E h => ?_) (fun cdv A outer s H vs Q E hr h => ?_)
  · obtain ⟨h, many, n, rfl, m1, m2, ⟨g, m, c, hh, g0, k0, k1, c0, c1⟩, hn, q⟩ := h
    rfl
  · obtain ⟨h, many, n, rfl, m1, m2, ⟨g, m, c, hh, g0, k0, k1, c0, c1⟩, hn, q⟩ := h
    refine ⟨_, (pss_cons (ps_if (pt_cmpR op_gt (pe_ix ix_list (pv 0) pe_int (fun _ _ => rfl)) pe_int (nomark _)) (pss_cons (ps_set (i := 2) scTake.nd rfl (.inl rfl) (pe_op op_mod (pe_ix ix_list (pv 0) pe_int (fun _ _ => rfl)) (pv 1)))
      (pss_cons (ps_asg (pe_op op_fdivW (pe_ix ix_list (pv 0) pe_int (fun _ _ => rfl)) (pv 1)) (pg_sub (pv 0) pe_int set_list))
      (pss_one (ps_ret (pv 2))))) pss_nil)
      (pss_cons (ps_set (i := 3) scTake.nd rfl (.inl rfl) (pe_op op_add (pe_ix ix_list (pv 0) pe_int (fun _ _ => rfl)) pe_int))
      (pss_cons (ps_asg (pv 3) (pg_sub (pv 0) pe_int set_list))
      (pss_cons (ps_set (i := 4) scTake.nd rfl (.inl rfl) (pe_op op_add (pe_ix ix_list (pv 0) pe_int (fun _ _ => rfl)) (pe_op op_mul pe_int (pv 3))))
      (pss_cons (ps_set (i := 5) scTake.nd rfl (.inl rfl) (pe_op op_add (pe_op op_add (pe_op op_mod (pe_ix ix_list (pv 0) pe_int (fun _ _ => rfl)) pe_int) (pe_op op_mul pe_int (pv 3))) pe_int))
      (pss_cons (ps_set (i := 6) scTake.nd rfl (.inl rfl) (pe_op op_mod (pe_op op_mul (pv 4) (pv 5)) pe_int))
      (pss_cons (ps_set (i := 7) scTake.nd rfl (.inl rfl) (pe_op op_add (pe_op op_add (pe_op op_mod (pv 6) pe_int) (pe_op op_mul pe_int (pv 3))) pe_int))
      (pss_one (ps_ret (pe_op op_mod (pe_op op_fdiv (pe_op op_mod (pe_op op_mul (pe_op op_add (pv 6) pe_int) (pv 7)) pe_int) pe_int) (pv 1))))))))))), ?_⟩
    have far' : n ≤ 1000000 := hn
    refine ⟨_, rfl, h, _, 0, _, rfl, rfl, SqL.of hh, atI_nat (j := 0) rfl, g, 0, rfl, rfl, _, rfl, ite2 (fun e => ?_) (fun e => ?_)⟩
    · refine ⟨_, rfl, h, _, 0, _, rfl, rfl, SqL.of hh, atI_nat (j := 0) rfl, _, rfl, g, many, rfl, rfl, m1, ?_⟩
      refine ⟨_, rfl, h, _, 0, _, rfl, rfl, SqL.of hh, atI_nat (j := 0) rfl, _, rfl, g, many, rfl, rfl, wide30 m1 m2, _, rfl, h, _, 0, 0, rfl, rfl, hh, rfl, ?_⟩
      refine ⟨_, rfl, ?_⟩
      exact q _ _ (Int.emod_nonneg _ (by omega)) (Int.emod_lt_of_pos _ m1) ⟨g / many, m, c, upd_same, Int.ediv_nonneg g0 (by omega), k0, k1, c0, by omega⟩ but_upd
    · refine ⟨_, rfl, h, _, 2, _, rfl, rfl, SqL.of hh, atI_nat (j := 2) rfl, c, 1, rfl, rfl, _, rfl, _, rfl, h, _, 2, 2, rfl, rfl, hh, rfl, ?_⟩
      have h2 : (upd H h (.lst [.int g, .int m, .int (c + 1)])) h = some (.lst [.int g, .int m, .int (c + 1)]) := upd_same
      have s2 := SqL.of (K := K) h2
      refine ⟨_, rfl, h, _, 1, _, rfl, rfl, s2, atI_nat (j := 1) rfl, _, rfl, 104729, c + 1, rfl, rfl, .inl (by decide), m, _, rfl, rfl, ?_⟩
      refine ⟨_, rfl, h, _, 1, _, rfl, rfl, s2, atI_nat (j := 1) rfl, m, 7919, rfl, rfl, (by show (0 : Int) < 7919; decide), _, rfl, 15485863, c + 1, rfl, rfl, .inl (by decide), _, _, rfl, rfl, _, 17, rfl, rfl, ?_⟩
      have e64 : (2 : Int) ^ 64 = 18446744073709551616 := by decide
      refine ⟨_, rfl, _, rfl, _, _, rfl, rfl, .inl (by rw [e64]; omega), _, 2305843009213693951, rfl, rfl, (by show (0 : Int) < 2305843009213693951; decide), ?_⟩
      generalize (m + 104729 * (c + 1)) * (m % 7919 + 15485863 * (c + 1) + 17) = z
      have z0 : 0 ≤ z % 2305843009213693951 := Int.emod_nonneg _ (by decide)
      have z1 : z % 2305843009213693951 < 2305843009213693951 := Int.emod_lt_of_pos _ (by decide)
      refine ⟨_, rfl, _, 1000003, rfl, rfl, (by show (0 : Int) < 1000003; decide), _, rfl, 6700417, c + 1, rfl, rfl, .inl (by decide), _, _, rfl, rfl, _, 5, rfl, rfl, ?_⟩
      refine ⟨_, rfl, _, 13, rfl, rfl, _, rfl, _, _, rfl, rfl, .inl (by rw [e64]; omega), _, 2305843009213693907, rfl, rfl, (by show (0 : Int) < 2305843009213693907; decide), _, 64, rfl, rfl, ⟨by decide, by decide⟩, _, rfl, _, many, rfl, rfl, m1, ?_⟩
      exact q _ _ (Int.emod_nonneg _ (by omega)) (Int.emod_lt_of_pos _ m1) ⟨g, m, c + 1, h2, g0, k0, k1, by omega, by omega⟩ but_upd
theorem ok_pick {f : Addr} {fd : FuncData} (D : Df K mg "_law_pick" ["_law_hand_here", "_law_some"] sPick f fd) (T : Txt mg) (cT : Ca P w K mg base 1 "_law_take" ["_law_hand_here", "_law_many"] spTake) : FnOk P w K mg base CX0 2 f fd ["_law_hand_here", "_law_some"] spPick := by
  refine D.fn.ok scPick (fun vs H Q E h => ?_) (fun cdv A outer s H vs Q E hr h => ?_)
  · obtain ⟨h, n, s, rfl, hh, hn, q⟩ := h
    rfl
  · obtain ⟨h, n, s, rfl, hh, hn, q⟩ := h
    refine ⟨_, (pss_one (ps_ret (pe_ix ix_seq (pv 1) (pe_ca cT hr (by decide) (by rfl) (pa_cons (pv 0) (pa_cons (pe_callB (cr_alt call_len_seq call_len_str) (by rfl) T.len PySem.boot_len (pa_cons (pv 1) pa_nil)) pa_nil))) (fun _ _ => rfl)))), ?_⟩
    refine ⟨_, rfl, _, rfl, _, rfl, ?_⟩
    rcases q with ⟨l, xs, rfl, hl, nl, ne, few, q⟩ | ⟨x, rfl, pos, few, q⟩
    · have pos : 0 < xs.length := List.length_pos_iff.mpr ne
      refine .inl ⟨l, xs, rfl, .inl (SqL.of hl), h, (xs.length : Int), n, rfl, by omega, lt30 few, hh, hn, fun d H' d0 d1 hh' bt => ?_⟩
      obtain ⟨j, rfl⟩ : ∃ j : Nat, d = (j : Int) := ⟨d.toNat, by omega⟩
      have hj : j < xs.length := by omega
      refine .inl ⟨l, xs, _, xs[j], rfl, rfl, SqL.of (bt _ _ nl hl), atI_nat (List.getElem?_eq_getElem hj), ?_⟩
      exact q _ H' (List.getElem_mem hj) hh' bt
    · have sz : x.length ≤ sizeLine := Nat.le_trans (show x.length ≤ 1000 by omega) (by decide)
      refine .inr ⟨x, rfl, sz, h, (x.length : Int), n, rfl, by omega, lt30 few, hh, hn, fun d H' d0 d1 hh' bt => ?_⟩
      obtain ⟨j, rfl⟩ : ∃ j : Nat, d = (j : Int) := ⟨d.toNat, by omega⟩
      have hj : j < x.cps.toList.length := by
        have : x.length = x.cps.toList.length := by rw [Array.length_toList]; rfl
        omega
      refine .inr (.inr ⟨x, _, x.cps.toList[j], rfl, rfl, sz, atI_nat (List.getElem?_eq_getElem hj), ?_⟩)
      exact q _ H' (List.getElem_mem hj) hh' bt
end
end K82
set_option Elab.async false
set_option linter.all false
set_option maxRecDepth 100000
set_option maxHeartbeats 4000000
set_option pp.maxSteps 400
set_option pp.deepTerms false
namespace K82
open PySem PySem.Spec PyProof.Rows L2
open Xk Az W37
section
variable {P : Program} {w : World} {K : PySem.W.Frag} {mg : Str → Option Value} {base : Heap}
def lawSigns : Str := "abcdefghijklmnopqrstuvwxyzABCDEFGHIJKLMNOPQRSTUVWXYZ0123456789'-."
theorem lawSigns7 : ∀ c ∈ lawSigns.cps.toList, c < 128 := by decide +kernel
theorem small7 : ∀ c ∈ small.cps.toList, c < 128 := by decide +kernel
/-- signs that are few -/
def As (x : Str) : Prop := ∀ c ∈ x.cps.toList, c < 128
theorem As.app {x y : Str} (h1 : As x) (h2 : As y) : As (x ++ y) := fun c hc => by
  rw [Str.cps_append, Array.toList_append, List.mem_append] at hc
  exact hc.elim (h1 c) (h2 c)
theorem as0 : As "" := fun c hc => by
  have e : (("" : Str)).cps.toList = [] := rfl
  rw [e] at hc
  cases hc
theorem as1 {c : Nat} (h : c < 128) : As ⟨#[c]⟩ := fun d hd => by
  have : d = c := by simpa using hd
  rw [this]; exact h
theorem lt30i {i : Int} (h : i < 1000000) : i < 10 ^ 30 := Int.lt_trans h (by decide)
def spSigns : Sp := fun vs H Q _ => vs = [] ∧ Q (.str lawSigns) H
section
variable {X : Cx} {k j : Nat} {x : Str} {ps : List Str} {sp : Sp} {p pos : Pos}
theorem pe_ca0 (c : Ca X.prog X.w X.K X.mg X.base k x ps sp) (hr : Room j X.A) (hk : k ≤ j) (hg : Gl X x) (hdb : (x == ("__debug__" : Str)) = false := by decide) :
    PE X (.Call (.Name x p) [] [] pos) (tCall sp [] E0 tNil) := by
  obtain ⟨f, fd, F, hm, kp, b⟩ := c.ex
  exact pe_call0 F (hr.mono hk) hg hm kp b .nil pass0 hdb
end
def spText : Sp := fun vs H Q _ => ∃ (h : Addr) (n most : Int), vs = [.ref h, .int most] ∧ 1 ≤ most ∧ most ≤ 40 ∧ Hand n H h ∧ n + 200 ≤ far ∧
  ∀ (x : Str) H', 1 ≤ (x.length : Int) → (x.length : Int) ≤ most → As x → Hand (n + 100) H' h → But h H H' → Q (.str x) H'
def spTongue : Sp := fun vs H Q _ => ∃ (h : Addr) (n : Int), vs = [.ref h] ∧ Hand n H h ∧ n + 100 ≤ far ∧
  ∀ (x : Str) H', x.length ≤ 3 → As x → Hand (n + 10) H' h → But h H H' → Q (.str x) H'
theorem len_cps (x : Str) : x.length = x.cps.toList.length := by
  rw [Array.length_toList]
  rfl
theorem at_last {l : List Nat} (h : l ≠ []) : atI l (-1) = l.getLast? := by
  have p : 0 < l.length := List.length_pos_iff.mpr h
  unfold atI ixN
  rw [if_neg (by omega), if_pos (by omega)]
  rw [List.getLast?_eq_getElem?]
  simp only [Option.bind_some]
  congr 1
  omega
theorem ok_signs {f : Addr} {fd : FuncData} (D : Df K mg "_law_signs" [] sSigns f fd)  : FnOk P w K mg base CX0 1 f fd [] spSigns := by
  refine D.fn.ok scSigns (fun vs H Q E h => ?_) (fun cdv A outer s H vs Q E hr h => ?_)
  · obtain ⟨rfl, q⟩ := h
    rfl
  · obtain ⟨rfl, q⟩ := h
    refine ⟨_, (pss_one (ps_ret pe_str)), ?_⟩
    exact q
theorem ok_text {f : Addr} {fd : FuncData} (D : Df K mg "_law_text" ["_law_hand_here", "_law_most"] sText f fd) (T : Txt mg) (cT : Ca P w K mg base 1 "_law_take" ["_law_hand_here", "_law_many"] spTake) (cP : Ca P w K mg base 2 "_law_pick" ["_law_hand_here", "_law_some"] spPick) (cS : Ca P w K mg base 1 "_law_signs" [] spSigns) : FnOk P w K mg base CX0 3 f fd ["_law_hand_here", "_law_most"] spText := by
  refine D.fn.ok scText (fun vs H Q E h => ?_) (fun cdv A outer s H vs Q E hr h => ?_)
  · obtain ⟨h, n, most, rfl, m0, m1, hd, hn, q⟩ := h
    rfl
  · obtain ⟨h, n, most, rfl, m0, m1, hd, hn, q⟩ := h
    refine ⟨_, (pss_cons (ps_par (i := 2) (j := 3) (by rfl) scText.nd rfl rfl (by decide) rfl rfl (pa_cons pe_str (pa_cons (pe_op op_add pe_int (pe_ca cT hr (by decide) (by rfl) (pa_cons (pv 0) (pa_cons (pv 1) pa_nil)))) pa_nil)) (by rfl))
      (pss_cons (ps_for PassesOwn.never rfl (pi_range1 (by rfl) T.range (pa_cons (pv 3) pa_nil)) (pg_name (i := 4) scText.nd rfl (.inl rfl)) (pss_cons (ps_set (i := 5) scText.nd rfl (.inl rfl) (pe_ca cP hr (by decide) (by rfl) (pa_cons (pv 0) (pa_cons (pe_ca0 cS hr (by decide) (by rfl)) pa_nil))))
      (C8.pss_cut (ps_if (PW.pt (pw_and (pt_chain op_lt op_lt pe_int (pv 4) (pe_op op_sub (pv 3) pe_int)) (pw_and (pt_cmpR op_ne (pe_ix ix_str (pv 2) (pe_un un_neg pe_int) (fun _ _ => rfl)) pe_str (nomark _)) (pw_and1 (pt_cmpR op_eq (pe_ca cT hr (by decide) (by rfl) (pa_cons (pv 0) (pa_cons pe_int pa_nil))) pe_int (nomark _)))))) (pss_one (ps_set (i := 5) scText.nd rfl (.inl rfl) pe_str)) pss_nil)
      (pss_one (ps_set (i := 2) scText.nd rfl (.inl rfl) (pe_op op_add_str (pv 2) (pv 5)))))))
      (pss_one (ps_ret (pv 2))))), ?_⟩
    have fr : n + 200 ≤ 1000000 := hn
    have l65 : lawSigns.length = 65 := by decide +kernel
    refine ⟨_, rfl, _, rfl, h, most, n, rfl, by omega, lt30i (by omega), hd, by show n ≤ 1000000; omega, fun d H1 d0 d1 h1 b1 => ?_⟩
    refine ⟨_, _, rfl, rfl, _, _, rfl, ?_⟩
    refine ⟨_, rfl, 1 + d, rfl, by omega, by omega, for_range (lo := 0) (n := (1 + d).toNat) (fun k σ Hi => ∃ (x : Str) (c4 c5 : Option V), σ = [some (.ref h), some (.int most), some (.str x), some (.int (1 + d)), c4, c5] ∧ x.length = k ∧ As x ∧ Hand (n + 1 + 2 * k) Hi h ∧ But h H Hi) ?_ ?_ ?_⟩
    · exact ⟨"", none, none, rfl, rfl, as0, h1.mono (by omega), b1⟩
    · rintro k σ Hi hk ⟨x, c4, c5, rfl, lx, ax, hdi, bi⟩
      have km : (k : Int) < 1 + d := by omega
      have kb : n + 1 + 2 * (k : Int) + 2 ≤ 1000000 := by omega
      refine ⟨_, rfl, rfl, h, n + 1 + 2 * k, _, rfl, hdi, by show n + 1 + 2 * (k : Int) ≤ 1000000; omega, .inr ⟨lawSigns, rfl, by rw [l65]; decide, by rw [l65]; decide, fun c H2 mc h2 b2 => ?_⟩⟩
      have sx : x.length ≤ 100 := by omega
      have fit : x.length + 1 ≤ sizeLine := Nat.le_trans (show x.length + 1 ≤ 200 by omega) (by decide)
      have nx : ∀ (c' : Nat) (Hx : Hp), c' < 128 → But h H Hx → Hand (n + 1 + 2 * ((k + 1 : Nat) : Int)) Hx h → ∀ c4 c5 : Option V, ∃ (x' : Str) (c4' c5' : Option V), [some (V.ref h), some (.int most), some (.str (x ++ ⟨#[c']⟩)), some (.int (1 + d)), c4, c5] = [some (V.ref h), some (.int most), some (.str x'), some (.int (1 + d)), c4', c5'] ∧ x'.length = k + 1 ∧ As x' ∧ Hand (n + 1 + 2 * ((k + 1 : Nat) : Int)) Hx h ∧ But h H Hx := fun c' Hx m1 bx hx c4 c5 => by
        refine ⟨x ++ ⟨#[c']⟩, c4, c5, rfl, ?_, ax.app (as1 m1), hx, bx⟩
        rw [strLen_append, lx]; rfl
      have mc' : c < 128 := lawSigns7 c mc
      have h2' := h2.mono (n' := n + 1 + 2 * (k : Int) + 1) (by omega)
      have b2' := bi.trans b2
      refine ⟨fun σ Hx => ∃ c' : Nat, σ = [some (V.ref h), some (.int most), some (.str x), some (.int (1 + d)), some (.int (0 + (k : Int))), some (.str ⟨#[c']⟩)] ∧ c' < 128 ∧ Hand (n + 1 + 2 * ((k + 1 : Nat) : Int)) Hx h ∧ But h H Hx, ?_, ?_⟩
      · refine ⟨_, rfl, _, _, rfl, rfl, _, rfl, ite2 (fun e1 => ?_) (fun e1 => ?_)⟩
        · refine ⟨_, rfl, _, 1, rfl, rfl, _, _, rfl, rfl, _, rfl, ite2 (fun e2 => ?_) (fun e2 => ?_)⟩
          · have k0 : (0 : Int) < 0 + (k : Int) := of_decide_eq_true e1
            have xn : x.cps.toList ≠ [] := fun z => by
              have : x.length = 0 := by rw [len_cps, z]; rfl
              omega
            obtain ⟨dd, ed⟩ : ∃ d, x.cps.toList.getLast? = some d := by
              cases z : x.cps.toList.getLast? with
              | none => exact absurd (List.getLast?_eq_none_iff.mp z) xn
              | some d => exact ⟨d, rfl⟩
            refine ⟨_, rfl, 1, rfl, x, -1, dd, rfl, rfl, Nat.le_trans (Nat.le_succ _) fit, (at_last xn).trans ed, rfl, _, rfl, ite2 (fun e3 => ?_) (fun e3 => ?_)⟩
            · refine ⟨_, rfl, h, 6, n + 1 + 2 * k + 1, rfl, by decide, by decide, h2', by show n + 1 + 2 * (k : Int) + 1 ≤ 1000000; omega, fun d3 H3 e0 e1 h3 b3 => ⟨rfl, _, rfl, ite2 (fun e4 => ?_) (fun e4 => ?_)⟩⟩
              · exact ⟨32, rfl, by decide, h3.mono (by omega), b2'.trans b3⟩
              · exact ⟨c, rfl, mc', h3.mono (by omega), b2'.trans b3⟩
            · exact ⟨c, rfl, mc', h2'.mono (by omega), b2'⟩
          · exact ⟨c, rfl, mc', h2'.mono (by omega), b2'⟩
        · exact ⟨_, rfl, iteF ⟨c, rfl, mc', h2'.mono (by omega), b2'⟩⟩
      · rintro σ Hx ⟨c', rfl, m1, hx, bx⟩
        exact ⟨_, rfl, _, rfl, x, ⟨#[c']⟩, rfl, rfl, fit, nx c' Hx m1 bx hx _ _⟩
    rintro σ He ⟨x, c4, c5, rfl, lx, ax, hde, be⟩
    have lx' : (x.length : Int) = 1 + d := by
      have : x.length = (1 + d).toNat := lx
      omega
    refine ⟨_, rfl, q x He (by omega) (by omega) ax (hde.mono ?_) be⟩
    show n + 1 + 2 * (((1 + d).toNat : Nat) : Int) ≤ n + 100
    omega
end
end K82
set_option Elab.async false
set_option linter.all false
set_option maxRecDepth 100000
set_option maxHeartbeats 4000000
set_option pp.maxSteps 400
set_option pp.deepTerms false
namespace K82
open PySem PySem.Spec PyProof.Rows L2
open Xk Az W37
section
variable {P : Program} {w : World} {K : PySem.W.Frag} {mg : Str → Option Value} {base : Heap}
theorem join_cps' : ∀ ys : List Str, (Str.join "" ys).cps.toList = (ys.map fun y => y.cps.toList).flatten
  | [] => rfl
  | [x] => by simp [Str.join]
  | x :: z :: r => by
    show (x ++ "" ++ Str.join "" (z :: r)).cps.toList = _
    rw [Str.cps_append, Array.toList_append, Str.cps_append, Array.toList_append, join_cps' (z :: r)]
    have e0 : (("" : Str)).cps.toList = [] := rfl
    rw [e0, List.append_nil]
    rfl
theorem join_cps (ys : List Str) : (Txt.join "" ys).cps.toList = (ys.map fun y => y.cps.toList).flatten := by
  rw [TL.join_eq]
  exact join_cps' ys
theorem join_len (ys : List Str) : (Txt.join "" ys).length = (ys.map (·.length)).sum := by
  rw [len_cps, join_cps, List.length_flatten, List.map_map]
  congr 1
theorem ones_sum : ∀ ys : List Str, (∀ y ∈ ys, y.length = 1) → (ys.map (·.length)).sum = ys.length
  | [], _ => rfl
  | y :: r, h => by
    rw [List.map_cons, List.sum_cons, h y List.mem_cons_self, ones_sum r (fun z hz => h z (List.mem_cons_of_mem _ hz)), List.length_cons]
    omega
section
variable {X : Cx}
theorem vals_map {α : Type} (g : α → V) (R : α → Value → Prop) (hR : ∀ a v, R a v → RelV (g a) v) : ∀ (as : List α) (us : List Value), as.length = us.length → (∀ (i : Nat) (a : α) (u : Value), as[i]? = some a → us[i]? = some u → R a u) → Vals (as.map g) us
  | [], [], _, _ => .nil
  | a :: as, u :: us, hl, h => .cons (hR a u (h 0 a u rfl rfl)) (vals_map g R hR as us (by simpa using hl) fun i b v e1 e2 => h (i + 1) b v (by simpa using e1) (by simpa using e2))
  | [], _ :: _, hl, _ => by simp at hl
  | _ :: _, [], hl, _ => by simp at hl
def sg1 (c : Nat) : V := .str ⟨#[c]⟩
theorem cr_listS (hc : X.calm = true) : CallR X (.type "list") (fun xs H Q => ∃ x : Str, xs = [.str x] ∧ x.length ≤ sizeLine ∧ ∀ l, H l = none → Q (.ref l) (upd H l (.lst (x.cps.toList.map sg1)))) := by
  intro pins s σ H xs us Q I r h
  obtain ⟨x, rfl, hz, q⟩ := h
  obtain ⟨u, rfl, rx⟩ := vals1 r
  obtain ⟨t, rfl⟩ := rx
  refine call_list_str (I.ok.hd hc) x t (fun h' tk acc c kp e it => ?_) hz
  have v : Vals (x.cps.toList.map sg1) acc.toList := by
    refine vals_map sg1 (fun c u => ∃ t, u = Value.str ⟨#[c]⟩ t) (fun a v ⟨t, e⟩ => ⟨t, e⟩) _ _ (by rw [Array.length_toList, Array.length_toList, it.1]) fun i a u e1 e2 => ?_
    obtain ⟨c', t', q1, q2⟩ := it.2 i u (by rw [← Array.getElem?_toList]; exact e2)
    rw [← Array.getElem?_toList, e1] at q1
    exact ⟨t', by rw [Option.some.inj q1]; exact q2⟩
  have hl : (x.cps.toList.map sg1).length ≤ sizeLine := by rw [List.length_map, Array.length_toList]; exact hz
  exact ⟨.ref s.heap.objs.size, _, I.laid (t' := tk) kp (Nat.le_refl _) (show ObjOk X.prog X.w _ h' _ (.lst (x.cps.toList.map sg1)) from ⟨hl, acc.toList, c, v, by simpa using e⟩), rfl, q _ (I.hok.fresh (Nat.le_refl _))⟩
end
theorem ins_cps {st : Str} {k c : Nat} (h : k ≤ st.cps.toList.length) : (cutS st none (some (k : Int)) ++ ⟨#[c]⟩ ++ cutS st (some (k : Int)) none).cps.toList = st.cps.toList.take k ++ c :: st.cps.toList.drop k := by
  rw [len_cps st |>.symm] at h
  rw [Str.cps_append, Array.toList_append, Str.cps_append, Array.toList_append]
  have e1 : HT.sIx st.length 0 (some (k : Int)) = k := by rw [HT.sIx_nat]; omega
  have e2 : HT.sIx st.length st.length (some (k : Int)) = k := by rw [HT.sIx_nat]; omega
  have e3 : HT.sIx st.length 0 none = 0 := rfl
  have e4 : HT.sIx st.length st.length none = st.length := rfl
  unfold cutS
  rw [e1, e2, e3, e4]
  simp only [List.drop_zero, Nat.sub_zero, List.append_assoc, List.singleton_append]
  congr 2
  rw [List.take_of_length_le (by rw [List.length_drop, ← len_cps]; omega)]
theorem ins_len {st : Str} {k c : Nat} (h : k ≤ st.cps.toList.length) : (cutS st none (some (k : Int))).length + (cutS st (some (k : Int)) none).length ≤ st.length ∧ (cutS st none (some (k : Int))).length ≤ st.length ∧ (cutS st none (some (k : Int)) ++ ⟨#[c]⟩ ++ cutS st (some (k : Int)) none).length = st.length + 1 := by
  have e := congrArg List.length (ins_cps (c := c) h)
  have l1 : (cutS st none (some (k : Int)) ++ ⟨#[c]⟩ ++ cutS st (some (k : Int)) none).length = st.length + 1 := by
    rw [len_cps, e, List.length_append, List.length_cons, List.length_take, List.length_drop, len_cps st]
    omega
  rw [strLen_append, strLen_append] at l1
  have o1 : (⟨#[c]⟩ : Str).length = 1 := rfl
  rw [strLen_append, strLen_append]
  omega
theorem erase_map {α β : Type} (f : α → β) : ∀ (l : List α) (j : Nat), (l.map f).eraseIdx j = (l.eraseIdx j).map f
  | [], _ => rfl
  | _ :: _, 0 => rfl
  | a :: r, j + 1 => by
    show f a :: (r.map f).eraseIdx j = f a :: (r.eraseIdx j).map f
    rw [erase_map f r j]
theorem perm_erase {α : Type} : ∀ (l : List α) (j : Nat) (h : j < l.length), l.Perm (l[j] :: l.eraseIdx j)
  | a :: r, 0, _ => List.Perm.refl _
  | a :: r, j + 1, h => by
    have hj : j < r.length := by simpa using h
    have ih := perm_erase r j hj
    show (a :: r).Perm (r[j] :: a :: r.eraseIdx j)
    exact (List.Perm.cons a ih).trans (List.Perm.swap _ _ _)
def insT (st : Str) (k c : Nat) : Str := cutS st none (some (k : Int)) ++ ⟨#[c]⟩ ++ cutS st (some (k : Int)) none
theorem insT_inj {st : Str} {k c d : Nat} (h : k ≤ st.cps.toList.length) (e : insT st k c = insT st k d) : c = d := by
  have q := congrArg (fun x : Str => x.cps.toList) e
  simp only [insT] at q
  rw [ins_cps h, ins_cps h] at q
  have := List.append_cancel_left q
  injection this
theorem insT_as {st : Str} {k c : Nat} (h : k ≤ st.cps.toList.length) (a : As st) (hc : c < 128) : As (insT st k c) := fun d hd => by
  unfold insT at hd
  rw [ins_cps h] at hd
  rcases List.mem_append.mp hd with z | z
  · exact a d (List.mem_of_mem_take z)
  · rcases List.mem_cons.mp z with z | z
    · rw [z]; exact hc
    · exact a d (List.mem_of_mem_drop z)
/-- a name whose texts are short -/
def Gn' (m : Nm) : Prop := m.1.length ≤ 3 ∧ As m.1 ∧ m.2.length ≤ 41 ∧ As m.2
def spNames : Sp := fun vs H Q _ => ∃ (h : Addr) (n many : Int), vs = [.ref h, .int many] ∧ 0 ≤ many ∧ many ≤ 60 ∧ Hand n H h ∧ n + 2000 ≤ far ∧
  ∀ (L : Addr) (xs : List V) (ns : List Nm) H', H' L = some (.lst xs) → L ≠ h → H L = none → NmL H' xs ns → (ns.length : Int) = many → (ns.map (·.2)).Nodup → (∀ m ∈ ns, Gn' m) → Hand (n + 400) H' h → But h H H' → Q (.ref L) H'
theorem ok_tongue {f : Addr} {fd : FuncData} (D : Df K mg "_law_tongue" ["_law_hand_here"] sTongue f fd) (T : Txt mg) (cT : Ca P w K mg base 1 "_law_take" ["_law_hand_here", "_law_many"] spTake) (cP : Ca P w K mg base 2 "_law_pick" ["_law_hand_here", "_law_some"] spPick) : FnOk P w K mg base CX0 3 f fd ["_law_hand_here"] spTongue := by
  refine D.fn.ok scTongue (fun vs H Q E h => ?_) (fun cdv A outer s H vs Q E hr h => ?_)
  · obtain ⟨h, n, rfl, hd, hn, q⟩ := h
    rfl
  · obtain ⟨h, n, rfl, hd, hn, q⟩ := h
    refine ⟨_, (pss_cons (ps_set (i := 1) scTongue.nd rfl (.inr rfl) pe_str)
      (pss_one (ps_ret (pe_m1 F.slot_str_join F.type_str_join mt_join pe_str (pe_lc (own := [("_law_k", 2)]) (g := gName 2) (tt := tYes) (by rfl) scTongue.nd (pi_range1 (by rfl) T.range (pa_cons (pe_op op_add pe_int (pe_ca cT hr (by decide) (by rfl) (pa_cons (pv 0) (pa_cons pe_int pa_nil)))) pa_nil)) (blkOk_by (own := [("_law_k", 2)]) (N := ["_law_hand_here", "_law_letters", "_law_k"]) (sc := defScope sTongue) (by decide +kernel)) (fun _ _ _ _ _ => pg_name (i := 2) scTongue.nd rfl (.inl rfl)) (fun _ _ _ _ _ => pts_nil) (fun _ _ _ _ _ => pe_ca cP hr (by decide) (by rfl) (pa_cons (pv 0) (pa_cons (pv 1) pa_nil)))))))), ?_⟩
    have fr : n + 100 ≤ 1000000 := hn
    have lf : small.length = 26 := by decide +kernel
    refine ⟨⟨_, rfl⟩, ?_⟩
    refine ⟨_, rfl, h, 2, n, rfl, by decide, by decide, hd, by show n ≤ 1000000; omega, fun d H1 d0 d1 h1 b1 => ?_⟩
    refine ⟨2, d, rfl, rfl, _, rfl, by omega, by omega, fun L nL => ?_⟩
    have s1 := same_upd nL (o := .lst [])
    have Lh := h1.fresh nL
    refine lc_range (lo := 0) (fun i Hi => ∃ ys : List Str, Hi L = some (.lst (ys.map V.str)) ∧ ys.length = i ∧ (∀ y ∈ ys, ∃ c ∈ small.cps.toList, y = ⟨#[c]⟩) ∧ Hand (n + 1 + i) Hi h ∧ But h H1 Hi) ?_ ?_ ?_
    · exact ⟨[], upd_same, rfl, by simp, (h1.same s1).mono (by omega), Same.but s1 h⟩
    · rintro i Hi hi ⟨ys, eL, ly, cy, hdi, bi⟩
      have hi' : i < (2 + d).toNat := hi
      refine ⟨rfl, ?_⟩
      unfold tYes
      refine iteT ?_
      refine ⟨_, rfl, _, rfl, h, n + 1 + i, _, rfl, hdi, by show n + 1 + (i : Int) ≤ 1000000; omega, .inr ⟨small, rfl, by rw [lf]; decide, by rw [lf]; decide, fun c H2 mc h2 b2 => ?_⟩⟩
      refine ⟨_, b2 _ _ Lh eL, ?_, ys ++ [⟨#[c]⟩], ?_, by rw [List.length_append, ly]; rfl, ?_, ?_, ?_⟩
      · rw [List.length_map, ly]
        exact Nat.lt_of_le_of_lt (show i ≤ 100 by omega) (by decide)
      · rw [upd_same, List.map_append]
        rfl
      · intro y hy
        rcases List.mem_append.mp hy with z | z
        · exact cy y z
        · exact ⟨c, mc, List.mem_singleton.mp z⟩
      · exact (h2.upd (Ne.symm Lh)).mono (by omega)
      · intro b x nb e
        rw [upd_ne (ne_of_none e nL)]
        exact b2 b x nb (bi b x nb e)
    · rintro He ⟨ys, eL, ly, cy, hde, be⟩
      have le : (ys.map (·.length)).sum = ys.length := ones_sum ys (fun y hy => by obtain ⟨c, _, e⟩ := cy y hy; rw [e]; rfl)
      have ly' : (ys.length : Int) = 2 + d := by
        have : ys.length = (2 + d).toNat := ly
        omega
      refine ⟨_, L, ys, rfl, rfl, .inl (SqL.of eL), ?_, ?_⟩
      · rw [le]
        have e0 : (("" : Str)).length = 0 := rfl
        rw [e0]
        omega
      · have jl : (Txt.join "" ys).length = ys.length := by rw [join_len, le]
        refine q _ _ (by rw [jl]; omega) ?_ (hde.mono ?_) (b1.trans be)
        · intro c hc
          rw [join_cps] at hc
          obtain ⟨l, ml, hcl⟩ := List.mem_flatten.mp hc
          obtain ⟨y, my, rfl⟩ := List.mem_map.mp ml
          obtain ⟨c', mc', e⟩ := cy y my
          rw [e] at hcl
          have : c = c' := by simpa using hcl
          rw [this]
          exact small7 _ mc'
        · show n + 1 + (((2 + d).toNat : Nat) : Int) ≤ n + 10
          omega
theorem ok_names {f : Addr} {fd : FuncData} (D : Df K mg "_law_names" ["_law_hand_here", "_law_many"] sNames f fd) (T : Txt mg) (cT : Ca P w K mg base 1 "_law_take" ["_law_hand_here", "_law_many"] spTake) (cP : Ca P w K mg base 2 "_law_pick" ["_law_hand_here", "_law_some"] spPick) (cS : Ca P w K mg base 1 "_law_signs" [] spSigns) (cX : Ca P w K mg base 3 "_law_text" ["_law_hand_here", "_law_most"] spText) (cG : Ca P w K mg base 3 "_law_tongue" ["_law_hand_here"] spTongue) : FnOk P w K mg base CX0 4 f fd ["_law_hand_here", "_law_many"] spNames := by
  refine D.fn.ok scNames (fun vs H Q E h => ?_) (fun cdv A outer s H vs Q E hr h => ?_)
  · obtain ⟨h, n, many, rfl, m0, m60, hd, hn, q⟩ := h
    rfl
  · obtain ⟨h, n, many, rfl, m0, m60, hd, hn, q⟩ := h
    refine ⟨_, (pss_cons (ps_set (i := 2) scNames.nd rfl (.inl rfl) (pe_ca cX hr (by decide) (by rfl) (pa_cons (pv 0) (pa_cons (pe_ix ix_list (pe_lst (pa_cons pe_int (pa_cons pe_int pa_nil))) (pe_callTy call_int1 (by rfl) T.int (by decide +kernel) (pa_cons (pe_cmpR op_eq (pe_ca cT hr (by decide) (by rfl) (pa_cons (pv 0) (pa_cons pe_int pa_nil))) pe_int (nomark _)) pa_nil)) (fun _ _ => rfl)) pa_nil))))
      (pss_cons (ps_par3 (i := 3) (j := 4) (l := 5) (by rfl) scNames.nd rfl rfl rfl (by decide) (by decide) (by decide) rfl rfl rfl (pa_cons (pe_ca cT hr (by decide) (by rfl) (pa_cons (pv 0) (pa_cons (pe_op op_add (pe_callB call_len_str (by rfl) T.len PySem.boot_len (pa_cons (pv 2) pa_nil)) pe_int) pa_nil))) (pa_cons (pe_callTy (cr_listS (by rfl)) (by rfl) T.list (by decide +kernel) (pa_cons (pe_ca0 cS hr (by decide) (by rfl)) pa_nil)) (pa_cons (pe_lst pa_nil) pa_nil))) (by rfl))
      (pss_cons (ps_set (i := 6) scNames.nd rfl (.inl rfl) (pe_lst (pa_cons (pe_ca cG hr (by decide) (by rfl) (pa_cons (pv 0) pa_nil)) (pa_cons (pe_ca cG hr (by decide) (by rfl) (pa_cons (pv 0) pa_nil)) pa_nil))))
      (pss_cons (ps_for PassesOwn.never rfl (pi_range1 (by rfl) T.range (pa_cons (pv 1) pa_nil)) (pg_name (i := 7) scNames.nd rfl (.inl rfl)) (pss_cons (ps_set (i := 8) scNames.nd rfl (.inl rfl) (pe_bm PySem.F.plainAttrs_list PySem.F.slot_list_pop PySem.F.type_list_pop mt_popAt (pv 4) (pa_cons (pe_ca cT hr (by decide) (by rfl) (pa_cons (pv 0) (pa_cons (pe_callB call_len_seq (by rfl) T.len PySem.boot_len (pa_cons (pv 4) pa_nil)) pa_nil))) pa_nil)))
      (pss_one (ps_expr (pe_bm PySem.F.plainAttrs_list PySem.F.slot_list_append PySem.F.type_list_append mt_append (pv 5) (pa_cons (pe_tup (pa_cons (pe_ca cP hr (by decide) (by rfl) (pa_cons (pv 0) (pa_cons (pv 6) pa_nil))) (pa_cons (pe_op op_add_str (pe_op op_add_str (pe_slice sl_str (pv 2) po_none (po_some (pv 3))) (pv 8)) (pe_slice sl_str (pv 2) (po_some (pv 3)) po_none)) pa_nil))) pa_nil))))))
      (pss_one (ps_ret (pv 5))))))), ?_⟩
    have fr : n + 2000 ≤ 1000000 := hn
    have l65 : lawSigns.length = 65 := by decide +kernel
    -- stem
    refine ⟨_, rfl, (by show 2 ≤ sizeLine; decide), fun l1 nl1 => ?_⟩
    have s1 := same_upd nl1 (o := .lst [.int 12, .int 39])
    have e1 : (upd H l1 (.lst [.int 12, .int 39])) l1 = some (.lst [.int 12, .int 39]) := upd_same
    generalize upd H l1 (.lst [.int 12, .int 39]) = H1 at s1 e1 ⊢
    have l1h := hd.fresh nl1
    refine ⟨_, rfl, h, 8, n, rfl, by decide, by decide, hd.same s1, by show n ≤ 1000000; omega, fun d H2 d0 d1 h2 b2 => ?_⟩
    have pk : ∀ b : Bool, ∃ m : Int, atI [V.int 12, .int 39] (if b = true then 1 else 0) = some (.int m) ∧ 1 ≤ m ∧ m ≤ 40 := fun b => by
      cases b
      · exact ⟨12, rfl, by decide, by decide⟩
      · exact ⟨39, rfl, by decide, by decide⟩
    obtain ⟨m, em, m0, m1⟩ := pk (decide (V.int d = V.int 7))
    refine ⟨rfl, .inr ⟨_, rfl, l1, _, _, _, rfl, rfl, SqL.of (b2 _ _ l1h e1), em, ?_⟩⟩
    refine ⟨h, n + 1, m, rfl, m0, m1, h2, by show n + 1 + 200 ≤ 1000000; omega, fun st H3 st0 st1 as h3 b3 => ?_⟩
    have bb : But h H H3 := (Same.but s1 h).trans (b2.trans b3)
    clear b2 b3 s1 e1 h2
    have lsz : st.length ≤ sizeLine := Nat.le_trans (show st.length ≤ 100 by omega) (by decide)
    -- at, signs, found
    refine ⟨_, rfl, _, rfl, st, rfl, lsz, _, 1, rfl, rfl, h, (st.length : Int) + 1, n + 101, rfl, by omega, lt30i (by omega), h3.mono (by omega), by show n + 101 ≤ 1000000; omega, fun at' H4 a0 a1 h4 b4 => ?_⟩
    obtain ⟨k0, rfl⟩ : ∃ k0 : Nat, at' = (k0 : Int) := ⟨at'.toNat, by omega⟩
    refine ⟨rfl, lawSigns, rfl, by rw [l65]; decide, fun S nS => ?_⟩
    have sS := same_upd nS (o := .lst (lawSigns.cps.toList.map sg1))
    have eS : (upd H4 S (.lst (lawSigns.cps.toList.map sg1))) S = some (.lst (lawSigns.cps.toList.map sg1)) := upd_same
    have Sh := h4.fresh nS
    generalize upd H4 S (.lst (lawSigns.cps.toList.map sg1)) = H5 at sS eS ⊢
    refine ⟨(by show 0 ≤ sizeLine; decide), fun F nF => ?_⟩
    have sF := same_upd nF (o := .lst [])
    have eF : (upd H5 F (.lst [])) F = some (.lst []) := upd_same
    have Fh := (h4.same sS).fresh nF
    have SF : S ≠ F := ne_of_none eS nF
    generalize upd H5 F (.lst []) = H6 at sF eF ⊢
    refine ⟨_, _, _, rfl, ?_⟩
    have HF : H F = none := bb.free Fh (b4.free Fh (by
      cases z : H4 F with
      | none => rfl
      | some o => have := sS _ _ z; rw [nF] at this; cases this))
    have HS : H S = none := bb.free Sh (b4.free Sh nS)
    have b7 : But h H H6 := bb.trans (b4.trans (Same.but (sS.trans sF) h))
    have h7 := (h4.same sS).same sF
    have eS7 := sF _ _ eS
    have eF7 := eF
    clear h4 h3 b4 bb sS sF
    -- tongues
    refine ⟨_, rfl, h, n + 102, rfl, h7.mono (by omega), by show n + 102 + 100 ≤ 1000000; omega, fun t1 H8 lt1 at1 h8 b8 => ?_⟩
    refine ⟨_, rfl, h, n + 112, rfl, h8.mono (by omega), by show n + 112 + 100 ≤ 1000000; omega, fun t2 H9 lt2 at2 h9 b9 => ?_⟩
    refine ⟨(by show 2 ≤ sizeLine; decide), fun T' nT => ?_⟩
    have sT := same_upd nT (o := .lst [.str t1, .str t2])
    have eT : (upd H9 T' (.lst [.str t1, .str t2])) T' = some (.lst [.str t1, .str t2]) := upd_same
    have Th := h9.fresh nT
    have eS9 := b9 _ _ Sh (b8 _ _ Sh eS7)
    have eF9 := b9 _ _ Fh (b8 _ _ Fh eF7)
    have ST : S ≠ T' := ne_of_none eS9 nT
    have FT : F ≠ T' := ne_of_none eF9 nT
    generalize upd H9 T' (.lst [.str t1, .str t2]) = HA at sT eT ⊢
    have bA : But h H HA := b7.trans (b8.trans (b9.trans (Same.but sT h)))
    have hA := h9.same sT
    have eSA := sT _ _ eS9
    have eFA := sT _ _ eF9
    clear sT b9 b8 b7 h9 h8 h7 eS9 eF9 eS7 eF7
    have kst : k0 ≤ st.cps.toList.length := by rw [← len_cps]; omega
    refine ⟨_, rfl, many, rfl, by omega, by omega, for_range (lo := 0) (n := many.toNat) (fun k σ Hi => ∃ (sg cs : List Nat) (xs : List V) (ns : List Nm) (c7 c8 : Option V), σ = [some (.ref h), some (.int many), some (.str st), some (.int (k0 : Int)), some (.ref S), some (.ref F), some (.ref T'), c7, c8] ∧
      Hi S = some (.lst (sg.map sg1)) ∧ sg.length + k = 65 ∧ (cs ++ sg).Nodup ∧ (∀ c ∈ sg, c < 128) ∧ Hi T' = some (.lst [.str t1, .str t2]) ∧ Hi F = some (.lst xs) ∧ NmL Hi xs ns ∧ ns.map (·.2) = cs.map (insT st k0) ∧ ns.length = k ∧ (∀ m ∈ ns, Gn' m) ∧ Hand (n + 122 + 3 * k) Hi h ∧ But h H Hi) ?_ ?_ ?_⟩
    · exact ⟨_, [], [], [], none, none, rfl, eSA, (by decide +kernel), (by decide +kernel), lawSigns7, eT, eFA, .nil, rfl, rfl, by simp, hA.mono (by omega), bA⟩
    · rintro k σ Hi hk ⟨sg, cs, xs, ns, c7, c8, rfl, eSi, lsg, nd, csg, eTi, eFi, nml, esn, lns, gns, hdi, bi⟩
      have hk' : k < many.toNat := hk
      have nkb : n + 122 + 3 * (k : Int) + 10 ≤ 1000000 := by omega
      have sgl : 0 < sg.length := by omega
      refine ⟨_, rfl, .inl ⟨rfl, _, SqL.of eSi⟩, _, rfl, _, rfl, S, _, rfl, .inl (SqL.of eSi), h, ((sg.map sg1).length : Int), n + 122 + 3 * k, rfl, by rw [List.length_map]; omega, by rw [List.length_map]; exact lt30i (by omega), hdi, by show n + 122 + 3 * (k : Int) ≤ 1000000; omega, fun j Hb j0 j1 hb bb => ?_⟩
      rw [List.length_map] at j1
      obtain ⟨jn, rfl⟩ : ∃ jn : Nat, j = (jn : Int) := ⟨j.toNat, by omega⟩
      have jl : jn < sg.length := by omega
      have eSb := bb _ _ Sh eSi
      refine ⟨S, _, (jn : Int), jn, sg1 sg[jn], rfl, rfl, eSb, by omega, by omega, by rw [List.length_map, seqIndex_of (by omega) (by omega)]; rfl, by rw [List.getElem?_map, List.getElem?_eq_getElem jl]; rfl, ?_⟩
      have er : (sg.map sg1).eraseIdx jn = (sg.eraseIdx jn).map sg1 := erase_map sg1 sg jn
      rw [er]
      have mj := csg _ (List.getElem_mem jl)
      have nd' : (cs ++ sg[jn] :: sg.eraseIdx jn).Nodup := (List.Perm.nodup_iff (List.Perm.append_left _ (perm_erase sg jn jl))).mp nd
      generalize sg[jn] = cj at mj nd' ⊢
      have eSc : (upd Hb S (.lst ((sg.eraseIdx jn).map sg1))) S = some (.lst ((sg.eraseIdx jn).map sg1)) := upd_same
      have eTc : (upd Hb S (.lst ((sg.eraseIdx jn).map sg1))) T' = some (.lst [.str t1, .str t2]) := by rw [upd_ne (Ne.symm ST)]; exact bb _ _ Th eTi
      have eFc : (upd Hb S (.lst ((sg.eraseIdx jn).map sg1))) F = some (.lst xs) := by rw [upd_ne (Ne.symm SF)]; exact bb _ _ Fh eFi
      have hc := hb.upd (Ne.symm Sh) (x := .lst ((sg.eraseIdx jn).map sg1))
      have tpb : ∀ {Hx Hy : Hp} {m : Int}, Hand m Hx h → But h Hx Hy → Tp Hx Hy := fun {Hx Hy m} hx b c ys e => b c _ (hx.ne_tup (K := K) e) e
      have pc : Tp Hi (upd Hb S (.lst ((sg.eraseIdx jn).map sg1))) := (tpb hdi bb).trans (tp_upd (fun ys z => by rw [eSb] at z; cases z))
      have bc : But h H (upd Hb S (.lst ((sg.eraseIdx jn).map sg1))) := fun b x nb e => by
        rw [upd_ne (ne_of_none e HS)]
        exact bb b x nb (bi b x nb e)
      have lsg' : (sg.eraseIdx jn).length + (k + 1) = 65 := by
        rw [List.length_eraseIdx_of_lt jl]
        omega
      have csg' : ∀ c ∈ sg.eraseIdx jn, c < 128 := fun c hc => csg c (List.mem_of_mem_eraseIdx hc)
      generalize upd Hb S (.lst ((sg.eraseIdx jn).map sg1)) = Hc at eSc eTc eFc hc pc bc ⊢
      generalize sg.eraseIdx jn = sg' at eSc lsg' csg' nd' ⊢
      clear eSb hb bb er j0 j1
      have tne : [V.str t1, V.str t2] ≠ [] := by simp
      refine ⟨_, rfl, .inl ⟨rfl, _, SqL.of eFc⟩, _, rfl, _, rfl, h, n + 122 + 3 * k + 1, _, rfl, hc, by show n + 122 + 3 * (k : Int) + 1 ≤ 1000000; omega, .inl ⟨T', _, rfl, eTc, Th, tne, by show 2 < 1000; decide, fun v1 Ha mv1 ha ba => ?_⟩⟩
      obtain ⟨tt, rfl, ltt, att⟩ : ∃ tt : Str, v1 = .str tt ∧ tt.length ≤ 3 ∧ As tt := by
        simp only [List.mem_cons, List.not_mem_nil, or_false] at mv1
        rcases mv1 with e | e
        · exact ⟨t1, e, lt1, at1⟩
        · exact ⟨t2, e, lt2, at2⟩
      have il := ins_len (c := cj) kst
      have z1 : (⟨#[cj]⟩ : Str).length = 1 := rfl
      have fit1 : (cutS st none (some (k0 : Int))).length + (⟨#[cj]⟩ : Str).length ≤ sizeLine := by rw [z1]; exact Nat.le_trans (show _ ≤ 100 by omega) (by decide)
      have fit2 : (cutS st none (some (k0 : Int)) ++ ⟨#[cj]⟩).length + (cutS st (some (k0 : Int)) none).length ≤ sizeLine := by rw [strLen_append, z1]; exact Nat.le_trans (show _ ≤ 100 by omega) (by decide)
      refine ⟨_, rfl, _, rfl, (k0 : Int), rfl, st, rfl, lsz, _, rfl, _, _, rfl, rfl, fit1, _, rfl, _, rfl, (k0 : Int), rfl, st, rfl, lsz, _, _, rfl, rfl, fit2, (by show 2 ≤ sizeLine; decide), fun t nt => ?_⟩
      have st2 := same_upd nt (o := .tup [.str tt, .str (insT st k0 cj)])
      have et : (upd Ha t (.tup [.str tt, .str (insT st k0 cj)])) t = some (.tup [.str tt, .str (insT st k0 cj)]) := upd_same
      have eFa := st2 _ _ (ba _ _ Fh eFc)
      have eSa := st2 _ _ (ba _ _ Sh eSc)
      have eTa := st2 _ _ (ba _ _ Th eTc)
      have ha' := ha.same st2
      have ba' : But h H (upd Ha t (.tup [.str tt, .str (insT st k0 cj)])) := bc.trans (ba.trans (Same.but st2 h))
      have pa : Tp Hi (upd Ha t (.tup [.str tt, .str (insT st k0 cj)])) := pc.trans ((tpb hc ba).trans (tp_same st2))
      refine ⟨F, _, _, rfl, rfl, eFa, ?_, ?_⟩
      · rw [nml.len, lns]
        exact Nat.lt_of_le_of_lt (show k ≤ 100 by omega) (by decide)
      have TF : T' ≠ F := Ne.symm FT
      refine ⟨sg', cs ++ [cj], _, ns ++ [(tt, insT st k0 cj)], _, _, rfl, by rw [upd_ne SF]; exact eSa, lsg', by rw [List.append_assoc]; exact nd', csg', by rw [upd_ne TF]; exact eTa, upd_same, ?_, by rw [List.map_append, List.map_append, esn]; rfl, by rw [List.length_append, lns]; rfl, fun m hm => ?_, (ha'.upd (Ne.symm Fh)).mono (by omega), fun b x nb e => ?_⟩
      · have pf : Tp (upd Ha t (.tup [.str tt, .str (insT st k0 cj)])) (upd (upd Ha t (.tup [.str tt, .str (insT st k0 cj)])) F (.lst (xs ++ [.ref t]))) := tp_upd (fun ys z => by rw [eFa] at z; cases z)
        exact (nml.tp (pa.trans pf)).snoc ⟨t, rfl, pf _ _ et⟩
      · rcases List.mem_append.mp hm with z | z
        · exact gns m z
        · rw [List.mem_singleton.mp z]
          refine ⟨ltt, att, ?_, insT_as kst as mj⟩
          show (insT st k0 cj).length ≤ 41
          have := il.2.2
          unfold insT
          omega
      · rw [upd_ne (ne_of_none e HF)]
        exact ba' b x nb e
    rintro σ He ⟨sg, cs, xs, ns, c7, c8, rfl, eS, lsg, nd, csg, eT', eF, nml, esn, lns, gns, hde, be⟩
    have lns' : (ns.length : Int) = many := by
      have : ns.length = many.toNat := lns
      omega
    refine ⟨_, rfl, q F xs ns He eF Fh HF nml lns' ?_ gns (hde.mono ?_) be⟩
    · rw [esn]
      exact List.pairwise_map.mpr ((List.nodup_append.mp nd).1.imp fun ne e => ne (insT_inj kst e))
    · show n + 122 + 3 * ((many.toNat : Nat) : Int) ≤ n + 400
      omega
end
end K82
set_option Elab.async false
set_option linter.all false
set_option maxRecDepth 100000
set_option maxHeartbeats 4000000
set_option pp.maxSteps 400
set_option pp.deepTerms false
namespace K82
open PySem PySem.Spec PyProof.Rows L2
open Xk Az W37
section
variable {P : Program} {w : World} {K : PySem.W.Frag} {mg : Str → Option Value} {base : Heap}
/-- all stands but the hand and a list -/
def B2 (h L : Addr) (H H' : Hp) : Prop := ∀ b o, b ≠ h → b ≠ L → H b = some o → H' b = some o
theorem ne_of_none' {H : Hp} {a b : Addr} {o : HO} (h : H a = some o) (h' : H b = none) : b ≠ a := Ne.symm (ne_of_none h h')
theorem drop_take_app {α : Type} (a b : Nat) (l : List α) (h : a ≤ b) : (l.take b).drop a ++ l.drop b = l.drop a := by
  have e := List.take_append_drop b l
  conv => rhs; rw [← e]
  by_cases hb : b ≤ l.length
  · rw [List.drop_append_of_le_length (by rw [List.length_take]; omega)]
  · rw [List.drop_of_length_le (l := l) (i := b) (by omega), List.append_nil, List.append_nil]
def spTree : Nat → Sp
  | 0 => fun _ _ _ _ => False
  | k + 1 => fun vs H Q _ => ∃ (h : Addr) (n : Int) (L : Addr) (xs : List V) (ns : List Nm), vs = [.ref h, .int ((k + 1 : Nat) : Int), .ref L] ∧ H L = some (.lst xs) ∧ L ≠ h ∧ NmL H xs ns ∧ ns ≠ [] ∧ ns.length ≤ 60 ∧ Hand n H h ∧ n + (ns.length : Int) ≤ far ∧
    ∀ v w m H', m < ns.length → H' L = some (.lst (xs.take m)) → Wk H' v w → w.nms = (ns.drop m).reverse → w.dp ≤ k + 1 → Hand (n + (ns.length - m : Nat)) H' h → B2 h L H H' → Q v H'
theorem ok_tree {f : Addr} {fd : FuncData} {k : Nat} (D : Df K mg "_law_tree" ["_law_hand_here", "_law_deep", "_law_left"] sTree f fd) (T : Txt mg) (cP : Ca P w K mg base 2 "_law_pick" ["_law_hand_here", "_law_some"] spPick) (cTr : Ca P w K mg base (k + 3) "_law_tree" ["_law_hand_here", "_law_deep", "_law_left"] (spTree k)) : FnOk P w K mg base CX0 (k + 4) f fd ["_law_hand_here", "_law_deep", "_law_left"] (spTree (k + 1)) := by
  refine D.fn.ok scTree (fun vs H Q E h => ?_) (fun cdv A outer s H vs Q E hr h => ?_)
  · obtain ⟨h, n, L, xs, ns, rfl, eL, nLh, nml, nne, n60, hh, hn, q⟩ := h
    rfl
  · obtain ⟨h, n, L, xs, ns, rfl, eL, nLh, nml, nne, n60, hh, hn, q⟩ := h
    refine ⟨_, (pss_cons (ps_par (i := 3) (j := 4) (by rfl) scTree.nd rfl rfl (by decide) rfl rfl (pa_cons (pe_bm0 PySem.F.plainAttrs_list PySem.F.slot_list_pop PySem.F.type_list_pop mt_pop (pv 2)) (pa_cons (pe_lst pa_nil) pa_nil)) (by rfl))
      (C8.pss_cut (ps_if (pt_cmpR op_gt (pv 1) pe_int (nomark _)) (pss_one (ps_for PassesOwn.never rfl (pi_range1 (by rfl) T.range (pa_cons (pe_ca cP hr (by omega) (by rfl) (pa_cons (pv 0) (pa_cons (pe_lst (pa_cons pe_int (pa_cons pe_int (pa_cons pe_int (pa_cons pe_int (pa_cons pe_int (pa_cons pe_int pa_nil))))))) pa_nil))) pa_nil)) (pg_name (i := 5) scTree.nd rfl (.inl rfl)) (pss_one (ps_if (pt_cmpR (Xt.op_neL0 hr.units) (pv 2) (pe_lst pa_nil) (nomark _)) (pss_one (ps_expr (pe_bm PySem.F.plainAttrs_list PySem.F.slot_list_append PySem.F.type_list_append mt_append (pv 4) (pa_cons (pe_ca cTr hr (by omega) (by rfl) (pa_cons (pv 0) (pa_cons (pe_op op_sub (pv 1) pe_int) (pa_cons (pv 2) pa_nil)))) pa_nil)))) pss_nil)))) pss_nil)
      (pss_one (ps_ret (pe_tup (pa_cons (pv 3) (pa_cons (pe_callTy call_tuple_of (by rfl) T.tuple (by decide +kernel) (pa_cons (pv 4) pa_nil)) pa_nil))))))), ?_⟩
    have fr : n + (ns.length : Int) ≤ 1000000 := hn
    have lx := nml.len
    have npos : 0 < ns.length := List.length_pos_iff.mpr nne
    obtain ⟨m0, em0⟩ : ∃ m0, ns.length = m0 + 1 := ⟨ns.length - 1, by omega⟩
    have hm : m0 < xs.length := by omega
    obtain ⟨nm, enm, nv⟩ := nml.get (List.getElem?_eq_getElem hm)
    have HL0 : ∀ {b : Addr}, H b = none → b ≠ L := fun {b} e z => by rw [z, eL] at e; cases e
    refine ⟨_, rfl, .inl ⟨rfl, _, SqL.of eL⟩, L, xs, xs[m0], rfl, rfl, eL, by rw [show xs.length - 1 = m0 by omega]; exact List.getElem?_eq_getElem hm, ?_⟩
    have edl : xs.dropLast = xs.take m0 := by rw [List.dropLast_eq_take]; congr 1; omega
    rw [edl]
    have eL1 : (upd H L (.lst (xs.take m0))) L = some (.lst (xs.take m0)) := upd_same
    have h1 := hh.upd (Ne.symm nLh) (x := .lst (xs.take m0))
    have b1 : B2 h L H (upd H L (.lst (xs.take m0))) := fun b o _ nb e => by rw [upd_ne nb]; exact e
    generalize upd H L (.lst (xs.take m0)) = H1 at eL1 h1 b1 ⊢
    refine ⟨(by show 0 ≤ sizeLine; decide), fun P' nP => ⟨_, _, rfl, ?_⟩⟩
    have sP := same_upd nP (o := .lst [])
    have eP : (upd H1 P' (.lst [])) P' = some (.lst []) := upd_same
    have PL : P' ≠ L := ne_of_none' eL1 nP
    have Ph := h1.fresh nP
    generalize upd H1 P' (.lst []) = H2 at sP eP ⊢
    have HP : H P' = none := by
      cases z : H P' with
      | none => rfl
      | some o => have := b1 _ _ Ph PL z; rw [nP] at this; cases this
    have b2 : B2 h L H H2 := fun b o e1 e2 e => sP _ _ (b1 b o e1 e2 e)
    have eL2 := sP _ _ eL1
    have h2 := h1.same sP
    have nmv : NmV H xs[m0] nm := nv
    have tpB : ∀ {Hx : Hp}, B2 h L H Hx → Tp H Hx := fun {Hx} b c ys e => b c _ (hh.ne_tup (K := K) e) (fun z => by rw [z, eL] at e; cases e) e
    clear sP b1 h1 eL1 nP
    refine ⟨fun σ Hx => ∃ (ys : List V) (ws : List W) (m : Nat) (c5 : Option V), σ = [some (.ref h), some (.int ((k + 1 : Nat) : Int)), some (.ref L), some xs[m0], some (.ref P'), c5] ∧ Hx P' = some (.lst ys) ∧ WkL Hx ys ws ∧ m ≤ m0 ∧ ys.length ≤ 60 ∧ Hx L = some (.lst (xs.take m)) ∧ nm :: nmsL ws = (ns.drop m).reverse ∧ dpL ws ≤ k ∧ Hand (n + (ns.length - m : Nat)) Hx h ∧ B2 h L H Hx, ?_, ?_⟩
    · have dr0 : (ns.drop m0).reverse = [nm] := by
        have hl : m0 < ns.length := by omega
        rw [List.drop_eq_getElem_cons hl, List.drop_of_length_le (by omega)]
        rw [List.getElem?_eq_getElem hl] at enm
        cases enm
        rfl
      refine ⟨_, rfl, _, 1, rfl, rfl, _, rfl, ite2 (fun e => ?_) (fun e => ?_)⟩
      · have k1 : 1 ≤ k := by
          have : ((k + 1 : Nat) : Int) > 1 := of_decide_eq_true e
          omega
        obtain ⟨j, rfl⟩ : ∃ j, k = j + 1 := ⟨k - 1, by omega⟩
        refine ⟨_, rfl, (by show 6 ≤ sizeLine; decide), fun p np => ?_⟩
        have sp := same_upd np (o := .lst [.int 0, .int 1, .int 2, .int 3, .int 4, .int 2])
        have hp := h2.same sp
        refine ⟨h, n, _, rfl, hp, by show n ≤ 1000000; omega, .inl ⟨p, _, rfl, upd_same, h2.fresh np, by simp, by show 6 < 1000; decide, fun v H3 mv h3 b3 => ?_⟩⟩
        obtain ⟨r, rfl, r0, r1⟩ : ∃ r : Int, v = .int r ∧ 0 ≤ r ∧ r ≤ 4 := by
          simp only [List.mem_cons, List.not_mem_nil, or_false] at mv
          rcases mv with e | e | e | e | e | e <;> exact ⟨_, e, by decide, by decide⟩
        have b3' : B2 h L H H3 := fun b o e1 e2 e => b3 b o e1 (sp _ _ (b2 b o e1 e2 e))
        have eP3 := b3 _ _ Ph (sp _ _ eP)
        have eL3 := b3 _ _ nLh (sp _ _ eL2)
        clear sp hp b3 mv
        refine ⟨r, rfl, by omega, by omega, for_range (lo := 0) (n := r.toNat) (fun i σ Hx => ∃ (ys : List V) (ws : List W) (m : Nat) (c5 : Option V), σ = [some (.ref h), some (.int ((j + 1 + 1 : Nat) : Int)), some (.ref L), some xs[m0], some (.ref P'), c5] ∧ Hx P' = some (.lst ys) ∧ WkL Hx ys ws ∧ m ≤ m0 ∧ ys.length ≤ i ∧ Hx L = some (.lst (xs.take m)) ∧ nm :: nmsL ws = (ns.drop m).reverse ∧ dpL ws ≤ j + 1 ∧ Hand (n + (ns.length - m : Nat)) Hx h ∧ B2 h L H Hx) ?_ ?_ ?_⟩
        · exact ⟨[], [], m0, none, rfl, eP3, .nil, Nat.le_refl _, Nat.le_refl _, eL3, by rw [dr0]; rfl, by simp [dpL], h3.mono (by omega), b3'⟩
        · rintro i σ Hx hi ⟨ys, ws, m, c5, rfl, ePx, wl, mm, ly, eLx, enw, dl, hx, bx⟩
          have i4 : i < r.toNat := hi
          refine ⟨_, rfl, (by show 0 ≤ sizeLine; decide), fun z nz => ?_⟩
          have sz := same_upd nz (o := .lst [])
          refine ⟨L, z, _, rfl, rfl, sz _ _ eLx, upd_same, _, rfl, ?_⟩
          have zL : z ≠ L := ne_of_none' eLx nz
          have zP : z ≠ P' := ne_of_none' ePx nz
          generalize upd Hx z (.lst []) = Hy at sz ⊢
          have bxy : B2 h L H Hy := fun b o e1 e2 e => sz _ _ (bx b o e1 e2 e)
          cases em : (xs.take m).isEmpty
          · refine iteT ?_
            have mpos : 0 < m := by
              rcases Nat.eq_zero_or_pos m with z0 | z0
              · rw [z0] at em; cases em
              · exact z0
            have ltk : (ns.take m).length = m := by rw [List.length_take]; omega
            refine ⟨_, rfl, .inl ⟨rfl, _, SqL.of (sz _ _ ePx)⟩, _, rfl, _, rfl, _, 1, rfl, rfl, _, rfl, ?_⟩
            refine ⟨h, n + (ns.length - m : Nat), L, xs.take m, ns.take m, (by show [V.ref h, V.int (((j + 1 + 1 : Nat) : Int) - 1), .ref L] = [V.ref h, .int ((j + 1 : Nat) : Int), .ref L]; rw [show ((j + 1 + 1 : Nat) : Int) - 1 = ((j + 1 : Nat) : Int) by omega]), sz _ _ eLx, nLh, (nml.take m).tp (tpB bxy), (fun z0 => by rw [z0] at ltk; simp at ltk; omega), by omega, hx.same sz, ?_, fun v w m' Hz hm' eLz wk enm' dw hz bz => ?_⟩
            · show n + ((ns.length - m : Nat) : Int) + ((ns.take m).length : Int) ≤ 1000000
              omega
            · have ePz := bz _ _ Ph PL (sz _ _ ePx)
              have bz' : B2 h L H Hz := fun b o e1 e2 e => bz b o e1 e2 (bxy b o e1 e2 e)
              refine ⟨P', ys, v, rfl, rfl, ePz, Nat.lt_of_le_of_lt (show ys.length ≤ 100 by omega) (by decide), ?_⟩
              have up : Tp Hz (upd Hz P' (.lst (ys ++ [v]))) := tp_upd (fun us z => by rw [ePz] at z; cases z)
              have bP : B2 h L H (upd Hz P' (.lst (ys ++ [v]))) := fun b o e1 e2 e => by
                rw [upd_ne (ne_of_none e HP)]
                exact bz' b o e1 e2 e
              have txz : Tp Hx Hz := fun c us e => bz c _ (hx.ne_tup (K := K) e) (fun z => by rw [z, eLx] at e; cases e) (sz _ _ e)
              rw [ltk] at hm'
              refine ⟨ys ++ [v], ws ++ [w], m', _, rfl, upd_same, (wl.tp (txz.trans up)).snoc (wk.tp up), by omega, ?_, ?_, ?_, dpL_app ws w (j + 1) dl (Nat.le_trans dw (Nat.le_refl _)), (hz.upd (Ne.symm Ph)).mono ?_, bP⟩
              · rw [List.length_append]; exact Nat.add_le_add_right ly 1
              · rw [upd_ne (Ne.symm PL), eLz, List.take_take, Nat.min_eq_left (by omega)]
              · rw [nmsL_app, nmsL, nmsL, List.append_nil, ← List.cons_append, enw, enm', ← List.reverse_append, drop_take_app m' m ns (by omega)]
              · rw [ltk]
                omega
          · refine iteF ⟨ys, ws, m, _, rfl, sz _ _ ePx, wl.tp (tp_same sz), mm, Nat.le_succ_of_le ly, sz _ _ eLx, enw, dl, hx.same sz, bxy⟩
        · rintro σ Hx ⟨ys, ws, m, c5, rfl, r1, r2, r3, r4, r5⟩
          exact ⟨ys, ws, m, c5, rfl, r1, r2, r3, Nat.le_trans r4 (by omega), r5⟩
      · exact ⟨[], [], m0, none, rfl, eP, .nil, Nat.le_refl _, by simp, eL2, by rw [dr0]; rfl, by simp [dpL], h2.mono (by omega), b2⟩
    rintro σ Hx ⟨ys, ws, m, c5, rfl, ePx, wl, mm, ly, eLx, enw, dl, hx, bx⟩
    refine ⟨_, rfl, _, rfl, P', _, rfl, .inl ⟨SqL.of ePx, fun p np => ?_⟩⟩
    have s1 := same_upd np (o := .tup ys)
    have e1 : (upd Hx p (.tup ys)) p = some (.tup ys) := upd_same
    generalize upd Hx p (.tup ys) = Hy at s1 e1 ⊢
    refine ⟨(by show 2 ≤ sizeLine; decide), fun t nt => ?_⟩
    have s2 := same_upd nt (o := .tup [xs[m0], .ref p])
    have e2 : (upd Hy t (.tup [xs[m0], .ref p])) t = some (.tup [xs[m0], .ref p]) := upd_same
    generalize upd Hy t (.tup [xs[m0], .ref p]) = Hz at s2 e2 ⊢
    have tz : Tp Hx Hz := (tp_same s1).trans (tp_same s2)
    refine q _ (.mk nm ws) m Hz (by omega) (s2 _ _ (s1 _ _ eLx)) (.mk e2 (nmv.tp ((tpB bx).trans tz)) (s2 _ _ e1) (wl.tp tz)) ?_ ?_ ((hx.same s1).same s2) (fun b o e1 e2 e => s2 _ _ (s1 _ _ (bx b o e1 e2 e)))
    · rw [W.nms]; exact enw
    · rw [W.dp]; omega
theorem tree_fn {f : Addr} {fd : FuncData} (D : Df K mg "_law_tree" ["_law_hand_here", "_law_deep", "_law_left"] sTree f fd) (T : Txt mg) (cP : Ca P w K mg base 2 "_law_pick" ["_law_hand_here", "_law_some"] spPick) :
    ∀ k, FnOk P w K mg base CX0 (k + 3) f fd ["_law_hand_here", "_law_deep", "_law_left"] (spTree k)
  | 0 => ⟨fun _ _ _ _ h => h.elim, fun _ _ _ _ _ _ _ _ _ _ _ _ _ h => h.elim⟩
  | k + 1 => ok_tree D T cP (D.ca (tree_fn D T cP k))
end
end K82
set_option Elab.async false
set_option linter.all false
set_option maxRecDepth 100000
set_option maxHeartbeats 4000000
set_option pp.maxSteps 400
set_option pp.deepTerms false
namespace K82
open PySem PySem.Spec PyProof.Rows L2
open Xk Az W37
section
variable {P : Program} {w : World} {K : PySem.W.Frag} {mg : Str → Option Value} {base : Heap}
theorem _root_.W37.W.dp_pos : ∀ w : W, 1 ≤ w.dp
  | .mk _ _ => by rw [W.dp]; omega
theorem nmsL_take : ∀ (i : Nat) (ps : List W), (nmsL (ps.take i)).length ≤ (nmsL ps).length
  | 0, ps => by rw [List.take_zero, nmsL]; simp
  | _ + 1, [] => by simp [nmsL]
  | i + 1, w :: r => by
    rw [List.take_succ_cons, nmsL, nmsL, List.length_append, List.length_append]
    have := nmsL_take i r
    omega
theorem nmsL_mem : ∀ {ps : List W} {w : W}, w ∈ ps → w.nms.length ≤ (nmsL ps).length
  | x :: r, w, h => by
    rw [nmsL, List.length_append]
    rcases List.mem_cons.mp h with z | z
    · rw [z]; omega
    · have := nmsL_mem z
      omega
theorem cutV_take (xs : List V) (k : Nat) : cutV xs none (some (k : Int)) = xs.take k := by
  unfold cutV
  have e1 : HT.sIx xs.length 0 none = 0 := rfl
  have e2 : HT.sIx xs.length xs.length (some (k : Int)) = min k xs.length := by rw [HT.sIx_nat]
  rw [e1, e2, List.drop_zero, Nat.sub_zero]
  by_cases h : k ≤ xs.length
  · rw [Nat.min_eq_left h]
  · rw [Nat.min_eq_right (by omega), List.take_of_length_le (Nat.le_refl _), List.take_of_length_le (by omega)]
theorem cutV_drop (xs : List V) (k : Nat) (h : k ≤ xs.length) : cutV xs (some (k : Int)) none = xs.drop k := by
  unfold cutV
  have e1 : HT.sIx xs.length 0 (some (k : Int)) = min k xs.length := by rw [HT.sIx_nat]
  have e2 : HT.sIx xs.length xs.length none = xs.length := rfl
  rw [e1, e2, Nat.min_eq_left h, List.take_of_length_le (by rw [List.length_drop]; omega)]
/-- what is found in another list, each at most once -/
theorem sub_names (ns : List Nm) (k m : Nat) : List.Sublist ((((ns.take k).drop m).reverse ++ ns.drop k).map fun x => x) ((ns.take k).reverse ++ ns.drop k) := by
  rw [List.map_id']
  exact List.Sublist.append_right (List.Sublist.reverse (List.drop_sublist m _)) _
theorem rev_nodup {ns : List Nm} {k : Nat} {ys : List Nm} (h : (ns.map (·.2)).Nodup) (s : List.Sublist ys ((ns.take k).reverse ++ ns.drop k)) : (ys.map (·.2)).Nodup := by
  refine (List.Sublist.map _ s).nodup ?_
  have p : ((ns.take k).reverse ++ ns.drop k).Perm ns := by
    conv => rhs; rw [← List.take_append_drop k ns]
    exact List.Perm.append_right _ (List.reverse_perm _)
  exact (List.Perm.nodup_iff (p.map _)).mpr h
def spAll : Nat → Sp
  | 0 => fun _ _ _ _ => False
  | k + 1 => fun vs H Q _ => ∃ (v : V) (w : W), vs = [v] ∧ Wk H v w ∧ w.dp ≤ k + 1 ∧ w.nms.length ≤ 1000 ∧ ∀ L xs H', H' L = some (.lst xs) → NmL H' xs w.nms → H L = none → L2.Same H H' → Q (.ref L) H'
theorem ok_all {f : Addr} {fd : FuncData} {k : Nat} (D : Df K mg "_law_all" ["_law_work_here"] sAll f fd) (T : Txt mg) (cAl : Ca P w K mg base (k + 1) "_law_all" ["_law_work_here"] (spAll k)) : FnOk P w K mg base CX0 (k + 2) f fd ["_law_work_here"] (spAll (k + 1)) := by
  refine D.fn.ok scAll (fun vs H Q E h => ?_) (fun cdv A outer s H vs Q E hr h => ?_)
  · obtain ⟨v, w, rfl, wk, hd, hl, q⟩ := h
    rfl
  · obtain ⟨v, w, rfl, wk, hd, hl, q⟩ := h
    refine ⟨_, (pss_cons (ps_set (i := 1) scAll.nd rfl (.inl rfl) (pe_lst (pa_cons (pe_ix ix_tup (pv 0) pe_int (fun _ _ => rfl)) pa_nil)))
      (pss_cons (ps_for PassesOwn.never rfl (pi_tup (pe_ix ix_tup (pv 0) pe_int (fun _ _ => rfl))) (pg_name (i := 2) scAll.nd rfl (.inl rfl)) (pss_one (ps_expr (pe_bm PySem.F.plainAttrs_list PySem.F.slot_list_extend PySem.F.type_list_extend mt_extend (pv 1) (pa_cons (pe_ca cAl hr (by omega) (by rfl) (pa_cons (pv 2) pa_nil)) pa_nil)))))
      (pss_one (ps_ret (pv 1))))), ?_⟩
    cases wk with
    | @mk t p v0 nm xs ps e1 nv e2 wl =>
    rw [W.dp] at hd
    rw [W.nms, List.length_cons] at hl
    refine ⟨_, rfl, t, _, 0, v0, rfl, rfl, SqT.of e1, rfl, (by show 1 ≤ sizeLine; decide), fun F nF => ?_⟩
    have sF := same_upd nF (o := .lst [v0])
    have eF : (upd H F (.lst [v0])) F = some (.lst [v0]) := upd_same
    generalize upd H F (.lst [v0]) = H1 at sF eF ⊢
    refine ⟨_, rfl, t, _, 1, .ref p, rfl, rfl, SqT.of (sF _ _ e1), rfl, p, rfl, ⟨_, SqT.of (sF _ _ e2)⟩, for_tup (K := K) (a := p) (xs := xs) (fun i σ Hx => ∃ (ys : List V) (c2 : Option V), σ = [some (.ref t), some (.ref F), c2] ∧ Hx F = some (.lst ys) ∧ NmL Hx ys (nm :: nmsL (ps.take i)) ∧ L2.Same H Hx) ?_ ?_ ?_ ?_⟩
    · exact ⟨[v0], none, rfl, eF, .cons (nv.tp (tp_same sF)) (by rw [List.take_zero, nmsL]; exact .nil), sF⟩
    · rintro i σ Hx _ ⟨ys, c2, rfl, eFx, nml, sx⟩
      exact SqT.of (sx _ _ e2)
    · rintro i x σ Hx hx ⟨ys, c2, rfl, eFx, nml, sx⟩
      obtain ⟨w', ew, wk'⟩ := wl.get hx
      have mw := List.mem_of_getElem? ew
      have dw := dpL_mem mw
      have le := nml.len
      have nle : (nm :: nmsL (ps.take i)).length ≤ 1001 := by
        have := nmsL_take i ps
        rw [List.length_cons]; omega
      have nlw := nmsL_mem mw
      have dpos := W.dp_pos w'
      obtain ⟨j, rfl⟩ : ∃ j, k = j + 1 := ⟨k - 1, by omega⟩
      refine ⟨_, rfl, .inl ⟨rfl, _, SqL.of eFx⟩, _, rfl, x, w', rfl, wk'.tp (tp_same sx), by omega, by omega, fun L2' xs2 Hy eL2 nm2 nL2 sy => ?_⟩
      have eFy := sy _ _ eFx
      refine ⟨F, L2', ys, xs2, rfl, rfl, eFy, eL2, ?_, ?_⟩
      · rw [nml.len, nm2.len]
        exact Nat.le_trans (show _ ≤ 3000 by omega) (by decide)
      have up : Tp Hy (upd Hy F (.lst (ys ++ xs2))) := tp_upd (fun us z => by rw [eFy] at z; cases z)
      refine ⟨ys ++ xs2, _, rfl, upd_same, ?_, fun b o e => ?_⟩
      · have : nm :: nmsL (ps.take (i + 1)) = (nm :: nmsL (ps.take i)) ++ w'.nms := by
          rw [List.take_succ, ew, nmsL_app]
          simp [nmsL]
        rw [this]
        exact (nml.tp ((tp_same sy).trans up)).app (nm2.tp up)
      · rw [upd_ne (ne_of_none e nF)]
        exact sy _ _ (sx _ _ e)
    · rintro σ Hx ⟨ys, c2, rfl, eFx, nml, sx⟩
      refine ⟨_, rfl, q F ys Hx eFx ?_ nF sx⟩
      rw [W.nms]
      have l := wl.len
      rw [List.take_of_length_le (by omega)] at nml
      exact nml
theorem all_fn {f : Addr} {fd : FuncData} (D : Df K mg "_law_all" ["_law_work_here"] sAll f fd) (T : Txt mg) : ∀ k, FnOk P w K mg base CX0 (k + 1) f fd ["_law_work_here"] (spAll k)
  | 0 => ⟨fun _ _ _ _ h => h.elim, fun _ _ _ _ _ _ _ _ _ _ _ _ _ h => h.elim⟩
  | k + 1 => ok_all D T (D.ca (all_fn D T k))
theorem fn_all {k N : Nat} {f : Addr} {fd : FuncData} {ps : List Str} {sp : Nat → Sp} (F : ∀ n, n ≤ N → FnOk P w K mg base CX0 k f fd ps (sp n)) : FnOk P w K mg base CX0 k f fd ps (fun vs H Q E => ∃ n, n ≤ N ∧ sp n vs H Q E) :=
  ⟨fun vs H Q E ⟨n, h, q⟩ => (F n h).len vs H Q E q, fun A outer s H args us vs Q E hr e0 hb hv ⟨n, h, q⟩ => (F n h).run A outer s H args us vs Q E hr e0 hb hv q⟩
def spWork : Sp := fun vs H Q _ => ∃ (h : Addr) (n many : Int), vs = [.ref h, .int many] ∧ 1 ≤ many ∧ many ≤ 50 ∧ Hand n H h ∧ n + 3000 ≤ far ∧
  ∀ (t A O : Addr) (v : V) (w : W) (xa xo : List V) (no : List Nm) H', H' t = some (.tup [v, .ref A, .ref O]) → Wk H' v w → w.dp ≤ 5 → H' A = some (.lst xa) → A ≠ h → H A = none → NmL H' xa w.nms → H' O = some (.lst xo) → O ≠ h → H O = none → NmL H' xo no → no.length = 3 →
    ((w.nms ++ no).map (·.2)).Nodup → (∀ m ∈ w.nms ++ no, Gn' m) → (w.nms.length : Int) ≤ many → Hand (n + 600) H' h → But h H H' → Q (.ref t) H'
theorem ok_work {f : Addr} {fd : FuncData} (D : Df K mg "_law_work" ["_law_hand_here", "_law_many"] sWork f fd) (T : Txt mg) (cT : Ca P w K mg base 1 "_law_take" ["_law_hand_here", "_law_many"] spTake) (cN : Ca P w K mg base 4 "_law_names" ["_law_hand_here", "_law_many"] spNames) (cTA : Ca P w K mg base 8 "_law_tree" ["_law_hand_here", "_law_deep", "_law_left"] (fun vs H Q E => ∃ n, n ≤ 5 ∧ spTree n vs H Q E)) (cAA : Ca P w K mg base 6 "_law_all" ["_law_work_here"] (spAll 5)) : FnOk P w K mg base CX0 9 f fd ["_law_hand_here", "_law_many"] spWork := by
  refine D.fn.ok scWork (fun vs H Q E h => ?_) (fun cdv A outer s H vs Q E hr h => ?_)
  · obtain ⟨h, n, many, rfl, m0, m1, hh, hn, q⟩ := h
    rfl
  · obtain ⟨h, n, many, rfl, m0, m1, hh, hn, q⟩ := h
    refine ⟨_, (pss_cons (ps_set (i := 2) scWork.nd rfl (.inl rfl) (pe_ca cN hr (by decide) (by rfl) (pa_cons (pv 0) (pa_cons (pe_op op_add (pv 1) pe_int) pa_nil))))
      (pss_cons (ps_set (i := 3) scWork.nd rfl (.inl rfl) (pe_slice sl_list (pv 2) po_none (po_some (pv 1))))
      (pss_cons (ps_set (i := 4) scWork.nd rfl (.inl rfl) (pe_ca cTA hr (by decide) (by rfl) (pa_cons (pv 0) (pa_cons (pe_op op_add pe_int (pe_ca cT hr (by decide) (by rfl) (pa_cons (pv 0) (pa_cons pe_int pa_nil)))) (pa_cons (pv 3) pa_nil)))))
      (pss_one (ps_ret (pe_tup (pa_cons (pv 4) (pa_cons (pe_ca cAA hr (by decide) (by rfl) (pa_cons (pv 4) pa_nil)) (pa_cons (pe_slice sl_list (pv 2) (po_some (pv 1)) po_none) pa_nil))))))))), ?_⟩
    have fr : n + 3000 ≤ 1000000 := hn
    obtain ⟨mn, rfl⟩ : ∃ mn : Nat, many = (mn : Int) := ⟨many.toNat, by omega⟩
    refine ⟨_, rfl, _, rfl, _, 3, rfl, rfl, h, n, _, rfl, by omega, by omega, hh, by show n + 2000 ≤ 1000000; omega, fun L xs ns H1 eL nLh nL nml lns nd gn h1 b1 => ?_⟩
    refine ⟨_, rfl, _, rfl, _, rfl, L, xs, rfl, SqL.of eL, fun F nF => ?_⟩
    have lx := nml.len
    have ct : cutV xs none (some (mn : Int)) = xs.take mn := cutV_take xs mn
    rw [ct]
    have sF := same_upd nF (o := .lst (xs.take mn))
    have eF : (upd H1 F (.lst (xs.take mn))) F = some (.lst (xs.take mn)) := upd_same
    have Fh := h1.fresh nF
    generalize upd H1 F (.lst (xs.take mn)) = H2 at sF eF ⊢
    have h2 := h1.same sF
    have b2 : But h H H2 := b1.trans (Same.but sF h)
    have eL2 := sF _ _ eL
    have LF : L ≠ F := ne_of_none eL nF
    have HF : H F = none := b1.free Fh nF
    refine ⟨_, rfl, _, rfl, h, 5, n + 400, rfl, by decide, by decide, h2, by show n + 400 ≤ 1000000; omega, fun d H3 d0 d1 h3 b3 => ?_⟩
    have eF3 := b3 _ _ Fh eF
    have eL3 := b3 _ _ nLh eL2
    have b03 := b2.trans b3
    have tpB : ∀ {Hx Hy : Hp} {m : Int}, Hand m Hx h → But h Hx Hy → Tp Hx Hy := fun {Hx Hy m} hx b c ys e => b c _ (hx.ne_tup (K := K) e) e
    have nm3 := nml.tp ((tp_same sF).trans (tpB h2 b3))
    obtain ⟨k, rfl⟩ : ∃ k : Nat, d = (k : Int) := ⟨d.toNat, by omega⟩
    have ltm : (ns.take mn).length = mn := by rw [List.length_take]; omega
    refine ⟨1, (k : Int), rfl, rfl, _, rfl, k + 1, by omega, h, n + 401, F, xs.take mn, ns.take mn, (by show [V.ref h, V.int (1 + (k : Int)), .ref F] = [V.ref h, .int ((k + 1 : Nat) : Int), .ref F]; rw [show 1 + (k : Int) = ((k + 1 : Nat) : Int) by omega]), eF3, Fh, nm3.take mn, (fun z => by rw [z] at ltm; simp at ltm; omega), by omega, h3.mono (by omega), ?_, fun v w m H4 mlt eF4 wk enm dw h4 b4 => ?_⟩
    · show n + 401 + ((ns.take mn).length : Int) ≤ 1000000
      omega
    rw [ltm] at mlt
    have b04 : But h H H4 := fun b o e1 e => b4 b o e1 (ne_of_none e HF) (b03 b o e1 e)
    have t34 : Tp H3 H4 := fun c us e => b4 c _ (h3.ne_tup (K := K) e) (fun z => by rw [z, eF3] at e; cases e) e
    have eL4 := b4 _ _ nLh LF eL3
    have nm4 := nm3.tp t34
    have lw : w.nms.length ≤ mn := by
      rw [enm, List.length_reverse, List.length_drop, ltm]; omega
    refine ⟨_, rfl, _, rfl, v, w, rfl, wk, (by show w.dp ≤ 5; omega), by omega, fun A xa H5 eA nmA nA s5 => ?_⟩
    refine ⟨_, rfl, _, rfl, _, rfl, L, xs, rfl, SqL.of (s5 _ _ eL4), fun O nO => ?_⟩
    have cd : cutV xs (some (mn : Int)) none = xs.drop mn := cutV_drop xs mn (by omega)
    rw [cd]
    have sO := same_upd nO (o := .lst (xs.drop mn))
    have eO : (upd H5 O (.lst (xs.drop mn))) O = some (.lst (xs.drop mn)) := upd_same
    have Ah := h4.fresh nA
    have Oh := (h4.same s5).fresh nO
    generalize upd H5 O (.lst (xs.drop mn)) = H6 at sO eO ⊢
    refine ⟨(by show 3 ≤ sizeLine; decide), fun t nt => ?_⟩
    have s7 := same_upd nt (o := .tup [v, .ref A, .ref O])
    have e7 : (upd H6 t (.tup [v, .ref A, .ref O])) t = some (.tup [v, .ref A, .ref O]) := upd_same
    generalize upd H6 t (.tup [v, .ref A, .ref O]) = H7 at s7 e7 ⊢
    have s57 := sO.trans s7
    have s47 := s5.trans s57
    have HA : H A = none := b04.free Ah nA
    have HO : H O = none := b04.free Oh (by
      cases z : H4 O with
      | none => rfl
      | some o => have := s5 _ _ z; rw [nO] at this; cases this)
    refine q t A O v w xa (xs.drop mn) (ns.drop mn) H7 e7 (wk.tp (tp_same s47)) (by omega) (s57 _ _ eA) Ah HA (nmA.tp (tp_same s57)) (s7 _ _ eO) Oh HO ((nm4.drop mn).tp (tp_same s47)) (by rw [List.length_drop]; omega) ?_ ?_ (by omega) ((h4.same s47).mono ?_) (b04.trans (Same.but s47 h))
    · rw [enm]
      have sb := sub_names ns mn m
      rw [List.map_id'] at sb
      exact rev_nodup nd sb
    · intro x hx
      refine gn x ?_
      rw [enm] at hx
      rcases List.mem_append.mp hx with z | z
      · exact List.mem_of_mem_take (List.mem_of_mem_drop (List.mem_reverse.mp z))
      · exact List.mem_of_mem_drop z
    · rw [ltm]
      omega
end
end K82
set_option Elab.async false
set_option linter.all false
set_option maxRecDepth 100000
set_option maxHeartbeats 4000000
set_option pp.maxSteps 400
set_option pp.deepTerms false
namespace K82
open PySem PySem.Spec PyProof.Rows L2
open Xk Az W37
section
variable {P : Program} {w : World} {K : PySem.W.Frag} {mg : Str → Option Value} {base : Heap}
/-! ## leaves and spans -/
mutual
def lvs : W → List Nm
  | .mk n ps => if ps.isEmpty then [n] else lvsL ps
def lvsL : List W → List Nm
  | [] => []
  | w :: r => lvs w ++ lvsL r
end
abbrev nl (w : W) : Int := ((lvs w).length : Nat)
abbrev nlL (ws : List W) : Int := ((lvsL ws).length : Nat)
theorem nlL_cons (w : W) (r : List W) : nlL (w :: r) = nl w + nlL r := by
  show (((lvsL (w :: r)).length : Nat) : Int) = _
  rw [lvsL, List.length_append]
  push_cast
  rfl
theorem nl_mk (n : Nm) (ps : List W) : nl (.mk n ps) = if ps.isEmpty then 1 else nlL ps := by
  show (((lvs (.mk n ps)).length : Nat) : Int) = _
  rw [lvs]
  split <;> rfl
theorem nl_pos : ∀ w : W, 1 ≤ nl w
  | .mk n [] => by rw [nl_mk]; decide
  | .mk n (p :: r) => by
    rw [nl_mk]
    have := nl_pos p
    have h : (0 : Int) ≤ nlL r := Int.natCast_nonneg _
    show 1 ≤ nlL (p :: r)
    rw [nlL_cons]
    omega
theorem nlL_nonneg (ws : List W) : 0 ≤ nlL ws := Int.natCast_nonneg _
mutual
theorem nl_nms : ∀ w : W, nl w ≤ ((w.nms.length : Nat) : Int)
  | .mk n ps => by
    rw [nl_mk, W.nms, List.length_cons]
    have := nlL_nms ps
    split <;> omega
theorem nlL_nms : ∀ ws : List W, nlL ws ≤ (((nmsL ws).length : Nat) : Int)
  | [] => by show (((lvsL []).length : Nat) : Int) ≤ _; rw [lvsL]; simp
  | w :: r => by
    rw [nlL_cons, nmsL, List.length_append]
    have := nl_nms w
    have := nlL_nms r
    omega
end
abbrev Row := Nm × Int × Int
mutual
def sps : W → Int → List Row
  | .mk n ps, s => (n, s, s + nl (.mk n ps)) :: spsL ps s
def spsL : List W → Int → List Row
  | [], _ => []
  | w :: r, s => sps w s ++ spsL r (s + nl w)
end
mutual
theorem sps_nms : ∀ (w : W) (s : Int), (sps w s).map (·.1) = w.nms
  | .mk n ps, s => by rw [sps, W.nms, List.map_cons, spsL_nms ps s]
theorem spsL_nms : ∀ (ws : List W) (s : Int), (spsL ws s).map (·.1) = nmsL ws
  | [], s => by rw [spsL, nmsL]; rfl
  | w :: r, s => by rw [spsL, nmsL, List.map_append, sps_nms w s, spsL_nms r _]
end
theorem sps_len (w : W) (s : Int) : (sps w s).length = w.nms.length := by rw [← sps_nms w s, List.length_map]
theorem spsL_len (ws : List W) (s : Int) : (spsL ws s).length = (nmsL ws).length := by rw [← spsL_nms ws s, List.length_map]
mutual
theorem sps_in : ∀ (w : W) (s : Int) (r : Row), r ∈ sps w s → s ≤ r.2.1 ∧ r.2.1 < r.2.2 ∧ r.2.2 ≤ s + nl w
  | .mk n ps, s, r, h => by
    rw [sps] at h
    have p := nl_pos (.mk n ps)
    rcases List.mem_cons.mp h with z | z
    · rw [z]
      exact ⟨Int.le_refl _, by show s < s + nl (.mk n ps); omega, Int.le_refl _⟩
    · obtain ⟨a, b, c⟩ := spsL_in ps s r z
      refine ⟨a, b, ?_⟩
      rw [nl_mk]
      cases ps with
      | nil => rw [spsL] at z; cases z
      | cons x y => exact c
theorem spsL_in : ∀ (ws : List W) (s : Int) (r : Row), r ∈ spsL ws s → s ≤ r.2.1 ∧ r.2.1 < r.2.2 ∧ r.2.2 ≤ s + nlL ws
  | [], s, r, h => by rw [spsL] at h; cases h
  | w :: q, s, r, h => by
    rw [spsL] at h
    rw [nlL_cons]
    have p := nl_pos w
    have p2 := nlL_nonneg q
    rcases List.mem_append.mp h with z | z
    · obtain ⟨a, b, c⟩ := sps_in w s r z
      exact ⟨a, b, by omega⟩
    · obtain ⟨a, b, c⟩ := spsL_in q _ r z
      exact ⟨by omega, b, by omega⟩
end
def shf (d : Int) (r : Row) : Row := (r.1, r.2.1 + d, r.2.2 + d)
mutual
theorem sps_shift (d : Int) : ∀ (w : W) (s : Int), sps w (s + d) = (sps w s).map (shf d)
  | .mk n ps, s => by
    rw [sps, sps, List.map_cons, spsL_shift d ps s]
    congr 1
    show (n, s + d, s + d + nl (.mk n ps)) = (n, s + d, s + nl (.mk n ps) + d)
    rw [Int.add_right_comm]
theorem spsL_shift (d : Int) : ∀ (ws : List W) (s : Int), spsL ws (s + d) = (spsL ws s).map (shf d)
  | [], s => by rw [spsL, spsL]; rfl
  | w :: r, s => by
    rw [spsL, spsL, List.map_append, sps_shift d w s, Int.add_right_comm, spsL_shift d r _]
end
/-! ## backward -/
mutual
def bk : W → W
  | .mk n ps => .mk n (bkL ps)
def bkL : List W → List W
  | [] => []
  | w :: r => bkL r ++ [bk w]
end
theorem bkL_map : ∀ ws : List W, bkL ws = (ws.map bk).reverse
  | [] => by rw [bkL]; rfl
  | w :: r => by rw [bkL, bkL_map r, List.map_cons, List.reverse_cons]
theorem lvsL_app : ∀ xs ys : List W, lvsL (xs ++ ys) = lvsL xs ++ lvsL ys
  | [], ys => by rw [List.nil_append, lvsL, List.nil_append]
  | w :: r, ys => by rw [List.cons_append, lvsL, lvsL, lvsL_app r ys, List.append_assoc]
theorem nlL_app (xs ys : List W) : nlL (xs ++ ys) = nlL xs + nlL ys := by
  show (((lvsL (xs ++ ys)).length : Nat) : Int) = _
  rw [lvsL_app, List.length_append]
  push_cast
  rfl
theorem bkL_nil {ws : List W} : (bkL ws).isEmpty = ws.isEmpty := by
  cases ws with
  | nil => rw [bkL]
  | cons w r => rw [bkL_map]; simp
mutual
theorem nl_bk : ∀ w : W, nl (bk w) = nl w
  | .mk n ps => by
    rw [bk, nl_mk, nl_mk, nlL_bk ps, bkL_nil]
theorem nlL_bk : ∀ ws : List W, nlL (bkL ws) = nlL ws
  | [] => by rw [bkL]
  | w :: r => by
    rw [bkL, nlL_app, nlL_bk r, nlL_cons, nlL_cons, nl_bk w]
    show nlL r + (nl w + nlL []) = _
    have : nlL [] = 0 := by show (((lvsL []).length : Nat) : Int) = 0; rw [lvsL]; rfl
    omega
end
theorem spsL_app : ∀ (xs ys : List W) (s : Int), spsL (xs ++ ys) s = spsL xs s ++ spsL ys (s + nlL xs)
  | [], ys, s => by
    have : nlL [] = 0 := by show (((lvsL []).length : Nat) : Int) = 0; rw [lvsL]; rfl
    rw [List.nil_append, spsL, List.nil_append, this, Int.add_zero]
  | w :: r, ys, s => by
    rw [List.cons_append, spsL, spsL, spsL_app r ys, List.append_assoc, nlL_cons, Int.add_assoc]
/-- turned about -/
def mir (c : Int) (r : Row) : Row := (r.1, c - r.2.2, c - r.2.1)
theorem mem_shift {w : W} {s d : Int} {r : Row} (h : r ∈ sps w s) : shf d r ∈ sps w (s + d) := by
  rw [sps_shift]
  exact List.mem_map_of_mem h
theorem memL_shift {ws : List W} {s d : Int} {r : Row} (h : r ∈ spsL ws s) : shf d r ∈ spsL ws (s + d) := by
  rw [spsL_shift]
  exact List.mem_map_of_mem h
mutual
theorem sps_bk : ∀ (w : W) (s : Int) (r : Row), r ∈ sps w s → mir (2 * s + nl w) r ∈ sps (bk w) s
  | .mk n ps, s, r, h => by
    rw [sps] at h
    rw [bk, sps]
    have e : nl (.mk n (bkL ps)) = nl (.mk n ps) := by have := nl_bk (.mk n ps); rw [bk] at this; exact this
    rcases List.mem_cons.mp h with z | z
    · rw [z]
      refine List.mem_cons.mpr (.inl ?_)
      show (n, 2 * s + nl (.mk n ps) - (s + nl (.mk n ps)), 2 * s + nl (.mk n ps) - s) = (n, s, s + nl (.mk n (bkL ps)))
      rw [e]
      refine Prod.ext rfl (Prod.ext ?_ ?_)
      · show 2 * s + nl (.mk n ps) - (s + nl (.mk n ps)) = s; omega
      · show 2 * s + nl (.mk n ps) - s = s + nl (.mk n ps); omega
    · refine List.mem_cons_of_mem _ ?_
      have q := spsL_bk ps s r z
      rw [nl_mk]
      cases ps with
      | nil => rw [spsL] at z; cases z
      | cons x y => exact q
theorem spsL_bk : ∀ (ws : List W) (s : Int) (r : Row), r ∈ spsL ws s → mir (2 * s + nlL ws) r ∈ spsL (bkL ws) s
  | [], s, r, h => by rw [spsL] at h; cases h
  | w :: q, s, r, h => by
    rw [spsL] at h
    rw [bkL, spsL_app, nlL_bk, nlL_cons]
    rcases List.mem_append.mp h with z | z
    · refine List.mem_append_right _ ?_
      have a := mem_shift (d := nlL q) (sps_bk w s r z)
      rw [spsL]
      refine List.mem_append_left _ ?_
      have e : shf (nlL q) (mir (2 * s + nl w) r) = mir (2 * s + (nl w + nlL q)) r := by
        refine Prod.ext rfl (Prod.ext ?_ ?_)
        · show 2 * s + nl w - r.2.2 + nlL q = 2 * s + (nl w + nlL q) - r.2.2; omega
        · show 2 * s + nl w - r.2.1 + nlL q = 2 * s + (nl w + nlL q) - r.2.1; omega
      rw [← e]
      exact a
    · refine List.mem_append_left _ ?_
      have a := memL_shift (d := - nl w) (spsL_bk q _ r z)
      have e : shf (-nl w) (mir (2 * (s + nl w) + nlL q) r) = mir (2 * s + (nl w + nlL q)) r := by
        refine Prod.ext rfl (Prod.ext ?_ ?_)
        · show 2 * (s + nl w) + nlL q - r.2.2 + -nl w = 2 * s + (nl w + nlL q) - r.2.2; omega
        · show 2 * (s + nl w) + nlL q - r.2.1 + -nl w = 2 * s + (nl w + nlL q) - r.2.1; omega
      rw [← e]
      have e2 : s + nl w + -nl w = s := by omega
      rw [e2] at a
      exact a
end
mutual
theorem bk_nms : ∀ w : W, (bk w).nms.Perm w.nms
  | .mk n ps => by
    rw [bk, W.nms, W.nms]
    exact List.Perm.cons n (bkL_nms ps)
theorem bkL_nms : ∀ ws : List W, (nmsL (bkL ws)).Perm (nmsL ws)
  | [] => by rw [bkL]
  | w :: r => by
    rw [bkL, nmsL_app, nmsL, nmsL, nmsL, List.append_nil]
    exact (List.Perm.append (bkL_nms r) (bk_nms w)).trans List.perm_append_comm
end
mutual
theorem bk_dp : ∀ w : W, (bk w).dp = w.dp
  | .mk n ps => by rw [bk, W.dp, W.dp, bkL_dp ps]
theorem bkL_dp : ∀ ws : List W, dpL (bkL ws) = dpL ws
  | [] => by rw [bkL]
  | w :: r => by
    have app : ∀ xs ys : List W, dpL (xs ++ ys) = max (dpL xs) (dpL ys) := fun xs ys => by
      induction xs with
      | nil => rw [List.nil_append, dpL]; omega
      | cons x q ih => rw [List.cons_append, dpL, dpL, ih]; omega
    rw [bkL, app, dpL, dpL, dpL, bkL_dp r, bk_dp w]
    omega
end
/-- where a name's leaves stand -/
def spn (w : W) (m : Nm) : Option (Int × Int) := ((sps w 0).find? fun r => decide (r.1 = m)).map (·.2)
theorem spn_some {w : W} {m : Nm} {s : Int × Int} (h : spn w m = some s) : (m, s) ∈ sps w 0 := by
  unfold spn at h
  obtain ⟨r, e, rfl⟩ := Option.map_eq_some_iff.mp h
  have p := List.find?_some e
  have q := of_decide_eq_true p
  rw [← q]
  exact List.mem_of_find?_eq_some e
theorem mem_uniq {l : List Row} (nd : (l.map (·.1)).Nodup) {a b : Row} (ha : a ∈ l) (hb : b ∈ l) (e : a.1 = b.1) : a = b := by
  induction l with
  | nil => cases ha
  | cons x r ih =>
    rw [List.map_cons, List.nodup_cons] at nd
    rcases List.mem_cons.mp ha with za | za
    · rcases List.mem_cons.mp hb with zb | zb
      · rw [za, zb]
      · exact absurd (by rw [← za, e]; exact List.mem_map_of_mem zb) nd.1
    · rcases List.mem_cons.mp hb with zb | zb
      · exact absurd (by rw [← zb, ← e]; exact List.mem_map_of_mem za) nd.1
      · exact ih nd.2 za zb
theorem spn_of {w : W} (nd : w.nms.Nodup) {m : Nm} {s : Int × Int} (h : (m, s) ∈ sps w 0) : spn w m = some s := by
  unfold spn
  cases e : (sps w 0).find? fun r => decide (r.1 = m) with
  | none =>
    have := List.find?_eq_none.mp e _ h
    simp at this
  | some r =>
    have p : r.1 = m := by have := List.find?_some e; exact of_decide_eq_true this
    have q := mem_uniq (by rw [sps_nms]; exact nd) (List.mem_of_find?_eq_some e) h p
    rw [q]
    rfl
theorem spn_in {w : W} {m : Nm} {s : Int × Int} (h : spn w m = some s) : 0 ≤ s.1 ∧ s.1 < s.2 ∧ s.2 ≤ nl w := by
  have := sps_in w 0 _ (spn_some h)
  obtain ⟨a, b, c⟩ := this
  exact ⟨a, b, by simpa using c⟩
def mr (c : Int) (s : Int × Int) : Int × Int := (c - s.2, c - s.1)
theorem spn_bk {w : W} (nd : w.nms.Nodup) (m : Nm) : spn (bk w) m = (spn w m).map (mr (nl w)) := by
  have nd2 : (bk w).nms.Nodup := (List.Perm.nodup_iff (bk_nms w)).mpr nd
  cases e : spn w m with
  | some s =>
    have h := sps_bk w 0 _ (spn_some e)
    have e2 : mir (2 * 0 + nl w) (m, s) = (m, mr (nl w) s) := by
      unfold mir mr
      rw [show (2 * 0 + nl w : Int) = nl w by omega]
    rw [e2] at h
    exact spn_of nd2 h
  | none =>
    cases e3 : spn (bk w) m with
    | none => rfl
    | some s =>
      have h := spn_some e3
      have hm : m ∈ (bk w).nms := by rw [← sps_nms (bk w) 0]; exact List.mem_map_of_mem (f := (·.1)) h
      have hm2 : m ∈ w.nms := (bk_nms w).mem_iff.mp hm
      rw [← sps_nms w 0] at hm2
      obtain ⟨r, hr, er⟩ := List.mem_map.mp hm2
      have : spn w m = some r.2 := spn_of nd (by rw [← er]; exact hr)
      rw [e] at this
      cases this
end
end K82
set_option Elab.async false
set_option linter.all false
set_option maxRecDepth 100000
set_option maxHeartbeats 4000000
set_option pp.maxSteps 400
set_option pp.deepTerms false
namespace K82
open PySem PySem.Spec PyProof.Rows L2
open Xk Az W37
section
variable {P : Program} {w : World} {K : PySem.W.Frag} {mg : Str → Option Value} {base : Heap}
/-! ## choices -/
abbrev S2 := Int × Int
def Ah (a b : S2) : Prop := a.2 ≤ b.1
abbrev Ch (l : List S2) : Prop := l.Pairwise Ah
def vl : List S2 → Int
  | [] => 0
  | s :: r => (s.2 - s.1) + vl r
theorem vl_app : ∀ a b : List S2, vl (a ++ b) = vl a + vl b
  | [], b => by show vl b = 0 + vl b; omega
  | s :: r, b => by
    show (s.2 - s.1) + vl (r ++ b) = (s.2 - s.1) + vl r + vl b
    rw [vl_app r b]
    omega
theorem vl_rev : ∀ a : List S2, vl a.reverse = vl a
  | [] => rfl
  | s :: r => by
    rw [List.reverse_cons, vl_app, vl_rev r]
    show vl r + ((s.2 - s.1) + 0) = (s.2 - s.1) + vl r
    omega
theorem vl_mr (c : Int) : ∀ a : List S2, vl (a.map (mr c)) = vl a
  | [] => rfl
  | s :: r => by
    show (c - s.1 - (c - s.2)) + vl (r.map (mr c)) = (s.2 - s.1) + vl r
    rw [vl_mr c r]
    omega
abbrev Spl := List (Option S2)
def told (S : Spl) : List S2 := S.filterMap id
/-- all spans are not empty -/
def Pos (S : Spl) : Prop := ∀ s, some s ∈ S → 0 ≤ s.1 ∧ s.1 < s.2
theorem vl_pos {l : List S2} (h : ∀ s ∈ l, s.1 < s.2) : 0 ≤ vl l := by
  induction l with
  | nil => exact Int.le_refl _
  | cons s r ih =>
    have := h s List.mem_cons_self
    have := ih fun t ht => h t (List.mem_cons_of_mem _ ht)
    show 0 ≤ (s.2 - s.1) + vl r
    omega
/-- the most -/
structure Most (S : Spl) (m : Int) : Prop where
  ex : ∃ l, l.Sublist (told S) ∧ Ch l ∧ vl l = m
  top : ∀ l, l.Sublist (told S) → Ch l → vl l ≤ m
theorem Most.uniq {S : Spl} {m n : Int} (a : Most S m) (b : Most S n) : m = n := by
  obtain ⟨l, h1, h2, e1⟩ := a.ex
  obtain ⟨k, h3, h4, e2⟩ := b.ex
  have x := a.top k h3 h4
  have y := b.top l h1 h2
  omega
theorem Most.sub {S T : Spl} {m n : Int} (a : Most S m) (b : Most T n) (h : (told S).Sublist (told T)) : m ≤ n := by
  obtain ⟨l, h1, h2, e1⟩ := a.ex
  have := b.top l (h1.trans h) h2
  omega
theorem told_sub {S T : Spl} (h : S.Sublist T) : (told S).Sublist (told T) := h.filterMap id
/-- turned about -/
def mrS (c : Int) (S : Spl) : Spl := (S.map (Option.map (mr c))).reverse
theorem told_mr (c : Int) (S : Spl) : told (mrS c S) = ((told S).map (mr c)).reverse := by
  unfold told mrS
  rw [List.filterMap_reverse]
  congr 1
  induction S with
  | nil => rfl
  | cons o r ih =>
    cases o with
    | none => simpa using ih
    | some s => simpa using ih
theorem mr_mr (c : Int) (s : S2) : mr c (mr c s) = s := by
  unfold mr
  exact Prod.ext (by show c - (c - s.1) = s.1; omega) (by show c - (c - s.2) = s.2; omega)
theorem ch_mr {c : Int} {l : List S2} (h : Ch l) : Ch (l.map (mr c)).reverse := by
  rw [Ch, List.pairwise_reverse, List.pairwise_map]
  refine h.imp fun {a b} hab => ?_
  show c - b.1 ≤ c - a.2
  have : a.2 ≤ b.1 := hab
  omega
theorem Most.mr {S : Spl} {m : Int} (c : Int) (a : Most S m) : Most (mrS c S) m := by
  obtain ⟨l, h1, h2, e1⟩ := a.ex
  refine ⟨⟨(l.map (K82.mr c)).reverse, ?_, ch_mr h2, by rw [vl_rev, vl_mr]; exact e1⟩, fun k h3 h4 => ?_⟩
  · rw [told_mr]
    exact (h1.map _).reverse
  · rw [told_mr] at h3
    have h5 := (h3.reverse.map (K82.mr c))
    rw [List.reverse_reverse, List.map_map] at h5
    have e : ((K82.mr c) ∘ (K82.mr c)) = id := funext fun s => mr_mr c s
    rw [e, List.map_id] at h5
    have := a.top _ h5 (by
      have := ch_mr (c := c) h4
      rw [← List.map_reverse] at this
      exact this)
    rw [vl_mr, vl_rev] at this
    exact this
/-! choices by numbers -/
inductive Pk (S : Spl) : Nat → List Nat → List S2 → Prop
  | nil (k : Nat) : Pk S k [] []
  | cons {k i : Nat} {is : List Nat} {s : S2} {l : List S2} : k ≤ i → S[i]? = some (some s) → Pk S (i + 1) is l → Pk S k (i :: is) (s :: l)
theorem told_drop {S : Spl} {k : Nat} {s : S2} (h : S[k]? = some (some s)) : told (S.drop k) = s :: told (S.drop (k + 1)) := by
  obtain ⟨lt, e⟩ := List.getElem?_eq_some_iff.mp h
  rw [List.drop_eq_getElem_cons lt, e]
  rfl
theorem drop_sub (S : Spl) {i k : Nat} (h : k ≤ i) : (S.drop i).Sublist (S.drop k) := by
  have e : S.drop i = (S.drop k).drop (i - k) := by rw [List.drop_drop]; congr 1; omega
  rw [e]
  exact List.drop_sublist _ _
theorem Pk.mono {S : Spl} {k k' : Nat} (hk : k' ≤ k) : ∀ {is : List Nat} {l : List S2}, Pk S k is l → Pk S k' is l
  | _, _, .nil _ => .nil _
  | _, _, .cons h e r => .cons (Nat.le_trans hk h) e r
theorem Pk.sub {S : Spl} : ∀ {k : Nat} {is : List Nat} {l : List S2}, Pk S k is l → l.Sublist (told (S.drop k))
  | _, _, _, .nil _ => List.nil_sublist _
  | k, _, _, .cons (i := i) (s := s) h e r => by
    have a := r.sub
    have b := List.Sublist.cons_cons s a
    rw [← told_drop e] at b
    exact b.trans (told_sub (drop_sub S h))
theorem Pk.ge {S : Spl} : ∀ {k : Nat} {is : List Nat} {l : List S2}, Pk S k is l → ∀ i ∈ is, k ≤ i ∧ ∃ s, S[i]? = some (some s) ∧ s ∈ l
  | _, _, _, .nil _, i, hi => by cases hi
  | k, _, _, .cons (i := j) h e r, i, hi => by
    rcases List.mem_cons.mp hi with z | z
    · rw [z]; exact ⟨h, _, e, List.mem_cons_self⟩
    · obtain ⟨a, s, b, c⟩ := r.ge i z
      exact ⟨by omega, s, b, List.mem_cons_of_mem _ c⟩
theorem Pk.rise {S : Spl} : ∀ {k : Nat} {is : List Nat} {l : List S2}, Pk S k is l → is.Pairwise (· < ·)
  | _, _, _, .nil _ => .nil
  | _, _, _, .cons h e r => .cons (fun i hi => by have := (r.ge i hi).1; omega) r.rise
theorem Pk.of {S : Spl} : ∀ (n k : Nat) (l : List S2), S.length - k = n → l.Sublist (told (S.drop k)) → ∃ is, Pk S k is l
  | 0, k, l, hn, h => by
    rw [List.drop_of_length_le (by omega)] at h
    have : l = [] := List.sublist_nil.mp h
    rw [this]
    exact ⟨[], .nil _⟩
  | n + 1, k, l, hn, h => by
    have lt : k < S.length := by omega
    cases e : S[k] with
    | none =>
      have e2 : told (S.drop k) = told (S.drop (k + 1)) := by rw [List.drop_eq_getElem_cons lt, e]; rfl
      rw [e2] at h
      obtain ⟨is, p⟩ := Pk.of n (k + 1) l (by omega) h
      exact ⟨is, p.mono (by omega)⟩
    | some s =>
      have e1 : S[k]? = some (some s) := by rw [List.getElem?_eq_getElem lt, e]
      rw [told_drop e1] at h
      cases h with
      | cons _ h =>
        obtain ⟨is, p⟩ := Pk.of n (k + 1) l (by omega) h
        exact ⟨is, p.mono (by omega)⟩
      | cons_cons _ h =>
        obtain ⟨is, p⟩ := Pk.of n (k + 1) _ (by omega) h
        exact ⟨k :: is, .cons (Nat.le_refl _) e1 p⟩
/-- the best of the choices that begin with number j -/
structure Best (S : Spl) (j : Nat) (m : Int) (is : List Nat) : Prop where
  ex : ∃ l, Pk S j is l ∧ Ch l ∧ vl l = m
  hd : ∃ r, is = j :: r
  top : ∀ is' l, Pk S j (j :: is') l → Ch l → vl l ≤ m
/-- the best of those that begin at k or behind, ahead of which a span stands -/
theorem best_step {S : Spl} {j : Nat} {s : S2} (ps : Pos S) (e : S[j]? = some (some s)) {m : Int} {is : List Nat} (hm : 0 ≤ m)
    (ex : (m = 0 ∧ is = []) ∨ ∃ i s', j < i ∧ S[i]? = some (some s') ∧ Ah s s' ∧ Best S i m is)
    (top : ∀ i s' m' is', j < i → S[i]? = some (some s') → Ah s s' → Best S i m' is' → m' ≤ m) (all : ∀ i s', j < i → S[i]? = some (some s') → ∃ m' is', Best S i m' is') : Best S j ((s.2 - s.1) + m) (j :: is) := by
  refine ⟨?_, ⟨is, rfl⟩, fun is' l p c => ?_⟩
  · rcases ex with ⟨rfl, rfl⟩ | ⟨i, s', ji, e', a, b⟩
    · exact ⟨[s], .cons (Nat.le_refl _) e (.nil _), List.pairwise_singleton _ _, by show (s.2 - s.1) + 0 = _; rfl⟩
    · obtain ⟨l, p, c, v⟩ := b.ex
      obtain ⟨r, rfl⟩ := b.hd
      refine ⟨s :: l, .cons (Nat.le_refl _) e (p.mono (by omega)), ?_, by show (s.2 - s.1) + vl l = _; rw [v]⟩
      cases p with
      | @cons _ _ _ t l2 _ e3 p2 =>
        rw [e'] at e3
        cases e3
        refine .cons (fun t ht => ?_) c
        rcases List.mem_cons.mp ht with z | z
        · rw [z]; exact a
        · have h1 := (List.pairwise_cons.mp c).1 t z
          have h2 := (ps s' (List.mem_of_getElem? e')).2
          have a : s.2 ≤ s'.1 := a
          have h1 : s'.2 ≤ t.1 := h1
          show s.2 ≤ t.1
          omega
  · cases p with
    | @cons _ _ _ t l2 _ e3 p2 =>
      rw [e] at e3
      cases e3
      show (s.2 - s.1) + vl l2 ≤ _
      cases p2 with
      | nil => show (s.2 - s.1) + 0 ≤ _; omega
      | @cons _ i _ s' l3 h4 e4 p4 =>
        obtain ⟨m', is3, b⟩ := all i s' (by omega) e4
        have c2 := (List.pairwise_cons.mp c)
        have v1 := b.top _ _ (.cons (Nat.le_refl _) e4 p4) c2.2
        have v2 := top i s' m' is3 (by omega) e4 (c2.1 s' List.mem_cons_self) b
        omega
/-- the best of all -/
theorem most_of {S : Spl} {m : Int} {is : List Nat} (hm : 0 ≤ m) (ex : (m = 0 ∧ is = []) ∨ ∃ i, Best S i m is) (top : ∀ i m' is', Best S i m' is' → m' ≤ m) (all : ∀ i s', S[i]? = some (some s') → ∃ m' is', Best S i m' is') :
    Most S m ∧ ∃ l, Pk S 0 is l ∧ Ch l ∧ vl l = m := by
  have h : ∃ l, Pk S 0 is l ∧ Ch l ∧ vl l = m := by
    rcases ex with ⟨rfl, rfl⟩ | ⟨i, b⟩
    · exact ⟨[], .nil _, .nil, rfl⟩
    · obtain ⟨l, p, c, v⟩ := b.ex
      exact ⟨l, p.mono (by omega), c, v⟩
  refine ⟨⟨?_, fun l hl c => ?_⟩, h⟩
  · obtain ⟨l, p, c, v⟩ := h
    exact ⟨l, by have := p.sub; rwa [List.drop_zero] at this, c, v⟩
  · obtain ⟨is', p⟩ := Pk.of (S := S) _ 0 l rfl (by rwa [List.drop_zero])
    cases p with
    | nil => exact hm
    | @cons _ i _ s' l3 h4 e4 p4 =>
      obtain ⟨m', is3, b⟩ := all i s' e4
      have v1 := b.top _ _ (.cons (Nat.le_refl _) e4 p4) c
      have v2 := top i m' is3 b
      omega
/-! ## heights -/
def mx0 : List Int → Int
  | [] => 0
  | n :: r => r.foldl max n
theorem fold_max_le (n : Int) : ∀ (r : List Int), (∀ x ∈ n :: r, x ≤ r.foldl max n) ∧ r.foldl max n ∈ n :: r
  | [] => ⟨fun x hx => by rw [List.mem_singleton.mp hx]; exact Int.le_refl _, List.mem_singleton.mpr rfl⟩
  | y :: r => by
    obtain ⟨a, b⟩ := fold_max_le (max n y) r
    rw [List.foldl_cons]
    refine ⟨fun x hx => ?_, ?_⟩
    · have h0 := a (max n y) List.mem_cons_self
      rcases List.mem_cons.mp hx with z | z
      · rw [z]; omega
      · rcases List.mem_cons.mp z with z | z
        · rw [z]; omega
        · exact a x (List.mem_cons_of_mem _ z)
    · rcases List.mem_cons.mp b with z | z
      · rw [z]
        by_cases h : n ≤ y
        · rw [Int.max_eq_right h]; exact List.mem_cons_of_mem _ List.mem_cons_self
        · rw [Int.max_eq_left (by omega)]; exact List.mem_cons_self
      · exact List.mem_cons_of_mem _ (List.mem_cons_of_mem _ z)
theorem mx0_ge {l : List Int} {x : Int} (h : x ∈ l) : x ≤ mx0 l := by
  cases l with
  | nil => cases h
  | cons n r => exact (fold_max_le n r).1 x h
theorem mx0_mem (l : List Int) : (l = [] ∧ mx0 l = 0) ∨ mx0 l ∈ l := by
  cases l with
  | nil => exact .inl ⟨rfl, rfl⟩
  | cons n r => exact .inr (fold_max_le n r).2
/-- the heights of those ahead -/
def bl1 (S : Spl) (p : List Int) (s : S2) (a : Nat) : Option Int := match S[a]? with
  | some (some r) => if r.2 ≤ s.1 then p[a]? else none
  | _ => none
def below (S : Spl) (p : List Int) (s : S2) (i : Nat) : List Int := (List.range i).filterMap (bl1 S p s)
def lh (S : Spl) (p : List Int) (s : S2) (i : Nat) : Int := (s.2 - s.1) + mx0 (below S p s i)
theorem mem_below {S : Spl} {p : List Int} {s : S2} {i : Nat} {x : Int} : x ∈ below S p s i ↔ ∃ a r, a < i ∧ S[a]? = some (some r) ∧ Ah r s ∧ p[a]? = some x := by
  unfold below
  rw [List.mem_filterMap]
  constructor
  · rintro ⟨a, ha, e⟩
    rw [List.mem_range] at ha
    unfold bl1 at e
    split at e
    · rename_i r q
      split at e
      · rename_i c
        exact ⟨a, r, ha, q, c, e⟩
      · cases e
    · cases e
  · rintro ⟨a, r, ha, q, c, e⟩
    refine ⟨a, List.mem_range.mpr ha, ?_⟩
    unfold bl1
    rw [q]
    show (if r.2 ≤ s.1 then p[a]? else none) = _
    have c : r.2 ≤ s.1 := c
    rw [if_pos c]
    exact e
theorem fm_congr {α β : Type} {f g : α → Option β} : ∀ {l : List α}, (∀ a ∈ l, f a = g a) → l.filterMap f = l.filterMap g
  | [], _ => rfl
  | a :: r, h => by
    rw [List.filterMap_cons, List.filterMap_cons, h a List.mem_cons_self, fm_congr fun b hb => h b (List.mem_cons_of_mem _ hb)]
theorem below_take {S : Spl} {p : List Int} {s : S2} {i k : Nat} (h : i ≤ k) : below S (p.take k) s i = below S p s i := by
  unfold below
  refine fm_congr fun a ha => ?_
  rw [List.mem_range] at ha
  unfold bl1
  rw [List.getElem?_take, if_pos (by omega)]
/-- whether heights show that no more than n come -/
def smB (S : Spl) (n : Int) (p : List Int) : Bool := p.all (fun h => decide (0 ≤ h) && decide (h ≤ n)) && (List.range S.length).all fun i => match S[i]? with
  | some (some s) => decide (lh S p s i ≤ p.getD i 0)
  | _ => true
theorem smB_iff {S : Spl} {n : Int} {p : List Int} : smB S n p = true ↔ (∀ h ∈ p, 0 ≤ h ∧ h ≤ n) ∧ ∀ i s, S[i]? = some (some s) → lh S p s i ≤ p.getD i 0 := by
  unfold smB
  rw [Bool.and_eq_true, List.all_eq_true, List.all_eq_true]
  constructor
  · rintro ⟨a, b⟩
    refine ⟨fun h hh => by simpa using a h hh, fun i s e => ?_⟩
    have := b i (List.mem_range.mpr (List.getElem?_eq_some_iff.mp e).1)
    rw [e] at this
    exact of_decide_eq_true this
  · rintro ⟨a, b⟩
    refine ⟨fun h hh => by simpa using a h hh, fun i hi => ?_⟩
    split
    · rename_i s e
      exact decide_eq_true (b i s e)
    · rfl
/-- heights that show it are no lower than any choice -/
theorem show_chain {S : Spl} {n : Int} {p : List Int} (ps : Pos S) (pl : p.length = S.length) (h : smB S n p = true) {m : Int} (M : Most S m) : m ≤ n ∨ told S = [] := by
  obtain ⟨ha, hb⟩ := smB_iff.mp h
  -- a choice read from behind
  have key : ∀ (l : List S2) (k : Nat) (is : List Nat), Pk S k is l → Ch l → ∀ x : S2, ∀ i, S[i]? = some (some x) → i < k → (∀ y ∈ l, Ah x y) → vl l + p.getD i 0 ≤ n := by
    intro l
    induction l with
    | nil =>
      intro k is q c x i e ik ax
      have hi := (List.getElem?_eq_some_iff.mp e).1
      have := ha (p.getD i 0) (by rw [List.getD_eq_getElem?_getD, List.getElem?_eq_getElem (by omega)]; exact List.getElem_mem _)
      show 0 + p.getD i 0 ≤ n
      omega
    | cons s r ih =>
      intro k is q c x i e ik ax
      cases q with
      | @cons _ j js _ _ kj e2 q2 =>
        have hj := (List.getElem?_eq_some_iff.mp e2).1
        have c2 := List.pairwise_cons.mp c
        have h1 := ih (j + 1) js q2 c2.2 s j e2 (by omega) c2.1
        have h2 := hb j s e2
        have h3 : p.getD i 0 ≤ mx0 (below S p s j) := mx0_ge (mem_below.mpr ⟨i, x, by omega, e, ax s List.mem_cons_self, by
          have hi := (List.getElem?_eq_some_iff.mp e).1
          rw [List.getD_eq_getElem?_getD, List.getElem?_eq_getElem (by omega)]; rfl⟩)
        unfold lh at h2
        show (s.2 - s.1) + vl r + p.getD i 0 ≤ n
        omega
  by_cases ht : told S = []
  · exact .inr ht
  refine .inl ?_
  obtain ⟨l, sl, c, v⟩ := M.ex
  obtain ⟨is, q⟩ := Pk.of (S := S) _ 0 l rfl (by rwa [List.drop_zero])
  cases q with
  | nil =>
    -- the empty choice: some span stands, and its height is no less than nought
    obtain ⟨x, hx⟩ := List.exists_mem_of_ne_nil _ ht
    obtain ⟨o, ho, rfl⟩ := List.mem_filterMap.mp hx
    obtain ⟨i, hi⟩ := List.getElem?_of_mem ho
    have lt := (List.getElem?_eq_some_iff.mp hi).1
    have := ha (p.getD i 0) (by rw [List.getD_eq_getElem?_getD, List.getElem?_eq_getElem (by omega)]; exact List.getElem_mem _)
    have : vl [] = 0 := rfl
    omega
  | @cons _ i js s r _ e q2 =>
    have c2 := List.pairwise_cons.mp c
    have h1 := key r (i + 1) js q2 c2.2 s i e (by omega) c2.1
    have h2 := hb i s e
    have h3 : 0 ≤ mx0 (below S p s i) := by
      rcases mx0_mem (below S p s i) with ⟨_, z⟩ | z
      · rw [z]; exact Int.le_refl _
      · obtain ⟨a, _, _, _, _, e5⟩ := mem_below.mp z
        exact (ha _ (List.mem_of_getElem? e5)).1
    unfold lh at h2
    have : vl (s :: r) = (s.2 - s.1) + vl r := rfl
    omega
/-- the heights that are told -/
def htl (S : Spl) : Nat → List Int
  | 0 => []
  | k + 1 => htl S k ++ [match S[k]? with
    | some (some s) => lh S (htl S k) s k
    | _ => 0]
theorem htl_len (S : Spl) : ∀ k, (htl S k).length = k
  | 0 => rfl
  | k + 1 => by rw [htl, List.length_append, htl_len S k]; rfl
theorem htl_take (S : Spl) : ∀ {k n : Nat}, k ≤ n → (htl S n).take k = htl S k := by
  intro k n h
  induction n with
  | zero => have : k = 0 := by omega
            rw [this]; rfl
  | succ n ih =>
    by_cases c : k = n + 1
    · rw [c, List.take_of_length_le (by rw [htl_len]; exact Nat.le_refl _)]
    · rw [htl, List.take_append_of_le_length (by rw [htl_len]; omega)]
      exact ih (by omega)
theorem htl_at (S : Spl) {k n : Nat} (h : k < n) : (htl S n)[k]? = some (match S[k]? with
    | some (some s) => lh S (htl S k) s k
    | _ => 0) := by
  have e := htl_take S (k := k + 1) (n := n) (by omega)
  have : (htl S n)[k]? = ((htl S n).take (k + 1))[k]? := by rw [List.getElem?_take, if_pos (by omega)]
  rw [this, e, htl, List.getElem?_append_right (by rw [htl_len]; exact Nat.le_refl _), htl_len, Nat.sub_self]
  rfl
/-- a told height is what some choice has -/
theorem htl_choice {S : Spl} (ps : Pos S) {n : Nat} (hn : n = S.length) : ∀ (i : Nat) (s : S2), S[i]? = some (some s) → ∃ l, (l ++ [s]).Sublist (told (S.take (i + 1))) ∧ Ch (l ++ [s]) ∧ (htl S n)[i]? = some (vl (l ++ [s])) := by
  intro i
  induction i using Nat.strongRecOn with
  | _ i ih =>
    intro s e
    have lt := (List.getElem?_eq_some_iff.mp e).1
    have ts : told (S.take (i + 1)) = told (S.take i) ++ [s] := by
      unfold told
      rw [List.take_add_one, e, List.filterMap_append]
      rfl
    have ea := htl_at S (k := i) (n := n) (by omega)
    rw [e] at ea
    have ea : (htl S n)[i]? = some (lh S (htl S i) s i) := ea
    have eb : lh S (htl S i) s i = (s.2 - s.1) + mx0 (below S (htl S n) s i) := by
      unfold lh
      rw [← htl_take S (k := i) (n := n) (by omega), below_take (Nat.le_refl _)]
    rw [ea, eb]
    rcases mx0_mem (below S (htl S n) s i) with ⟨_, z⟩ | z
    · refine ⟨[], ?_, List.pairwise_singleton _ _, ?_⟩
      · rw [ts]
        exact List.sublist_append_right _ _
      · rw [z]
        show some ((s.2 - s.1) + 0) = some ((s.2 - s.1) + 0)
        rfl
    · obtain ⟨a, r, ai, e1, ar, e2⟩ := mem_below.mp z
      obtain ⟨l, sl, c, ev⟩ := ih a ai r e1
      rw [e2] at ev
      have ev := Option.some.inj ev
      refine ⟨l ++ [r], ?_, ?_, ?_⟩
      · rw [ts]
        refine List.Sublist.append (sl.trans (told_sub ?_)) (List.Sublist.refl _)
        have : S.take (a + 1) = (S.take i).take (a + 1) := by rw [List.take_take]; congr 1; omega
        rw [this]
        exact List.take_sublist _ _
      · rw [Ch, List.pairwise_append]
        refine ⟨c, List.pairwise_singleton _ _, fun x hx y hy => ?_⟩
        rw [List.mem_singleton.mp hy]
        rcases List.mem_append.mp hx with w | w
        · have h1 := (List.pairwise_append.mp c).2.2 x w r (List.mem_singleton.mpr rfl)
          have h2 := (ps r (List.mem_of_getElem? e1)).2
          have h1 : x.2 ≤ r.1 := h1
          have ar : r.2 ≤ s.1 := ar
          show x.2 ≤ s.1
          omega
        · rw [List.mem_singleton.mp w]; exact ar
      · rw [vl_app (l ++ [r]) [s], ev]
        show some ((s.2 - s.1) + _) = some (_ + ((s.2 - s.1) + 0))
        congr 1
        omega
theorem htl_shows {S : Spl} (ps : Pos S) {m n : Int} (M : Most S m) (hm : 0 ≤ m) (hn : m ≤ n) : smB S n (htl S S.length) = true := by
  refine smB_iff.mpr ⟨fun h hh => ?_, fun i s e => ?_⟩
  · obtain ⟨i, hi⟩ := List.getElem?_of_mem hh
    have lt := (List.getElem?_eq_some_iff.mp hi).1
    rw [htl_len] at lt
    cases e : S[i] with
    | none =>
      have ea := htl_at S lt
      rw [List.getElem?_eq_getElem lt, e] at ea
      rw [ea] at hi
      have hi : (0 : Int) = h := Option.some.inj hi
      rw [← hi]
      exact ⟨Int.le_refl _, by omega⟩
    | some s =>
      have e1 : S[i]? = some (some s) := by rw [List.getElem?_eq_getElem lt, e]
      obtain ⟨l, sl, c, ev⟩ := htl_choice ps rfl i s e1
      rw [hi] at ev
      cases ev
      have sub := sl.trans (told_sub (List.take_sublist (i + 1) S))
      have := M.top _ sub c
      refine ⟨vl_pos fun t ht => ?_, by omega⟩
      obtain ⟨o, ho, rfl⟩ := List.mem_filterMap.mp (sub.subset ht)
      exact (ps _ ho).2
  · have lt := (List.getElem?_eq_some_iff.mp e).1
    have ea := htl_at S lt
    rw [e] at ea
    have ea : (htl S S.length)[i]? = some (lh S (htl S i) s i) := ea
    rw [List.getD_eq_getElem?_getD, ea]
    show lh S (htl S S.length) s i ≤ lh S (htl S i) s i
    unfold lh
    rw [← htl_take S (k := i) (n := S.length) (by omega), below_take (Nat.le_refl _)]
    exact Int.le_refl _
end
end K82
set_option Elab.async false
set_option linter.all false
set_option maxRecDepth 100000
set_option maxHeartbeats 4000000
set_option pp.maxSteps 400
set_option pp.deepTerms false
namespace K82
open PySem PySem.Spec PyProof.Rows L2
open Xk Az W37
section
variable {P : Program} {w : World} {K : PySem.W.Frag} {mg : Str → Option Value} {base : Heap}
/-- things one by one -/
inductive Lp {α : Type} (R : V → α → Prop) : List V → List α → Prop
  | nil : Lp R [] []
  | cons {v : V} {vs : List V} {a : α} {as : List α} : R v a → Lp R vs as → Lp R (v :: vs) (a :: as)
theorem Lp.len {α : Type} {R : V → α → Prop} : ∀ {vs : List V} {as : List α}, Lp R vs as → vs.length = as.length
  | _, _, .nil => rfl
  | _, _, .cons _ r => by rw [List.length_cons, List.length_cons, r.len]
theorem Lp.map {α : Type} {R R' : V → α → Prop} (h : ∀ v a, R v a → R' v a) : ∀ {vs : List V} {as : List α}, Lp R vs as → Lp R' vs as
  | _, _, .nil => .nil
  | _, _, .cons a r => .cons (h _ _ a) (r.map h)
theorem Lp.snoc {α : Type} {R : V → α → Prop} : ∀ {vs : List V} {as : List α} {v : V} {a : α}, Lp R vs as → R v a → Lp R (vs ++ [v]) (as ++ [a])
  | _, _, _, _, .nil, h => .cons h .nil
  | _, _, _, _, .cons h r, h' => .cons h (r.snoc h')
theorem Lp.app {α : Type} {R : V → α → Prop} : ∀ {vs ws : List V} {as bs : List α}, Lp R vs as → Lp R ws bs → Lp R (vs ++ ws) (as ++ bs)
  | _, _, _, _, .nil, h => h
  | _, _, _, _, .cons h r, h' => .cons h (r.app h')
theorem Lp.get {α : Type} {R : V → α → Prop} : ∀ {vs : List V} {as : List α} {i : Nat} {v : V}, Lp R vs as → vs[i]? = some v → ∃ a, as[i]? = some a ∧ R v a
  | _, _, _, _, .nil, e => by simp at e
  | _, _, 0, _, .cons h r, e => by
    rw [List.getElem?_cons_zero] at e
    cases e
    exact ⟨_, rfl, h⟩
  | _, _, i + 1, _, .cons h r, e => by
    rw [List.getElem?_cons_succ] at e
    obtain ⟨n, e1, q⟩ := r.get e
    exact ⟨n, by rw [List.getElem?_cons_succ]; exact e1, q⟩
theorem Lp.at_ {α : Type} {R : V → α → Prop} {vs : List V} {as : List α} {i : Nat} {a : α} (h : Lp R vs as) (e : as[i]? = some a) : ∃ v, vs[i]? = some v ∧ R v a := by
  have lt := (List.getElem?_eq_some_iff.mp e).1
  have lt2 : i < vs.length := by rw [h.len]; exact lt
  obtain ⟨b, eb, r⟩ := h.get (List.getElem?_eq_getElem lt2)
  rw [e] at eb
  cases eb
  exact ⟨_, List.getElem?_eq_getElem lt2, r⟩
theorem Lp.mem {α : Type} {R : V → α → Prop} {vs : List V} {as : List α} (h : Lp R vs as) {v : V} (m : v ∈ vs) : ∃ a ∈ as, R v a := by
  obtain ⟨i, hi⟩ := List.getElem?_of_mem m
  obtain ⟨a, e, r⟩ := h.get hi
  exact ⟨a, List.mem_of_getElem? e, r⟩
theorem Lp.rev {α : Type} {R : V → α → Prop} : ∀ {vs : List V} {as : List α}, Lp R vs as → Lp R vs.reverse as.reverse
  | _, _, .nil => .nil
  | _, _, .cons h r => by rw [List.reverse_cons, List.reverse_cons]; exact r.rev.snoc h
theorem Lp.take {α : Type} {R : V → α → Prop} : ∀ {vs : List V} {as : List α} (k : Nat), Lp R vs as → Lp R (vs.take k) (as.take k)
  | _, _, 0, h => by rw [List.take_zero, List.take_zero]; exact .nil
  | _, _, _ + 1, .nil => .nil
  | _, _, k + 1, .cons h r => .cons h (r.take k)
theorem Lp.drop {α : Type} {R : V → α → Prop} : ∀ {vs : List V} {as : List α} (k : Nat), Lp R vs as → Lp R (vs.drop k) (as.drop k)
  | _, _, 0, h => h
  | _, _, _ + 1, .nil => .nil
  | _, _, k + 1, .cons h r => r.drop k
def spLv : Nat → Sp
  | 0 => fun _ _ _ _ => False
  | k + 1 => fun vs H Q _ => ∃ (v : V) (w : W), vs = [v] ∧ Wk H v w ∧ w.dp ≤ k + 1 ∧ w.nms.length ≤ 1000 ∧ ∀ (t : Addr) xs H', L2.Same H H' → H' t = some (.tup xs) → ((xs.length : Nat) : Int) = nl w → Q (.ref t) H'
def RwV (H : Hp) (v : V) (r : Row) : Prop := ∃ (t u : Addr) (nv : V), v = .ref t ∧ H t = some (.tup [nv, .ref u]) ∧ NmV H nv r.1 ∧ H u = some (.tup [.int r.2.1, .int r.2.2])
theorem RwV.tp {H H' : Hp} {v : V} {r : Row} (s : Tp H H') (h : RwV H v r) : RwV H' v r := by
  obtain ⟨t, u, nv, rfl, e1, n, e2⟩ := h
  exact ⟨t, u, nv, rfl, s _ _ e1, n.tp s, s _ _ e2⟩
def spSI : Nat → Sp
  | 0 => fun _ _ _ _ => False
  | k + 1 => fun vs H Q _ => ∃ (v : V) (w : W) (s : Int), vs = [v, .int s] ∧ Wk H v w ∧ w.dp ≤ k + 1 ∧ w.nms.length ≤ 1000 ∧ 0 ≤ s ∧ s + nl w ≤ 100000 ∧
    ∀ (L : Addr) xs H', L2.Same H H' → H L = none → H' L = some (.lst xs) → Lp (RwV H') xs (sps w s) → Q (.ref L) H'
theorem nlL_take (ps : List W) {i : Nat} {w : W} (e : ps[i]? = some w) : nlL (ps.take (i + 1)) = nlL (ps.take i) + nl w := by
  rw [List.take_add_one, e, nlL_app]
  show nlL (ps.take i) + nlL [w] = _
  rw [nlL_cons]
  have : nlL [] = 0 := by show (((lvsL []).length : Nat) : Int) = 0; rw [lvsL]; rfl
  omega
theorem nlL_le (ps : List W) (i : Nat) : nlL (ps.take i) ≤ nlL ps := by
  have e := congrArg nlL (List.take_append_drop i ps)
  rw [nlL_app] at e
  have := nlL_nonneg (ps.drop i)
  omega
theorem nlL_nil : nlL [] = 0 := by show (((lvsL []).length : Nat) : Int) = 0; rw [lvsL]; rfl
theorem ok_leaves {f : Addr} {fd : FuncData} {k : Nat} (D : Df K mg "leaves" ["work"] sLeaves f fd) (T : Txt mg) (cLv : Ca P w K mg base (k + 1) "leaves" ["work"] (spLv k)) : FnOk P w K mg base CX0 (k + 2) f fd ["work"] (spLv (k + 1)) := by
  refine D.fn.ok scLeaves (fun vs H Q E h => ?_) (fun cdv A outer s H vs Q E hr h => ?_)
  · obtain ⟨v, w, rfl, wk, hd, hl, q⟩ := h
    rfl
  · obtain ⟨v, w, rfl, wk, hd, hl, q⟩ := h
    refine ⟨_, (pss_cons (ps_asg (pv 0) (pg_tup (by rfl) (pgs_cons (pg_name (i := 1) scLeaves.nd rfl (.inl rfl)) (pgs_cons (pg_name (i := 2) scLeaves.nd rfl (.inl rfl)) pgs_nil))))
      (pss_cons (ps_if (pt_cmpR op_eq (pe_callB call_len_seq (by rfl) T.len PySem.boot_len (pa_cons (pv 2) pa_nil)) pe_int (nomark _)) (pss_one (ps_ret (pe_tup (pa_cons (pv 1) pa_nil)))) pss_nil)
      (pss_one (ps_ret (pe_callTy call_tuple_of (by rfl) T.tuple (by decide +kernel) (pa_cons (pe_lc2 (own := [("part", 3), ("leaf", 4)]) (vs1 := [4]) (g := gName 3) (g1 := gName 4) (tt := tYes) (tt1 := tYes) (wi1 := iTup K (tCall (spLv k) [] E0 (tCons (tVar 3) tNil))) (te := tVar 4) (by rfl) scLeaves.nd (pi_tup (pv 2)) (blkOk_by (own := [("part", 3), ("leaf", 4)]) (N := ["work", "name", "parts", "part", "leaf"]) (sc := defScope sLeaves) (by decide +kernel)) (by decide) (fun _ _ _ _ _ => pg_name (i := 3) scLeaves.nd rfl (.inl rfl)) (fun _ _ _ _ _ => pts_nil) (fun _ _ _ _ _ => pi_tup (pe_ca cLv hr (by omega) (by rfl) (pa_cons (pv 3) pa_nil))) (fun _ _ _ _ _ => pg_name (i := 4) scLeaves.nd rfl (.inl rfl)) (fun _ _ _ _ _ => pts_nil) (fun _ _ _ _ _ => pv 4)) pa_nil)))))), ?_⟩
    cases wk with
    | @mk t p v0 nm xs ps e1 nv e2 wl =>
    rw [W.dp] at hd
    rw [W.nms, List.length_cons] at hl
    have lx := wl.len
    refine ⟨_, rfl, t, _, rfl, SqT.of e1, rfl, _, _, rfl, _, _, rfl, rfl, ?_⟩
    refine ⟨_, rfl, p, xs, rfl, .inr (SqT.of e2), rfl, _, rfl, ite2 (fun e => ?_) (fun e => ?_)⟩
    · have x0 : xs.length = 0 := by have : ((xs.length : Nat) : Int) = 0 := by simpa [eqV] using e
                                    omega
      have p0 : ps = [] := List.eq_nil_of_length_eq_zero (by omega)
      refine ⟨_, rfl, (by show 1 ≤ sizeLine; decide), fun t1 n1 => q t1 [v0] _ (same_upd n1) upd_same ?_⟩
      rw [nl_mk, p0]
      rfl
    · have x0 : xs.length ≠ 0 := by have : ¬ ((xs.length : Nat) : Int) = 0 := by simpa [eqV] using e
                                    omega
      have pe : ps.isEmpty = false := by
        cases ps with
        | nil => exact absurd lx x0
        | cons a r => rfl
      refine ⟨_, rfl, p, rfl, ⟨_, SqT.of e2⟩, fun D nD => ?_⟩
      have nb := nlL_nms ps
      refine Xdc.goes (walk_tup (K := K) (a := p) (xs := xs)) (fun i Hi => L2.Same H Hi ∧ ∃ ys, Hi D = some (.lst ys) ∧ ((ys.length : Nat) : Int) = nlL (ps.take i)) ⟨same_upd nD, [], upd_same, by rw [List.take_zero, nlL_nil]; rfl⟩ (fun i Hi _ z => SqT.of (z.1 _ _ e2)) ?_ ?_
      · rintro i x Hi Hi' il ⟨sm, ys, eD, ly⟩ ⟨rfl, hx⟩
        obtain ⟨w', ew, wk'⟩ := wl.get hx
        have mw := List.mem_of_getElem? ew
        have dw := dpL_mem mw
        have nlw := nmsL_mem mw
        have dpos := W.dp_pos w'
        have st := nlL_take ps ew
        have sl := nlL_le ps (i + 1)
        obtain ⟨j, rfl⟩ : ∃ j, k = j + 1 := ⟨k - 1, by omega⟩
        refine ⟨rfl, ?_⟩
        refine ⟨_, rfl, x, w', rfl, wk'.tp (tp_same sm), by omega, by omega, fun t1 xs1 H1 s1 et1 lt1 => ?_⟩
        refine ⟨t1, rfl, ⟨_, SqT.of et1⟩, ?_⟩
        have eD1 := s1 _ _ eD
        refine Xdc.goes (g := gName 4) (tt := tYes) (B := fun N σ H => tVar 4 σ H fun y H7 => ∃ acc, H7 D = some (.lst acc) ∧ acc.length < sizeLine ∧ N (upd H7 D (.lst (acc ++ [y])))) (walk_tup (K := K) (a := t1) (xs := xs1)) (fun j Hj => L2.Same H Hj ∧ Hj t1 = some (.tup xs1) ∧ ∃ zs, Hj D = some (.lst zs) ∧ zs.length = ys.length + j) ⟨sm.trans s1, et1, ys, eD1, rfl⟩ (fun j Hj _ z => SqT.of z.2.1) ?_ ?_
        · rintro j y Hj Hj' jl ⟨smj, etj, zs, eLj, lz⟩ ⟨rfl, hy⟩
          refine ⟨rfl, ?_⟩
          refine ⟨_, rfl, zs, eLj, ?_, fun c o e => ?_, ?_, zs ++ [y], upd_same, by rw [List.length_append, lz]; rfl⟩
          · exact Nat.lt_of_le_of_lt (show zs.length ≤ 100000 by omega) (by decide)
          · rw [upd_ne (ne_of_none e nD)]
            exact smj _ _ e
          · rw [upd_ne (ne_of etj eLj (by intro z; cases z))]
            exact etj
        · rintro Hj ⟨smj, etj, zs, eLj, lz⟩
          exact ⟨smj, zs, eLj, by rw [lz, st]; push_cast; omega⟩
      · rintro H3 ⟨s3, ys, eD, ly⟩
        rw [List.take_of_length_le (by omega)] at ly
        refine ⟨D, _, rfl, .inl ⟨SqL.of eD, fun t1 n1 => q t1 ys _ (s3.trans (same_upd n1)) upd_same ?_⟩⟩
        rw [nl_mk, pe]
        exact ly
theorem ok_si {f : Addr} {fd : FuncData} {k : Nat} (D : Df K mg "spans_in" ["work", "start"] sSpansIn f fd) (T : Txt mg) (cSI : Ca P w K mg base (k + 1) "spans_in" ["work", "start"] (spSI k)) : FnOk P w K mg base CX0 (k + 2) f fd ["work", "start"] (spSI (k + 1)) := by
  refine D.fn.ok scSpansIn (fun vs H Q E h => ?_) (fun cdv A outer s H vs Q E hr h => ?_)
  · obtain ⟨v, w, s, rfl, wk, hd, hl, s0, s1, q⟩ := h
    rfl
  · obtain ⟨v, w, s, rfl, wk, hd, hl, s0, s1, q⟩ := h
    refine ⟨_, (pss_cons (ps_asg (pv 0) (pg_tup (by rfl) (pgs_cons (pg_name (i := 2) scSpansIn.nd rfl (.inl rfl)) (pgs_cons (pg_name (i := 3) scSpansIn.nd rfl (.inl rfl)) pgs_nil))))
      (pss_cons (ps_if (pt_cmpR op_eq (pe_callB call_len_seq (by rfl) T.len PySem.boot_len (pa_cons (pv 3) pa_nil)) pe_int (nomark _)) (pss_one (ps_ret (pe_lst (pa_cons (pe_tup (pa_cons (pv 2) (pa_cons (pe_tup (pa_cons (pv 1) (pa_cons (pe_op op_add (pv 1) pe_int) pa_nil))) pa_nil))) pa_nil)))) pss_nil)
      (pss_cons (ps_set (i := 4) scSpansIn.nd rfl (.inl rfl) (pe_lst pa_nil))
      (pss_cons (ps_set (i := 5) scSpansIn.nd rfl (.inl rfl) (pv 1))
      (pss_cons (ps_for PassesOwn.never rfl (pi_tup (pv 3)) (pg_name (i := 6) scSpansIn.nd rfl (.inl rfl)) (pss_cons (ps_set (i := 7) scSpansIn.nd rfl (.inl rfl) (pe_ca cSI hr (by omega) (by rfl) (pa_cons (pv 6) (pa_cons (pv 5) pa_nil))))
      (pss_cons (ps_expr (pe_bm PySem.F.plainAttrs_list PySem.F.slot_list_extend PySem.F.type_list_extend mt_extend (pv 4) (pa_cons (pv 7) pa_nil)))
      (pss_one (ps_set (i := 5) scSpansIn.nd rfl (.inl rfl) (pe_ix ix_tup (pe_ix ix_tup (pe_ix ix_list (pv 7) pe_int (fun _ _ => rfl)) pe_int (fun _ _ => rfl)) pe_int (fun _ _ => rfl)))))))
      (pss_one (ps_ret (pe_lst (pa_cons (pe_tup (pa_cons (pv 2) (pa_cons (pe_tup (pa_cons (pv 1) (pa_cons (pv 5) pa_nil))) pa_nil))) (Xvl.pa_starL (pv 4) pa_nil)))))))))), ?_⟩
    cases wk with
    | @mk t p v0 nm xs ps e1 nv e2 wl =>
    rw [W.dp] at hd
    rw [W.nms, List.length_cons] at hl
    have lx := wl.len
    have np := nl_pos (.mk nm ps)
    refine ⟨_, rfl, t, _, rfl, SqT.of e1, rfl, _, _, rfl, _, _, rfl, rfl, ?_⟩
    refine ⟨_, rfl, p, xs, rfl, .inr (SqT.of e2), rfl, _, rfl, ite2 (fun e => ?_) (fun e => ?_)⟩
    · have x0 : xs.length = 0 := by have : ((xs.length : Nat) : Int) = 0 := by simpa [eqV] using e
                                    omega
      have p0 : ps = [] := List.eq_nil_of_length_eq_zero (by omega)
      refine ⟨_, rfl, _, rfl, _, rfl, s, 1, rfl, rfl, (by show 2 ≤ sizeLine; decide), fun u nu => ⟨(by show 2 ≤ sizeLine; decide), fun r nr => ⟨(by show 1 ≤ sizeLine; decide), fun L nL => ?_⟩⟩⟩
      have su := same_upd nu (o := .tup [.int s, .int (s + 1)])
      have sr := same_upd nr (o := .tup [v0, .ref u])
      have sL := same_upd nL (o := .lst [.ref r])
      have s3 := (su.trans sr).trans sL
      have e1n : nl (.mk nm ps) = 1 := by rw [nl_mk, p0]; rfl
      refine q L _ _ s3 ?_ upd_same ?_
      · cases z : H L with
        | none => rfl
        | some o => rw [(su.trans sr) _ _ z] at nL; cases nL
      · rw [sps, p0, spsL, ← p0, e1n]
        exact .cons ⟨r, u, v0, rfl, sL _ _ upd_same, nv.tp (tp_same s3), sL _ _ (sr _ _ upd_same)⟩ .nil
    · have x0 : xs.length ≠ 0 := by have : ¬ ((xs.length : Nat) : Int) = 0 := by simpa [eqV] using e
                                    omega
      have pe : ps.isEmpty = false := by
        cases ps with
        | nil => exact absurd lx x0
        | cons a r => rfl
      have wn : nl (.mk nm ps) = nlL ps := by rw [nl_mk, pe]; rfl
      refine ⟨(by show 0 ≤ sizeLine; decide), fun F nF => ?_⟩
      have sF := same_upd nF (o := .lst [])
      have eF : (upd H F (.lst [])) F = some (.lst []) := upd_same
      generalize upd H F (.lst []) = H1 at sF eF ⊢
      refine ⟨_, rfl, ?_⟩
      refine ⟨_, rfl, p, rfl, ⟨_, SqT.of (sF _ _ e2)⟩, for_tup (K := K) (a := p) (xs := xs) (fun i σ Hx => ∃ (ys : List V) (c6 c7 : Option V), σ = [some (.ref t), some (.int s), some v0, some (.ref p), some (.ref F), some (.int (s + nlL (ps.take i))), c6, c7] ∧ Hx F = some (.lst ys) ∧ Lp (RwV Hx) ys (spsL (ps.take i) s) ∧ L2.Same H Hx) ?_ ?_ ?_ ?_⟩
      · refine ⟨[], none, none, ?_, eF, by rw [List.take_zero, spsL]; exact .nil, sF⟩
        rw [List.take_zero, nlL_nil, Int.add_zero]
        rfl
      · rintro i σ Hx _ ⟨ys, c6, c7, rfl, eFx, rl, sx⟩
        exact SqT.of (sx _ _ e2)
      · rintro i x σ Hx hx ⟨ys, c6, c7, rfl, eFx, rl, sx⟩
        obtain ⟨w', ew, wk'⟩ := wl.get hx
        have mw := List.mem_of_getElem? ew
        have dw := dpL_mem mw
        have le := rl.len
        have lrow := spsL_len (ps.take i) s
        have ltk := nmsL_take i ps
        have nlw := nmsL_mem mw
        have dpos := W.dp_pos w'
        have st := nlL_take ps ew
        have sl := nlL_le ps (i + 1)
        have sl0 := nlL_nonneg (ps.take i)
        obtain ⟨j, rfl⟩ : ∃ j, k = j + 1 := ⟨k - 1, by omega⟩
        refine ⟨_, rfl, _, rfl, x, w', s + nlL (ps.take i), rfl, wk'.tp (tp_same sx), by omega, by omega, by omega, by omega, fun L2' xs2 Hy sy nL2 eL2 rl2 => ?_⟩
        have l2 := rl2.len
        have l2b := sps_len w' (s + nlL (ps.take i))
        have w1 : 1 ≤ w'.nms.length := by cases w'; rw [W.nms]; simp
        have eFy := sy _ _ eFx
        have FL : L2' ≠ F := fun z => by rw [z, eFx] at nL2; cases nL2
        refine ⟨_, rfl, .inl ⟨rfl, _, SqL.of eFy⟩, _, rfl, F, L2', ys, xs2, rfl, rfl, eFy, eL2, Nat.le_trans (show ys.length + xs2.length ≤ 3000 by omega) (by decide), ?_⟩
        have up : Tp Hy (upd Hy F (.lst (ys ++ xs2))) := tp_upd (fun us z => by rw [eFy] at z; cases z)
        have sR : sps w' (s + nlL (ps.take i)) = (sps w' (s + nlL (ps.take i))).head (by intro z; rw [z] at l2b; simp at l2b; omega) :: (sps w' (s + nlL (ps.take i))).tail := (List.cons_head_tail _).symm
        have hd : ∃ r0, (sps w' (s + nlL (ps.take i)))[0]? = some r0 ∧ r0.2.2 = s + nlL (ps.take i) + nl w' := by
          cases w' with
          | mk n2 ps2 => rw [sps]; exact ⟨_, rfl, rfl⟩
        obtain ⟨r0, er0, ev0⟩ := hd
        obtain ⟨x0', ex0, t0, u0, n0, rfl, et0, _, eu0⟩ := rl2.at_ er0
        refine ⟨_, rfl, L2', xs2, 0, .ref t0, rfl, rfl, SqL.of (by rw [upd_ne FL]; exact eL2), atI_nat (j := 0) ex0, t0, _, 1, .ref u0, rfl, rfl, SqT.of (up _ _ et0), rfl, u0, _, 1, .int r0.2.2, rfl, rfl, SqT.of (up _ _ eu0), rfl, ?_⟩
        refine ⟨ys ++ xs2, some x, some (.ref L2'), ?_, upd_same, ?_, fun b o e => ?_⟩
        · rw [ev0, Int.add_assoc, ← st]
          rfl
        · have : spsL (ps.take (i + 1)) s = spsL (ps.take i) s ++ sps w' (s + nlL (ps.take i)) := by
            rw [List.take_add_one, ew, spsL_app]
            show _ ++ spsL [w'] _ = _
            rw [spsL, spsL, List.append_nil]
          rw [this]
          exact (rl.map fun v a h => h.tp ((tp_same sy).trans up)).app (rl2.map fun v a h => h.tp up)
        · rw [upd_ne (ne_of_none e nF)]
          exact sy _ _ (sx _ _ e)
      · rintro σ Hx ⟨ys, c6, c7, rfl, eFx, rl, sx⟩
        rw [List.take_of_length_le (show ps.length ≤ xs.length by omega)] at rl ⊢
        have le := rl.len
        have lrow := spsL_len ps s
        refine ⟨_, rfl, _, rfl, _, rfl, (by show 2 ≤ sizeLine; decide), fun u nu => ⟨(by show 2 ≤ sizeLine; decide), fun r nr => ?_⟩⟩
        have su := same_upd nu (o := .tup [.int s, .int (s + nlL ps)])
        have sr := same_upd nr (o := .tup [v0, .ref u])
        refine ⟨_, rfl, F, ys, rfl, SqL.of ((su.trans sr) _ _ eFx), ?_⟩
        show (V.ref r :: (ys ++ [])).length ≤ sizeLine ∧ ∀ p, (L2.upd (L2.upd Hx u (.tup [.int s, .int (s + nlL ps)])) r (.tup [v0, .ref u])) p = none → Q (.ref p) (L2.upd (L2.upd (L2.upd Hx u (.tup [.int s, .int (s + nlL ps)])) r (.tup [v0, .ref u])) p (.lst (V.ref r :: (ys ++ []))))
        rw [List.append_nil]
        refine ⟨Nat.le_trans (show _ ≤ 3000 from ?_) (by decide), fun L nL => ?_⟩
        · rw [List.length_cons]
          omega
        have sL := same_upd nL (o := .lst (V.ref r :: ys))
        have s4 := (su.trans sr).trans sL
        refine q L _ _ (sx.trans s4) ?_ upd_same ?_
        · cases z : H L with
          | none => rfl
          | some o => rw [(su.trans sr) _ _ (sx _ _ z)] at nL; cases nL
        · rw [sps, wn]
          exact .cons ⟨r, u, v0, rfl, sL _ _ upd_same, nv.tp (tp_same (sx.trans s4)), sL _ _ (sr _ _ upd_same)⟩ (rl.map fun v a h => h.tp (tp_same s4))
theorem leaves_fn {f : Addr} {fd : FuncData} (D : Df K mg "leaves" ["work"] sLeaves f fd) (T : Txt mg) : ∀ k, FnOk P w K mg base CX0 (k + 1) f fd ["work"] (spLv k)
  | 0 => ⟨fun _ _ _ _ h => h.elim, fun _ _ _ _ _ _ _ _ _ _ _ _ _ h => h.elim⟩
  | k + 1 => ok_leaves D T (D.ca (leaves_fn D T k))
theorem si_fn {f : Addr} {fd : FuncData} (D : Df K mg "spans_in" ["work", "start"] sSpansIn f fd) (T : Txt mg) : ∀ k, FnOk P w K mg base CX0 (k + 1) f fd ["work", "start"] (spSI k)
  | 0 => ⟨fun _ _ _ _ h => h.elim, fun _ _ _ _ _ _ _ _ _ _ _ _ _ h => h.elim⟩
  | k + 1 => ok_si D T (D.ca (si_fn D T k))
end
end K82
set_option Elab.async false
set_option linter.all false
set_option maxRecDepth 100000
set_option maxHeartbeats 4000000
set_option pp.maxSteps 400
set_option pp.deepTerms false
namespace K82
open PySem PySem.Spec PyProof.Rows L2
open Xk Az W37
section
variable {P : Program} {w : World} {K : PySem.W.Frag} {mg : Str → Option Value} {base : Heap}
theorem pe_no {X : Cx} {e : Expr} : PE X e (fun _ _ _ => False) := ⟨fun _ _ _ _ _ _ h => False.elim h⟩
def SpV (H : Hp) (v : V) : Option S2 → Prop
  | none => v = .non
  | some s => ∃ u : Addr, v = .ref u ∧ H u = some (.tup [.int s.1, .int s.2])
theorem SpV.tp {H H' : Hp} {v : V} {o : Option S2} (h : SpV H v o) (s : Tp H H') : SpV H' v o := by
  cases o with
  | none => exact h
  | some z => obtain ⟨u, e, e2⟩ := h; exact ⟨u, e, s _ _ e2⟩
def TtV (H : Hp) (v : V) : Option Nm → Prop
  | none => v = .non
  | some m => NmV H v m
theorem TtV.tp {H H' : Hp} {v : V} {o : Option Nm} (h : TtV H v o) (s : Tp H H') : TtV H' v o := by
  cases o with
  | none => exact h
  | some z => exact NmV.tp (show NmV H v z from h) s
theorem eqv_nD (a b : Nm) : PyData.eqv (nD a) (nD b) = decide (a = b) := by
  obtain ⟨a1, a2⟩ := a
  obtain ⟨b1, b2⟩ := b
  unfold nD
  simp only [PyData.eqv, PyData.eqvAll, Bool.and_true]
  by_cases h1 : a1 = b1
  · by_cases h2 : a2 = b2
    · subst h1 h2
      simp
    · rw [decide_eq_false (fun z => h2 (congrArg Prod.snd z))]
      rw [beq_eq_false_iff_ne.mpr h2, Bool.and_false]
  · rw [decide_eq_false (fun z => h1 (congrArg Prod.fst z))]
    rw [beq_eq_false_iff_ne.mpr h1, Bool.false_and]
theorem nm_dp {H : Hp} {v : V} {n : Nm} (h : NmV H v n) : Dp K H v (nD n) := by
  obtain ⟨t, rfl, e⟩ := h
  exact .tup (SqT.of e) (.cons (.str _) (.cons (.str _) .nil))
def An (m : Nm) : Prop := As m.1 ∧ As m.2
theorem As.ok {x : Str} (h : As x) : PyData.strOk x = true := by
  unfold PyData.strOk
  rw [← Array.all_toList, List.all_eq_true]
  intro c hc
  exact decide_eq_true (Nat.lt_of_lt_of_le (h c hc) (by decide))
theorem shaped_two {a b : Str} (ha : As a) (hb : As b) : SeqAt.shaped (.tuple [.str a, .str b]) = true := by
  unfold SeqAt.shaped
  have h1 : (PyData.tuple [.str a, .str b]).canLay0 = true := by simp [PyData.canLay0, PyData.canLayAll0, ha.ok, hb.ok]
  have h2 : (PyData.tuple [.str a, .str b]).depth ≤ 64 := by simp only [PyData.depth, PyData.depthAll]; omega
  rw [h1, decide_eq_true h2]
  rfl
theorem shaped_nm {m : Nm} (h : An m) : SeqAt.shaped (nD m) = true := shaped_two h.1 h.2
def spSO : Sp := fun vs H Q _ => ∃ (v nv : V) (w : W) (m : Nm), vs = [v, nv, .non] ∧ Wk H v w ∧ w.dp ≤ 5 ∧ w.nms.length ≤ 100 ∧ (∀ m ∈ w.nms, An m) ∧ NmV H nv m ∧ An m ∧ ∀ r H', L2.Same H H' → SpV H' r (spn w m) → Q r H'
def spSOs (K : PySem.W.Frag) : Sp := fun vs H Q _ => ∃ (v : V) (T : Addr) (xs : List V) (w : W) (ts : List (Option Nm)), vs = [v, .ref T, .non] ∧ Wk H v w ∧ w.dp ≤ 5 ∧ w.nms.length ≤ 100 ∧ (∀ m ∈ w.nms, An m) ∧ SqT K H T xs ∧ Lp (TtV H) xs ts ∧ ts.length ≤ 30 ∧ (∀ m, some m ∈ ts → An m) ∧
  ∀ (L : Addr) ys H', L2.Same H H' → H L = none → H' L = some (.lst ys) → Lp (SpV H') ys (ts.map fun t => t.bind (spn w)) → Q (.ref L) H'
def spLW : Sp := fun vs H Q _ => ∃ (u : Addr) (s : S2), vs = [.ref u] ∧ H u = some (.tup [.int s.1, .int s.2]) ∧ Q (.int (s.2 - s.1)) H
def spAh : Sp := fun vs H Q _ => ∃ (u t : Addr) (s r : S2), vs = [.ref u, .ref t] ∧ H u = some (.tup [.int s.1, .int s.2]) ∧ H t = some (.tup [.int r.1, .int r.2]) ∧ Q (.bl (decide (s.2 ≤ r.1))) H
theorem okN {x qual : Str} {params : Arguments} {body : List Stmt} {scope : Scope} {dvs : List V} {kws : List (Str × V)} {f : Addr} {fd : FuncData} {N ps : List Str} {k : Nat} {sp : Sp} (F : FunD K x qual params body scope dvs kws f fd) (S : FnScope N ps scope) (len : ∀ vs H Q E, sp vs H Q E → vs.length = ps.length)
    (hbody : ∀ (cdv : Value) (A : Around) (outer : List Env) (s : Shared) (H : Hp) (vs : List V) (Q : VK) (E : XK), Room k (A.deeper (envOfC qual scope s.heap.objs.size f cdv)) → sp vs H Q E →
      ∃ t, PSs (cxOf CX0 P w K mg base N qual scope f cdv A outer s H E).nox body t ∧ t { nx := fun _ H' => Q .non H', rt := Q } (start N vs) H) : FnOk P w K mg base CX0 (k + 1) f fd ps sp :=
  F.ok S len fun cdv A outer s H vs Q E hr h => by
    obtain ⟨t, ht, hq⟩ := hbody cdv A outer s H vs Q E hr h
    exact ⟨t, ht.nox, hq⟩
theorem ok_so {f : Addr} {fd : FuncData} (F : FunD K "span_of" "span_of" (defArgs sSpanOf) (defBody sSpanOf) (defScope sSpanOf) [.non] [] f fd) (T : Txt mg) (cSI : Ca P w K mg base 6 "spans_in" ["work", "start"] (spSI 5)) : FnOk P w K mg base CX0 7 f fd ["work", "name", "names"] spSO := by
  refine okN F scSpanOf (fun vs H Q E h => ?_) (fun cdv A outer s H vs Q E hr h => ?_)
  · obtain ⟨v, nv, w, m, rfl, wk, hd, hl, an, hm, am, q⟩ := h
    rfl
  · obtain ⟨v, nv, w, m, rfl, wk, hd, hl, an, hm, am, q⟩ := h
    refine ⟨_, (pss_cons (ps_for PassesOwn.never rfl (pi_list (pe_ca cSI hr (by decide) (by rfl) (pa_cons (pv 0) (pa_cons pe_int pa_nil)))) (pg_tup (by rfl) (pgs_cons (pg_name (i := 3) scSpanOf.nd rfl (.inl rfl)) (pgs_cons (pg_name (i := 4) scSpanOf.nd rfl (.inl rfl)) pgs_nil))) (pss_one (ps_if (PW.pt (pw_or (pt_cmpR (op_eqD hr.units) (pv 3) (pv 1) (nomark _)) (pw_or1 (PW.pt (pw_and (pt_cmpR op_notN (pv 2) pe_non (nomark _)) (pw_and1 (pt_val (pe_no)))))))) (pss_one (ps_ret (pv 4))) pss_nil)))
      (pss_one (ps_ret pe_non))), ?_⟩
    have hn := nl_nms w
    have np := nl_pos w
    refine ⟨_, rfl, v, w, 0, rfl, wk, by show w.dp ≤ 4 + 1; omega, by omega, Int.le_refl _, by omega, fun L xs H1 s1 nL eL rl => ?_⟩
    have hm1 := hm.tp (tp_same s1)
    refine ⟨L, rfl, ⟨_, SqL.of eL⟩, for_list (K := K) (a := L) (xs := xs) (fun i σ Hx => Hx = H1 ∧ (∃ c3 c4 : Option V, σ = [some v, some nv, some .non, c3, c4]) ∧ ∀ r ∈ (sps w 0).take i, r.1 ≠ m) ⟨rfl, ⟨_, _, rfl⟩, fun r hr => by cases hr⟩ (fun i σ Hi _ z => by rw [z.1]; exact SqL.of eL) ?_ ?_⟩
    · rintro i x σ Hx hx ⟨rfl, ⟨c3, c4, rfl⟩, no⟩
      obtain ⟨r, er, t, u, n0, rfl, et, nm, eu⟩ := rl.get hx
      refine ⟨t, _, rfl, SqT.of et, rfl, _, _, rfl, _, _, rfl, rfl, ?_⟩
      have ar : An r.1 := an r.1 (by rw [← sps_nms w 0]; exact List.mem_map_of_mem (List.mem_of_getElem? er))
      refine ⟨_, rfl, _, rfl, nD r.1, nD m, nm_dp nm, nm_dp hm1, shaped_nm ar, shaped_nm am, ?_⟩
      rw [eqv_nD]
      by_cases c : r.1 = m
      · rw [decide_eq_true c]
        refine ⟨_, rfl, iteT (iteT ⟨_, rfl, q _ _ s1 ?_⟩)⟩
        have fd : (sps w 0).find? (fun r => decide (r.1 = m)) = some r := by
          rw [List.find?_eq_some_iff_getElem]
          obtain ⟨lt, e1⟩ := List.getElem?_eq_some_iff.mp er
          refine ⟨decide_eq_true c, i, lt, e1, fun j hj => ?_⟩
          have := no ((sps w 0)[j]'(by omega)) (List.mem_take_iff_getElem.mpr ⟨j, by omega, rfl⟩)
          simp [this]
        unfold spn
        rw [fd]
        exact ⟨u, rfl, eu⟩
      · rw [decide_eq_false c]
        refine ⟨_, rfl, iteF ⟨_, rfl, rfl, _, rfl, iteF (iteF ⟨rfl, ⟨_, _, rfl⟩, fun r2 hr => ?_⟩)⟩⟩
        rw [List.take_add_one, er] at hr
        rcases List.mem_append.mp hr with z | z
        · exact no r2 z
        · rw [List.mem_singleton.mp z]; exact c
    · rintro σ Hx ⟨rfl, ⟨c3, c4, rfl⟩, no⟩
      refine q _ _ s1 ?_
      have fd : (sps w 0).find? (fun r => decide (r.1 = m)) = none := by
        rw [List.find?_eq_none]
        intro r hr
        have := no r (by rw [List.take_of_length_le (by have := rl.len; omega)]; exact hr)
        simp [this]
      unfold spn
      rw [fd]
      rfl
structure So (P : Program) (w : World) (K : PySem.W.Frag) (mg : Str → Option Value) (base : Heap) (f : Addr) (fd : FuncData) : Prop where
  ok : FnOk P w K mg base CX0 7 f fd ["work", "name", "names"] spSO
  mgf : mg "span_of" = some (.ref f)
  kp : PySem.W.keepIn K (.ref f) = true
  b1 : ∃ ds, Vals [.non] ds ∧ Binds K fd ["work", "name", "names"] ds
theorem so_mk {f : Addr} {fd : FuncData} (F : FunD K "span_of" "span_of" (defArgs sSpanOf) (defBody sSpanOf) (defScope sSpanOf) [.non] [] f fd) (mgf : mg "span_of" = some (.ref f))
    (ok : FnOk P w K mg base CX0 7 f fd ["work", "name", "names"] spSO) : So P w K mg base f fd ∧ Ca P w K mg base 7 "span_of" ["work", "name", "names"] spSO := by
  refine ⟨⟨ok, mgf, F.kp, F.binds1 (ps := ["work", "name", "names"]) 2 0 (by simp) rfl fun T kV doc pm an cdv ct us its h1 h2 => by
    match us, its, h1, h2 with
    | [_, _], [_], _, _ => exact ⟨_, rfl, rfl⟩⟩, ?_⟩
  obtain ⟨ds, r, b⟩ := F.binds1 (ps := ["work", "name", "names"]) 3 1 (by simp) rfl fun T kV doc pm an cdv ct us its h1 h2 => by
    match us, its, h1, h2 with
    | [_, _, _], [_], _, _ => exact ⟨_, rfl, rfl⟩
  cases r
  exact ⟨f, fd, ok, mgf, F.kp, b⟩
theorem ok_sos {f : Addr} {fd : FuncData} (D : Df K mg "spans_of" ["work", "titles", "names"] sSpansOf f fd) (T : Txt mg) (cSO : Ca P w K mg base 7 "span_of" ["work", "name", "names"] spSO) : FnOk P w K mg base CX0 8 f fd ["work", "titles", "names"] (spSOs K) := by
  refine D.fn.ok scSpansOf (fun vs H Q E h => ?_) (fun cdv A outer s H vs Q E hr h => ?_)
  · obtain ⟨v, T0, xs, w, ts, rfl, wk, hd, hl, an, eT, tl, l30, at_, q⟩ := h
    rfl
  · obtain ⟨v, T0, xs, w, ts, rfl, wk, hd, hl, an, eT, tl, l30, at_, q⟩ := h
    refine ⟨_, (pss_one (ps_ret (pe_lc (own := [("title", 3)]) (g := gName 3) (tt := tYes) (by rfl) scSpansOf.nd (pi_tup (pv 1)) (blkOk_by (own := [("title", 3)]) (N := ["work", "titles", "names", "title"]) (sc := defScope sSpansOf) (by decide +kernel)) (fun _ _ _ _ _ => pg_name (i := 3) scSpansOf.nd rfl (.inl rfl)) (fun _ _ _ _ _ => pts_nil) (fun _ _ _ _ _ => pe_ifExp (pt_cmpR op_isN (pv 3) pe_non (nomark _)) pe_non (pe_ca cSO hr (by decide) (by rfl) (pa_cons (pv 0) (pa_cons (pv 3) (pa_cons (pv 2) pa_nil)))))))), ?_⟩
    refine ⟨_, rfl, T0, rfl, ⟨_, eT⟩, fun D nD' => ?_⟩
    have sD := same_upd nD' (o := .lst [])
    refine lc_tup (K := K) (a := T0) (xs := xs) (fun i Hi => L2.Same H Hi ∧ ∃ ys, Hi D = some (.lst ys) ∧ Lp (SpV Hi) ys ((ts.take i).map fun t => t.bind (spn w))) ⟨sD, [], upd_same, .nil⟩ (fun i Hi _ z => Xlm.sqT_extN (LamX.ExtN.of z.1) eT) ?_ ?_
    · rintro i x Hi hx ⟨sm, ys, eD, lp⟩
      obtain ⟨o, eo, tv⟩ := tl.get hx
      have il := (List.getElem?_eq_some_iff.mp eo).1
      have yl := lp.len
      rw [List.length_map, List.length_take] at yl
      have fin : ∀ (r : V) (H2 : Hp), L2.Same Hi H2 → SpV H2 r (o.bind (spn w)) → ∃ acc, H2 D = some (.lst acc) ∧ acc.length < sizeLine ∧ (L2.Same H (upd H2 D (.lst (acc ++ [r]))) ∧ ∃ zs, (upd H2 D (.lst (acc ++ [r]))) D = some (.lst zs) ∧ Lp (SpV (upd H2 D (.lst (acc ++ [r])))) zs ((ts.take (i + 1)).map fun t => t.bind (spn w))) := fun r H2 s2 sp => by
        have e2 := s2 _ _ eD
        have tp : Tp H2 (upd H2 D (.lst (ys ++ [r]))) := tp_upd fun us z => by rw [e2] at z; cases z
        refine ⟨ys, e2, Nat.lt_of_le_of_lt (show ys.length ≤ 30 by omega) (by decide), fun b o e => ?_, ys ++ [r], upd_same, ?_⟩
        · rw [upd_ne (ne_of_none e nD')]
          exact s2 _ _ (sm _ _ e)
        · rw [List.take_add_one, eo, List.map_append]
          exact (lp.map fun v a h => h.tp ((tp_same s2).trans tp)).snoc (sp.tp tp)
      refine ⟨rfl, ?_⟩
      unfold tYes
      refine iteT ?_
      cases o with
      | none =>
        obtain rfl : x = .non := tv
        exact ⟨_, rfl, rfl, _, rfl, iteT (fin .non Hi (Same.refl _) rfl)⟩
      | some m =>
        obtain ⟨t, rfl, et⟩ := id (show NmV H x m from tv)
        refine ⟨_, rfl, rfl, _, rfl, iteF ⟨_, rfl, _, rfl, _, rfl, v, .ref t, w, m, rfl, wk.tp (tp_same sm), hd, hl, an, NmV.tp ⟨t, rfl, et⟩ (tp_same sm), at_ m (List.mem_of_getElem? eo), fun r H2 s2 sp => fin r H2 s2 sp⟩⟩
    · rintro He ⟨sm, ys, eD, lp⟩
      rw [List.take_of_length_le (by have := tl.len; omega)] at lp
      exact q D ys He sm nD' eD lp
theorem ok_lw {f : Addr} {fd : FuncData} (D : Df K mg "leaves_within" ["span"] sLeavesWithin f fd)  : FnOk P w K mg base CX0 1 f fd ["span"] spLW := by
  refine D.fn.ok scLeavesWithin (fun vs H Q E h => ?_) (fun cdv A outer s H vs Q E hr h => ?_)
  · obtain ⟨u, s, rfl, eu, q⟩ := h
    rfl
  · obtain ⟨u, s, rfl, eu, q⟩ := h
    refine ⟨_, (pss_one (ps_ret (pe_op op_sub (pe_ix ix_tup (pv 0) pe_int (fun _ _ => rfl)) (pe_ix ix_tup (pv 0) pe_int (fun _ _ => rfl))))), ?_⟩
    exact ⟨_, rfl, u, _, 1, .int s.2, rfl, rfl, SqT.of eu, rfl, _, rfl, u, _, 0, .int s.1, rfl, rfl, SqT.of eu, rfl, _, _, rfl, rfl, q⟩
theorem ok_ah {f : Addr} {fd : FuncData} (D : Df K mg "is_ahead" ["one", "other"] sIsAhead f fd)  : FnOk P w K mg base CX0 1 f fd ["one", "other"] spAh := by
  refine D.fn.ok scIsAhead (fun vs H Q E h => ?_) (fun cdv A outer s H vs Q E hr h => ?_)
  · obtain ⟨u, t, s, r, rfl, eu, et, q⟩ := h
    rfl
  · obtain ⟨u, t, s, r, rfl, eu, et, q⟩ := h
    refine ⟨_, (pss_one (ps_ret (pe_cmpR op_le (pe_ix ix_tup (pv 0) pe_int (fun _ _ => rfl)) (pe_ix ix_tup (pv 1) pe_int (fun _ _ => rfl)) (nomark _)))), ?_⟩
    exact ⟨_, rfl, u, _, 1, .int s.2, rfl, rfl, SqT.of eu, rfl, _, rfl, t, _, 0, .int r.1, rfl, rfl, SqT.of et, rfl, _, _, rfl, rfl, q⟩
end
end K82
set_option Elab.async false
set_option linter.all false
set_option maxRecDepth 100000
set_option maxHeartbeats 4000000
set_option pp.maxSteps 400
set_option pp.deepTerms false
namespace K82
open PySem PySem.Spec PyProof.Rows L2
open Xk Az W37
section
variable {P : Program} {w : World} {K : PySem.W.Frag} {mg : Str → Option Value} {base : Heap}
theorem exT {H H' : Hp} (x : LamX.ExtN H H') {b : Addr} {ys : List V} (e : H b = some (.tup ys)) : H' b = some (.tup ys) := x _ _ e fun ps z => by cases z
theorem exTp {H H' : Hp} (x : LamX.ExtN H H') : Tp H H' := fun b ys e => exT x e
theorem exL {H H' : Hp} (x : LamX.ExtN H H') {b : Addr} {ys : List V} (e : H b = some (.lst ys)) : H' b = some (.lst ys) := x _ _ e fun ps z => by cases z
theorem exD {H H' : Hp} (x : LamX.ExtN H H') {b : Addr} {ys : List (Key × V)} (e : H b = some (.dK ys)) : H' b = some (.dK ys) := x _ _ e fun ps z => by cases z
theorem tabs_lst {T : List (Addr × Str)} {H : Hp} {D : Addr} {us : List V} {o : HO} (t : LamX.Tabs T H) (e : H D = some (.lst us)) : LamX.Tabs T (upd H D o) := fun p hp => by
  obtain ⟨ps, h1, h2, h3⟩ := t p hp
  refine ⟨ps, by rw [upd_ne (ne_of h1 e (by intro z; cases z))]; exact h1, h2, fun pos cv hc => ?_⟩
  obtain ⟨c, e1, e2⟩ := h3 pos cv hc
  exact ⟨c, e1, by rw [upd_ne (ne_of e2 e (by intro z; unfold LamX.CodeO at z; cases z))]; exact e2⟩
def qB : Str := (("best_of" : Str) ++ ".<locals>.") ++ "<lambda>"
abbrev Tb (pB : Addr) : List (Addr × Str) := [(pB, qB)]
theorem ok_code {x : Str} {st : Stmt} {f : Addr} {fd : FuncData} {N ps : List Str} {k : Nat} {sp : Sp} {c : Addr} (F : Fun K x x st f fd) (hc : fd.code = .ref c) (S : FnScope N ps (defScope st)) (len : ∀ vs H Q E, sp vs H Q E → vs.length = ps.length)
    (body : ∀ (A : Around) (outer : List Env) (s : Shared) (H : Hp) (vs : List V) (Q : VK) (E : XK), Room k (A.deeper (envOfC x (defScope st) s.heap.objs.size f (.ref c))) → sp vs H Q E →
      ∃ t, PSs (cxOf CX0 P w K mg base N x (defScope st) f (.ref c) A outer s H E).nox (defBody st) t ∧ t { nx := fun _ H' => Q .non H', rt := Q } (start N vs) H) : FnOk P w K mg base CX0 (k + 1) f fd ps sp := by
  obtain ⟨oc, od, kV, doc, pm, an, cdv, ct, osl, rfl, lk, hcd⟩ := F.ex
  obtain rfl : cdv = .ref c := hc
  refine ⟨len, fun A outer s H args us vs Q E hr e0 hb r hsp => LamX.run_ofS lk hcd S hr e0 hb r (len _ _ _ _ hsp) fun hr' => ?_⟩
  obtain ⟨t, ht, hq⟩ := body A outer s H vs Q E hr' hsp
  exact ⟨t, ht.nox, hq⟩
abbrev Pr := Int × List Int
def PrV (H : Hp) (v : V) (p : Pr) : Prop := ∃ t u : Addr, v = .ref t ∧ H t = some (.tup [.int p.1, .ref u]) ∧ H u = some (.tup (p.2.map V.int))
theorem PrV.tp {H H' : Hp} {v : V} {p : Pr} (h : PrV H v p) (s : Tp H H') : PrV H' v p := by
  obtain ⟨t, u, rfl, e1, e2⟩ := h
  exact ⟨t, u, rfl, s _ _ e1, s _ _ e2⟩
theorem int_inj : ∀ {a b : List Int}, a.map V.int = b.map V.int → a = b
  | [], [], _ => rfl
  | x :: a, y :: b, h => by
    rw [List.map_cons, List.map_cons] at h
    injection h with h1 h2
    injection h1 with h1
    rw [h1, int_inj h2]
  | [], _ :: _, h => by cases h
  | _ :: _, [], h => by cases h
theorem PrV.uniq {H : Hp} {v : V} {p q : Pr} (h : PrV H v p) (h2 : PrV H v q) : p = q := by
  obtain ⟨t, u, rfl, e1, e2⟩ := h
  obtain ⟨t', u', e0, e3, e4⟩ := h2
  injection e0 with e0
  subst e0
  rw [e1] at e3
  injection e3 with e3
  injection e3 with e3
  injection e3 with a b
  injection b with b _
  injection b with b
  injection a with a
  subst b
  rw [e2] at e4
  injection e4 with e4
  injection e4 with e4
  exact Prod.ext a (int_inj e4)
open Classical in
noncomputable def kdP (H : Hp) (v : V) : PyData := if h : ∃ p, PrV H v p then Xt.pairD (-(Classical.choose h).1, (Classical.choose h).2) else .none
theorem kdP_eq {H : Hp} {v : V} {p : Pr} (h : PrV H v p) : kdP H v = Xt.pairD (-p.1, p.2) := by
  unfold kdP
  have e : ∃ p, PrV H v p := ⟨p, h⟩
  rw [dif_pos e]
  have := (Classical.choose_spec e).uniq h
  rw [this]
def KyP (H : Hp) (y : V) (d : PyData) : Prop := ∃ p, PrV H y p ∧ d = Xt.pairD p
theorem dzAll_ints {H : Hp} : ∀ ns : List Int, DzAll K H (ns.map V.int) (ns.map PyData.int)
  | [] => .nil
  | i :: r => .cons (.int i) (dzAll_ints r)
theorem ky_dz (H : Hp) (y : V) (d : PyData) (h : KyP H y d) : Dz K H y d := by
  obtain ⟨p, ⟨t, u, rfl, e1, e2⟩, rfl⟩ := h
  exact .tup e1 (.cons (.int _) (.cons (.tup e2 (dzAll_ints _)) .nil))
theorem ky_keep (H H' : Hp) (y : V) (d : PyData) (k : ∀ b zs, H b = some (.tup zs) → H' b = some (.tup zs)) (h : KyP H y d) : KyP H' y d := by
  obtain ⟨p, h, e⟩ := h
  exact ⟨p, h.tp k, e⟩
theorem plt_irr (p : Pr) : Xt.pairLt p p = false := by
  unfold Xt.pairLt
  rw [decide_eq_false_iff_not]
  rintro (h | ⟨_, h⟩)
  · omega
  · exact List.lt_irrefl _ h
theorem plt_trans {p q r : Pr} (h1 : Xt.pairLt p q = true) (h2 : Xt.pairLt q r = true) : Xt.pairLt p r = true := by
  unfold Xt.pairLt at h1 h2 ⊢
  rw [decide_eq_true_eq] at h1 h2 ⊢
  rcases h1 with a | ⟨a, b⟩
  · rcases h2 with c | ⟨c, d⟩
    · exact .inl (by omega)
    · exact .inl (by omega)
  · rcases h2 with c | ⟨c, d⟩
    · exact .inl (by omega)
    · exact .inr ⟨by omega, List.lt_trans b d⟩
def spBO (K : PySem.W.Frag) (pB : Addr) : Sp := fun vs H Q _ => ∃ (L : Addr) (xs : List V) (ps : List Pr), vs = [.ref L] ∧ SqL K H L xs ∧ Lp (PrV H) xs ps ∧ ps.length ≤ 60 ∧ LamX.Tabs (Tb pB) H ∧
  ∀ v p H', LamX.ExtN H H' → LamX.Tabs (Tb pB) H' → PrV H' v p → (p = (0, []) ∨ p ∈ ps) → 0 ≤ p.1 → (∀ q ∈ ps, q.1 ≤ p.1) → Q v H'
theorem ok_bo {f : Addr} {fd : FuncData} {cB pB : Addr} (D : Df K mg "best_of" ["choices"] sBestOf f fd) (hcd : fd.code = .ref cB) (TB : LamX.TabB base mg cB pB) (T : Txt mg) : FnOk P w K mg base CX0 5 f fd ["choices"] (spBO K pB) := by
  refine ok_code D.fn hcd scBestOf (fun vs H Q E h => ?_) (fun A outer s H vs Q E hr h => ?_)
  · obtain ⟨L, xs, ps, rfl, eL, lp, l60, tb, q⟩ := h
    rfl
  · obtain ⟨L, xs, ps, rfl, eL, lp, l60, tb, q⟩ := h
    refine ⟨_, (pss_one (ps_ret (Xll.pe_minLamL (T := Tb pB) (Ky := KyP) (tb := tTup (tCons (tUn (rU fun i => .int (-i)) (tOp (rIxT K) (tVar 0) (tC (.int 0)))) (tCons (tOp (rIxT K) (tVar 0) (tC (.int 1))) tNil))) (k := 1) (pn := "known") (c := cB) (P := pB) (by rfl) T.min rfl (hr.mono (by omega)) (pe_lst (pa_cons (pe_tup (pa_cons pe_int (pa_cons (pe_tup pa_nil) pa_nil))) (Xvl.pa_starL (pv 0) pa_nil))) TB (by rfl) (List.mem_singleton.mpr rfl) (fun p hp _ => by rw [List.mem_singleton.mp hp]; rfl) (show Xln.Lam1 (defScope sBestOf) _ _ from ⟨rfl, rfl, rfl, rfl, by decide +kernel, by decide +kernel⟩) (show ("known" : Str) ∉ (["choices"] : List Str) from by decide +kernel) rfl (fun _ _ _ _ _ _ => rfl) (fun A s H f c hr => pe_tup (pa_cons (pe_un un_neg (pe_ix ix_tup (pv 0) pe_int (fun _ _ => rfl))) (pa_cons (pe_ix ix_tup (pv 0) pe_int (fun _ _ => rfl)) pa_nil))) ky_dz ky_keep))), ?_⟩
    have pl := lp.len
    refine ⟨(by show 0 ≤ sizeLine; decide), fun z nz => ⟨(by show 2 ≤ sizeLine; decide), fun z2 nz2 => ?_⟩⟩
    have s1 := same_upd nz (o := .tup [])
    have s2 := same_upd nz2 (o := .tup [.int 0, .ref z])
    have pz : PrV (L2.upd (L2.upd H z (.tup [])) z2 (.tup [.int 0, .ref z])) (.ref z2) (0, []) := ⟨z2, z, rfl, upd_same, s2 _ _ upd_same⟩
    have s12 := s1.trans s2
    generalize L2.upd (L2.upd H z (.tup [])) z2 (.tup [.int 0, .ref z]) = H1 at s12 pz ⊢
    refine ⟨_, rfl, L, xs, rfl, Xll.sqL_extN (LamX.ExtN.of s12) eL, ?_⟩
    refine ⟨Nat.le_trans (show _ ≤ 100 from ?_) (by decide), fun M nM => ?_⟩
    · rw [List.length_cons, List.length_append]
      show xs.length + 0 + 1 ≤ 100
      omega
    have s3 := same_upd nM (o := .lst (.ref z2 :: (xs ++ [])))
    have eM : (L2.upd H1 M (.lst (.ref z2 :: (xs ++ [])))) M = some (.lst (.ref z2 :: (xs ++ []))) := upd_same
    generalize L2.upd H1 M (.lst (.ref z2 :: (xs ++ []))) = H2 at s3 eM ⊢
    have s13 := s12.trans s3
    have all : ∀ v ∈ (V.ref z2 :: (xs ++ [])), ∃ p, PrV H2 v p ∧ (p = (0, []) ∨ p ∈ ps) := fun v hv => by
      rw [List.append_nil] at hv
      rcases List.mem_cons.mp hv with w | w
      · rw [w]; exact ⟨_, pz.tp (tp_same s3), .inl rfl⟩
      · obtain ⟨p, hp, r⟩ := lp.mem w
        exact ⟨p, r.tp (tp_same s13), .inr hp⟩
    refine ⟨M, _, kdP H2, rfl, SqL.of eM, (by simp), tb.ext s13, ?_, ?_, ?_, ?_, ?_, ?_⟩
    · intro v hv v' hv'
      obtain ⟨p, hp, _⟩ := all v hv
      obtain ⟨p', hp', _⟩ := all v' hv'
      rw [kdP_eq hp, kdP_eq hp']
      exact (Xt.alike_pairs (-p.1, p.2) (-p'.1, p'.2)).1 _ (by simp) _ (by simp)
    · intro v hv
      obtain ⟨p, hp, _⟩ := all v hv
      rw [kdP_eq hp]
      refine ⟨(Xt.alike_pairs (-p.1, p.2) (-p.1, p.2)).2 _ (by simp), ?_⟩
      simp [Xt.pairD, PyData.depth, PyData.depthAll, Xt.depth_ints]
    · intro v hv
      obtain ⟨p, hp, _⟩ := all v hv
      rw [kdP_eq hp, Xt.lt_pairs]
      exact plt_irr _
    · intro a ha b hb c hc
      obtain ⟨p, hp, _⟩ := all a ha
      obtain ⟨p', hp', _⟩ := all b hb
      obtain ⟨p'', hp'', _⟩ := all c hc
      rw [kdP_eq hp, kdP_eq hp', kdP_eq hp'', Xt.lt_pairs, Xt.lt_pairs, Xt.lt_pairs]
      exact plt_trans
    · intro H3 x3 t3 v hv
      obtain ⟨p, hp, _⟩ := all v hv
      obtain ⟨t, u, rfl, e1, e2⟩ := id hp
      refine ⟨_, rfl, t, _, 0, .int p.1, rfl, rfl, SqT.of (exT x3 e1), rfl, _, rfl, ?_⟩
      refine ⟨_, rfl, t, _, 1, .ref u, rfl, rfl, SqT.of (exT x3 e1), rfl, (by show 2 ≤ sizeLine; decide), fun q2 nq => ?_⟩
      have sq := same_upd nq (o := .tup [.int (-p.1), .ref u])
      exact ⟨LamX.ExtN.of sq, t3.ext sq, (-p.1, p.2), ⟨q2, u, rfl, upd_same, sq _ _ (exT x3 e2)⟩, kdP_eq hp⟩
    · intro v hv hmin H3 x3 t3
      obtain ⟨p, hp, cp⟩ := all v hv
      have le : ∀ v' ∈ (V.ref z2 :: (xs ++ [])), ∀ p', PrV H2 v' p' → p'.1 ≤ p.1 := fun v' hv' p' hp' => by
        have h := hmin v' hv'
        rw [kdP_eq hp, kdP_eq hp', Xt.lt_pairs] at h
        unfold Xt.pairLt at h
        rw [decide_eq_false_iff_not] at h
        by_cases c : p'.1 ≤ p.1
        · exact c
        · exact absurd (.inl (show -p'.1 < -p.1 by omega)) h
      refine q v p H3 ((LamX.ExtN.of s13).trans x3) t3 (hp.tp (exTp x3)) cp (le _ List.mem_cons_self _ (pz.tp (tp_same s3))) fun p' hp' => ?_
      obtain ⟨i, hi⟩ := List.getElem?_of_mem hp'
      obtain ⟨v', ev, r⟩ := lp.at_ hi
      exact le v' (List.mem_cons_of_mem _ (by rw [List.append_nil]; exact List.mem_of_getElem? ev)) p' (r.tp (tp_same s13))
end
end K82
set_option Elab.async false
set_option linter.all false
set_option maxRecDepth 100000
set_option maxHeartbeats 4000000
set_option pp.maxSteps 400
set_option pp.deepTerms false
namespace K82
open PySem PySem.Spec PyProof.Rows L2
open Xk Az W37
section
variable {P : Program} {w : World} {K : PySem.W.Frag} {mg : Str → Option Value} {base : Heap}
abbrev toI (is : List Nat) : List Int := is.map fun n : Nat => (n : Int)
/-- a dict with the best of the choices that begin at k or behind -/
structure BestD (H : Hp) (S : Spl) (k : Nat) (kvs : List (Key × V)) : Prop where
  len : kvs.length ≤ S.length - k
  val : ∀ kv ∈ kvs, ∃ j : Nat, k ≤ j ∧ kv.1 = .inl (j : Int) ∧ ∃ m is, Best S j m is ∧ PrV H kv.2 (m, toI is)
  all : ∀ j s, k ≤ j → S[j]? = some (some s) → ∃ kv ∈ kvs, kv.1 = .inl (j : Int)
theorem BestD.tp {H H' : Hp} {S : Spl} {k : Nat} {kvs : List (Key × V)} (b : BestD H S k kvs) (s : Tp H H') : BestD H' S k kvs :=
  ⟨b.len, fun kv h => by
    obtain ⟨j, a, c, m, is, d, p⟩ := b.val kv h
    exact ⟨j, a, c, m, is, d, p.tp s⟩, b.all⟩
theorem valV_mem {kvs : List (Key × V)} {k : Key} {v : V} (h : valV kvs k = some v) : (k, v) ∈ kvs := by
  unfold valV at h
  obtain ⟨kv, e, rfl⟩ := Option.map_eq_some_iff.mp h
  have p := List.find?_some e
  have p : kv.1 = k := of_decide_eq_true p
  rw [← p]
  exact List.mem_of_find?_eq_some e
theorem valV_has {kvs : List (Key × V)} {kv : Key × V} (h : kv ∈ kvs) : ∃ v, valV kvs kv.1 = some v := by
  cases e : valV kvs kv.1 with
  | some v => exact ⟨v, rfl⟩
  | none =>
    unfold valV at e
    rw [Option.map_eq_none_iff, List.find?_eq_none] at e
    have := e kv h
    simp at this
theorem inl_inj {a b : Nat} (h : (Sum.inl (a : Int) : Key) = .inl (b : Int)) : a = b := by
  injection h with h
  omega
theorem Pk.len {S : Spl} : ∀ {k : Nat} {is : List Nat} {l : List S2}, Pk S k is l → is.length = l.length
  | _, _, _, .nil _ => rfl
  | _, _, _, .cons _ _ r => congrArg Nat.succ r.len
theorem Best.at_ {S : Spl} {j : Nat} {m : Int} {is : List Nat} (b : Best S j m is) : ∃ s, S[j]? = some (some s) := by
  obtain ⟨l, p, _, _⟩ := b.ex
  obtain ⟨r, rfl⟩ := b.hd
  cases p with
  | cons h e q => exact ⟨_, e⟩
theorem Best.uniq {S : Spl} {j : Nat} {m m' : Int} {is is' : List Nat} (a : Best S j m is) (b : Best S j m' is') : m = m' := by
  obtain ⟨l, p, c, e⟩ := a.ex
  obtain ⟨r, rfl⟩ := a.hd
  obtain ⟨l', p', c', e'⟩ := b.ex
  obtain ⟨r', rfl⟩ := b.hd
  have x := a.top _ _ p' c'
  have y := b.top _ _ p c
  omega
theorem tabs_dk {T : List (Addr × Str)} {H : Hp} {D : Addr} {us : List (Key × V)} {o : HO} (t : LamX.Tabs T H) (e : H D = some (.dK us)) : LamX.Tabs T (upd H D o) := fun p hp => by
  obtain ⟨ps, h1, h2, h3⟩ := t p hp
  refine ⟨ps, by rw [upd_ne (ne_of h1 e (by intro z; cases z))]; exact h1, h2, fun pos cv hc => ?_⟩
  obtain ⟨c, e1, e2⟩ := h3 pos cv hc
  exact ⟨c, e1, by rw [upd_ne (ne_of e2 e (by intro z; unfold LamX.CodeO at z; cases z))]; exact e2⟩
theorem tabs_fz {T : List (Addr × Str)} {H : Hp} {D : Addr} {od : Obj} {u : HO} {o : HO} (t : LamX.Tabs T H) (e : H D = some (.frz od u)) : LamX.Tabs T (upd H D o) := fun p hp => by
  obtain ⟨ps, h1, h2, h3⟩ := t p hp
  refine ⟨ps, by rw [upd_ne (ne_of h1 e (by intro z; cases z))]; exact h1, h2, fun pos cv hc => ?_⟩
  obtain ⟨c, e1, e2⟩ := h3 pos cv hc
  exact ⟨c, e1, by rw [upd_ne (ne_of e2 e (by intro z; unfold LamX.CodeO at z; cases z))]; exact e2⟩
def spBB (K : PySem.W.Frag) (pB : Addr) : Sp := fun vs H Q _ => ∃ (L : Addr) (xs : List V) (S : Spl), vs = [.ref L] ∧ SqL K H L xs ∧ Lp (SpV H) xs S ∧ S.length ≤ 30 ∧ Pos S ∧ LamX.Tabs (Tb pB) H ∧
  ∀ (D : Addr) kvs H', LamX.ExtN H H' → LamX.Tabs (Tb pB) H' → H' D = some (.dK kvs) → BestD H' S 0 kvs → Q (.ref D) H'
theorem ok_bb {f : Addr} {fd : FuncData} {pB : Addr} (D : Df K mg "best_by_first" ["spans"] sBestByFirst f fd) (T : Txt mg) (cBO : Ca P w K mg base 5 "best_of" ["choices"] (spBO K pB)) (cLW : Ca P w K mg base 1 "leaves_within" ["span"] spLW) (cAh : Ca P w K mg base 1 "is_ahead" ["one", "other"] spAh) : FnOk P w K mg base CX0 6 f fd ["spans"] (spBB K pB) := by
  refine D.fn.ok scBestByFirst (fun vs H Q E h => ?_) (fun cdv A outer s H vs Q E hr h => ?_)
  · obtain ⟨L, xs, S, rfl, eL, lp, l30, ps, tb, q⟩ := h
    rfl
  · obtain ⟨L, xs, S, rfl, eL, lp, l30, ps, tb, q⟩ := h
    refine ⟨_, (pss_cons (ps_set (i := 1) scBestByFirst.nd rfl (.inr rfl) pe_dnewK)
      (pss_cons (ps_for PassesOwn.never rfl (pi_revR (by rfl) T.reversed (prg_1 (by rfl) T.range (pe_callB call_len_seq (by rfl) T.len PySem.boot_len (pa_cons (pv 0) pa_nil)))) (pg_name (i := 2) scBestByFirst.nd rfl (.inl rfl)) (pss_cons (ps_set (i := 3) scBestByFirst.nd rfl (.inr rfl) (pe_ix ix_list (pv 0) (pv 2) (fun _ _ => rfl)))
      (pss_one (ps_if (pt_cmpR op_notN (pv 3) pe_non (nomark _)) (pss_cons (ps_asg (pe_ca cBO hr (by decide) (by rfl) (pa_cons (pe_lock (pe_lc (own := [("later", 6)]) (g := gName 6) (tt := tTest (tCall spAh [] E0 (tCons (tVar 3) (tCons (tOp (rIxL K) (tVar 0) (tVar 6)) tNil)))) (te := tDGet (tVar 1) (tVar 6)) (by rfl) scBestByFirst.nd (pi_keys (pv 1)) (blkOk_by (own := [("later", 6)]) (N := ["spans", "best", "number", "span", "many", "rest", "later"]) (sc := defScope sBestByFirst) (by decide +kernel)) (fun _ _ _ _ _ => pg_name (i := 6) scBestByFirst.nd rfl (.inl rfl)) (fun _ _ _ _ _ => (pts_one (pt_val (pe_ca cAh hr (by decide) (by rfl) (pa_cons (pv 3) (pa_cons (pe_ix ix_list (pv 0) (pv 6) (fun _ _ => rfl)) pa_nil)))))) (fun _ _ _ _ _ => pe_dget (hu_of hr) (pv 1) (pv 6) (fun _ _ => rfl)))) pa_nil)) (pg_tup (by rfl) (pgs_cons (pg_name (i := 4) scBestByFirst.nd rfl (.inl rfl)) (pgs_cons (pg_name (i := 5) scBestByFirst.nd rfl (.inl rfl)) pgs_nil))))
      (pss_one (ps_dput (hu_of hr) (pv 1) (pv 2) (pe_tup (pa_cons (pe_op op_add (pe_ca cLW hr (by decide) (by rfl) (pa_cons (pv 3) pa_nil)) (pv 4)) (pa_cons (pe_tup (pa_cons (pv 2) (Xt.pa_star (pv 5) pa_nil))) pa_nil))) rfl))) pss_nil))))
      (pss_one (ps_ret (pv 1))))), ?_⟩
    have xl := lp.len
    refine fun D nD' => ?_
    have sD := same_upd nD' (o := .dK [])
    have eD : (L2.upd H D (.dK [])) D = some (.dK []) := upd_same
    generalize L2.upd H D (.dK []) = H0 at sD eD ⊢
    refine ⟨_, rfl, L, xs, rfl, .inl (Xll.sqL_extN (LamX.ExtN.of sD) eL), _, rfl, by omega, by omega, by omega, by omega, ?_⟩
    have en : ((xs.length : Nat) : Int) - 0 = ((S.length : Nat) : Int) := by omega
    rw [en, Int.toNat_natCast]
    refine for_it (walk_rangeC (lo := 0 + ((S.length : Nat) : Int) - 1) (c := -1) (n := S.length)) (fun i σ Hx => ∃ (kvs : List (Key × V)) (c2 c3 c4 c5 c6 : Option V), σ = [some (.ref L), some (.ref D), c2, c3, c4, c5, c6] ∧ Hx D = some (.dK kvs) ∧ LamX.ExtN H Hx ∧ LamX.Tabs (Tb pB) Hx ∧ BestD Hx S (S.length - i) kvs)
      ⟨[], none, none, none, none, none, rfl, eD, LamX.ExtN.of sD, tb.ext sD, ⟨Nat.zero_le _, fun kv h => (by cases h), fun j s h e => by have := (List.getElem?_eq_some_iff.mp e).1; omega⟩⟩ (fun _ _ _ _ _ => trivial) ?_ ?_
    · rintro i x σ Hx0 Hx il ⟨kvs, c2, c3, c4, c5, c6, rfl, eDx, xx, tx, bd⟩ ⟨rfl, ex⟩
      obtain ⟨j, hj⟩ : ∃ j : Nat, j + i + 1 = S.length := ⟨S.length - 1 - i, by omega⟩
      have ej : 0 + ((S.length : Nat) : Int) - 1 + (i : Nat) * -1 = ((j : Nat) : Int) := by omega
      have kj : S.length - i = j + 1 := by omega
      have kj2 : S.length - (i + 1) = j := by omega
      rw [kj] at bd
      rw [kj2]
      have ex : x = .int (j : Int) := by rw [ex]; show V.int (0 + ((S.length : Nat) : Int) - 1 + (i : Nat) * -1) = _; rw [ej]
      subst ex
      have jl : j < S.length := by omega
      obtain ⟨vj, evj, spj⟩ := lp.at_ (List.getElem?_eq_getElem jl)
      have spx := spj.tp (exTp xx)
      have eLx := Xll.sqL_extN xx eL
      refine ⟨_, rfl, _, rfl, L, xs, (j : Int), vj, rfl, rfl, eLx, atI_nat evj, ?_⟩
      cases eo : S[j] with
      | none =>
        rw [eo] at spx
        obtain rfl : vj = .non := spx
        refine ⟨_, rfl, rfl, _, rfl, iteF ⟨kvs, _, _, _, _, _, rfl, eDx, xx, tx, ⟨by have := bd.len; omega, fun kv h => ?_, fun j' s h e => ?_⟩⟩⟩
        · obtain ⟨j', a, r⟩ := bd.val kv h
          exact ⟨j', by omega, r⟩
        · by_cases c : j' = j
          · subst c
            rw [List.getElem?_eq_getElem jl, eo] at e
            cases e
          · exact bd.all j' s (by omega) e
      | some s =>
        rw [eo] at spx
        obtain ⟨u, rfl, eu⟩ := spx
        have es : S[j]? = some (some s) := by rw [List.getElem?_eq_getElem jl, eo]
        refine ⟨_, rfl, rfl, _, rfl, iteT ?_⟩
        refine ⟨D, .dK kvs, eDx, trivial, fun od => ?_⟩
        have Df : (L2.upd Hx D (.frz od (.dK kvs))) D = some (.frz od (.dK kvs)) := upd_same
        have tpf : Tp Hx (L2.upd Hx D (.frz od (.dK kvs))) := tp_upd fun us z => by rw [eDx] at z; cases z
        refine ⟨_, rfl, D, od, rfl, .inl ⟨kvs, Df, fun Z nZ => ?_⟩⟩
        have HD : H D = none := nD'
        have ZD : Z ≠ D := fun z => by rw [z, Df] at nZ; cases nZ
        generalize ehf : L2.upd Hx D (.frz od (.dK kvs)) = Hf at Df tpf nZ ⊢
        have lpf : Lp (SpV Hf) xs S := lp.map fun v a h => (h.tp (exTp xx)).tp tpf
        have eLf : SqL K Hf L xs := by
          rcases eLx with (e | ⟨o, e⟩) | e
          · refine .inl (.inl ?_)
            rw [← ehf, upd_ne (ne_of e eDx (by intro z; cases z))]
            exact e
          · refine .inl (.inr ⟨o, ?_⟩)
            rw [← ehf, upd_ne (ne_of e eDx (by intro z; cases z))]
            exact e
          · exact .inr e
        have sZ := same_upd nZ (o := .lst [])
        refine lc_it (walk_keys (d := D) (o := od) (kvs := kvs)) (fun i Hi => L2.Same Hf Hi ∧ ∃ (ys : List V) (ps : List Pr), Hi Z = some (.lst ys) ∧ Lp (PrV Hi) ys ps ∧ ps.length ≤ i ∧ (∀ p ∈ ps, ∃ (jj : Nat) (s' : S2) (is : List Nat), j < jj ∧ S[jj]? = some (some s') ∧ Ah s s' ∧ Best S jj p.1 is ∧ p.2 = toI is) ∧
          ∀ kv ∈ kvs.take i, ∀ (jj : Nat) (s' : S2), kv.1 = .inl (jj : Int) → S[jj]? = some (some s') → Ah s s' → ∃ p ∈ ps, ∃ is, Best S jj p.1 is) ⟨sZ, [], [], upd_same, .nil, Nat.le_refl _, (fun p h => by cases h), fun kv h => (by cases h)⟩ (fun i Hi _ z => z.1 _ _ Df) ?_ ?_
        · rintro i' x Hi0 Hi il' ⟨sm, ys, ps', eZ, lpi, pl, p1, p2⟩ ⟨rfl, k, v, ek, rfl⟩
          have mk := List.mem_of_getElem? ek
          obtain ⟨jj, jle, ekj, m, is, bst, pv2⟩ := bd.val _ mk
          have ekj : k = .inl (jj : Int) := ekj
          subst ekj
          obtain ⟨s', es'⟩ := bst.at_
          obtain ⟨v2, ev2, u2, rfl, eu2⟩ := lpf.at_ es'
          refine ⟨rfl, ?_⟩
          refine ⟨_, rfl, _, rfl, _, rfl, L, xs, (jj : Int), .ref u2, rfl, rfl, Xll.sqL_extN (LamX.ExtN.of sm) eLf, atI_nat ev2, u, u2, s, s', rfl, sm _ _ (tpf _ _ eu), sm _ _ eu2, _, rfl, ?_⟩
          have p2n : ∀ (ps2 : List Pr), (∀ p ∈ ps', p ∈ ps2) → (Ah s s' → ∃ p ∈ ps2, ∃ is, Best S jj p.1 is) → ∀ kv ∈ kvs.take (i' + 1), ∀ (jj : Nat) (s' : S2), kv.1 = .inl (jj : Int) → S[jj]? = some (some s') → Ah s s' → ∃ p ∈ ps2, ∃ is, Best S jj p.1 is := fun ps2 sub hn kv hk jj2 s2 e1 e2 a2 => by
            rw [List.take_add_one, ek] at hk
            rcases List.mem_append.mp hk with z | z
            · obtain ⟨p, hp, r⟩ := p2 kv z jj2 s2 e1 e2 a2
              exact ⟨p, sub p hp, r⟩
            · have z : kv = (.inl (jj : Int), v) := List.mem_singleton.mp z
              rw [z] at e1
              have e1 := inl_inj e1
              subst e1
              rw [es'] at e2
              cases e2
              exact hn a2
          by_cases c : s.2 ≤ s'.1
          · rw [decide_eq_true c]
            obtain ⟨v3, hv⟩ := valV_has mk
            have hv : valV kvs (.inl (jj : Int)) = some v3 := hv
            obtain ⟨j3, j3l, e3, m3, is3, bst3, pv3⟩ := bd.val _ (valV_mem hv)
            have e3 := inl_inj e3
            subst e3
            refine iteT ⟨_, rfl, _, rfl, D, v3, rfl, .inl ⟨kvs, .inl (jj : Int), .inr ⟨od, sm _ _ Df⟩, rfl, hv.symm⟩, ys, eZ, ?_, ?_⟩
            · have := lpi.len
              have := bd.len
              exact Nat.lt_of_le_of_lt (show ys.length ≤ 100 by omega) (by decide)
            have up : Tp Hi (L2.upd Hi Z (.lst (ys ++ [v3]))) := tp_upd fun us z => by rw [eZ] at z; cases z
            refine ⟨fun b o e => ?_, ys ++ [v3], ps' ++ [(m3, toI is3)], upd_same, ?_, ?_, ?_, p2n _ (fun p hp => List.mem_append_left _ hp) fun _ => ⟨_, List.mem_append_right _ (List.mem_singleton.mpr rfl), is3, bst3⟩⟩
            · rw [upd_ne (ne_of_none e nZ)]
              exact sm _ _ e
            · exact (lpi.map fun v a h => h.tp up).snoc (((pv3.tp tpf).tp (tp_same sm)).tp up)
            · rw [List.length_append]
              show ps'.length + 1 ≤ i' + 1
              omega
            · intro p hp
              rcases List.mem_append.mp hp with z | z
              · exact p1 p z
              · rw [List.mem_singleton.mp z]
                exact ⟨jj, s', is3, by omega, es', c, bst3, rfl⟩
          · rw [decide_eq_false c]
            exact iteF ⟨sm, ys, ps', eZ, lpi, by omega, p1, p2n ps' (fun p hp => hp) fun a => absurd a c⟩
        · rintro He ⟨sm, ys, ps', eZ, lpi, pl, p1, p2⟩
          rw [List.take_length] at p2
          have De := sm _ _ Df
          refine ⟨De, ?_⟩
          have tp2 : Tp He (L2.upd He D (.dK kvs)) := tp_upd fun us z => by rw [De] at z; cases z
          have eZ2 : (L2.upd He D (.dK kvs)) Z = some (.lst ys) := by rw [upd_ne ZD]; exact eZ
          have eD2 : (L2.upd He D (.dK kvs)) D = some (.dK kvs) := upd_same
          have xx2 : LamX.ExtN H (L2.upd He D (.dK kvs)) := fun b o e nt => by
            have hb : b ≠ D := ne_of_none e HD
            rw [upd_ne hb]
            refine sm _ _ ?_
            rw [← ehf, upd_ne hb]
            exact xx _ _ e nt
          have t2 : LamX.Tabs (Tb pB) (L2.upd He D (.dK kvs)) := tabs_fz ((by rw [← ehf]; exact tabs_dk tx eDx : LamX.Tabs (Tb pB) Hf).ext sm) De
          have tpx : Tp Hx (L2.upd He D (.dK kvs)) := (tpf.trans (tp_same sm)).trans tp2
          generalize L2.upd He D (.dK kvs) = H2 at tp2 eZ2 eD2 xx2 t2 tpx ⊢
          refine ⟨Z, ys, ps', rfl, SqL.of eZ2, lpi.map (fun v a h => h.tp tp2), by have := bd.len; omega, t2, fun v p H3 x3 t3 pv cp p0 pt => ?_⟩
          obtain ⟨t, u3, rfl, et, eu3⟩ := id pv
          refine ⟨t, _, rfl, SqT.of et, rfl, _, _, rfl, _, _, rfl, rfl, ?_⟩
          have eu3' : H3 u = some (.tup [.int s.1, .int s.2]) := exT x3 (tpx _ _ eu)
          refine ⟨_, rfl, u, s, rfl, eu3', _, rfl, _, _, rfl, rfl, _, rfl, _, rfl, u3, _, rfl, SqT.of eu3, ?_⟩
          -- how long it is
          have plen : p.2.length ≤ 1000 := by
            rcases cp with z | z
            · rw [z]; exact Nat.zero_le _
            · obtain ⟨jj, s', is, _, _, _, b, e⟩ := p1 p z
              obtain ⟨l, pk, _, _⟩ := b.ex
              have := pk.sub.length_le
              have h2 : (told (S.drop jj)).length ≤ S.length := Nat.le_trans (List.length_filterMap_le _ _) (by rw [List.length_drop]; omega)
              have h3 := pk.len
              rw [e, List.length_map]
              omega
          refine ⟨Nat.le_trans (show _ ≤ 2000 from ?_) (by decide), fun a na => ⟨(by show 2 ≤ sizeLine; decide), fun b nb => ?_⟩⟩
          · rw [List.length_cons, List.length_append, List.length_map]
            show p.2.length + 0 + 1 ≤ 2000
            omega
          have sa := same_upd na (o := .tup (.int (j : Int) :: (p.2.map V.int ++ [])))
          have sb := same_upd nb (o := .tup [.int ((s.2 - s.1) + p.1), .ref a])
          have pvb : PrV (L2.upd (L2.upd H3 a (.tup (.int (j : Int) :: (p.2.map V.int ++ [])))) b (.tup [.int ((s.2 - s.1) + p.1), .ref a])) (.ref b) ((s.2 - s.1) + p.1, (j : Int) :: p.2) := by
            refine ⟨b, a, rfl, upd_same, sb _ _ ?_⟩
            rw [upd_same, List.append_nil]
            rfl
          have sab := sa.trans sb
          generalize L2.upd (L2.upd H3 a (.tup (.int (j : Int) :: (p.2.map V.int ++ [])))) b (.tup [.int ((s.2 - s.1) + p.1), .ref a]) = H4 at pvb sab ⊢
          have eD4 : H4 D = some (.dK kvs) := sab _ _ (exD x3 eD2)
          have no : valV kvs (.inl (j : Int)) = none := by
            cases e : valV kvs (.inl (j : Int)) with
            | none => rfl
            | some v9 =>
              obtain ⟨j9, a9, e9, _⟩ := bd.val _ (valV_mem e)
              have := inl_inj e9
              omega
          have bl := bd.len
          refine ⟨_, rfl, _, rfl, D, _, rfl, DPut.k (k := .inl (j : Int)) eD4 (Nat.lt_of_le_of_lt (show kvs.length ≤ 100 by omega) (by decide)), ?_⟩
          rw [putK_new _ no]
          have tp5 : Tp H4 (L2.upd H4 D (.dK (kvs ++ [(.inl (j : Int), .ref b)]))) := tp_upd fun us z => by rw [eD4] at z; cases z
          have bst : ∃ is, Best S j ((s.2 - s.1) + p.1) (j :: is) ∧ p.2 = toI is := by
            have h2 : ∀ i s' m' is', j < i → S[i]? = some (some s') → Ah s s' → Best S i m' is' → m' ≤ p.1 := fun i s' m' is' ji e a b => by
              obtain ⟨kv, hk, ek⟩ := bd.all i s' (by omega) e
              obtain ⟨p', hp', is2, b2⟩ := p2 kv hk i s' ek e a
              have := b.uniq b2
              have := pt p' hp'
              omega
            have h3 : ∀ i s', j < i → S[i]? = some (some s') → ∃ m' is', Best S i m' is' := fun i s' ji e => by
              obtain ⟨kv, hk, ek⟩ := bd.all i s' (by omega) e
              obtain ⟨j9, _, e9, m9, is9, b9, _⟩ := bd.val kv hk
              rw [ek] at e9
              have := inl_inj e9
              subst this
              exact ⟨m9, is9, b9⟩
            rcases cp with z | z
            · exact ⟨[], best_step ps es p0 (.inl ⟨by rw [z], rfl⟩) h2 h3, by rw [z]; rfl⟩
            · obtain ⟨jj, s', is, h1, e1, a1, b1, e⟩ := p1 p z
              exact ⟨is, best_step ps es p0 (.inr ⟨jj, s', h1, e1, a1, b1⟩) h2 h3, e⟩
          obtain ⟨is9, bst9, ep2⟩ := bst
          refine ⟨kvs ++ [(.inl (j : Int), .ref b)], _, _, _, _, _, rfl, upd_same, ?_, tabs_dk (t3.ext sab) eD4, ⟨?_, fun kv hk => ?_, fun j2 s2 h2 e2 => ?_⟩⟩
          · intro b2 o e nt
            rw [upd_ne (ne_of_none e HD)]
            exact sab _ _ (x3 _ _ (xx2 _ _ e nt) nt)
          · rw [List.length_append]
            show kvs.length + 1 ≤ _
            omega
          · rcases List.mem_append.mp hk with z | z
            · obtain ⟨j2, h1, e1, m, is, b1, pv1⟩ := bd.val kv z
              exact ⟨j2, by omega, e1, m, is, b1, (((pv1.tp tpx).tp (exTp x3)).tp (tp_same sab)).tp tp5⟩
            · rw [List.mem_singleton.mp z]
              refine ⟨j, Nat.le_refl _, rfl, _, _, bst9, ?_⟩
              rw [ep2] at pvb
              exact pvb.tp tp5
          · by_cases c : j2 = j
            · exact ⟨_, List.mem_append_right _ (List.mem_singleton.mpr rfl), by rw [c]⟩
            · obtain ⟨kv, hk, ek⟩ := bd.all j2 s2 (by omega) e2
              exact ⟨kv, List.mem_append_left _ hk, ek⟩
    · rintro σ Hx ⟨kvs, c2, c3, c4, c5, c6, rfl, eDx, xx, tx, bd⟩
      refine ⟨_, rfl, q D kvs Hx xx tx eDx ?_⟩
      rw [Nat.sub_self] at bd
      exact bd
end
end K82
set_option Elab.async false
set_option linter.all false
set_option maxRecDepth 100000
set_option maxHeartbeats 4000000
set_option pp.maxSteps 400
set_option pp.deepTerms false
namespace K82
open PySem PySem.Spec PyProof.Rows L2
open Xk Az W37
section
variable {P : Program} {w : World} {K : PySem.W.Frag} {mg : Str → Option Value} {base : Heap}
theorem pairs_of {H : Hp} {S : Spl} {k : Nat} : ∀ {kvs : List (Key × V)}, (∀ kv ∈ kvs, ∃ j : Nat, k ≤ j ∧ kv.1 = .inl (j : Int) ∧ ∃ m is, Best S j m is ∧ PrV H kv.2 (m, toI is)) →
    ∃ ps : List Pr, Lp (PrV H) (kvs.map (·.2)) ps ∧ ps.length = kvs.length ∧ (∀ p ∈ ps, ∃ j is, Best S j p.1 is ∧ p.2 = toI is) ∧ ∀ kv ∈ kvs, ∀ j : Nat, kv.1 = .inl (j : Int) → ∃ p ∈ ps, ∃ is, Best S j p.1 is
  | [], _ => ⟨[], .nil, rfl, (fun p h => by cases h), fun kv h => (by cases h)⟩
  | kv :: r, h => by
    obtain ⟨ps, a, b, c, d⟩ := pairs_of (kvs := r) fun q hq => h q (List.mem_cons_of_mem _ hq)
    obtain ⟨j, _, e, m, is, bst, pv⟩ := h kv List.mem_cons_self
    refine ⟨(m, toI is) :: ps, .cons pv a, by rw [List.length_cons, List.length_cons, b], fun p hp => ?_, fun q hq j2 e2 => ?_⟩
    · rcases List.mem_cons.mp hp with z | z
      · rw [z]; exact ⟨j, is, bst, rfl⟩
      · exact c p z
    · rcases List.mem_cons.mp hq with z | z
      · rw [z, e] at e2
        have := inl_inj e2
        subst this
        exact ⟨_, List.mem_cons_self, is, bst⟩
      · obtain ⟨p, hp, x⟩ := d q z j2 e2
        exact ⟨p, List.mem_cons_of_mem _ hp, x⟩
theorem Pk.get {S : Spl} : ∀ {k : Nat} {is : List Nat} {l : List S2}, Pk S k is l → ∀ {i n : Nat}, is[i]? = some n → ∃ s, l[i]? = some s ∧ S[n]? = some (some s)
  | _, _, _, .nil _, i, n, e => by simp at e
  | _, _, _, .cons h e r, 0, n, e2 => by
    rw [List.getElem?_cons_zero] at e2
    cases e2
    exact ⟨_, rfl, e⟩
  | _, _, _, .cons h e r, i + 1, n, e2 => by
    rw [List.getElem?_cons_succ] at e2
    obtain ⟨s, a, b⟩ := r.get e2
    exact ⟨s, by rw [List.getElem?_cons_succ]; exact a, b⟩
def lkF (S2s : List S2) (n : Nat) : List Nat := (List.range n).filter fun x => !S2s.any fun s => decide (s.1 ≤ (x : Int)) && decide ((x : Int) < s.2)
def spMO (K : PySem.W.Frag) (pB : Addr) : Sp := fun vs H Q _ => ∃ (v : V) (T : Addr) (xs : List V) (w : W) (ts : List (Option Nm)), vs = [v, .ref T, .non] ∧ Wk H v w ∧ w.dp ≤ 5 ∧ w.nms.length ≤ 100 ∧ (∀ m ∈ w.nms, An m) ∧ SqT K H T xs ∧ Lp (TtV H) xs ts ∧ ts.length ≤ 30 ∧ (∀ m, some m ∈ ts → An m) ∧ LamX.Tabs (Tb pB) H ∧
  ∀ (t c k : Addr) (m : Int) (is : List Nat) (l : List S2) H', LamX.ExtN H H' → LamX.Tabs (Tb pB) H' → H' t = some (.tup [.int m, .ref c, .ref k]) → H' c = some (.tup ((toI is).map V.int)) → H' k = some (.tup ((toI (lkF l (lvs w).length)).map V.int)) → 0 ≤ m →
    Most (ts.map fun t => t.bind (spn w)) m → Pk (ts.map fun t => t.bind (spn w)) 0 is l → Ch l → vl l = m → Q (.ref t) H'
theorem pos_spn (w : W) (ts : List (Option Nm)) : Pos (ts.map fun t => t.bind (spn w)) := fun s h => by
  obtain ⟨o, _, e⟩ := List.mem_map.mp h
  cases o with
  | none => cases e
  | some m =>
    obtain ⟨a, b, _⟩ := spn_in (show spn w m = some s from e)
    exact ⟨a, b⟩
theorem ok_mo {f : Addr} {fd : FuncData} {pB : Addr} (F : FunD K "most_in_order" "most_in_order" (defArgs sMostInOrder) (defBody sMostInOrder) (defScope sMostInOrder) [.non] [] f fd) (T : Txt mg) (cSOs : Ca P w K mg base 8 "spans_of" ["work", "titles", "names"] (spSOs K)) (cBB : Ca P w K mg base 6 "best_by_first" ["spans"] (spBB K pB)) (cBO : Ca P w K mg base 5 "best_of" ["choices"] (spBO K pB)) (cLv : Ca P w K mg base 6 "leaves" ["work"] (spLv 5)) : FnOk P w K mg base CX0 9 f fd ["work", "titles", "names"] (spMO K pB) := by
  refine okN F scMostInOrder (fun vs H Q E h => ?_) (fun cdv A outer s H vs Q E hr h => ?_)
  · obtain ⟨v, T0, xs, w, ts, rfl, wk, hd, hl, an, eT, tl, l30, at_, tb, q⟩ := h
    rfl
  · obtain ⟨v, T0, xs, w, ts, rfl, wk, hd, hl, an, eT, tl, l30, at_, tb, q⟩ := h
    refine ⟨_, (pss_cons (ps_set (i := 3) scMostInOrder.nd rfl (.inr rfl) (pe_ca cSOs hr (by decide) (by rfl) (pa_cons (pv 0) (pa_cons (pv 1) (pa_cons (pv 2) pa_nil)))))
      (pss_cons (ps_asg (pe_ca cBO hr (by decide) (by rfl) (pa_cons (Xvl.pe_listVals (by rfl) (by rfl) T.list (pe_ca cBB hr (by decide) (by rfl) (pa_cons (pv 3) pa_nil))) pa_nil)) (pg_tup (by rfl) (pgs_cons (pg_name (i := 4) scMostInOrder.nd rfl (.inl rfl)) (pgs_cons (pg_name (i := 5) scMostInOrder.nd rfl (.inl rfl)) pgs_nil))))
      (pss_cons (ps_set (i := 6) scMostInOrder.nd rfl (.inr rfl) (pe_lc (own := [("number", 8)]) (g := gName 8) (tt := tYes) (te := tOp (rIxL K) (tVar 3) (tVar 8)) (by rfl) scMostInOrder.nd (pi_tup (pv 5)) (blkOk_by (own := [("number", 8)]) (N := ["work", "titles", "names", "spans", "many", "choice", "chosen", "lacks", "number", "leaf", "low", "high"]) (sc := defScope sMostInOrder) (by decide +kernel)) (fun _ _ _ _ _ => pg_name (i := 8) scMostInOrder.nd rfl (.inl rfl)) (fun _ _ _ _ _ => pts_nil) (fun _ _ _ _ _ => pe_ix ix_list (pv 3) (pv 8) (fun _ _ => rfl))))
      (pss_cons (ps_setLc (i := 7) (own := [("leaf", 9)]) (g := gName 9) (tt := tNot (tTest (tCB (rAny K) (tCons (tLc (iList K (tVar 6)) (gTup K 2 (gCons (gName 10) (gCons (gName 11) gNil))) tYes (tChain (rI0 fun i j => V.bl (decide (i ≤ j))) (rI0 fun i j => V.bl (decide (i < j))) (tVar 10) (tVar 9) (tVar 11)) [10, 11]) tNil)))) (te := tVar 9) (by rfl) scMostInOrder.nd rfl rfl (sw_true rfl rfl rfl (by decide +kernel)) (pi_range1 (by rfl) T.range (pa_cons (pe_callB call_len_seq (by rfl) T.len PySem.boot_len (pa_cons (pe_ca cLv hr (by decide) (by rfl) (pa_cons (pv 0) pa_nil)) pa_nil)) pa_nil)) (blkOk_by (own := [("leaf", 9)]) (N := ["work", "titles", "names", "spans", "many", "choice", "chosen", "lacks", "number", "leaf", "low", "high"]) (sc := defScope sMostInOrder) (by decide +kernel)) (fun _ _ _ _ _ => pg_name (i := 9) scMostInOrder.nd rfl (.inr rfl)) (fun _ _ _ _ _ => (pts_one (pt_not (pt_val (pe_callB (cr_any (by rfl)) (by rfl) T.any (by decide +kernel) (pa_cons (pe_lc (own := [("low", 10), ("high", 11)]) (g := (gTup K 2 (gCons (gName 10) (gCons (gName 11) gNil)))) (tt := tYes) (by rfl) scMostInOrder.nd (pi_list (pv 6)) (blkOk_by (own := [("low", 10), ("high", 11)]) (N := ["work", "titles", "names", "spans", "many", "choice", "chosen", "lacks", "number", "leaf", "low", "high"]) (sc := relS ⟨.function, [(".0", .local), ("leaf", .cell), ("any", .globalImplicit), ("chosen", .free)], false, false, []⟩ (defScope sMostInOrder)) (by decide +kernel)) (fun _ _ _ _ _ => pg_tup (by rfl) (pgs_cons (pg_name (i := 10) scMostInOrder.nd rfl (.inl rfl)) (pgs_cons (pg_name (i := 11) scMostInOrder.nd rfl (.inl rfl)) pgs_nil))) (fun _ _ _ _ _ => pts_nil) (fun _ _ _ _ _ => pe_chain op_le op_lt (pv 10) (pv 9) (pv 11))) pa_nil)))))) (fun _ _ _ _ _ => pv 9))
      (pss_one (ps_ret (pe_tup (pa_cons (pv 4) (pa_cons (pv 5) (pa_cons (pe_callTy call_tuple_of (by rfl) T.tuple (by decide +kernel) (pa_cons (pv 7) pa_nil)) pa_nil)))))))))), ?_⟩
    have hnn := nl_nms w
    have hnp := nl_pos w
    refine ⟨_, rfl, _, rfl, _, rfl, v, T0, xs, w, ts, rfl, wk, hd, hl, an, eT, tl, l30, at_, fun L ys H1 s1 nL eL lp => ?_⟩
    have sl : (ts.map fun t => t.bind (spn w)).length ≤ 30 := by rw [List.length_map]; exact l30
    have ps := pos_spn w ts
    generalize (ts.map fun t => t.bind (spn w)) = S at lp sl ps q ⊢
    refine ⟨_, rfl, L, ys, S, rfl, SqL.of eL, lp, sl, ps, tb.ext s1, fun D kvs H2 x2 t2 eD bd => ?_⟩
    refine ⟨D, kvs, rfl, eD, fun M nM neM => ?_⟩
    have sM := same_upd nM (o := .lst (kvs.map (·.2)))
    have eM : (L2.upd H2 M (.lst (kvs.map (·.2)))) M = some (.lst (kvs.map (·.2))) := upd_same
    generalize L2.upd H2 M (.lst (kvs.map (·.2))) = H3 at sM eM ⊢
    have t3 := t2.ext sM
    -- the pairs
    obtain ⟨ps3, lp3, pl3, pb3, pa3⟩ : ∃ ps3 : List Pr, Lp (PrV H3) (kvs.map (·.2)) ps3 ∧ ps3.length ≤ 30 ∧ (∀ p ∈ ps3, ∃ j is, Best S j p.1 is ∧ p.2 = toI is) ∧ ∀ j m is, Best S j m is → ∃ p ∈ ps3, p.1 = m := by
      obtain ⟨ps3, a, b, c, d⟩ := pairs_of bd.val
      refine ⟨ps3, a.map fun v p h => h.tp (tp_same sM), by have := bd.len; omega, c, fun j m is bst => ?_⟩
      obtain ⟨s, es⟩ := bst.at_
      obtain ⟨kv, hk, ek⟩ := bd.all j s (Nat.zero_le _) es
      obtain ⟨p, hp, is2, b2⟩ := d kv hk j ek
      exact ⟨p, hp, b2.uniq bst⟩
    refine ⟨M, _, ps3, rfl, SqL.of eM, lp3, by omega, t3, fun r p H4 x4 t4 pv cp p0 pt => ?_⟩
    obtain ⟨is, l, ep, mo, pk, ch, ev⟩ : ∃ is l, p.2 = toI is ∧ Most S p.1 ∧ Pk S 0 is l ∧ Ch l ∧ vl l = p.1 := by
      have top : ∀ i m' is', Best S i m' is' → m' ≤ p.1 := fun i m' is' b => by
        obtain ⟨p', hp', e⟩ := pa3 i m' is' b
        have := pt p' hp'
        omega
      have all : ∀ i s', S[i]? = some (some s') → ∃ m' is', Best S i m' is' := fun i s' e => by
        obtain ⟨kv, hk, ek⟩ := bd.all i s' (Nat.zero_le _) e
        obtain ⟨j9, _, e9, m9, is9, b9, _⟩ := bd.val kv hk
        rw [ek] at e9
        have := inl_inj e9
        subst this
        exact ⟨m9, is9, b9⟩
      rcases cp with z | z
      · obtain ⟨mo, l, a, b, c⟩ := most_of (is := []) p0 (.inl ⟨by rw [z], rfl⟩) top all
        exact ⟨[], l, by rw [z]; rfl, mo, a, b, c⟩
      · obtain ⟨j, is, b, e⟩ := pb3 p z
        obtain ⟨mo, l, a, b, c⟩ := most_of p0 (.inr ⟨j, b⟩) top all
        exact ⟨is, l, e, mo, a, b, c⟩
    obtain ⟨t, c, rfl, et, ec⟩ := id pv
    rw [ep] at ec
    have x14 : LamX.ExtN H1 H4 := (x2.trans (LamX.ExtN.of sM)).trans x4
    have x04 : LamX.ExtN H H4 := (LamX.ExtN.of s1).trans x14
    refine ⟨t, _, rfl, SqT.of et, rfl, _, _, rfl, _, _, rfl, rfl, ?_⟩
    have eL4 := exL x14 eL
    have lp4 : Lp (SpV H4) ys S := lp.map fun v a h => h.tp (exTp x14)
    have isl := pk.len
    have ll : l.length ≤ 30 := Nat.le_trans pk.sub.length_le (Nat.le_trans (List.length_filterMap_le _ _) (by rw [List.drop_zero]; exact sl))
    refine ⟨_, rfl, c, rfl, ⟨_, SqT.of ec⟩, fun C nC => ?_⟩
    refine lc_tup (K := K) (a := c) (xs := (toI is).map V.int) (fun i Hi => L2.Same H4 Hi ∧ ∃ zs, Hi C = some (.lst zs) ∧ Lp (fun v s => SpV Hi v (some s)) zs (l.take i)) ⟨same_upd nC, [], upd_same, .nil⟩ (fun i Hi _ z => SqT.of (z.1 _ _ ec)) ?_ ?_
    · rintro i x Hi hx ⟨sm, zs, eC, lz⟩
      rw [List.getElem?_map] at hx
      obtain ⟨n', en', rfl⟩ := Option.map_eq_some_iff.mp hx
      rw [List.getElem?_map] at en'
      obtain ⟨n, en, rfl⟩ := Option.map_eq_some_iff.mp en'
      obtain ⟨s, el, es⟩ := pk.get en
      obtain ⟨v5, ev5, sv5⟩ := lp4.at_ es
      have zl := lz.len
      rw [List.length_take] at zl
      refine ⟨rfl, ?_⟩
      unfold tYes
      have up : Tp Hi (L2.upd Hi C (.lst (zs ++ [v5]))) := tp_upd fun us z => by rw [eC] at z; cases z
      refine iteT ⟨_, rfl, _, rfl, L, ys, (n : Int), v5, rfl, rfl, SqL.of (sm _ _ eL4), atI_nat ev5, zs, eC, Nat.lt_of_le_of_lt (show zs.length ≤ 100 by omega) (by decide), fun b o e => ?_, zs ++ [v5], upd_same, ?_⟩
      · rw [upd_ne (ne_of_none e nC)]
        exact sm _ _ e
      · rw [List.take_add_one, el]
        exact (lz.map fun v a h => SpV.tp h up).snoc (SpV.tp (SpV.tp sv5 (tp_same sm)) up)
    rintro H5 ⟨s5, zs, eC, lz⟩
    rw [List.take_of_length_le (by rw [List.length_map, List.length_map]; omega)] at lz
    refine ⟨_, rfl, v, w, rfl, wk.tp (exTp (x04.trans (LamX.ExtN.of s5))), by show w.dp ≤ 4 + 1; omega, by omega, fun t6 xs6 H6 s6 et6 lx6 => ?_⟩
    obtain ⟨n, hn⟩ : ∃ n, n = (lvs w).length := ⟨_, rfl⟩
    have lx : xs6.length = n := by rw [hn]; unfold nl at lx6; omega
    have n1 : n ≤ 100 := by rw [hn]; unfold nl at hnn; omega
    refine ⟨t6, xs6, rfl, .inr (SqT.of et6), _, rfl, by omega, by omega, fun D2 nD2 => ?_⟩
    have eC6 := s6 _ _ eC
    have lz6 : Lp (fun v s => SpV H6 v (some s)) zs l := lz.map fun v a h => SpV.tp h (tp_same s6)
    have zl := lz.len
    have sD2 := same_upd nD2 (o := .lst [])
    have f0 : ∀ i, (lkF l (i + 1)) = lkF l i ++ (if (!l.any fun s => decide (s.1 ≤ (i : Int)) && decide ((i : Int) < s.2)) = true then [i] else []) := fun i => by
      unfold lkF
      rw [List.range_succ, List.filter_append]
      congr 1
      rw [List.filter_cons, List.filter_nil]
    refine lc_range (lo := 0) (fun i Hi => L2.Same H6 Hi ∧ Hi D2 = some (.lst ((toI (lkF l i)).map V.int))) ⟨sD2, upd_same⟩ ?_ ?_
    · rintro i Hi il ⟨sm, eD2⟩
      have il : i < n := by omega
      refine ⟨rfl, ?_⟩
      refine ⟨_, rfl, C, rfl, ⟨_, SqL.of (sm _ _ eC6)⟩, fun E2 nE2 => ?_⟩
      have eC7 := sm _ _ eC6
      refine lc_list (K := K) (a := C) (xs := zs) (fun j Hj => L2.Same Hi Hj ∧ Hj E2 = some (.lst (((l.take j).map fun s => decide (s.1 ≤ (i : Int)) && decide ((i : Int) < s.2)).map V.bl))) ⟨same_upd nE2, upd_same⟩ (fun j Hj _ z => SqL.of (z.1 _ _ eC7)) ?_ ?_
      · rintro j x Hj hx ⟨sj, eE2⟩
        obtain ⟨s, es, u, rfl, eu⟩ := lz6.get hx
        have jl := (List.getElem?_eq_some_iff.mp es).1
        refine ⟨u, _, rfl, SqT.of (sj _ _ (sm _ _ eu)), rfl, _, _, rfl, _, _, rfl, rfl, rfl, ?_⟩
        have fin : ∀ b : Bool, b = (decide (s.1 ≤ (i : Int)) && decide ((i : Int) < s.2)) → ∃ acc, Hj E2 = some (.lst acc) ∧ acc.length < sizeLine ∧ (L2.Same Hi (L2.upd Hj E2 (.lst (acc ++ [V.bl b]))) ∧ (L2.upd Hj E2 (.lst (acc ++ [V.bl b]))) E2 = some (.lst (((l.take (j + 1)).map fun s => decide (s.1 ≤ (i : Int)) && decide ((i : Int) < s.2)).map V.bl))) := fun b eb => by
          refine ⟨_, eE2, ?_, fun b o e => ?_, ?_⟩
          · rw [List.length_map, List.length_map, List.length_take]
            exact Nat.lt_of_le_of_lt (show min j l.length ≤ 100 by omega) (by decide)
          · rw [upd_ne (ne_of_none e nE2)]
            exact sj _ _ e
          · rw [upd_same, List.take_add_one, es, List.map_append, List.map_append, eb]
            rfl
        unfold tYes
        refine iteT ?_
        have z0 : (0 : Int) + (i : Nat) = (i : Int) := by omega
        refine ⟨_, rfl, _, rfl, s.1, 0 + ((i : Nat) : Int), rfl, rfl, _, rfl, ?_⟩
        rw [z0]
        by_cases c : s.1 ≤ (i : Int)
        · rw [decide_eq_true c]
          refine iteT ⟨_, rfl, _, _, rfl, rfl, fin _ ?_⟩
          rw [decide_eq_true c, Bool.true_and]
        · rw [decide_eq_false c]
          exact iteF (fin false (by rw [decide_eq_false c]; rfl))
      · rintro Hj ⟨sj, eE2⟩
        rw [List.take_of_length_le (by omega)] at eE2
        refine ⟨E2, _, rfl, SqL.of eE2, _, rfl, ?_⟩
        have ea : ((l.map fun s => decide (s.1 ≤ (i : Int)) && decide ((i : Int) < s.2)).any id) = l.any fun s => decide (s.1 ≤ (i : Int)) && decide ((i : Int) < s.2) := by rw [List.any_map]; rfl
        rw [ea]
        have eD3 := sj _ _ eD2
        have fi := f0 i
        have fl : (lkF l i).length ≤ i := by
          unfold lkF
          exact Nat.le_trans (List.length_filter_le _ _) (by rw [List.length_range]; exact Nat.le_refl _)
        cases c : l.any fun s => decide (s.1 ≤ (i : Int)) && decide ((i : Int) < s.2) with
        | true =>
          rw [c] at fi
          have fi : lkF l (i + 1) = lkF l i := by rw [fi]; simp
          refine iteF ⟨sm.trans sj, ?_⟩
          rw [fi]
          exact eD3
        | false =>
          rw [c] at fi
          have fi : lkF l (i + 1) = lkF l i ++ [i] := fi
          refine iteT ⟨_, rfl, _, eD3, ?_, fun b o e => ?_, ?_⟩
          · rw [List.length_map, List.length_map]
            exact Nat.lt_of_le_of_lt (show (lkF l i).length ≤ 1000 by omega) (by decide)
          · rw [upd_ne (ne_of_none e nD2)]
            exact sj _ _ (sm _ _ e)
          · rw [upd_same, fi]
            unfold toI
            rw [List.map_append, List.map_append]
            show some (HO.lst (_ ++ [V.int (0 + (i : Int))])) = some (HO.lst (_ ++ [V.int (i : Int)]))
            rw [Int.zero_add]
    · rintro He ⟨sm, eD2⟩
      rw [show (((xs6.length : Nat) : Int)).toNat = n by omega] at eD2
      have x4e : LamX.ExtN H4 He := LamX.ExtN.of ((s5.trans s6).trans sm)
      refine ⟨_, rfl, _, rfl, _, rfl, D2, _, rfl, .inl ⟨SqL.of eD2, fun k nk => ?_⟩⟩
      have sk := same_upd nk (o := .tup ((toI (lkF l n)).map V.int))
      refine ⟨(by show 3 ≤ sizeLine; decide), fun t9 n9 => ?_⟩
      have s9 := same_upd n9 (o := .tup [.int p.1, .ref c, .ref k])
      have x49 := x4e.trans (LamX.ExtN.of (sk.trans s9))
      refine q t9 c k p.1 is l _ (x04.trans x49) (t4.ext fun b o e => (sk.trans s9) _ _ (((s5.trans s6).trans sm) _ _ e)) upd_same (exT x49 ec) ?_ p0 mo pk ch ev
      rw [← hn]
      exact s9 _ _ upd_same
end
end K82
set_option Elab.async false
set_option linter.all false
set_option maxRecDepth 100000
set_option maxHeartbeats 4000000
set_option pp.maxSteps 400
set_option pp.deepTerms false
namespace K82
open PySem PySem.Spec PyProof.Rows L2
open Xk Az W37
section
variable {P : Program} {w : World} {K : PySem.W.Frag} {mg : Str → Option Value} {base : Heap}
/-- a list or a tuple of numbers -/
def Sq (K : PySem.W.Frag) (H : Hp) (a : Addr) (p : List Int) : Prop := H a = some (.lst (p.map V.int)) ∨ H a = some (.tup (p.map V.int))
theorem Sq.same {H H' : Hp} {a : Addr} {p : List Int} (h : Sq K H a p) (s : L2.Same H H') : Sq K H' a p := h.imp (s _ _) (s _ _)
def spLH (K : PySem.W.Frag) : Sp := fun vs H Q _ => ∃ (L P : Addr) (xs : List V) (S : Spl) (p : List Int) (i : Nat) (s : S2), vs = [.ref L, .ref P, .int (i : Int)] ∧ H L = some (.lst xs) ∧ Lp (SpV H) xs S ∧ S.length ≤ 30 ∧ Sq K H P p ∧ i ≤ p.length ∧ S[i]? = some (some s) ∧
  ∀ H', L2.Same H H' → Q (.int (lh S p s i)) H'
def spHt (K : PySem.W.Frag) : Sp := fun vs H Q _ => ∃ (v : V) (T : Addr) (xs : List V) (w : W) (ts : List (Option Nm)), vs = [v, .ref T, .non] ∧ Wk H v w ∧ w.dp ≤ 5 ∧ w.nms.length ≤ 100 ∧ (∀ m ∈ w.nms, An m) ∧ SqT K H T xs ∧ Lp (TtV H) xs ts ∧ ts.length ≤ 30 ∧ (∀ m, some m ∈ ts → An m) ∧
  ∀ (t : Addr) H', L2.Same H H' → H' t = some (.tup ((htl (ts.map fun t => t.bind (spn w)) ts.length).map V.int)) → Q (.ref t) H'
def spSM (K : PySem.W.Frag) : Sp := fun vs H Q _ => ∃ (v : V) (T : Addr) (xs : List V) (w : W) (ts : List (Option Nm)) (n : Int) (P : Addr) (p : List Int), vs = [v, .ref T, .int n, .ref P, .non] ∧ Wk H v w ∧ w.dp ≤ 5 ∧ w.nms.length ≤ 100 ∧ (∀ m ∈ w.nms, An m) ∧ SqT K H T xs ∧ Lp (TtV H) xs ts ∧ ts.length ≤ 30 ∧ (∀ m, some m ∈ ts → An m) ∧
  H P = some (.tup (p.map V.int)) ∧ p.length = ts.length ∧ ∀ H', L2.Same H H' → Q (.bl (smB (ts.map fun t => t.bind (spn w)) n p)) H'
def bel (S : Spl) (p : List Int) (s : S2) (i : Nat) : List Int := below S p s i
theorem below_succ (S : Spl) (p : List Int) (s : S2) (i : Nat) : below S p s (i + 1) = below S p s i ++ (bl1 S p s i).toList := by
  unfold below
  rw [List.range_succ, List.filterMap_append, List.filterMap_cons, List.filterMap_nil]
  cases bl1 S p s i <;> rfl
theorem mx0_def (l : List Int) : mx0 l = (match l with | [] => 0 | n :: r => r.foldl max n) := by cases l <;> rfl
theorem ok_lh {f : Addr} {fd : FuncData} (D : Df K mg "least_height" ["spans", "known", "number"] sLeastHeight f fd) (T : Txt mg) (cLW : Ca P w K mg base 1 "leaves_within" ["span"] spLW) (cAh : Ca P w K mg base 1 "is_ahead" ["one", "other"] spAh) : FnOk P w K mg base CX0 2 f fd ["spans", "known", "number"] (spLH K) := by
  refine D.fn.ok scLeastHeight (fun vs H Q E h => ?_) (fun cdv A outer s H vs Q E hr h => ?_)
  · obtain ⟨L, P0, xs, S, p, i, s, rfl, eL, lp, l30, sq, ip, es, q⟩ := h
    rfl
  · obtain ⟨L, P0, xs, S, p, i, s, rfl, eL, lp, l30, sq, ip, es, q⟩ := h
    refine ⟨_, (pss_cons (ps_set (i := 3) scLeastHeight.nd rfl (.inr rfl) (pe_ix ix_list (pv 0) (pv 2) (fun _ _ => rfl)))
      (pss_cons (ps_setLc (i := 4) (own := [("at", 5)]) (g := gName 5) (tt := tAnd (tTest (tOp (fun x y H Q => y = V.non ∧ Q (V.bl !decide (x = V.non)) H) (tOp (rIxL K) (tVar 0) (tVar 5)) (tC .non))) (tTest (tCall spAh [] E0 (tCons (tOp (rIxL K) (tVar 0) (tVar 5)) (tCons (tVar 3) tNil))))) (te := tOp (rIx K) (tVar 1) (tVar 5)) (by rfl) scLeastHeight.nd rfl rfl (sw_true rfl rfl rfl (by decide +kernel)) (pi_range1 (by rfl) T.range (pa_cons (pv 2) pa_nil)) (blkOk_by (own := [("at", 5)]) (N := ["spans", "known", "number", "span", "below", "at"]) (sc := defScope sLeastHeight) (by decide +kernel)) (fun _ _ _ _ _ => pg_name (i := 5) scLeastHeight.nd rfl (.inl rfl)) (fun _ _ _ _ _ => (pts_one (PW.pt (pw_and (pt_cmpR op_notN (pe_ix ix_list (pv 0) (pv 5) (fun _ _ => rfl)) pe_non (nomark _)) (pw_and1 (pt_val (pe_ca cAh hr (by decide) (by rfl) (pa_cons (pe_ix ix_list (pv 0) (pv 5) (fun _ _ => rfl)) (pa_cons (pv 3) pa_nil))))))))) (fun _ _ _ _ _ => pe_ix ix_seq (pv 1) (pv 5) (fun _ _ => rfl)))
      (pss_one (ps_ret (pe_op op_add (pe_ca cLW hr (by decide) (by rfl) (pa_cons (pv 3) pa_nil)) (Xvl.pe_maxDef (by rfl) hr (by rfl) T.max (pv 4))))))), ?_⟩
    have xl := lp.len
    have il := (List.getElem?_eq_some_iff.mp es).1
    obtain ⟨vi, evi, u, rfl, eu⟩ := lp.at_ es
    refine ⟨_, rfl, _, rfl, L, xs, (i : Int), .ref u, rfl, rfl, SqL.of eL, atI_nat evi, ?_⟩
    refine ⟨_, rfl, _, rfl, by omega, by omega, fun D nD' => ?_⟩
    have sD := same_upd nD' (o := .lst [])
    refine lc_range (lo := 0) (fun k Hk => L2.Same H Hk ∧ Hk D = some (.lst ((below S p s k).map V.int))) ⟨sD, upd_same⟩ ?_ ?_
    · rintro k Hk kl ⟨sm, eD⟩
      have kl : k < i := by omega
      have z0 : (0 : Int) + (k : Nat) = (k : Int) := by omega
      rw [z0]
      have kS : k < S.length := by omega
      obtain ⟨vk, evk, sk⟩ := lp.at_ (List.getElem?_eq_getElem kS)
      have bs := below_succ S p s k
      unfold bl1 at bs
      rw [List.getElem?_eq_getElem kS] at bs
      have bl : (below S p s k).length ≤ k := by
        unfold below
        exact Nat.le_trans (List.length_filterMap_le _ _) (by rw [List.length_range]; exact Nat.le_refl _)
      refine ⟨rfl, ?_⟩
      refine ⟨_, rfl, _, rfl, L, xs, (k : Int), vk, rfl, rfl, SqL.of (sm _ _ eL), atI_nat evk, ?_⟩
      cases eo : S[k] with
      | none =>
        rw [eo] at sk bs
        obtain rfl : vk = .non := sk
        have bs : below S p s (k + 1) = below S p s k := by rw [bs]; simp
        refine ⟨rfl, _, rfl, iteF (iteF ⟨sm, ?_⟩)⟩
        rw [bs]
        exact eD
      | some r =>
        rw [eo] at sk bs
        obtain ⟨u2, rfl, eu2⟩ := sk
        have pk : p[k]? = some (p.getD k 0) := by rw [List.getD_eq_getElem?_getD, List.getElem?_eq_getElem (by omega)]; rfl
        refine ⟨rfl, _, rfl, iteT ⟨_, rfl, _, rfl, L, xs, (k : Int), .ref u2, rfl, rfl, SqL.of (sm _ _ eL), atI_nat evk, _, rfl, u2, u, r, s, rfl, sm _ _ eu2, sm _ _ eu, _, rfl, ?_⟩⟩
        by_cases c : r.2 ≤ s.1
        · have bs : below S p s (k + 1) = below S p s k ++ [p.getD k 0] := by
            rw [bs]
            show _ ++ (if r.2 ≤ s.1 then p[k]? else none).toList = _
            rw [if_pos c, pk]
            rfl
          rw [decide_eq_true c]
          have fin : ∃ acc, Hk D = some (.lst acc) ∧ acc.length < sizeLine ∧ (L2.Same H (L2.upd Hk D (.lst (acc ++ [V.int (p.getD k 0)]))) ∧ (L2.upd Hk D (.lst (acc ++ [V.int (p.getD k 0)]))) D = some (.lst ((below S p s (k + 1)).map V.int))) := by
            refine ⟨_, eD, ?_, fun b o e => ?_, ?_⟩
            · rw [List.length_map]
              exact Nat.lt_of_le_of_lt (show (below S p s k).length ≤ 100 by omega) (by decide)
            · rw [upd_ne (ne_of_none e nD')]
              exact sm _ _ e
            · rw [upd_same, bs, List.map_append]
              rfl
          have pkV : (p.map V.int)[k]? = some (.int (p.getD k 0)) := by rw [List.getElem?_map, pk]; rfl
          refine iteT ⟨_, rfl, _, rfl, ?_⟩
          rcases sq.same sm with e | e
          · exact .inl ⟨P0, _, (k : Int), _, rfl, rfl, SqL.of e, atI_nat pkV, fin⟩
          · exact .inr (.inl ⟨P0, _, (k : Int), _, rfl, rfl, SqT.of e, atI_nat pkV, fin⟩)
        · have bs : below S p s (k + 1) = below S p s k := by
            rw [bs]
            show _ ++ (if r.2 ≤ s.1 then p[k]? else none).toList = _
            rw [if_neg c]
            simp
          rw [decide_eq_false c]
          refine iteF ⟨sm, ?_⟩
          rw [bs]
          exact eD
    · rintro He ⟨sm, eD⟩
      rw [Int.toNat_natCast] at eD
      refine ⟨_, rfl, u, s, rfl, sm _ _ eu, _, rfl, D, _, rfl, SqL.of eD, _, _, rfl, rfl, ?_⟩
      have w9 := q He sm
      unfold lh at w9
      rw [mx0_def] at w9
      exact w9
theorem ok_ht {f : Addr} {fd : FuncData} (F : FunD K "heights" "heights" (defArgs sHeights) (defBody sHeights) (defScope sHeights) [.non] [] f fd) (T : Txt mg) (cSOs : Ca P w K mg base 8 "spans_of" ["work", "titles", "names"] (spSOs K)) (cLH : Ca P w K mg base 2 "least_height" ["spans", "known", "number"] (spLH K)) : FnOk P w K mg base CX0 9 f fd ["work", "titles", "names"] (spHt K) := by
  refine okN F scHeights (fun vs H Q E h => ?_) (fun cdv A outer s H vs Q E hr h => ?_)
  · obtain ⟨v, T0, xs, w, ts, rfl, wk, hd, hl, an, eT, tl, l30, at_, q⟩ := h
    rfl
  · obtain ⟨v, T0, xs, w, ts, rfl, wk, hd, hl, an, eT, tl, l30, at_, q⟩ := h
    refine ⟨_, (pss_cons (ps_set (i := 3) scHeights.nd rfl (.inl rfl) (pe_ca cSOs hr (by decide) (by rfl) (pa_cons (pv 0) (pa_cons (pv 1) (pa_cons (pv 2) pa_nil)))))
      (pss_cons (ps_set (i := 4) scHeights.nd rfl (.inl rfl) (pe_lst pa_nil))
      (pss_cons (ps_for PassesOwn.never rfl (pi_enum (by rfl) T.enumerate (pa_cons (pv 3) pa_nil)) (pg_tup (by rfl) (pgs_cons (pg_name (i := 5) scHeights.nd rfl (.inl rfl)) (pgs_cons (pg_name (i := 6) scHeights.nd rfl (.inl rfl)) pgs_nil))) (pss_one (ps_expr (pe_bm PySem.F.plainAttrs_list PySem.F.slot_list_append PySem.F.type_list_append mt_append (pv 4) (pa_cons (pe_ifExp (pt_cmpR op_isN (pv 6) pe_non (nomark _)) pe_int (pe_ca cLH hr (by decide) (by rfl) (pa_cons (pv 3) (pa_cons (pv 4) (pa_cons (pv 5) pa_nil))))) pa_nil)))))
      (pss_one (ps_ret (pe_callTy call_tuple_of (by rfl) T.tuple (by decide +kernel) (pa_cons (pv 4) pa_nil))))))), ?_⟩
    refine ⟨_, rfl, _, rfl, _, rfl, v, T0, xs, w, ts, rfl, wk, hd, hl, an, eT, tl, l30, at_, fun L ys H1 s1 nL eL lp => ?_⟩
    have sl : (ts.map fun t => t.bind (spn w)).length = ts.length := List.length_map ..
    generalize (ts.map fun t => t.bind (spn w)) = S at lp sl q ⊢
    have yl := lp.len
    refine ⟨(by show 0 ≤ sizeLine; decide), fun F nF => ?_⟩
    have sF := same_upd nF (o := .lst [])
    have eF : (L2.upd H1 F (.lst [])) F = some (.lst []) := upd_same
    generalize L2.upd H1 F (.lst []) = H2 at sF eF ⊢
    refine ⟨_, rfl, L, ys, rfl, SqL.of (sF _ _ eL), ?_⟩
    have lp2 : Lp (SpV H2) ys S := lp.map fun v a h => h.tp (tp_same sF)
    refine for_it (walk_enum (K := K) (a := L) (xs := ys)) (fun i σ Hx => ∃ (c5 c6 : Option V), σ = [some v, some (.ref T0), some .non, some (.ref L), some (.ref F), c5, c6] ∧ L2.Same H1 Hx ∧ Hx F = some (.lst ((htl S i).map V.int))) ⟨none, none, rfl, sF, eF⟩ (fun i σ Hx _ z => by obtain ⟨_, _, _, z, _⟩ := z; exact SqL.of (z _ _ eL)) ?_ ?_
    · rintro i x σ Hx H' il ⟨c5, c6, rfl, sx, eFx⟩ ⟨t, x1, y1, rfl, nt, rfl, ex1, ey1⟩
      replace ex1 : some (V.int (i : Nat)) = some x1 := ex1
      cases ex1
      replace ey1 : ys[i]? = some y1 := ey1
      obtain ⟨o, eo, so⟩ := lp.get ey1
      have st := same_upd nt (o := .tup [.int (i : Nat), y1])
      have so2 := so.tp (tp_same (sx.trans st))
      have eF2 := st _ _ eFx
      have et : (L2.upd Hx t (.tup [.int (i : Nat), y1])) t = some (.tup [.int (i : Nat), y1]) := upd_same
      have sxt := sx.trans st
      have nF1 : H1 F = none := nF
      generalize L2.upd Hx t (.tup [.int (i : Nat), y1]) = H3 at so2 eF2 et sxt ⊢
      refine ⟨t, _, rfl, SqT.of et, rfl, _, _, rfl, _, _, rfl, rfl, ?_⟩
      have hs : htl S (i + 1) = htl S i ++ [match S[i]? with
        | some (some s) => lh S (htl S i) s i
        | _ => 0] := by rw [htl]; rfl
      have il2 : i < S.length := by omega
      refine ⟨_, rfl, .inl ⟨rfl, _, SqL.of eF2⟩, ?_⟩
      cases o with
      | none =>
        obtain rfl : y1 = .non := so2
        refine ⟨_, rfl, rfl, _, rfl, iteT ⟨F, _, .int 0, rfl, rfl, eF2, ?_, ?_⟩⟩
        · rw [List.length_map, htl_len]
          exact Nat.lt_of_le_of_lt (show i ≤ 100 by omega) (by decide)
        · refine ⟨_, _, rfl, fun b o e => ?_, ?_⟩
          · rw [upd_ne (ne_of_none e nF1)]
            exact sxt _ _ e
          · rw [upd_same, hs, eo, List.map_append]
            rfl
      | some s =>
        obtain ⟨u, rfl, eu⟩ := so2
        refine ⟨_, rfl, rfl, _, rfl, iteF ⟨_, rfl, _, rfl, _, rfl, L, F, ys, S, htl S i, i, s, rfl, sxt _ _ eL, lp.map (fun v a h => h.tp (tp_same sxt)), by omega, .inl eF2, by rw [htl_len]; exact Nat.le_refl _, eo, fun H4 s4 => ?_⟩⟩
        have eF4 := s4 _ _ eF2
        refine ⟨F, _, _, rfl, rfl, eF4, ?_, ?_⟩
        · rw [List.length_map, htl_len]
          exact Nat.lt_of_le_of_lt (show i ≤ 100 by omega) (by decide)
        · refine ⟨_, _, rfl, fun b o e => ?_, ?_⟩
          · rw [upd_ne (ne_of_none e nF1)]
            exact s4 _ _ (sxt _ _ e)
          · rw [upd_same, hs, eo, List.map_append]
            rfl
    · rintro σ Hx ⟨c5, c6, rfl, sx, eFx⟩
      refine ⟨_, rfl, F, _, rfl, .inl ⟨SqL.of eFx, fun t nt => q t _ ((s1.trans sx).trans (same_upd nt)) ?_⟩⟩
      rw [upd_same, yl, sl]
end
end K82
set_option Elab.async false
set_option linter.all false
set_option maxRecDepth 100000
set_option maxHeartbeats 4000000
set_option pp.maxSteps 400
set_option pp.deepTerms false
namespace K82
open PySem PySem.Spec PyProof.Rows L2
open Xk Az W37
section
variable {P : Program} {w : World} {K : PySem.W.Frag} {mg : Str → Option Value} {base : Heap}
def isStr : PyData → Bool
  | .str _ => true
  | _ => false
def isTup : PyData → Bool
  | .tuple _ => true
  | _ => false
theorem z_str : ∀ d : PyData, PySem.W.kitOne K (.type (kindD d)) (.type "str") = some (isStr d)
  | .none => kit_ty (a := "NoneType") (b := "str") (r := false) (by decide +kernel)
  | .bool _ => kit_ty (a := "bool") (b := "str") (r := false) (by decide +kernel)
  | .int _ => kit_ty (a := "int") (b := "str") (r := false) (by decide +kernel)
  | .str _ => kit_ty (a := "str") (b := "str") (r := true) (by decide +kernel)
  | .list _ => kit_ty (a := "list") (b := "str") (r := false) (by decide +kernel)
  | .tuple _ => kit_ty (a := "tuple") (b := "str") (r := false) (by decide +kernel)
  | .dict _ => kit_ty (a := "dict") (b := "str") (r := false) (by decide +kernel)
theorem z_tup : ∀ d : PyData, PySem.W.kitOne K (.type (kindD d)) (.type "tuple") = some (isTup d)
  | .none => kit_ty (a := "NoneType") (b := "tuple") (r := false) (by decide +kernel)
  | .bool _ => kit_ty (a := "bool") (b := "tuple") (r := false) (by decide +kernel)
  | .int _ => kit_ty (a := "int") (b := "tuple") (r := false) (by decide +kernel)
  | .str _ => kit_ty (a := "str") (b := "tuple") (r := false) (by decide +kernel)
  | .list _ => kit_ty (a := "list") (b := "tuple") (r := false) (by decide +kernel)
  | .tuple _ => kit_ty (a := "tuple") (b := "tuple") (r := true) (by decide +kernel)
  | .dict _ => kit_ty (a := "dict") (b := "tuple") (r := false) (by decide +kernel)
def isI : V → Bool
  | .int _ => true
  | _ => false
def wiV (v : V) (a b : Int) : Bool := match v with
  | .int i => decide (a ≤ i) && decide (i ≤ b)
  | _ => false
def spWhole (K : PySem.W.Frag) : Sp := fun vs H Q _ => ∃ (v : V) (d : PyData), vs = [v] ∧ Dz K H v d ∧ Q (.bl (isI v)) H
def spWithin (K : PySem.W.Frag) : Sp := fun vs H Q _ => ∃ (v : V) (d : PyData) (a b : Int), vs = [v, .int a, .int b] ∧ Dz K H v d ∧ Q (.bl (wiV v a b)) H
theorem ok_whole {f : Addr} {fd : FuncData} (D : Df K mg "is_whole" ["thing"] sIsWhole f fd) (T : Txt mg) : FnOk P w K mg base CX0 1 f fd ["thing"] (spWhole K) := by
  refine D.fn.ok scIsWhole (fun vs H Q E h => ?_) (fun cdv A outer s H vs Q E hr h => ?_)
  · obtain ⟨v, d, rfl, h, q⟩ := h
    rfl
  · obtain ⟨v, d, rfl, h, q⟩ := h
    refine ⟨_, (pss_one (ps_ret (pe_and (pe_callB call_isi (by rfl) T.isi (by decide +kernel) (pa_cons (pv 0) (pa_cons (pe_bltn (v := .ty "int") (by rfl) T.int (by decide +kernel) rfl) pa_nil))) (pe_one (pe_not (pe_callB call_isi (by rfl) T.isi (by decide +kernel) (pa_cons (pv 0) (pa_cons (pe_bltn (v := .ty "bool") (by rfl) T.bool (by decide +kernel) rfl) pa_nil)))))))), ?_⟩
    cases h with
    | int i =>
      refine ⟨_, rfl, _, _, _, _, true, rfl, .ty _, (.base (.int i)), kit_ty (by decide +kernel), true, rfl, iteT ?_⟩
      exact ⟨_, rfl, _, _, _, _, false, rfl, .ty _, (.base (.int i)), kit_ty (by decide +kernel), false, rfl, q⟩
    | bl b =>
      refine ⟨_, rfl, _, _, _, _, true, rfl, .ty _, (.base (.bl b)), kit_ty (by decide +kernel), true, rfl, iteT ?_⟩
      exact ⟨_, rfl, _, _, _, _, true, rfl, .ty _, (.base (.bl b)), kit_ty (by decide +kernel), true, rfl, q⟩
    | non => exact ⟨_, rfl, _, _, _, _, false, rfl, .ty _, (.base .non : TyX K H .non (.type "NoneType")), kit_ty (by decide +kernel), false, rfl, iteF q⟩
    | str x => exact ⟨_, rfl, _, _, _, _, false, rfl, .ty _, (.base (.str x) : TyX K H (.str x) (.type "str")), kit_ty (by decide +kernel), false, rfl, iteF q⟩
    | lst e _ _ => exact ⟨_, rfl, _, _, _, _, false, rfl, .ty _, (.base (.lst e)), kit_ty (by decide +kernel), false, rfl, iteF q⟩
    | tup e _ => exact ⟨_, rfl, _, _, _, _, false, rfl, .ty _, (.base (.tup e)), kit_ty (by decide +kernel), false, rfl, iteF q⟩
    | dct e _ => exact ⟨_, rfl, _, _, _, _, false, rfl, .ty _, (.base (.dK e)), kit_ty (by decide +kernel), false, rfl, iteF q⟩
theorem ok_within {f : Addr} {fd : FuncData} (D : Df K mg "is_within" ["thing", "least", "most"] sIsWithin f fd) (cW : Ca P w K mg base 1 "is_whole" ["thing"] (spWhole K)) : FnOk P w K mg base CX0 2 f fd ["thing", "least", "most"] (spWithin K) := by
  refine D.fn.ok scIsWithin (fun vs H Q E h => ?_) (fun cdv A outer s H vs Q E hr h => ?_)
  · obtain ⟨v, d, a, b, rfl, h, q⟩ := h
    rfl
  · obtain ⟨v, d, a, b, rfl, h, q⟩ := h
    refine ⟨_, (pss_one (ps_ret (pe_and (pe_ca cW hr (by decide) (by rfl) (pa_cons (pv 0) pa_nil)) (pe_one (pe_chain op_le op_le (pv 1) (pv 0) (pv 2)))))), ?_⟩
    refine ⟨_, rfl, v, d, rfl, h, _, rfl, ?_⟩
    cases v with
    | int i =>
      refine iteT ⟨_, rfl, _, rfl, a, i, rfl, rfl, _, rfl, ?_⟩
      have q' : Q (.bl (decide (a ≤ i) && decide (i ≤ b))) H := q
      cases e : decide (a ≤ i) with
      | true =>
        rw [e, Bool.true_and] at q'
        exact iteT ⟨_, rfl, i, b, rfl, rfl, q'⟩
      | false =>
        rw [e, Bool.false_and] at q'
        exact iteF q'
    | _ => exact iteF q
def bls (S : Spl) (p : List Int) (i : Nat) : Option Bool := match S[i]? with
  | some (some s) => some (decide (lh S p s i ≤ p.getD i 0))
  | _ => none
theorem all_fm {α : Type} (g : α → Option Bool) (f : α → Bool) : ∀ (l : List α), (∀ a ∈ l, f a = (g a).getD true) → (l.filterMap g).all id = l.all f
  | [], _ => rfl
  | a :: r, h => by
    have ih := all_fm g f r fun b hb => h b (List.mem_cons_of_mem _ hb)
    have ha := h a List.mem_cons_self
    rw [List.filterMap_cons, List.all_cons, ha, ← ih]
    cases g a with
    | none => simp
    | some b => simp
theorem ok_sm {f : Addr} {fd : FuncData} (F : FunD K "shows_most" "shows_most" (defArgs sShowsMost) (defBody sShowsMost) (defScope sShowsMost) [.non] [] f fd) (T : Txt mg) (cWi : Ca P w K mg base 2 "is_within" ["thing", "least", "most"] (spWithin K)) (cSOs : Ca P w K mg base 8 "spans_of" ["work", "titles", "names"] (spSOs K)) (cLH : Ca P w K mg base 2 "least_height" ["spans", "known", "number"] (spLH K)) : FnOk P w K mg base CX0 9 f fd ["work", "titles", "many", "thing", "names"] (spSM K) := by
  refine okN F scShowsMost (fun vs H Q E h => ?_) (fun cdv A outer s H vs Q E hr h => ?_)
  · obtain ⟨v, T0, xs, w, ts, n, P0, p, rfl, wk, hd, hl, an, eT, tl, l30, at_, eP, pl, q⟩ := h
    rfl
  · obtain ⟨v, T0, xs, w, ts, n, P0, p, rfl, wk, hd, hl, an, eT, tl, l30, at_, eP, pl, q⟩ := h
    refine ⟨_, (pss_cons (ps_if (PW.pt (pw_or (pt_not (pt_val (pe_callB call_isi (by rfl) T.isi (by decide +kernel) (pa_cons (pv 3) (pa_cons (pe_bltn (v := .ty "tuple") (by rfl) T.tuple (by decide +kernel) rfl) pa_nil))))) (pw_or1 (pt_cmpR op_ne (pe_callB call_len_seq (by rfl) T.len PySem.boot_len (pa_cons (pv 3) pa_nil)) (pe_callB call_len_seq (by rfl) T.len PySem.boot_len (pa_cons (pv 1) pa_nil)) (nomark _))))) (pss_one (ps_ret pe_bl)) pss_nil)
      (pss_cons (ps_if (pt_not (pt_val (pe_callB (cr_all (by rfl)) (by rfl) T.all (by decide +kernel) (pa_cons (pe_lc (own := [("height", 6)]) (g := gName 6) (tt := tYes) (te := tCall (spWithin K) [] E0 (tCons (tVar 6) (tCons (tC (.int 0)) (tCons (tVar 2) tNil)))) (by rfl) scShowsMost.nd (pi_tup (pv 3)) (blkOk_by (own := [("height", 6)]) (N := ["work", "titles", "many", "thing", "names", "spans", "height", "number"]) (sc := defScope sShowsMost) (by decide +kernel)) (fun _ _ _ _ _ => pg_name (i := 6) scShowsMost.nd rfl (.inl rfl)) (fun _ _ _ _ _ => pts_nil) (fun _ _ _ _ _ => pe_ca cWi hr (by decide) (by rfl) (pa_cons (pv 6) (pa_cons pe_int (pa_cons (pv 2) pa_nil))))) pa_nil)))) (pss_one (ps_ret pe_bl)) pss_nil)
      (pss_cons (ps_set (i := 5) scShowsMost.nd rfl (.inr rfl) (pe_ca cSOs hr (by decide) (by rfl) (pa_cons (pv 0) (pa_cons (pv 1) (pa_cons (pv 4) pa_nil)))))
      (pss_one (ps_ret (pe_callB (cr_all (by rfl)) (by rfl) T.all (by decide +kernel) (pa_cons (pe_lc (own := [("number", 7)]) (g := gName 7) (tt := tTest (tOp (fun x y H Q => y = V.non ∧ Q (V.bl !decide (x = V.non)) H) (tOp (rIxL K) (tVar 5) (tVar 7)) (tC .non))) (te := tOp (rI0 fun i j => V.bl (decide (i ≥ j))) (tOp (rIxT K) (tVar 3) (tVar 7)) (tCall (spLH K) [] E0 (tCons (tVar 5) (tCons (tVar 3) (tCons (tVar 7) tNil))))) (by rfl) scShowsMost.nd (pi_range1 (by rfl) T.range (pa_cons (pe_callB call_len_seq (by rfl) T.len PySem.boot_len (pa_cons (pv 5) pa_nil)) pa_nil)) (blkOk_by (own := [("number", 7)]) (N := ["work", "titles", "many", "thing", "names", "spans", "height", "number"]) (sc := defScope sShowsMost) (by decide +kernel)) (fun _ _ _ _ _ => pg_name (i := 7) scShowsMost.nd rfl (.inl rfl)) (fun _ _ _ _ _ => (pts_one (pt_cmpR op_notN (pe_ix ix_list (pv 5) (pv 7) (fun _ _ => rfl)) pe_non (nomark _)))) (fun _ _ _ _ _ => pe_cmpR op_ge (pe_ix ix_tup (pv 3) (pv 7) (fun _ _ => rfl)) (pe_ca cLH hr (by decide) (by rfl) (pa_cons (pv 5) (pa_cons (pv 3) (pa_cons (pv 7) pa_nil)))) (nomark _))) pa_nil))))))), ?_⟩
    have xl := tl.len
    refine ⟨_, rfl, _, _, _, _, true, rfl, .ty _, .base (.tup eP), kit_ty (by decide +kernel), true, rfl, iteF ?_⟩
    refine ⟨_, rfl, P0, _, rfl, .inr (SqT.of eP), _, rfl, T0, xs, rfl, .inr eT, rfl, _, rfl, ?_⟩
    have le : (!decide (V.int (((p.map V.int).length : Nat) : Int) = V.int ((xs.length : Nat) : Int))) = false := by
      rw [List.length_map, pl, xl]
      simp
    rw [le]
    refine iteF ?_
    refine ⟨_, rfl, P0, rfl, ⟨_, SqT.of eP⟩, fun D nD' => ?_⟩
    refine lc_tup (K := K) (a := P0) (xs := p.map V.int) (fun i Hi => L2.Same H Hi ∧ Hi D = some (.lst (((p.take i).map fun h => decide (0 ≤ h) && decide (h ≤ n)).map V.bl))) ⟨same_upd nD', upd_same⟩ (fun i Hi _ z => SqT.of (z.1 _ _ eP)) ?_ ?_
    · rintro i x Hi hx ⟨sm, eD⟩
      rw [List.getElem?_map] at hx
      obtain ⟨h, eh, rfl⟩ := Option.map_eq_some_iff.mp hx
      have il := (List.getElem?_eq_some_iff.mp eh).1
      refine ⟨rfl, ?_⟩
      unfold tYes
      refine iteT ⟨_, rfl, _, rfl, .int h, .int h, 0, n, rfl, .int h, _, eD, ?_, fun b o e => ?_, ?_⟩
      · rw [List.length_map, List.length_map, List.length_take]
        exact Nat.lt_of_le_of_lt (show min i p.length ≤ 100 by omega) (by decide)
      · rw [upd_ne (ne_of_none e nD')]
        exact sm _ _ e
      · rw [upd_same, List.take_add_one, eh, List.map_append, List.map_append]
        rfl
    rintro H1 ⟨s1, eD⟩
    rw [List.take_of_length_le (by rw [List.length_map]; exact Nat.le_refl _)] at eD
    refine ⟨D, _, rfl, SqL.of eD, _, rfl, ?_⟩
    have ea : ((p.map fun h => decide (0 ≤ h) && decide (h ≤ n)).all id) = p.all fun h => decide (0 ≤ h) && decide (h ≤ n) := by rw [List.all_map]; rfl
    rw [ea]
    have sl : (ts.map fun t => t.bind (spn w)).length = ts.length := List.length_map ..
    cases c : p.all fun h => decide (0 ≤ h) && decide (h ≤ n) with
    | false =>
      refine iteT ?_
      have w9 := q H1 s1
      unfold smB at w9
      rw [c] at w9
      exact w9
    | true =>
      refine iteF ⟨_, rfl, _, rfl, _, rfl, v, T0, xs, w, ts, rfl, wk.tp (tp_same s1), hd, hl, an, Xlm.sqT_extN (LamX.ExtN.of s1) eT, tl.map (fun v a h => h.tp (tp_same s1)), l30, at_, fun L ys H2 s2 nL eL lp => ?_⟩
      unfold smB at q
      rw [c, Bool.true_and] at q
      generalize (ts.map fun t => t.bind (spn w)) = S at lp sl q ⊢
      have yl := lp.len
      have eP2 := s2 _ _ (s1 _ _ eP)
      refine ⟨_, rfl, L, ys, rfl, .inl (SqL.of eL), _, rfl, by omega, by omega, fun E2 nE2 => ?_⟩
      refine lc_range (lo := 0) (fun k Hk => L2.Same H2 Hk ∧ Hk E2 = some (.lst (((List.range k).filterMap (bls S p)).map V.bl))) ⟨same_upd nE2, upd_same⟩ ?_ ?_
      · rintro k Hk kl ⟨sm, eE⟩
        have kl : k < S.length := by omega
        have z0 : (0 : Int) + (k : Nat) = (k : Int) := by omega
        rw [z0]
        obtain ⟨vk, evk, sk⟩ := lp.at_ (List.getElem?_eq_getElem kl)
        have bs : (List.range (k + 1)).filterMap (bls S p) = (List.range k).filterMap (bls S p) ++ (bls S p k).toList := by
          rw [List.range_succ, List.filterMap_append, List.filterMap_cons, List.filterMap_nil]
          cases bls S p k <;> rfl
        have bl : ((List.range k).filterMap (bls S p)).length ≤ k := Nat.le_trans (List.length_filterMap_le _ _) (by rw [List.length_range]; exact Nat.le_refl _)
        refine ⟨rfl, ?_⟩
        refine ⟨_, rfl, _, rfl, L, ys, (k : Int), vk, rfl, rfl, SqL.of (sm _ _ eL), atI_nat evk, rfl, _, rfl, ?_⟩
        cases eo : S[k] with
        | none =>
          rw [eo] at sk
          obtain rfl : vk = .non := sk
          have b0 : bls S p k = none := by unfold bls; rw [List.getElem?_eq_getElem kl, eo]
          rw [b0] at bs
          refine iteF ⟨sm, ?_⟩
          rw [bs]
          simpa using eE
        | some s =>
          rw [eo] at sk
          obtain ⟨u, rfl, eu⟩ := sk
          have es : S[k]? = some (some s) := by rw [List.getElem?_eq_getElem kl, eo]
          have b0 : bls S p k = some (decide (lh S p s k ≤ p.getD k 0)) := by unfold bls; rw [es]
          rw [b0] at bs
          have pk : (p.map V.int)[k]? = some (.int (p.getD k 0)) := by rw [List.getElem?_map, List.getD_eq_getElem?_getD, List.getElem?_eq_getElem (by omega)]; rfl
          refine iteT ⟨_, rfl, _, rfl, P0, _, (k : Int), _, rfl, rfl, SqT.of (sm _ _ eP2), atI_nat pk, ?_⟩
          refine ⟨_, rfl, _, rfl, _, rfl, L, P0, ys, S, p, k, s, rfl, sm _ _ eL, lp.map (fun v a h => h.tp (tp_same sm)), by omega, .inr (sm _ _ eP2), by omega, es, fun H4 s4 => ?_⟩
          refine ⟨_, _, rfl, rfl, _, s4 _ _ eE, ?_, fun b o e => ?_, ?_⟩
          · rw [List.length_map]
            exact Nat.lt_of_le_of_lt (show _ ≤ 100 by omega) (by decide)
          · rw [upd_ne (ne_of_none e nE2)]
            exact s4 _ _ (sm _ _ e)
          · rw [upd_same, bs, List.map_append]
            rfl
      · rintro He ⟨sm, eE⟩
        rw [Int.toNat_natCast, yl] at eE
        refine ⟨E2, _, rfl, SqL.of eE, ?_⟩
        have w9 := q He ((s1.trans s2).trans sm)
        have e9 := all_fm (bls S p) (fun i => match S[i]? with
          | some (some s) => decide (lh S p s i ≤ p.getD i 0)
          | _ => true) (List.range S.length) fun i hi => by
            unfold bls
            cases h : S[i]? with
            | none => rfl
            | some o => cases o <;> rfl
        rw [e9]
        exact w9
end
end K82
set_option Elab.async false
set_option linter.all false
set_option maxRecDepth 100000
set_option maxHeartbeats 4000000
set_option pp.maxSteps 400
set_option pp.deepTerms false
namespace K82
open PySem PySem.Spec PyProof.Rows L2
open Xk Az W37
section
variable {P : Program} {w : World} {K : PySem.W.Frag} {mg : Str → Option Value} {base : Heap}
theorem _root_.W37.WkL.rev {H : Hp} : ∀ {vs : List V} {ws : List W}, WkL H vs ws → WkL H vs.reverse ws.reverse
  | _, _, .nil => .nil
  | _, _, .cons h r => by rw [List.reverse_cons, List.reverse_cons]; exact r.rev.snoc h
theorem nms_pos' (w : W) : 0 < w.nms.length := by
  cases w
  rw [W.nms, List.length_cons]
  omega
theorem len_nmsL' : ∀ ps : List W, ps.length ≤ (nmsL ps).length
  | [] => by simp
  | w :: r => by
    rw [nmsL, List.length_cons, List.length_append]
    have := nms_pos' w
    have := len_nmsL' r
    omega
def spTi : Sp := fun vs H Q _ => ∃ (h N O : Addr) (n : Int) (xn xo : List V) (ns no : List Nm), vs = [.ref h, .ref N, .ref O, .int 7] ∧ Hand n H h ∧ n + 100 ≤ far ∧ H N = some (.lst xn) ∧ N ≠ h ∧ NmL H xn ns ∧ ns ≠ [] ∧ ns.length ≤ 100 ∧ H O = some (.lst xo) ∧ O ≠ h ∧ NmL H xo no ∧ no ≠ [] ∧ no.length ≤ 100 ∧
  ∀ (t : Addr) xs (ts : List (Option Nm)) H', H' t = some (.tup xs) → Lp (TtV H') xs ts → ts.length ≤ 7 → (∀ m, some m ∈ ts → m ∈ ns ∨ m ∈ no) → Hand (n + 60) H' h → But h H H' → Q (.ref t) H'
def spBk : Nat → Sp
  | 0 => fun _ _ _ _ => False
  | k + 1 => fun vs H Q _ => ∃ (v : V) (w : W), vs = [v] ∧ Wk H v w ∧ w.dp ≤ k + 1 ∧ w.nms.length ≤ 1000 ∧ ∀ r H', L2.Same H H' → Wk H' r (bk w) → Q r H'
theorem ok_ti {f : Addr} {fd : FuncData} (D : Df K mg "_law_titles" ["_law_hand_here", "_law_names_here", "_law_others", "_law_most"] sTitles f fd) (T : Txt mg) (cT : Ca P w K mg base 1 "_law_take" ["_law_hand_here", "_law_many"] spTake) (cP : Ca P w K mg base 2 "_law_pick" ["_law_hand_here", "_law_some"] spPick) : FnOk P w K mg base CX0 3 f fd ["_law_hand_here", "_law_names_here", "_law_others", "_law_most"] spTi := by
  refine D.fn.ok scTitles (fun vs H Q E h => ?_) (fun cdv A outer s H vs Q E hr h => ?_)
  · obtain ⟨h, N, O, n, xn, xo, ns, no, rfl, hd, hn, eN, Nh, nN, nne, n100, eO, Oh, nO, one, o100, q⟩ := h
    rfl
  · obtain ⟨h, N, O, n, xn, xo, ns, no, rfl, hd, hn, eN, Nh, nN, nne, n100, eO, Oh, nO, one, o100, q⟩ := h
    refine ⟨_, (pss_cons (ps_par (i := 4) (j := 5) (by rfl) scTitles.nd rfl rfl (by decide) rfl rfl (pa_cons (pe_lst pa_nil) (pa_cons pe_int pa_nil)) (by rfl))
      (pss_cons (ps_for PassesOwn.never rfl (pi_range1 (by rfl) T.range (pa_cons (pe_ca cT hr (by decide) (by rfl) (pa_cons (pv 0) (pa_cons (pe_op op_add (pv 3) pe_int) pa_nil))) pa_nil)) (pg_name (i := 6) scTitles.nd rfl (.inl rfl)) (pss_cons (ps_set (i := 7) scTitles.nd rfl (.inl rfl) (pe_ca cT hr (by decide) (by rfl) (pa_cons (pv 0) (pa_cons pe_int pa_nil))))
      (pss_one (ps_if (pt_cmpR op_lt (pv 7) pe_int (nomark _)) (pss_cons (ps_set (i := 5) scTitles.nd rfl (.inl rfl) (pe_callB (call_min2 (by rfl)) (by rfl) T.min (by decide +kernel) (pa_cons (pe_op op_sub (pe_callB call_len_seq (by rfl) T.len PySem.boot_len (pa_cons (pv 1) pa_nil)) pe_int) (pa_cons (pe_op op_add (pv 5) (pe_ca cT hr (by decide) (by rfl) (pa_cons (pv 0) (pa_cons pe_int pa_nil)))) pa_nil))))
      (pss_one (ps_expr (pe_bm PySem.F.plainAttrs_list PySem.F.slot_list_append PySem.F.type_list_append mt_append (pv 4) (pa_cons (pe_ix ix_list (pv 1) (pv 5) (fun _ _ => rfl)) pa_nil))))) (pss_one (ps_if (pt_cmpR op_lt (pv 7) pe_int (nomark _)) (pss_one (ps_expr (pe_bm PySem.F.plainAttrs_list PySem.F.slot_list_append PySem.F.type_list_append mt_append (pv 4) (pa_cons (pe_ca cP hr (by decide) (by rfl) (pa_cons (pv 0) (pa_cons (pv 1) pa_nil))) pa_nil)))) (pss_one (ps_expr (pe_bm PySem.F.plainAttrs_list PySem.F.slot_list_append PySem.F.type_list_append mt_append (pv 4) (pa_cons (pe_ca cP hr (by decide) (by rfl) (pa_cons (pv 0) (pa_cons (pe_lst (pa_cons pe_non (pa_cons (pe_ca cP hr (by decide) (by rfl) (pa_cons (pv 0) (pa_cons (pv 2) pa_nil))) pa_nil))) pa_nil))) pa_nil))))))))))
      (pss_one (ps_ret (pe_callTy call_tuple_of (by rfl) T.tuple (by decide +kernel) (pa_cons (pv 4) pa_nil)))))), ?_⟩
    have fr : n + 100 ≤ 1000000 := hn
    have xnl := nN.len
    have xol := nO.len
    have tpB : ∀ {Hx Hy : Hp} {m : Int}, Hand m Hx h → But h Hx Hy → Tp Hx Hy := fun {Hx Hy m} hx b c ys e => b c _ (hx.ne_tup (K := K) e) e
    have n0 : 0 < ns.length := List.length_pos_iff.mpr nne
    refine ⟨(by show 0 ≤ sizeLine; decide), fun F nF => ⟨_, _, rfl, ?_⟩⟩
    have sF := same_upd nF (o := .lst [])
    have eF : (L2.upd H F (.lst [])) F = some (.lst []) := upd_same
    have HF : H F = none := nF
    have Fh := hd.fresh nF
    have bF : But h H (L2.upd H F (.lst [])) := Same.but sF h
    have hF := hd.same sF
    generalize L2.upd H F (.lst []) = H0 at sF eF bF hF ⊢
    refine ⟨_, rfl, _, rfl, 7, 1, rfl, rfl, h, 8, n, rfl, by decide, by decide, hF, by show n ≤ 1000000; omega, fun d H1 d0 d1 h1 b1 => ?_⟩
    refine ⟨_, rfl, by omega, by omega, for_range (lo := 0) (n := d.toNat) (fun k σ Hx => ∃ (ys : List V) (ts : List (Option Nm)) (at_ : Int) (c6 c7 : Option V), σ = [some (.ref h), some (.ref N), some (.ref O), some (.int 7), some (.ref F), some (.int at_), c6, c7] ∧ 0 ≤ at_ ∧ at_ < ((ns.length : Nat) : Int) ∧ Hx F = some (.lst ys) ∧ Lp (TtV Hx) ys ts ∧ ts.length = k ∧ (∀ m, some m ∈ ts → m ∈ ns ∨ m ∈ no) ∧ Hand (n + 1 + 5 * k) Hx h ∧ But h H Hx) ?_ ?_ ?_⟩
    · exact ⟨[], [], 0, none, none, rfl, Int.le_refl _, by omega, b1 _ _ Fh eF, .nil, rfl, (fun m hm => by cases hm), h1.mono (by omega), bF.trans b1⟩
    · rintro k σ Hx hk ⟨ys, ts, a, c6, c7, rfl, a0, a1, eFx, lp, tk, mem, hx, bx⟩
      have k7 : k < 7 := by omega
      have yl := lp.len
      -- what is put behind
      have put : ∀ (v : V) (o : Option Nm) (a' : Int) (m : Int) (Hy : Hp) (c6' c7' : Option V), Hand m Hy h → m ≤ n + 1 + 5 * (k + 1 : Nat) → But h Hx Hy → TtV Hy v o → (∀ m, o = some m → m ∈ ns ∨ m ∈ no) → 0 ≤ a' → a' < ((ns.length : Nat) : Int) → Hy F = some (.lst ys) ∧ ys.length < sizeLine ∧
          ∃ (ys' : List V) (ts' : List (Option Nm)) (at_ : Int) (c6 c7 : Option V), [some (V.ref h), some (.ref N), some (.ref O), some (.int 7), some (.ref F), some (.int a'), c6', c7'] = [some (.ref h), some (.ref N), some (.ref O), some (.int 7), some (.ref F), some (.int at_), c6, c7] ∧ 0 ≤ at_ ∧ at_ < ((ns.length : Nat) : Int) ∧ (L2.upd Hy F (.lst (ys ++ [v]))) F = some (.lst ys') ∧ Lp (TtV (L2.upd Hy F (.lst (ys ++ [v])))) ys' ts' ∧ ts'.length = k + 1 ∧ (∀ m, some m ∈ ts' → m ∈ ns ∨ m ∈ no) ∧ Hand (n + 1 + 5 * (k + 1 : Nat)) (L2.upd Hy F (.lst (ys ++ [v]))) h ∧ But h H (L2.upd Hy F (.lst (ys ++ [v]))) := fun v o a' m Hy c6' c7' hy hm bxy tv ho q0 q1 => by
        have eFy := bxy _ _ Fh eFx
        have up : Tp Hy (L2.upd Hy F (.lst (ys ++ [v]))) := tp_upd fun us z => by rw [eFy] at z; cases z
        refine ⟨eFy, Nat.lt_of_le_of_lt (show ys.length ≤ 100 by omega) (by decide), ys ++ [v], ts ++ [o], a', c6', c7', rfl, q0, q1, upd_same, (lp.map fun v a z => z.tp ((tpB hx bxy).trans up)).snoc (tv.tp up), by rw [List.length_append, tk]; rfl, fun m2 hm2 => ?_, (hy.upd (Ne.symm Fh)).mono hm, fun b o2 nb e => ?_⟩
        · rcases List.mem_append.mp hm2 with z | z
          · exact mem m2 z
          · exact ho m2 (List.mem_singleton.mp z).symm
        · rw [upd_ne (ne_of_none e HF)]
          exact bxy b o2 nb (bx b o2 nb e)
      refine ⟨_, rfl, h, 8, _, rfl, by decide, by decide, hx, by show n + 1 + 5 * (k : Int) ≤ 1000000; omega, fun wy H2 w0 w1 h2 b2 => ?_⟩
      refine ⟨_, rfl, _, 4, rfl, rfl, _, rfl, ite2 (fun e => ?_) (fun e => ?_)⟩
      · refine ⟨_, rfl, N, xn, rfl, .inl (SqL.of (b2 _ _ Nh (bx _ _ Nh eN))), _, 1, rfl, rfl, _, rfl, _, rfl, h, 3, _, rfl, by decide, by decide, h2, by show n + 1 + 5 * (k : Int) + 1 ≤ 1000000; omega, fun d3 H3 d30 d31 h3 b3 => ?_⟩
        obtain ⟨j, hj, ej⟩ : ∃ j : Nat, j < ns.length ∧ (if a + d3 < ((xn.length : Nat) : Int) - 1 then a + d3 else ((xn.length : Nat) : Int) - 1) = (j : Int) := by
          split
          · exact ⟨(a + d3).toNat, by omega, by omega⟩
          · exact ⟨xn.length - 1, by omega, by omega⟩
        have b23 := b2.trans b3
        have bx3 := bx.trans b23
        have hj2 : j < xn.length := by omega
        obtain ⟨mj, emj, nvj⟩ := nN.get (List.getElem?_eq_getElem hj2)
        have tv : TtV H3 xn[j] (some mj) := nvj.tp (tpB hd bx3)
        refine ⟨_, _, rfl, rfl, ⟨_, _, rfl, ?_⟩⟩
        rw [ej]
        obtain ⟨eF3, l3, fin⟩ := put xn[j] (some mj) (j : Int) _ H3 _ _ h3 (by omega) b23 tv (fun m hm => by cases hm; exact .inl (List.mem_of_getElem? emj)) (by omega) (by omega)
        exact ⟨_, rfl, .inl ⟨rfl, _, SqL.of eF3⟩, _, rfl, _, rfl, N, xn, (j : Int), _, rfl, rfl, SqL.of (bx3 _ _ Nh eN), atI_nat (List.getElem?_eq_getElem hj2), F, ys, _, rfl, rfl, eF3, l3, fin⟩
      · refine ⟨_, rfl, _, 6, rfl, rfl, _, rfl, ite2 (fun e => ?_) (fun e => ?_)⟩
        · have bx2 := bx.trans b2
          refine ⟨_, rfl, .inl ⟨rfl, _, SqL.of (b2 _ _ Fh eFx)⟩, _, rfl, _, rfl, h, _, _, rfl, h2, by show n + 1 + 5 * (k : Int) + 1 ≤ 1000000; omega, .inl ⟨N, xn, rfl, bx2 _ _ Nh eN, Nh, (fun z => by rw [z] at xnl; simp at xnl; omega), by omega, fun v H3 mv h3 b3 => ?_⟩⟩
          obtain ⟨mj, hm, nv⟩ := nN.mem mv
          obtain ⟨eF3, l3, fin⟩ := put v (some mj) a _ H3 _ _ h3 (by omega) (b2.trans b3) (show NmV H3 v mj from nv.tp (tpB hd (bx2.trans b3))) (fun m hm2 => by cases hm2; exact .inl hm) a0 a1
          exact ⟨F, ys, _, rfl, rfl, eF3, l3, fin⟩
        · have bx2 := bx.trans b2
          refine ⟨_, rfl, .inl ⟨rfl, _, SqL.of (b2 _ _ Fh eFx)⟩, _, rfl, _, rfl, _, rfl, h, _, _, rfl, h2, by show n + 1 + 5 * (k : Int) + 1 ≤ 1000000; omega, .inl ⟨O, xo, rfl, bx2 _ _ Oh eO, Oh, (fun z => by rw [z] at xol; exact one (List.eq_nil_of_length_eq_zero (by simpa using xol.symm))), by omega, fun v H3 mv h3 b3 => ?_⟩⟩
          obtain ⟨mj, hm, nv⟩ := nO.mem mv
          refine ⟨(by show 2 ≤ sizeLine; decide), fun L nL => ?_⟩
          have sL := same_upd nL (o := .lst [.non, v])
          have Lh := h3.fresh nL
          have hL := h3.same sL
          have eL : (L2.upd H3 L (.lst [.non, v])) L = some (.lst [.non, v]) := upd_same
          have bL : But h H3 (L2.upd H3 L (.lst [.non, v])) := Same.but sL h
          generalize L2.upd H3 L (.lst [.non, v]) = H4 at hL eL bL ⊢
          refine ⟨h, _, _, rfl, hL, by show n + 1 + 5 * (k : Int) + 1 + 1 ≤ 1000000; omega, .inl ⟨L, _, rfl, eL, Lh, by simp, by show 2 < 1000; decide, fun v2 H5 mv2 h5 b5 => ?_⟩⟩
          have b25 := (b2.trans b3).trans (bL.trans b5)
          simp only [List.mem_cons, List.not_mem_nil, or_false] at mv2
          rcases mv2 with z | z
          · obtain ⟨eF3, l3, fin⟩ := put v2 none a _ H5 _ _ h5 (by omega) b25 z (fun m hm2 => by cases hm2) a0 a1
            exact ⟨F, ys, _, rfl, rfl, eF3, l3, fin⟩
          · obtain ⟨eF3, l3, fin⟩ := put v2 (some mj) a _ H5 _ _ h5 (by omega) b25 (show NmV H5 v2 mj by rw [z]; exact nv.tp (tpB hd (bx.trans b25))) (fun m hm2 => by cases hm2; exact .inr hm) a0 a1
            exact ⟨F, ys, _, rfl, rfl, eF3, l3, fin⟩
    · rintro σ Hx ⟨ys, ts, a, c6, c7, rfl, a0, a1, eFx, lp, tk, mem, hx, bx⟩
      refine ⟨_, rfl, F, ys, rfl, .inl ⟨SqL.of eFx, fun t nt => ?_⟩⟩
      have st := same_upd nt (o := .tup ys)
      exact q t ys ts _ upd_same (lp.map fun v a z => z.tp (tp_same st)) (by omega) mem ((hx.same st).mono (by omega)) (bx.trans (Same.but st h))
theorem ok_bk {f : Addr} {fd : FuncData} {k : Nat} (D : Df K mg "_law_backward" ["_law_work_here"] sBackward f fd) (T : Txt mg) (cBk : Ca P w K mg base (k + 1) "_law_backward" ["_law_work_here"] (spBk k)) : FnOk P w K mg base CX0 (k + 2) f fd ["_law_work_here"] (spBk (k + 1)) := by
  refine D.fn.ok scBackward (fun vs H Q E h => ?_) (fun cdv A outer s H vs Q E hr h => ?_)
  · obtain ⟨v, w, rfl, wk, hd, hl, q⟩ := h
    rfl
  · obtain ⟨v, w, rfl, wk, hd, hl, q⟩ := h
    refine ⟨_, (pss_one (ps_ret (pe_tup (pa_cons (pe_ix ix_tup (pv 0) pe_int (fun _ _ => rfl)) (pa_cons (pe_callTy call_tuple_of (by rfl) T.tuple (by decide +kernel) (pa_cons (pe_revL (pe_lc (own := [("_law_part", 1)]) (g := gName 1) (tt := tYes) (te := tCall (spBk k) [] E0 (tCons (tVar 1) tNil)) (by rfl) scBackward.nd (pi_tup (pe_ix ix_tup (pv 0) pe_int (fun _ _ => rfl))) (blkOk_by (own := [("_law_part", 1)]) (N := ["_law_work_here", "_law_part"]) (sc := defScope sBackward) (by decide +kernel)) (fun _ _ _ _ _ => pg_name (i := 1) scBackward.nd rfl (.inl rfl)) (fun _ _ _ _ _ => pts_nil) (fun _ _ _ _ _ => pe_ca cBk hr (by omega) (by rfl) (pa_cons (pv 1) pa_nil)))) pa_nil)) pa_nil))))), ?_⟩
    cases wk with
    | @mk t p v0 nm xs ps e1 nv e2 wl =>
    rw [W.dp] at hd
    rw [W.nms, List.length_cons] at hl
    have lx := wl.len
    have lps := len_nmsL' ps
    refine ⟨_, rfl, t, _, 0, v0, rfl, rfl, SqT.of e1, rfl, ?_⟩
    refine ⟨_, rfl, t, _, 1, .ref p, rfl, rfl, SqT.of e1, rfl, p, rfl, ⟨_, SqT.of e2⟩, fun D nD => ?_⟩
    refine lc_tup (K := K) (a := p) (xs := xs) (fun i Hi => L2.Same H Hi ∧ ∃ ys, Hi D = some (.lst ys) ∧ WkL Hi ys ((ps.take i).map bk)) ⟨same_upd nD, [], upd_same, .nil⟩ (fun i Hi _ z => SqT.of (z.1 _ _ e2)) ?_ ?_
    · rintro i x Hi hx ⟨sm, ys, eD, wy⟩
      obtain ⟨w', ew, wk'⟩ := wl.get hx
      have mw := List.mem_of_getElem? ew
      have dw := dpL_mem mw
      have nlw := nmsL_mem mw
      have dpos := W.dp_pos w'
      have il := (List.getElem?_eq_some_iff.mp ew).1
      have yl := wy.len
      rw [List.length_map, List.length_take] at yl
      obtain ⟨j, rfl⟩ : ∃ j, k = j + 1 := ⟨k - 1, by omega⟩
      refine ⟨rfl, ?_⟩
      unfold tYes
      refine iteT ⟨_, rfl, x, w', rfl, wk'.tp (tp_same sm), by omega, by omega, fun r H1 s1 wr => ?_⟩
      have eD1 := s1 _ _ eD
      have up : Tp H1 (L2.upd H1 D (.lst (ys ++ [r]))) := tp_upd fun us z => by rw [eD1] at z; cases z
      refine ⟨ys, eD1, Nat.lt_of_le_of_lt (show ys.length ≤ 2000 by omega) (by decide), fun b o e => ?_, ys ++ [r], upd_same, ?_⟩
      · rw [upd_ne (ne_of_none e nD)]
        exact s1 _ _ (sm _ _ e)
      · rw [List.take_add_one, ew, List.map_append]
        exact ((wy.tp ((tp_same s1).trans up))).snoc (wr.tp up)
    rintro He ⟨sm, ys, eD, wy⟩
    rw [List.take_of_length_le (by omega)] at wy
    refine ⟨D, ys, rfl, SqL.of eD, fun R nR => ?_⟩
    have sR := same_upd nR (o := .lst ys.reverse)
    refine ⟨R, _, rfl, .inl ⟨SqL.of upd_same, fun z nz => ?_⟩⟩
    have sz := same_upd nz (o := .tup ys.reverse)
    refine ⟨(by show 2 ≤ sizeLine; decide), fun t2 n2 => ?_⟩
    have s2 := same_upd n2 (o := .tup [v0, .ref z])
    have sall := ((sm.trans sR).trans sz).trans s2
    refine q (.ref t2) _ sall ?_
    rw [bk, bkL_map]
    exact .mk upd_same (nv.tp (tp_same sall)) (s2 _ _ upd_same) ((wy.rev).tp (tp_same ((sR.trans sz).trans s2)))
theorem bk_fn {f : Addr} {fd : FuncData} (D : Df K mg "_law_backward" ["_law_work_here"] sBackward f fd) (T : Txt mg) : ∀ k, FnOk P w K mg base CX0 (k + 1) f fd ["_law_work_here"] (spBk k)
  | 0 => ⟨fun _ _ _ _ h => h.elim, fun _ _ _ _ _ _ _ _ _ _ _ _ _ h => h.elim⟩
  | k + 1 => ok_bk D T (D.ca (bk_fn D T k))
end
end K82
set_option Elab.async false
set_option linter.all false
set_option maxRecDepth 100000
set_option maxHeartbeats 4000000
set_option pp.maxSteps 400
set_option pp.deepTerms false
namespace K82
open PySem PySem.Spec PyProof.Rows L2
open Xk Az W37
section
variable {P : Program} {w : World} {K : PySem.W.Frag} {mg : Str → Option Value} {base : Heap}
theorem nodup_len : ∀ {a b : List Int}, a.Nodup → (∀ k ∈ a, k ∈ b) → a.length ≤ b.length
  | [], _, _, _ => Nat.zero_le _
  | x :: a, b, nd, h => by
    rw [List.nodup_cons] at nd
    have hx := h x List.mem_cons_self
    have := nodup_len (a := a) (b := b.erase x) nd.2 fun k hk => (List.mem_erase_of_ne (fun z : k = x => nd.1 (z ▸ hk))).mpr (h k (List.mem_cons_of_mem _ hk))
    rw [List.length_erase_of_mem hx] at this
    have := List.length_pos_of_mem hx
    rw [List.length_cons]
    omega
section
variable {X : Cx}
def rSetTI (K : PySem.W.Frag) (w : World) : List V → Hp → VK → Prop := fun xs H Q => ∃ (p : Addr) (ns : List Int), xs = [.ref p] ∧ SqT K H p (ns.map V.int) ∧ ns.length ≤ 1000 ∧ ∀ a c, H a = none → (∀ ms : List Int, (∀ k ∈ ns, k ∈ ms) → c ≤ ms.length) → Q (.ref a) (upd H a (SetO w a (fun j => decide (j ∈ ns)) c))
theorem cr_setTI (hc : X.calm = true) : CallR X (.type "set") (rSetTI X.K X.w) := by
  intro pins s σ H xs us Q I r h
  obtain ⟨p0, ns, rfl, hq, hl, q⟩ := h
  cases r with
  | cons r rr =>
    cases rr
    cases r
    obtain ⟨its, rv, pt, hz⟩ := I.tuple hq
    have hi : IntsAre its.toArray.toList ns := ints_of_vals rv
    refine call_set_tupI ns (I.ok.hd hc) (show s.heap.IsTuple p0 its.toArray from pt) hi (by unfold scanBound; omega) fun h' tk c R1 hcn k => ?_
    exact ⟨.ref _, upd H s.heap.objs.size (SetO X.w s.heap.objs.size _ c), I.laid (t' := tk) k (Nat.le_refl _) (setO_new R1), rfl, q _ _ (I.hok.fresh (Nat.le_refl _)) fun ms hms => by
      obtain ⟨o, es, ep, t, ho, hex, hdt, g, nd, hm2, hb, hf, hn, hr, hl2⟩ := R1
      have := nodup_len nd (b := ms) fun k hk => hms k (of_decide_eq_true ((hm2 k).mpr hk))
      rw [List.length_map, Array.length_toList] at this
      omega⟩
end
theorem srt_ext : ∀ {a b : List Int}, a.Pairwise (· < ·) → b.Pairwise (· < ·) → (∀ k, k ∈ a ↔ k ∈ b) → a = b
  | [], [], _, _, _ => rfl
  | [], y :: _, _, _, h => absurd ((h y).mpr List.mem_cons_self) (by simp)
  | x :: _, [], _, _, h => absurd ((h x).mp List.mem_cons_self) (by simp)
  | x :: a, y :: b, ha, hb, h => by
    rw [List.pairwise_cons] at ha hb
    have e : x = y := by
      rcases List.mem_cons.mp ((h x).mp List.mem_cons_self) with z | z
      · exact z
      · rcases List.mem_cons.mp ((h y).mpr List.mem_cons_self) with u | u
        · exact u.symm
        · have h1 := hb.1 x z
          have h2 := ha.1 y u
          omega
    subst e
    congr 1
    refine srt_ext ha.2 hb.2 fun k => ⟨fun hk => ?_, fun hk => ?_⟩
    · rcases List.mem_cons.mp ((h k).mp (List.mem_cons_of_mem _ hk)) with z | z
      · have := ha.1 k hk
        omega
      · exact z
    · rcases List.mem_cons.mp ((h k).mpr (List.mem_cons_of_mem _ hk)) with z | z
      · have := hb.1 k hk
        omega
      · exact z
def rng (s : S2) : List Int := (List.range (s.2 - s.1).toNat).map fun k : Nat => s.1 + (k : Int)
def rngs (l : List S2) : List Int := l.flatMap rng
theorem mem_rng {s : S2} {x : Int} : x ∈ rng s ↔ s.1 ≤ x ∧ x < s.2 := by
  unfold rng
  rw [List.mem_map]
  constructor
  · rintro ⟨k, hk, rfl⟩
    rw [List.mem_range] at hk
    omega
  · intro h
    exact ⟨(x - s.1).toNat, List.mem_range.mpr (by omega), by omega⟩
theorem rngV (s : S2) : rgV s.1 s.2 = (rng s).map V.int := by
  unfold rgV rng
  rw [List.map_map]
  rfl
theorem rngs_len : ∀ {l : List S2}, (∀ s ∈ l, s.1 < s.2) → (((rngs l).length : Nat) : Int) = vl l
  | [], _ => rfl
  | s :: r, h => by
    have ih := rngs_len (l := r) fun t ht => h t (List.mem_cons_of_mem _ ht)
    have hs := h s List.mem_cons_self
    have e : (rngs (s :: r)).length = (s.2 - s.1).toNat + (rngs r).length := by
      unfold rngs
      rw [List.flatMap_cons, List.length_append]
      congr 1
      unfold rng
      rw [List.length_map, List.length_range]
    rw [e]
    show _ = (s.2 - s.1) + vl r
    push_cast
    omega
theorem rngs_lt : ∀ {l : List S2}, Ch l → (rngs l).Pairwise (· < ·)
  | [], _ => .nil
  | s :: r, h => by
    have h := List.pairwise_cons.mp h
    unfold rngs
    rw [List.flatMap_cons, List.pairwise_append]
    refine ⟨?_, rngs_lt h.2, fun a ha b hb => ?_⟩
    · unfold rng
      rw [List.pairwise_map]
      exact List.pairwise_lt_range.imp fun {a b} hab => by omega
    · obtain ⟨t, ht, hb⟩ := List.mem_flatMap.mp hb
      have x := mem_rng.mp ha
      have y := mem_rng.mp hb
      have z : s.2 ≤ t.1 := h.1 t ht
      omega
theorem all_sorted {l : List S2} {n : Nat} (c : Ch l) (h : ∀ s ∈ l, 0 ≤ s.1 ∧ s.1 < s.2 ∧ s.2 ≤ (n : Int)) {ns : List Int} (pm : ns.Perm (rngs l ++ toI (lkF l n))) (so : ns.Pairwise (· ≤ ·)) : ns = toI (List.range n) := by
  have mlk : ∀ x : Int, x ∈ toI (lkF l n) ↔ 0 ≤ x ∧ x < (n : Int) ∧ ∀ s ∈ l, ¬ (s.1 ≤ x ∧ x < s.2) := fun x => by
    unfold toI lkF
    rw [List.mem_map]
    constructor
    · rintro ⟨k, hk, rfl⟩
      rw [List.mem_filter, List.mem_range] at hk
      obtain ⟨h1, h2⟩ := hk
      simp only [Bool.not_eq_true', List.any_eq_false, Bool.and_eq_true, decide_eq_true_eq] at h2
      exact ⟨by omega, by omega, h2⟩
    · rintro ⟨h1, h2, h3⟩
      refine ⟨x.toNat, ?_, by omega⟩
      rw [List.mem_filter, List.mem_range]
      refine ⟨by omega, ?_⟩
      simp only [Bool.not_eq_true', List.any_eq_false, Bool.and_eq_true, decide_eq_true_eq]
      intro s hs
      have := h3 s hs
      rwa [show ((x.toNat : Nat) : Int) = x by omega]
  have mrg : ∀ x : Int, x ∈ rngs l ↔ ∃ s ∈ l, s.1 ≤ x ∧ x < s.2 := fun x => by
    unfold rngs
    rw [List.mem_flatMap]
    exact ⟨fun ⟨s, hs, hx⟩ => ⟨s, hs, mem_rng.mp hx⟩, fun ⟨s, hs, hx⟩ => ⟨s, hs, mem_rng.mpr hx⟩⟩
  have lkp : (toI (lkF l n)).Pairwise (· < ·) := by
    unfold toI lkF
    rw [List.pairwise_map]
    exact (List.pairwise_lt_range.filter _).imp fun {a b} hab => by omega
  have nd : (rngs l ++ toI (lkF l n)).Nodup := by
    rw [List.nodup_append]
    refine ⟨(rngs_lt c).imp fun {a b} h => by omega, lkp.imp fun {a b} h => by omega, fun a ha b hb e => ?_⟩
    obtain ⟨s, hs, hx⟩ := (mrg a).mp ha
    rw [e] at hx
    exact ((mlk b).mp hb).2.2 s hs hx
  have nd2 : ns.Nodup := (List.Perm.nodup_iff pm).mpr nd
  have lt : ns.Pairwise (· < ·) := List.Pairwise.imp₂ (R := (· ≤ ·)) (S := (· ≠ ·)) (fun a b h1 h2 => by omega) so nd2
  refine srt_ext lt (by unfold toI; rw [List.pairwise_map]; exact List.pairwise_lt_range.imp fun {a b} hab => by omega) fun k => ?_
  rw [pm.mem_iff, List.mem_append, mrg, mlk]
  constructor
  · rintro (⟨s, hs, h1, h2⟩ | ⟨h1, h2, _⟩)
    · obtain ⟨a, b, d⟩ := h s hs
      exact List.mem_map.mpr ⟨k.toNat, List.mem_range.mpr (by omega), by omega⟩
    · exact List.mem_map.mpr ⟨k.toNat, List.mem_range.mpr (by omega), by omega⟩
  · intro hk
    obtain ⟨x, hx, rfl⟩ := List.mem_map.mp hk
    rw [List.mem_range] at hx
    by_cases e : ∃ s ∈ l, s.1 ≤ (x : Int) ∧ (x : Int) < s.2
    · exact .inl e
    · exact .inr ⟨by omega, by omega, fun s hs z => e ⟨s, hs, z⟩⟩
def lastE (l : List S2) : Int := match l.getLast? with
  | none => 0
  | some s => s.2
theorem last_le {l : List S2} {s : S2} (h : ∀ t ∈ l, t.2 ≤ s.1) (h0 : 0 ≤ s.1) : lastE l ≤ s.1 := by
  unfold lastE
  cases e : l.getLast? with
  | none => exact h0
  | some t => exact h t (List.mem_of_getLast? e)
theorem last_snoc (l : List S2) (s : S2) : lastE (l ++ [s]) = s.2 := by
  unfold lastE
  rw [List.getLast?_append]
  rfl
theorem lay_ints : ∀ ns : List Int, PyData.canLayAll0 (ns.map .int) = true
  | [] => by simp [PyData.canLayAll0]
  | n :: r => by
    rw [List.map_cons]
    simp only [PyData.canLayAll0, PyData.canLay0, Bool.true_and]
    exact lay_ints r
theorem shaped_ints (ns : List Int) : SeqAt.shaped (.list (ns.map .int)) = true := by
  unfold SeqAt.shaped
  have h1 : (PyData.list (ns.map .int)).canLay0 = true := by simp only [PyData.canLay0]; exact lay_ints ns
  have h2 : (PyData.list (ns.map .int)).depth ≤ 64 := by simp only [PyData.depth, Xt.depth_ints]; omega
  rw [h1, decide_eq_true h2]
  rfl
theorem eqv_lints (a b : List Int) : PyData.eqv (.list (a.map .int)) (.list (b.map .int)) = decide (a = b) := by
  simp only [PyData.eqv]
  exact Xt.eqv_ints a b
theorem dp_all : ∀ {H : Hp} (ns : List Int), DpAll K H (ns.map V.int) (ns.map PyData.int)
  | _, [] => .nil
  | _, n :: r => .cons (.int n) (dp_all r)
theorem dp_ints {H : Hp} {a : Addr} {ns : List Int} (e : H a = some (.lst (ns.map V.int))) : Dp K H (.ref a) (.list (ns.map .int)) := .lst (SqL.of e) (dp_all ns)
/-- what most_in_order tells -/
structure MoAt (H : Hp) (t : Addr) (w : W) (ts : List (Option Nm)) (m : Int) : Prop where
  ex : ∃ (c k : Addr) (is : List Nat) (l : List S2), H t = some (.tup [.int m, .ref c, .ref k]) ∧ H c = some (.tup ((toI is).map V.int)) ∧ H k = some (.tup ((toI (lkF l (lvs w).length)).map V.int)) ∧ Pk (ts.map fun t => t.bind (spn w)) 0 is l ∧ Ch l ∧ vl l = m
  most : Most (ts.map fun t => t.bind (spn w)) m
  nn : 0 ≤ m
theorem MoAt.tp {H H' : Hp} {t : Addr} {w : W} {ts : List (Option Nm)} {m : Int} (h : MoAt H t w ts m) (s : Tp H H') : MoAt H' t w ts m := by
  obtain ⟨c, k, is, l, a, b, d, r⟩ := h.ex
  exact ⟨⟨c, k, is, l, s _ _ a, s _ _ b, s _ _ d, r⟩, h.most, h.nn⟩
def spCR : Sp := fun vs H Q _ => ∃ (v : V) (T t : Addr) (xs : List V) (w : W) (ts : List (Option Nm)) (m : Int), vs = [v, .ref T, .ref t] ∧ Wk H v w ∧ w.dp ≤ 5 ∧ w.nms.length ≤ 100 ∧ (∀ m ∈ w.nms, An m) ∧ H T = some (.tup xs) ∧ Lp (TtV H) xs ts ∧ ts.length ≤ 30 ∧ (∀ m, some m ∈ ts → An m) ∧ MoAt H t w ts m ∧ ∀ H', L2.Same H H' → Q (.bl true) H'
theorem ok_cr {f : Addr} {fd : FuncData} {fSo : Addr} {fdSo : FuncData} (D : Df K mg "_law_choice_right" ["_law_work_here", "_law_titles_here", "_law_told"] sChoiceRight f fd) (T : Txt mg) (So_ : So P w K mg base fSo fdSo) (cLv : Ca P w K mg base 6 "leaves" ["work"] (spLv 5)) : FnOk P w K mg base CX0 8 f fd ["_law_work_here", "_law_titles_here", "_law_told"] spCR := by
  obtain ⟨ds, rd, bd⟩ := So_.b1
  refine D.fn.ok scChoiceRight (fun vs H Q E h => ?_) (fun cdv A outer s H vs Q E hr h => ?_)
  · obtain ⟨v, T0, t, xs, wz, ts, m, rfl, wk, hd, hl, an, eT, tl, l30, at_, mo, q⟩ := h
    rfl
  · obtain ⟨v, T0, t, xs, wz, ts, m, rfl, wk, hd, hl, an, eT, tl, l30, at_, mo, q⟩ := h
    refine ⟨_, (pss_cons (ps_asg (pv 2) (pg_tup (by rfl) (pgs_cons (pg_name (i := 3) scChoiceRight.nd rfl (.inl rfl)) (pgs_cons (pg_name (i := 4) scChoiceRight.nd rfl (.inl rfl)) (pgs_cons (pg_name (i := 5) scChoiceRight.nd rfl (.inl rfl)) pgs_nil)))))
      (pss_cons (ps_par (i := 6) (j := 7) (by rfl) scChoiceRight.nd rfl rfl (by decide) rfl rfl (pa_cons (pe_lst pa_nil) (pa_cons pe_int pa_nil)) (by rfl))
      (pss_cons (ps_for PassesOwn.never rfl (pi_tup (pv 4)) (pg_name (i := 8) scChoiceRight.nd rfl (.inl rfl)) (pss_cons (ps_set (i := 9) scChoiceRight.nd rfl (.inl rfl) (pe_call So_.ok (hr.mono (by decide)) (by rfl) So_.mgf So_.kp bd rd pass0 (pa_cons (pv 0) (pa_cons (pe_ix ix_tup (pv 1) (pv 8) (fun _ _ => rfl)) pa_nil))))
      (pss_cons (ps_if (PW.pt (pw_or (pt_cmpR op_isN (pv 9) pe_non (nomark _)) (pw_or1 (pt_cmpR op_lt (pe_ix ix_tup (pv 9) pe_int (fun _ _ => rfl)) (pv 7) (nomark _))))) (pss_one (ps_ret pe_bl)) pss_nil)
      (pss_cons (ps_expr (pe_bm PySem.F.plainAttrs_list PySem.F.slot_list_extend PySem.F.type_list_extend mt_extend (pv 6) (pa_cons (pe_listRg (by rfl) (by rfl) T.list (prg_2 (by rfl) T.range (pe_ix ix_tup (pv 9) pe_int (fun _ _ => rfl)) (pe_ix ix_tup (pv 9) pe_int (fun _ _ => rfl)))) pa_nil)))
      (pss_one (ps_set (i := 7) scChoiceRight.nd rfl (.inl rfl) (pe_ix ix_tup (pv 9) pe_int (fun _ _ => rfl))))))))
      (pss_cons (ps_if (PW.pt (pw_or (pt_cmpR (op_neD hr.units) (pe_callTy Xtu.cr_listT (by rfl) T.list (by decide +kernel) (pa_cons (pv 4) pa_nil)) (pe_callB (cr_sortedSet (by rfl)) (by rfl) T.sorted (by decide +kernel) (pa_cons (pe_callTy (cr_setTI (by rfl)) (by rfl) T.set (by decide +kernel) (pa_cons (pv 4) pa_nil)) pa_nil)) (nomark _)) (pw_or1 (pt_cmpR op_ne (pe_callB call_len_seq (by rfl) T.len PySem.boot_len (pa_cons (pv 6) pa_nil)) (pv 3) (nomark _))))) (pss_one (ps_ret pe_bl)) pss_nil)
      (pss_one (ps_ret (pe_cmpR (op_eqD hr.units) (pe_callB cr_sortedI (by rfl) T.sorted (by decide +kernel) (pa_cons (pe_op op_cat (pv 6) (pe_callTy Xtu.cr_listT (by rfl) T.list (by decide +kernel) (pa_cons (pv 5) pa_nil))) pa_nil)) (pe_listRg (by rfl) (by rfl) T.list (prg_1 (by rfl) T.range (pe_callB call_len_seq (by rfl) T.len PySem.boot_len (pa_cons (pe_ca cLv hr (by decide) (by rfl) (pa_cons (pv 0) pa_nil)) pa_nil)))) (nomark _)))))))), ?_⟩
    have hnn := nl_nms wz
    have hnp := nl_pos wz
    obtain ⟨⟨c, k, is, l, et, ec, ek, pk, ch, ev⟩, mst, m0⟩ := mo
    have tlen := tl.len
    have psn := pos_spn wz ts
    have tspn : ∀ (n : Nat) (s : S2), (ts.map fun t => t.bind (spn wz))[n]? = some (some s) → ∃ m0, ts[n]? = some (some m0) ∧ spn wz m0 = some s := fun n s e => by
      rw [List.getElem?_map] at e
      obtain ⟨o, e1, e2⟩ := Option.map_eq_some_iff.mp e
      cases o with
      | none => cases e2
      | some m0 => exact ⟨m0, e1, e2⟩
    have lin : ∀ s ∈ l, 0 ≤ s.1 ∧ s.1 < s.2 ∧ s.2 ≤ nl wz := fun s hs => by
      have h1 := pk.sub.subset hs
      obtain ⟨o, ho, rfl⟩ := List.mem_filterMap.mp h1
      rw [List.drop_zero] at ho
      obtain ⟨o2, _, e2⟩ := List.mem_map.mp ho
      cases o2 with
      | none => cases e2
      | some m0 => exact spn_in e2
    have isr := pk.rise
    have isl := pk.len
    have ll : l.length ≤ 30 := Nat.le_trans pk.sub.length_le (Nat.le_trans (List.length_filterMap_le _ _) (by rw [List.drop_zero, List.length_map]; exact l30))
    generalize (ts.map fun t => t.bind (spn wz)) = S at tspn pk mst psn
    refine ⟨_, rfl, t, _, rfl, SqT.of et, rfl, _, _, rfl, _, _, rfl, _, _, rfl, rfl, ?_⟩
    refine ⟨(by show 0 ≤ sizeLine; decide), fun F nF => ⟨_, _, rfl, ?_⟩⟩
    have sF := same_upd nF (o := .lst [])
    have eF : (L2.upd H F (.lst [])) F = some (.lst []) := upd_same
    have HF : H F = none := nF
    generalize L2.upd H F (.lst []) = H0 at sF eF ⊢
    refine ⟨_, rfl, c, rfl, ⟨_, SqT.of (sF _ _ ec)⟩, for_tup (K := K) (a := c) (xs := (toI is).map V.int) (fun i σ Hx => ∃ (c8 c9 : Option V), σ = [some v, some (.ref T0), some (.ref t), some (.int m), some (.ref c), some (.ref k), some (.ref F), some (.int (lastE (l.take i))), c8, c9] ∧ L2.Same H Hx ∧ Hx F = some (.lst ((rngs (l.take i)).map V.int))) ⟨none, none, rfl, sF, eF⟩ (fun i σ Hi _ z => by obtain ⟨_, _, _, z, _⟩ := z; exact SqT.of (z _ _ ec)) ?_ ?_⟩
    · rintro i x σ Hx hx ⟨c8, c9, rfl, sx, eFx⟩
      rw [List.getElem?_map] at hx
      obtain ⟨n', en', rfl⟩ := Option.map_eq_some_iff.mp hx
      rw [List.getElem?_map] at en'
      obtain ⟨n, en, rfl⟩ := Option.map_eq_some_iff.mp en'
      obtain ⟨s, el, es⟩ := pk.get en
      obtain ⟨m1, em1, esp⟩ := tspn n s es
      obtain ⟨nv, env, tv⟩ := tl.at_ em1
      have tv : NmV H nv m1 := tv
      obtain ⟨s0, s1, s2⟩ := lin s (List.mem_of_getElem? el)
      have il := (List.getElem?_eq_some_iff.mp el).1
      have cht : ∀ a ∈ l.take i, a.2 ≤ s.1 := fun a ha => by
        obtain ⟨j, hj⟩ := List.getElem?_of_mem ha
        rw [List.getElem?_take] at hj
        split at hj
        · rename_i ji
          have jl := (List.getElem?_eq_some_iff.mp hj)
          have il2 := (List.getElem?_eq_some_iff.mp el)
          have := List.pairwise_iff_getElem.mp ch j i jl.1 il ji
          rw [jl.2, il2.2] at this
          exact this
        · cases hj
      have lle := last_le cht s0
      refine ⟨_, rfl, _, rfl, _, rfl, T0, xs, (n : Int), nv, rfl, rfl, SqT.of (sx _ _ eT), atI_nat env, ?_⟩
      refine ⟨v, nv, wz, m1, rfl, wk.tp (tp_same sx), hd, hl, an, tv.tp (tp_same sx), at_ m1 (List.mem_of_getElem? em1), fun r H1 h1 sr => ?_⟩
      rw [esp] at sr
      obtain ⟨u, rfl, eu⟩ := sr
      refine ⟨_, rfl, rfl, _, rfl, iteF ?_⟩
      refine ⟨_, rfl, u, _, 0, .int s.1, rfl, rfl, SqT.of eu, rfl, _, rfl, _, _, rfl, rfl, _, rfl, ?_⟩
      rw [decide_eq_false (show ¬ s.1 < lastE (l.take i) by omega)]
      refine iteF ?_
      have eF1 := h1 _ _ eFx
      refine ⟨_, rfl, .inl ⟨rfl, _, SqL.of eF1⟩, _, rfl, u, _, 0, .int s.1, rfl, rfl, SqT.of eu, rfl, _, rfl, u, _, 1, .int s.2, rfl, rfl, SqT.of eu, rfl, _, _, rfl, rfl, RgOk.of_le (by omega) (by omega) (by omega) (by omega), fun q2 nq => ?_⟩
      have sq := same_upd nq (o := .lst (rgV s.1 s.2))
      have eq2 : (L2.upd H1 q2 (.lst (rgV s.1 s.2))) q2 = some (.lst ((rng s).map V.int)) := by rw [upd_same, rngV]
      have eF2 := sq _ _ eF1
      have s12 := h1.trans sq
      have eu2 := sq _ _ eu
      generalize L2.upd H1 q2 (.lst (rgV s.1 s.2)) = H2 at sq eq2 eF2 s12 eu2 ⊢
      have sub : rngs (l.take (i + 1)) = rngs (l.take i) ++ rng s := by
        unfold rngs
        rw [List.take_add_one, el, List.flatMap_append]
        simp
      have rl : (((rngs (l.take (i + 1))).length : Nat) : Int) = vl (l.take (i + 1)) := rngs_len fun t ht => (lin t (List.mem_of_mem_take ht)).2.1
      have rr : (rng s).length = (s.2 - s.1).toNat := by unfold rng; rw [List.length_map, List.length_range]
      have rb : (rngs (l.take i)).length ≤ 3000 := by
        unfold rngs
        rw [List.length_flatMap]
        have : ∀ (q : List S2), (∀ t ∈ q, (rng t).length ≤ 100) → (q.map fun t => (rng t).length).sum ≤ 100 * q.length := fun q => by
          induction q with
          | nil => intro _; simp
          | cons t r ih =>
            intro hq
            rw [List.map_cons, List.sum_cons, List.length_cons]
            have := hq t List.mem_cons_self
            have := ih fun z hz => hq z (List.mem_cons_of_mem _ hz)
            omega
        refine Nat.le_trans (this _ fun t ht => ?_) (by rw [List.length_take]; omega)
        obtain ⟨a, b, d⟩ := lin t (List.mem_of_mem_take ht)
        unfold rng
        rw [List.length_map, List.length_range]
        omega
      refine ⟨F, q2, _, _, rfl, rfl, eF2, eq2, ?_, ?_⟩
      · rw [List.length_map, List.length_map, rr]
        exact Nat.le_trans (show _ ≤ 4000 by omega) (by decide)
      refine ⟨_, rfl, u, [.int s.1, .int s.2], 1, .int s.2, rfl, rfl, SqT.of ?_, rfl, some (.int (n : Int)), some (.ref u), ?_, fun b o e => ?_, ?_⟩
      · rw [upd_ne (ne_of eu2 eF2 (by intro z; cases z))]
        exact eu2
      · rw [List.take_add_one, el]
        show _ = [some v, some (V.ref T0), some (.ref t), some (.int m), some (.ref c), some (.ref k), some (.ref F), some (.int (lastE (l.take i ++ [s]))), some (.int (n : Int)), some (.ref u)]
        rw [last_snoc]
        rfl
      · rw [upd_ne (ne_of_none e HF)]
        exact s12 _ _ (sx _ _ e)
      · rw [upd_same, sub, List.map_append]
    rintro σ Hx ⟨c8, c9, rfl, sx, eFx⟩
    rw [List.take_of_length_le (by rw [List.length_map, List.length_map]; omega)] at eFx
    have ecx := sx _ _ ec
    -- the choice is rising
    refine ⟨_, rfl, c, _, rfl, SqT.of ecx, fun l1 n1 ne1 => ?_⟩
    have s1 := same_upd n1 (o := .lst ((toI is).map V.int))
    have e1 : (L2.upd Hx l1 (.lst ((toI is).map V.int))) l1 = some (.lst ((toI is).map V.int)) := upd_same
    generalize L2.upd Hx l1 (.lst ((toI is).map V.int)) = H1 at s1 e1 ⊢
    have il : (toI is).length ≤ 30 := by rw [List.length_map]; omega
    refine ⟨_, rfl, c, _, rfl, SqT.of (s1 _ _ ecx), by omega, fun a cc na hcc => ?_⟩
    conv =>
      pattern (occs := *) SetO _ a _ _
      all_goals (change SetO w a (fun j => decide (j ∈ toI is)) cc)
    have sa := same_upd na (o := SetO w a (fun j => decide (j ∈ toI is)) cc)
    have ea : (L2.upd H1 a (SetO w a (fun j => decide (j ∈ toI is)) cc)) a = some (SetO w a (fun j => decide (j ∈ toI is)) cc) := upd_same
    generalize L2.upd H1 a (SetO w a (fun j => decide (j ∈ toI is)) cc) = H2 at sa ea ⊢
    have lti : (toI is).Pairwise (· < ·) := by
      unfold toI
      rw [List.pairwise_map]
      exact isr.imp fun {a b} h => by omega
    refine ⟨a, _, cc, rfl, ea, by have := hcc (toI is) (fun k h => h); omega, fun ns p pw mem lns np => ?_⟩
    have en : ns = toI is := srt_ext pw lti fun k => by rw [mem, decide_eq_true_eq]
    have sp := same_upd np (o := .lst (ns.map V.int))
    have e3 : (L2.upd H2 p (.lst (ns.map V.int))) p = some (.lst (ns.map V.int)) := upd_same
    generalize L2.upd H2 p (.lst (ns.map V.int)) = H3 at sp e3 ⊢
    have s13 := sa.trans sp
    refine ⟨_, _, dp_ints (s13 _ _ e1), dp_ints e3, shaped_ints _, shaped_ints _, _, rfl, ?_⟩
    rw [eqv_lints, en, decide_eq_true rfl]
    refine iteF ?_
    have eF3 := s13 _ _ (s1 _ _ eFx)
    have hl2 : (((rngs l).length : Nat) : Int) = m := by rw [rngs_len fun t ht => (lin t ht).2.1, ev]
    refine ⟨_, rfl, F, _, rfl, .inl (SqL.of eF3), _, rfl, rfl, _, rfl, ?_⟩
    have le : (!decide (V.int ((((rngs l).map V.int).length : Nat) : Int) = V.int m)) = false := by rw [List.length_map, hl2]; simp
    rw [le]
    refine iteF ?_
    have ek3 := s13 _ _ (s1 _ _ (sx _ _ ek))
    refine ⟨_, rfl, _, rfl, k, _, rfl, SqT.of ek3, fun l4 n4 ne4 => ?_⟩
    have s4 := same_upd n4 (o := .lst ((toI (lkF l (lvs wz).length)).map V.int))
    have e4 : (L2.upd H3 l4 (.lst ((toI (lkF l (lvs wz).length)).map V.int))) l4 = some (.lst ((toI (lkF l (lvs wz).length)).map V.int)) := upd_same
    generalize L2.upd H3 l4 (.lst ((toI (lkF l (lvs wz).length)).map V.int)) = H4 at s4 e4 ⊢
    obtain ⟨n, hn⟩ : ∃ n, n = (lvs wz).length := ⟨_, rfl⟩
    have n1 : n ≤ 100 := by rw [hn]; unfold nl at hnn; omega
    rw [← hn] at e4
    have lk1 : (lkF l n).length ≤ n := by
      unfold lkF
      exact Nat.le_trans (List.length_filter_le _ _) (by rw [List.length_range]; exact Nat.le_refl _)
    have vlb : m ≤ 3000 := by
      have : ∀ (q : List S2), (∀ t ∈ q, t.2 - t.1 ≤ 100) → vl q ≤ 100 * ((q.length : Nat) : Int) := fun q => by
        induction q with
        | nil => intro _; exact Int.le_refl _
        | cons t r ih =>
          intro hq
          have := hq t List.mem_cons_self
          have := ih fun z hz => hq z (List.mem_cons_of_mem _ hz)
          show (t.2 - t.1) + vl r ≤ 100 * (((t :: r).length : Nat) : Int)
          rw [List.length_cons]
          push_cast
          omega
      have := this l fun t ht => by
        obtain ⟨a, b, d⟩ := lin t ht
        omega
      omega
    refine ⟨F, l4, _, _, rfl, rfl, s4 _ _ eF3, e4, ?_, fun z nz => ?_⟩
    · rw [List.length_map, List.length_map, List.length_map]
      exact Nat.le_trans (show _ ≤ 5000 by omega) (by decide)
    have ea2 : (rngs l).map V.int ++ (toI (lkF l n)).map V.int = (rngs l ++ toI (lkF l n)).map V.int := (List.map_append ..).symm
    rw [ea2]
    have sz := same_upd nz (o := .lst ((rngs l ++ toI (lkF l n)).map V.int))
    refine ⟨z, _, rfl, SqL.of upd_same, fun ns2 p2 pm so np2 => ?_⟩
    have e5 := all_sorted ch (fun s hs => by have := lin s hs; rw [hn]; unfold nl at this; exact this) pm so
    have s5 := same_upd np2 (o := .lst (ns2.map V.int))
    have e6 : (L2.upd (L2.upd H4 z (.lst ((rngs l ++ toI (lkF l n)).map V.int))) p2 (.lst (ns2.map V.int))) p2 = some (.lst (ns2.map V.int)) := upd_same
    have s45 := (s4.trans sz).trans s5
    generalize L2.upd (L2.upd H4 z (.lst ((rngs l ++ toI (lkF l n)).map V.int))) p2 (.lst (ns2.map V.int)) = H5 at s45 e6 ⊢
    have s05 := ((sx.trans s1).trans s13).trans s45
    refine ⟨_, rfl, v, wz, rfl, wk.tp (tp_same s05), by show wz.dp ≤ 4 + 1; omega, by omega, fun t7 xs7 H7 s7 et7 lx7 => ?_⟩
    have lx : xs7.length = n := by rw [hn]; unfold nl at lx7; omega
    refine ⟨t7, xs7, rfl, .inr (SqT.of et7), _, rfl, RgOk.of_le (by omega) (by omega) (by omega) (by omega), fun z8 n8 => ?_⟩
    have s8 := same_upd n8 (o := .lst (rgV 0 ((xs7.length : Nat) : Int)))
    have er : rgV 0 ((xs7.length : Nat) : Int) = (toI (List.range n)).map V.int := by
      unfold rgV toI
      rw [lx, Int.sub_zero, Int.toNat_natCast, List.map_map]
      refine List.map_congr_left fun k _ => ?_
      show V.int (0 + (k : Int)) = V.int (k : Int)
      rw [Int.zero_add]
    have e8 : (L2.upd H7 z8 (.lst (rgV 0 ((xs7.length : Nat) : Int)))) z8 = some (.lst ((toI (List.range n)).map V.int)) := by rw [upd_same, er]
    generalize L2.upd H7 z8 (.lst (rgV 0 ((xs7.length : Nat) : Int))) = H8 at s8 e8 ⊢
    have s78 := s7.trans s8
    refine ⟨_, _, dp_ints (s78 _ _ e6), dp_ints e8, shaped_ints _, shaped_ints _, ?_⟩
    rw [eqv_lints, e5, decide_eq_true rfl]
    exact q H8 (s05.trans s78)
end
end K82
set_option Elab.async false
set_option linter.all false
set_option maxRecDepth 100000
set_option maxHeartbeats 4000000
set_option pp.maxSteps 400
set_option pp.deepTerms false
namespace K82
open PySem PySem.Spec PyProof.Rows L2
open Xk Az W37
section
variable {P : Program} {w : World} {K : PySem.W.Frag} {mg : Str → Option Value} {base : Heap}
structure Ht_ (P : Program) (w : World) (K : PySem.W.Frag) (mg : Str → Option Value) (base : Heap) (f : Addr) (fd : FuncData) : Prop where
  ok : FnOk P w K mg base CX0 9 f fd ["work", "titles", "names"] (spHt K)
  mgf : mg "heights" = some (.ref f)
  kp : PySem.W.keepIn K (.ref f) = true
  b1 : ∃ ds, Vals [.non] ds ∧ Binds K fd ["work", "titles", "names"] ds
structure Mo_ (P : Program) (w : World) (K : PySem.W.Frag) (mg : Str → Option Value) (base : Heap) (pB : Addr) (f : Addr) (fd : FuncData) : Prop where
  ok : FnOk P w K mg base CX0 9 f fd ["work", "titles", "names"] (spMO K pB)
  mgf : mg "most_in_order" = some (.ref f)
  kp : PySem.W.keepIn K (.ref f) = true
  b1 : ∃ ds, Vals [.non] ds ∧ Binds K fd ["work", "titles", "names"] ds
structure Sm_ (P : Program) (w : World) (K : PySem.W.Frag) (mg : Str → Option Value) (base : Heap) (f : Addr) (fd : FuncData) : Prop where
  ok : FnOk P w K mg base CX0 9 f fd ["work", "titles", "many", "thing", "names"] (spSM K)
  mgf : mg "shows_most" = some (.ref f)
  kp : PySem.W.keepIn K (.ref f) = true
  b1 : ∃ ds, Vals [.non] ds ∧ Binds K fd ["work", "titles", "many", "thing", "names"] ds
theorem ht_mk {f : Addr} {fd : FuncData} (F : FunD K "heights" "heights" (defArgs sHeights) (defBody sHeights) (defScope sHeights) [.non] [] f fd) (mgf : mg "heights" = some (.ref f))
    (ok : FnOk P w K mg base CX0 9 f fd ["work", "titles", "names"] (spHt K)) : Ht_ P w K mg base f fd :=
  ⟨ok, mgf, F.kp, F.binds1 (ps := ["work", "titles", "names"]) 2 0 (by simp) rfl fun T kV doc pm an cdv ct us its h1 h2 => by
    match us, its, h1, h2 with
    | [_, _], [_], _, _ => exact ⟨_, rfl, rfl⟩⟩
theorem mo_mk {f pB : Addr} {fd : FuncData} (F : FunD K "most_in_order" "most_in_order" (defArgs sMostInOrder) (defBody sMostInOrder) (defScope sMostInOrder) [.non] [] f fd) (mgf : mg "most_in_order" = some (.ref f))
    (ok : FnOk P w K mg base CX0 9 f fd ["work", "titles", "names"] (spMO K pB)) : Mo_ P w K mg base pB f fd :=
  ⟨ok, mgf, F.kp, F.binds1 (ps := ["work", "titles", "names"]) 2 0 (by simp) rfl fun T kV doc pm an cdv ct us its h1 h2 => by
    match us, its, h1, h2 with
    | [_, _], [_], _, _ => exact ⟨_, rfl, rfl⟩⟩
theorem sm_mk {f : Addr} {fd : FuncData} (F : FunD K "shows_most" "shows_most" (defArgs sShowsMost) (defBody sShowsMost) (defScope sShowsMost) [.non] [] f fd) (mgf : mg "shows_most" = some (.ref f))
    (ok : FnOk P w K mg base CX0 9 f fd ["work", "titles", "many", "thing", "names"] (spSM K)) : Sm_ P w K mg base f fd :=
  ⟨ok, mgf, F.kp, F.binds1 (ps := ["work", "titles", "many", "thing", "names"]) 4 0 (by simp) rfl fun T kV doc pm an cdv ct us its h1 h2 => by
    match us, its, h1, h2 with
    | [_, _, _, _], [_], _, _ => exact ⟨_, rfl, rfl⟩⟩
def spPR : Sp := fun vs H Q _ => ∃ (h : Addr) (n : Int) (v : V) (T : Addr) (xs : List V) (w : W) (ts : List (Option Nm)) (m : Int), vs = [.ref h, v, .ref T, .int m] ∧ Hand n H h ∧ n + 1000 ≤ far ∧ Wk H v w ∧ w.dp ≤ 5 ∧ w.nms.length ≤ 100 ∧ (∀ m ∈ w.nms, An m) ∧ H T = some (.tup xs) ∧ Lp (TtV H) xs ts ∧ ts.length ≤ 8 ∧ (∀ m, some m ∈ ts → An m) ∧
  Most (ts.map fun t => t.bind (spn w)) m ∧ 0 ≤ m ∧ ∀ H', Hand (n + 200) H' h → But h H H' → Q (.bl true) H'
theorem ok_pr {f : Addr} {fd : FuncData} {fHt fSm : Addr} {fdHt fdSm : FuncData} (D : Df K mg "_law_papers_right" ["_law_hand_here", "_law_work_here", "_law_titles_here", "_law_many"] sPapersRight f fd) (T : Txt mg) (cT : Ca P w K mg base 1 "_law_take" ["_law_hand_here", "_law_many"] spTake) (Ht : Ht_ P w K mg base fHt fdHt) (Sm : Sm_ P w K mg base fSm fdSm) : FnOk P w K mg base CX0 10 f fd ["_law_hand_here", "_law_work_here", "_law_titles_here", "_law_many"] spPR := by
  obtain ⟨dH, rH, bH⟩ := Ht.b1
  obtain ⟨dS, rS, bS⟩ := Sm.b1
  refine D.fn.ok scPapersRight (fun vs H Q E h => ?_) (fun cdv A outer s H vs Q E hr h => ?_)
  · obtain ⟨h, n, v, T0, xs, wz, ts, m, rfl, hh, hn, wk, hd, hl, an, eT, tl, l8, at_, mst, m0, q⟩ := h
    rfl
  · obtain ⟨h, n, v, T0, xs, wz, ts, m, rfl, hh, hn, wk, hd, hl, an, eT, tl, l8, at_, mst, m0, q⟩ := h
    refine ⟨_, (pss_cons (ps_set (i := 4) scPapersRight.nd rfl (.inl rfl) (pe_call Ht.ok (hr.mono (by decide)) (by rfl) Ht.mgf Ht.kp bH rH pass0 (pa_cons (pv 1) (pa_cons (pv 2) pa_nil))))
      (pss_cons (ps_for PassesOwn.never rfl (pi_range1 (by rfl) T.range (pa_cons pe_int pa_nil)) (pg_name (i := 5) scPapersRight.nd rfl (.inl rfl)) (pss_cons (ps_set (i := 6) scPapersRight.nd rfl (.inl rfl) (pe_callTy call_tuple_of (by rfl) T.tuple (by decide +kernel) (pa_cons (pe_lc (own := [("_law_one", 10)]) (g := gName 10) (tt := tYes) (te := tOp (rI0 fun i j => V.int (i + j)) (tVar 10) (tCall spTake [] E0 (tCons (tVar 0) (tCons (tC (.int 3)) tNil)))) (by rfl) scPapersRight.nd (pi_tup (pv 4)) (blkOk_by (own := [("_law_one", 10)]) (N := ["_law_hand_here", "_law_work_here", "_law_titles_here", "_law_many", "_law_told", "_law_turn", "_law_raised", "_law_drawn", "_law_paper", "_law_number", "_law_one"]) (sc := defScope sPapersRight) (by decide +kernel)) (fun _ _ _ _ _ => pg_name (i := 10) scPapersRight.nd rfl (.inl rfl)) (fun _ _ _ _ _ => pts_nil) (fun _ _ _ _ _ => pe_op op_add (pv 10) (pe_ca cT hr (by decide) (by rfl) (pa_cons (pv 0) (pa_cons pe_int pa_nil))))) pa_nil)))
      (pss_cons (ps_set (i := 7) scPapersRight.nd rfl (.inl rfl) (pe_callTy call_tuple_of (by rfl) T.tuple (by decide +kernel) (pa_cons (pe_lc (own := [("_law_one", 10)]) (g := gName 10) (tt := tYes) (te := tCall spTake [] E0 (tCons (tVar 0) (tCons (tOp (rI0 fun i j => V.int (i + j)) (tVar 3) (tC (.int 2))) tNil))) (by rfl) scPapersRight.nd (pi_tup (pv 4)) (blkOk_by (own := [("_law_one", 10)]) (N := ["_law_hand_here", "_law_work_here", "_law_titles_here", "_law_many", "_law_told", "_law_turn", "_law_raised", "_law_drawn", "_law_paper", "_law_number", "_law_one"]) (sc := defScope sPapersRight) (by decide +kernel)) (fun _ _ _ _ _ => pg_name (i := 10) scPapersRight.nd rfl (.inl rfl)) (fun _ _ _ _ _ => pts_nil) (fun _ _ _ _ _ => pe_ca cT hr (by decide) (by rfl) (pa_cons (pv 0) (pa_cons (pe_op op_add (pv 3) pe_int) pa_nil)))) pa_nil)))
      (pss_one (ps_for PassesOwn.never rfl (pi_tup (pe_tup (pa_cons (pv 4) (pa_cons (pv 6) (pa_cons (pv 7) pa_nil))))) (pg_name (i := 8) scPapersRight.nd rfl (.inl rfl)) (pss_one (ps_for PassesOwn.never rfl (pi_tup (pe_tup (pa_cons (pe_op op_sub (pv 3) pe_int) (pa_cons (pv 3) (pa_cons (pe_op op_add (pv 3) pe_int) (pa_cons (pe_callB (Xvl.cr_maxT (by rfl) hr) (by rfl) T.max (by decide +kernel) (pa_cons (pe_op Xtu.op_catU (pe_tup (pa_cons pe_int pa_nil)) (pv 8)) pa_nil)) pa_nil)))))) (pg_name (i := 9) scPapersRight.nd rfl (.inl rfl)) (pss_one (ps_if (PW.pt (pw_and (pt_cmpR op_ge (pv 9) pe_int (nomark _)) (pw_and (pt_val (pe_call Sm.ok (hr.mono (by decide)) (by rfl) Sm.mgf Sm.kp bS rS pass0 (pa_cons (pv 1) (pa_cons (pv 2) (pa_cons (pv 9) (pa_cons (pv 8) pa_nil)))))) (pw_and1 (pt_cmpR op_lt (pv 9) (pv 3) (nomark _)))))) (pss_one (ps_ret pe_bl)) pss_nil)))))))))
      (pss_one (ps_ret (pe_and (pe_cmpR op_isBl (pe_call Sm.ok (hr.mono (by decide)) (by rfl) Sm.mgf Sm.kp bS rS pass0 (pa_cons (pv 1) (pa_cons (pv 2) (pa_cons (pv 3) (pa_cons (pv 4) pa_nil))))) pe_bl (nomark _)) (pe_one (pe_cmpR op_isBl (pe_call Sm.ok (hr.mono (by decide)) (by rfl) Sm.mgf Sm.kp bS rS pass0 (pa_cons (pv 1) (pa_cons (pv 2) (pa_cons (pe_op op_add (pv 3) pe_int) (pa_cons (pv 4) pa_nil))))) pe_bl (nomark _)))))))), ?_⟩
    have fr : n + 1000 ≤ 1000000 := hn
    have xl := tl.len
    have tpB : ∀ {Hx Hy : Hp} {m : Int}, Hand m Hx h → But h Hx Hy → Tp Hx Hy := fun {Hx Hy m} hx b c ys e => b c _ (hx.ne_tup (K := K) e) e
    have psn := pos_spn wz ts
    have sl : (ts.map fun t => t.bind (spn wz)).length = ts.length := List.length_map ..
    refine ⟨_, rfl, _, rfl, v, T0, xs, wz, ts, rfl, wk, hd, hl, an, SqT.of eT, tl, by omega, at_, fun t0 H0 s0 et0 => ?_⟩
    obtain ⟨S, eS⟩ : ∃ S, S = ts.map fun t => t.bind (spn wz) := ⟨_, rfl⟩
    have nlow : ∀ (nn : Int) (p : List Int), p.length = ts.length → 0 ≤ nn → smB (ts.map fun t => t.bind (spn wz)) nn p = true → m ≤ nn := fun nn p pl n0 e => by
      rcases show_chain psn (by rw [sl, pl]) e mst with z | z
      · exact z
      · obtain ⟨l, sb, _, ev⟩ := mst.ex
        rw [z] at sb
        rw [List.sublist_nil.mp sb] at ev
        have ev : (0 : Int) = m := ev
        omega
    have hh0 := hh.same s0
    have b0 : But h H H0 := Same.but s0 h
    generalize ep0 : htl (ts.map fun t => t.bind (spn wz)) ts.length = p0 at et0
    have pl0 : p0.length = ts.length := by rw [← ep0, htl_len]
    have mb : m ≤ 800 := by
      obtain ⟨l, sb, _, ev⟩ := mst.ex
      have hnn := nl_nms wz
      have l8' : l.length ≤ 8 := Nat.le_trans sb.length_le (Nat.le_trans (List.length_filterMap_le _ _) (by rw [sl]; exact l8))
      have : ∀ (q : List S2), (∀ t ∈ q, t.2 - t.1 ≤ 100) → vl q ≤ 100 * ((q.length : Nat) : Int) := fun q => by
        induction q with
        | nil => intro _; exact Int.le_refl _
        | cons t r ih =>
          intro hq
          have := hq t List.mem_cons_self
          have := ih fun z hz => hq z (List.mem_cons_of_mem _ hz)
          show (t.2 - t.1) + vl r ≤ 100 * (((t :: r).length : Nat) : Int)
          rw [List.length_cons]
          push_cast
          omega
      have := this l fun t ht => by
        obtain ⟨o, ho, eo⟩ := List.mem_filterMap.mp (sb.subset ht)
        have eo : o = some t := eo
        obtain ⟨o2, _, e2⟩ := List.mem_map.mp ho
        rw [eo] at e2
        cases o2 with
        | none => cases e2
        | some m0 =>
          have e2 : spn wz m0 = some t := e2
          have := spn_in e2
          unfold nl at *
          omega
      omega
    refine ⟨_, rfl, by decide, by decide, for_range (lo := 0) (n := 6) (fun k σ Hx => ∃ (c5 c6 c7 c8 c9 : Option V), σ = [some (.ref h), some v, some (.ref T0), some (.int m), some (.ref t0), c5, c6, c7, c8, c9, none] ∧ Hand (n + 16 * k) Hx h ∧ But h H Hx ∧ Hx t0 = some (.tup (p0.map V.int))) ?_ ?_ ?_⟩
    · exact ⟨none, none, none, none, none, rfl, hh0.mono (by omega), b0, et0⟩
    · rintro k σ Hx hk ⟨c5, c6, c7, c8, c9, rfl, hx, bx, etx⟩
      refine ⟨_, rfl, ?_⟩
      refine ⟨t0, rfl, ⟨_, SqT.of etx⟩, fun D nD => ?_⟩
      have Dh := hx.fresh nD
      refine lc_tup (K := K) (a := t0) (xs := p0.map V.int) (fun i Hi => Hand (n + 16 * k + i) Hi h ∧ But h Hx Hi ∧ ∃ ys : List Int, ys.length = i ∧ Hi D = some (.lst (ys.map V.int))) ⟨(hx.same (same_upd nD)).mono (by omega), Same.but (same_upd nD) h, [], rfl, upd_same⟩ (fun i Hi _ z => SqT.of (tpB hx z.2.1 _ _ etx)) ?_ ?_
      · rintro i x Hi hix ⟨hi, bi, ys, yl, eD⟩
        rw [List.getElem?_map] at hix
        obtain ⟨e, ee, rfl⟩ := Option.map_eq_some_iff.mp hix
        have il := (List.getElem?_eq_some_iff.mp ee).1
        refine ⟨rfl, ?_⟩
        unfold tYes
        refine iteT ⟨_, rfl, _, rfl, h, 3, n + 16 * k + i, rfl, by decide, by decide, hi, by show n + 16 * (k : Int) + (i : Int) ≤ 1000000; omega, fun d H2 d0 d1 h2 b2 => ?_⟩
        have eD2 := b2 _ _ Dh eD
        exact ⟨e, d, rfl, rfl, _, eD2, by rw [List.length_map, yl]; exact Nat.lt_of_le_of_lt (show i ≤ 100 by omega) (by decide), (h2.upd (Ne.symm Dh)).mono (by push_cast; omega), fun b o nb eo => by
          rw [upd_ne (ne_of_none eo nD)]
          exact b2 b o nb (bi b o nb eo), ys ++ [e + d], by rw [List.length_append, yl]; rfl, by rw [upd_same, List.map_append]; rfl⟩
      rintro He ⟨hi, bi, ys, yl, eD⟩
      refine ⟨D, _, rfl, .inl ⟨SqL.of eD, fun R nR => ?_⟩⟩
      have sR := same_upd nR (o := .tup (ys.map V.int))
      have h1 := hi.same sR
      have b1 := bi.trans (Same.but sR h)
      have eR : (L2.upd He R (.tup (ys.map V.int))) R = some (.tup (ys.map V.int)) := upd_same
      have Rh := hi.fresh nR
      have yl : ys.length = ts.length := by rw [yl, List.length_map, pl0]
      rw [List.length_map, pl0] at h1
      generalize L2.upd He R (.tup (ys.map V.int)) = H1 at h1 b1 eR ⊢
      clear hi bi eD nR sR nD Dh
      have et1 := tpB hx b1 _ _ etx
      -- the drawn
      refine ⟨_, rfl, ?_⟩
      refine ⟨t0, rfl, ⟨_, SqT.of et1⟩, fun D nD => ?_⟩
      have Dh := h1.fresh nD
      refine lc_tup (K := K) (a := t0) (xs := p0.map V.int) (fun i Hi => Hand (n + 16 * k + ts.length + i) Hi h ∧ But h H1 Hi ∧ ∃ ys : List Int, ys.length = i ∧ Hi D = some (.lst (ys.map V.int))) ⟨(h1.same (same_upd nD)).mono (by omega), Same.but (same_upd nD) h, [], rfl, upd_same⟩ (fun i Hi _ z => SqT.of (tpB h1 z.2.1 _ _ et1)) ?_ ?_
      · rintro i x Hi hix ⟨hi, bi, ys, yl, eD⟩
        rw [List.getElem?_map] at hix
        obtain ⟨e, ee, rfl⟩ := Option.map_eq_some_iff.mp hix
        have il := (List.getElem?_eq_some_iff.mp ee).1
        refine ⟨rfl, ?_⟩
        unfold tYes
        refine iteT ⟨_, rfl, _, rfl, m, 2, rfl, rfl, h, m + 2, n + 16 * k + ts.length + i, rfl, by omega, lt30i (by omega), hi, by show n + 16 * (k : Int) + ts.length + (i : Int) ≤ 1000000; omega, fun d H2 d0 d1 h2 b2 => ?_⟩
        have eD2 := b2 _ _ Dh eD
        exact ⟨_, eD2, by rw [List.length_map, yl]; exact Nat.lt_of_le_of_lt (show i ≤ 100 by omega) (by decide), (h2.upd (Ne.symm Dh)).mono (by push_cast; omega), fun b o nb eo => by
          rw [upd_ne (ne_of_none eo nD)]
          exact b2 b o nb (bi b o nb eo), ys ++ [d], by rw [List.length_append, yl]; rfl, by rw [upd_same, List.map_append]; rfl⟩
      rintro He2 ⟨hi, bi, zs, zl, eD⟩
      refine ⟨D, _, rfl, .inl ⟨SqL.of eD, fun U nU => ?_⟩⟩
      have sU := same_upd nU (o := .tup (zs.map V.int))
      have h2 := hi.same sU
      have b2 := bi.trans (Same.but sU h)
      have eU : (L2.upd He2 U (.tup (zs.map V.int))) U = some (.tup (zs.map V.int)) := upd_same
      have zl : zs.length = ts.length := by rw [zl, List.length_map, pl0]
      rw [List.length_map, pl0] at h2
      generalize L2.upd He2 U (.tup (zs.map V.int)) = H2 at h2 b2 eU ⊢
      clear hi bi eD nU sU nD Dh
      have et2 := tpB h1 b2 _ _ et1
      have eR2 := b2 _ _ Rh eR
      have b02 := (bx.trans b1).trans b2
      -- the papers
      refine ⟨_, rfl, _, rfl, _, rfl, (by show 3 ≤ sizeLine; decide), fun Z nZ => ?_⟩
      have sZ := same_upd nZ (o := .tup [.ref t0, .ref R, .ref U])
      have eZ : (L2.upd H2 Z (.tup [.ref t0, .ref R, .ref U])) Z = some (.tup [.ref t0, .ref R, .ref U]) := upd_same
      have h3 := h2.same sZ
      have b03 := b02.trans (Same.but sZ h)
      have pap : ∀ x ∈ [V.ref t0, .ref R, .ref U], ∃ (P0 : Addr) (p : List Int), x = .ref P0 ∧ (L2.upd H2 Z (.tup [.ref t0, .ref R, .ref U])) P0 = some (.tup (p.map V.int)) ∧ p.length = ts.length := fun x hx => by
        simp only [List.mem_cons, List.not_mem_nil, or_false] at hx
        rcases hx with rfl | rfl | rfl
        · exact ⟨t0, p0, rfl, sZ _ _ et2, pl0⟩
        · exact ⟨R, ys, rfl, sZ _ _ eR2, yl⟩
        · exact ⟨U, zs, rfl, sZ _ _ eU, zl⟩
      have etZ := sZ _ _ et2
      generalize L2.upd H2 Z (.tup [.ref t0, .ref R, .ref U]) = H3 at eZ h3 b03 pap etZ ⊢
      refine ⟨Z, rfl, ⟨_, SqT.of eZ⟩, for_tup (K := K) (a := Z) (xs := [.ref t0, .ref R, .ref U]) (fun i σ Hx => ∃ (c8 c9 : Option V), σ = [some (.ref h), some v, some (.ref T0), some (.int m), some (.ref t0), some (.int (0 + (k : Int))), some (.ref R), some (.ref U), c8, c9, none] ∧ L2.Same H3 Hx) ⟨c8, c9, rfl, Same.refl _⟩ (fun i σ Hi _ z => by obtain ⟨_, _, _, z⟩ := z; exact SqT.of (z _ _ eZ)) ?_ ?_⟩
      · rintro i x σ Hi hix ⟨c8, c9, rfl, si⟩
        obtain ⟨P0, p, rfl, eP, pl⟩ := pap x (List.mem_of_getElem? hix)
        have ePi := si _ _ eP
        refine ⟨_, rfl, m, 1, rfl, rfl, _, rfl, _, rfl, m, 1, rfl, rfl, (by show 1 ≤ sizeLine; decide), fun z1 nz1 => ?_⟩
        have sz1 := same_upd nz1 (o := .tup [.int 0])
        refine ⟨_, rfl, z1, P0, _, _, rfl, rfl, upd_same, sz1 _ _ ePi, ?_, fun z2 H4 s4 e4 => ?_⟩
        · rw [List.length_map, pl]
          exact Nat.le_trans (show 1 + ts.length ≤ 100 by omega) (by decide)
        refine ⟨z2, 0, p, rfl, SqT.of e4, (by show 4 ≤ sizeLine; decide), fun z3 nz3 => ?_⟩
        have sz3 := same_upd nz3 (o := .tup [.int (m - 1), .int m, .int (m + 1), .int (p.foldl max 0)])
        have e3 : (L2.upd H4 z3 (.tup [.int (m - 1), .int m, .int (m + 1), .int (p.foldl max 0)])) z3 = some (.tup [.int (m - 1), .int m, .int (m + 1), .int (p.foldl max 0)]) := upd_same
        have s5 := (sz1.trans s4).trans sz3
        have i5 := si.trans s5
        have eP5 := s5 _ _ ePi
        generalize L2.upd H4 z3 (.tup [.int (m - 1), .int m, .int (m + 1), .int (p.foldl max 0)]) = H5 at e3 i5 eP5 ⊢
        refine ⟨z3, rfl, ⟨_, SqT.of e3⟩, for_tup (K := K) (a := z3) (xs := [.int (m - 1), .int m, .int (m + 1), .int (p.foldl max 0)]) (fun i σ Hx => ∃ (c9 : Option V), σ = [some (.ref h), some v, some (.ref T0), some (.int m), some (.ref t0), some (.int (0 + (k : Int))), some (.ref R), some (.ref U), some (.ref P0), c9, none] ∧ L2.Same H5 Hx) ⟨c9, rfl, Same.refl _⟩ (fun i σ Hi _ z => by obtain ⟨_, _, z⟩ := z; exact SqT.of (z _ _ e3)) ?_ ?_⟩
        · rintro j x σ Hj hjx ⟨c9', rfl, sj⟩
          obtain ⟨nn, rfl⟩ : ∃ nn : Int, x = .int nn := by
            have := List.mem_of_getElem? hjx
            simp only [List.mem_cons, List.not_mem_nil, or_false] at this
            rcases this with rfl | rfl | rfl | rfl <;> exact ⟨_, rfl⟩
          have bj : But h H Hj := b03.trans (Same.but (i5.trans sj) h)
          refine ⟨_, rfl, nn, 0, rfl, rfl, _, rfl, ite2 (fun e => ?_) (fun e => ?_)⟩
          · have n0 : 0 ≤ nn := of_decide_eq_true e
            refine ⟨_, rfl, _, rfl, _, rfl, _, rfl, v, T0, xs, wz, ts, nn, P0, p, rfl, wk.tp (tpB hh bj), hd, hl, an, SqT.of (tpB hh bj _ _ eT), (tl.map fun v a z => z.tp (tpB hh bj)), by omega, at_, (sj _ _ eP5), pl, fun H6 s6 => ⟨_, rfl, ite2 (fun e2 => ?_) (fun e2 => ?_)⟩⟩
            · have := nlow nn p pl n0 e2
              refine ⟨_, rfl, _, rfl, nn, m, rfl, rfl, _, rfl, ?_⟩
              rw [decide_eq_false (show ¬ nn < m by omega)]
              exact iteF ⟨_, rfl, sj.trans s6⟩
            · exact iteF ⟨_, rfl, sj.trans s6⟩
          · exact iteF ⟨_, rfl, sj⟩
        · rintro σ Hj ⟨c9', rfl, sj⟩
          exact ⟨_, _, rfl, i5.trans sj⟩
      · rintro σ Hi ⟨c8', c9', rfl, si⟩
        exact ⟨_, _, _, _, _, rfl, (h3.same si).mono (by omega), b03.trans (Same.but si h), si _ _ etZ⟩
    · rintro σ Hx ⟨c5, c6, c7, c8, c9, rfl, hx, bx, etx⟩
      have sh : ∀ nn, m ≤ nn → smB (ts.map fun t => t.bind (spn wz)) nn p0 = true := fun nn h => by
        rw [← ep0, ← sl]
        exact htl_shows psn mst m0 h
      refine ⟨_, rfl, _, rfl, _, rfl, _, rfl, v, T0, xs, wz, ts, m, t0, p0, rfl, wk.tp (tpB hh bx), hd, hl, an, SqT.of (tpB hh bx _ _ eT), (tl.map fun v a z => z.tp (tpB hh bx)), by omega, at_, etx, pl0, fun H6 s6 => ?_⟩
      rw [sh m (Int.le_refl _)]
      refine ⟨_, _, rfl, rfl, _, rfl, ite2 (fun _ => ?_) (fun z => absurd (by decide) z)⟩
      have b6 : But h H H6 := bx.trans (Same.but s6 h)
      refine ⟨_, rfl, _, rfl, _, rfl, m, 1, rfl, rfl, _, rfl, v, T0, xs, wz, ts, m + 1, t0, p0, rfl, wk.tp (tpB hh b6), hd, hl, an, SqT.of (tpB hh b6 _ _ eT), (tl.map fun v a z => z.tp (tpB hh b6)), by omega, at_, s6 _ _ etx, pl0, fun H7 s7 => ?_⟩
      rw [sh (m + 1) (by omega)]
      refine ⟨_, _, rfl, rfl, ?_⟩
      exact q H7 (((hx.same s6).same s7).mono (by omega)) (b6.trans (Same.but s7 h))
end
end K82
set_option Elab.async false
set_option linter.all false
set_option maxRecDepth 100000
set_option maxHeartbeats 4000000
set_option pp.maxSteps 400
set_option pp.deepTerms false
namespace K82
open PySem PySem.Spec PyProof.Rows L2
open Xk Az W37
section
variable {P : Program} {w : World} {K : PySem.W.Frag} {mg : Str → Option Value} {base : Heap}
/-- all but the hand and the tables stay -/
def BN (h : Addr) (H H' : Hp) : Prop := ∀ b o, b ≠ h → (∀ ps, o ≠ .tbl ps) → H b = some o → H' b = some o
theorem BN.of {h : Addr} {H H' : Hp} (b : But h H H') : BN h H H' := fun c o n _ e => b c o n e
theorem BN.ex {h : Addr} {H H' : Hp} (b : LamX.ExtN H H') : BN h H H' := fun c o _ n e => b c o e n
theorem BN.trans {h : Addr} {H H1 H2 : Hp} (a : BN h H H1) (b : BN h H1 H2) : BN h H H2 := fun c o n m e => b c o n m (a c o n m e)
theorem BN.tp {h : Addr} {n : Int} {H H' : Hp} (b : BN h H H') (hh : Hand n H h) : Tp H H' := fun c ys e => b c _ (hh.ne_tup (K := []) e) (fun ps z => by cases z) e
theorem Hand.ext {h : Addr} {n : Int} {H H' : Hp} (hh : Hand n H h) (x : LamX.ExtN H H') : Hand n H' h := by
  obtain ⟨g, m, c, e, r⟩ := hh
  exact ⟨g, m, c, exL x e, r⟩
theorem tabs_but {T : List (Addr × Str)} {n : Int} {h : Addr} {H H' : Hp} (t : LamX.Tabs T H) (hh : Hand n H h) (b : But h H H') : LamX.Tabs T H' := fun p hp => by
  obtain ⟨g, m, c, e, _⟩ := hh
  obtain ⟨ps, h1, h2, h3⟩ := t p hp
  refine ⟨ps, b _ _ (ne_of h1 e (by intro z; cases z)) h1, h2, fun pos cv hc => ?_⟩
  obtain ⟨c, e1, e2⟩ := h3 pos cv hc
  exact ⟨c, e1, b _ _ (ne_of e2 e (by intro z; unfold LamX.CodeO at z; cases z)) e2⟩
def spRt (K : PySem.W.Frag) (pB : Addr) : Sp := fun vs H Q _ => ∃ (h : Addr) (n : Int) (v : V) (T : Addr) (ev : V) (xs : List V) (w : W) (ts : List (Option Nm)) (me : Nm), vs = [.ref h, v, .ref T, ev] ∧ Hand n H h ∧ n + 2000 ≤ far ∧ Wk H v w ∧ w.dp ≤ 5 ∧ w.nms.length ≤ 100 ∧ (∀ m ∈ w.nms, An m) ∧ w.nms.Nodup ∧ H T = some (.tup xs) ∧ Lp (TtV H) xs ts ∧ ts.length ≤ 7 ∧ (∀ m, some m ∈ ts → An m) ∧
  NmV H ev me ∧ An me ∧ LamX.Tabs (Tb pB) H ∧ ∀ H', Hand (n + 300) H' h → BN h H H' → LamX.Tabs (Tb pB) H' → Q (.bl true) H'
theorem ok_rt {f : Addr} {fd : FuncData} {fMo : Addr} {fdMo : FuncData} {pB : Addr} (D : Df K mg "_law_right" ["_law_hand_here", "_law_work_here", "_law_titles_here", "_law_extra"] sRight f fd) (T : Txt mg) (cT : Ca P w K mg base 1 "_law_take" ["_law_hand_here", "_law_many"] spTake) (Mo : Mo_ P w K mg base pB fMo fdMo) (cCR : Ca P w K mg base 8 "_law_choice_right" ["_law_work_here", "_law_titles_here", "_law_told"] spCR) (cPR : Ca P w K mg base 10 "_law_papers_right" ["_law_hand_here", "_law_work_here", "_law_titles_here", "_law_many"] spPR) (cBk : Ca P w K mg base 6 "_law_backward" ["_law_work_here"] (spBk 5)) : FnOk P w K mg base CX0 11 f fd ["_law_hand_here", "_law_work_here", "_law_titles_here", "_law_extra"] (spRt K pB) := by
  obtain ⟨dM, rM, bM⟩ := Mo.b1
  refine D.fn.ok scRight (fun vs H Q E h => ?_) (fun cdv A outer s H vs Q E hr h => ?_)
  · obtain ⟨h, n, v, T0, ev, xs, wz, ts, me, rfl, hh, hn, wk, hd, hl, an, nd, eT, tl, l7, at_, nev, ane, tb, q⟩ := h
    rfl
  · obtain ⟨h, n, v, T0, ev, xs, wz, ts, me, rfl, hh, hn, wk, hd, hl, an, nd, eT, tl, l7, at_, nev, ane, tb, q⟩ := h
    refine ⟨_, (pss_cons (ps_set (i := 4) scRight.nd rfl (.inl rfl) (pe_call Mo.ok (hr.mono (by decide)) (by rfl) Mo.mgf Mo.kp bM rM pass0 (pa_cons (pv 1) (pa_cons (pv 2) pa_nil))))
      (pss_cons (ps_set (i := 5) scRight.nd rfl (.inl rfl) (pe_ix ix_tup (pv 4) pe_int (fun _ _ => rfl)))
      (pss_cons (ps_if (PW.pt (pw_or (pt_not (pt_val (pe_ca cCR hr (by decide) (by rfl) (pa_cons (pv 1) (pa_cons (pv 2) (pa_cons (pv 4) pa_nil)))))) (pw_or1 (pt_not (pt_val (pe_ca cPR hr (by decide) (by rfl) (pa_cons (pv 0) (pa_cons (pv 1) (pa_cons (pv 2) (pa_cons (pv 5) pa_nil)))))))))) (pss_one (ps_ret pe_bl)) pss_nil)
      (pss_cons (ps_for PassesOwn.never rfl (pi_range1 (by rfl) T.range (pa_cons (pe_callB call_len_seq (by rfl) T.len PySem.boot_len (pa_cons (pv 2) pa_nil)) pa_nil)) (pg_name (i := 6) scRight.nd rfl (.inl rfl)) (pss_one (ps_if (pt_cmpR op_gt (pe_ix ix_tup (pe_call Mo.ok (hr.mono (by decide)) (by rfl) Mo.mgf Mo.kp bM rM pass0 (pa_cons (pv 1) (pa_cons (pe_op Xtu.op_catU (pe_slice Xtu.sl_tupU (pv 2) po_none (po_some (pv 6))) (pe_slice Xtu.sl_tupU (pv 2) (po_some (pe_op op_add (pv 6) pe_int)) po_none)) pa_nil))) pe_int (fun _ _ => rfl)) (pv 5) (nomark _)) (pss_one (ps_ret pe_bl)) pss_nil)))
      (pss_cons (ps_set (i := 6) scRight.nd rfl (.inl rfl) (pe_ca cT hr (by decide) (by rfl) (pa_cons (pv 0) (pa_cons (pe_op op_add (pe_callB call_len_seq (by rfl) T.len PySem.boot_len (pa_cons (pv 2) pa_nil)) pe_int) pa_nil))))
      (pss_cons (ps_if (pt_cmpR op_lt (pe_ix ix_tup (pe_call Mo.ok (hr.mono (by decide)) (by rfl) Mo.mgf Mo.kp bM rM pass0 (pa_cons (pv 1) (pa_cons (pe_op Xtu.op_catU (pe_op Xtu.op_catU (pe_slice Xtu.sl_tupU (pv 2) po_none (po_some (pv 6))) (pe_tup (pa_cons (pv 3) pa_nil))) (pe_slice Xtu.sl_tupU (pv 2) (po_some (pv 6)) po_none)) pa_nil))) pe_int (fun _ _ => rfl)) (pv 5) (nomark _)) (pss_one (ps_ret pe_bl)) pss_nil)
      (pss_one (ps_ret (pe_cmpR op_eq (pe_ix ix_tup (pe_call Mo.ok (hr.mono (by decide)) (by rfl) Mo.mgf Mo.kp bM rM pass0 (pa_cons (pe_ca cBk hr (by decide) (by rfl) (pa_cons (pv 1) pa_nil)) (pa_cons (Xtu.pe_revN (pv 2)) pa_nil))) pe_int (fun _ _ => rfl)) (pv 5) (nomark _)))))))))), ?_⟩
    have fr : n + 2000 ≤ 1000000 := hn
    have xl := tl.len
    have hnn := nl_nms wz
    refine ⟨_, rfl, _, rfl, v, T0, xs, wz, ts, rfl, wk, hd, hl, an, SqT.of eT, tl, by omega, at_, tb, fun t c k m is l H1 x1 tb1 et ec ek m0 mst pk ch evl => ?_⟩
    refine ⟨_, rfl, t, _, 0, .int m, rfl, rfl, SqT.of et, rfl, ?_⟩
    refine ⟨_, rfl, _, rfl, _, rfl, v, T0, t, xs, wz, ts, m, rfl, wk.tp (exTp x1), hd, hl, an, exT x1 eT, tl.map (fun v a z => z.tp (exTp x1)), by omega, at_, ⟨⟨c, k, is, l, et, ec, ek, pk, ch, evl⟩, mst, m0⟩, fun H2 s2 => ?_⟩
    have h2 := (hh.ext x1).same s2
    have p2 : BN h H H2 := (BN.ex x1).trans (BN.of (Same.but s2 h))
    have tb2 := tb1.ext s2
    have eT2 := p2.tp hh _ _ eT
    refine ⟨_, rfl, iteF ⟨_, rfl, _, rfl, _, rfl, _, rfl, h, n, v, T0, xs, wz, ts, m, rfl, h2, by show n + 1000 ≤ 1000000; omega, wk.tp (p2.tp hh), hd, hl, an, eT2, tl.map (fun v a z => z.tp (p2.tp hh)), by omega, at_, mst, m0, fun H3 h3 b3 => ⟨_, rfl, iteF ?_⟩⟩⟩
    have p3 : BN h H H3 := p2.trans (BN.of b3)
    have tb3 := tabs_but tb2 h2 b3
    have wk3 := wk.tp (p3.tp hh)
    have eT3 := p3.tp hh _ _ eT
    have tl3 := tl.map fun v a z => z.tp (p3.tp hh)
    have nev3 := nev.tp (p3.tp hh)
    clear x1 tb1 et ec ek h2 p2 tb2 s2 eT2 b3
    refine ⟨_, rfl, T0, xs, rfl, .inr (SqT.of eT3), _, rfl, by omega, by omega, for_range (lo := 0) (n := xs.length) (fun i σ Hx => ∃ (c6 : Option V), σ = [some (.ref h), some v, some (.ref T0), some ev, some (.ref t), some (.int m), c6] ∧ LamX.ExtN H3 Hx ∧ LamX.Tabs (Tb pB) Hx) ⟨none, rfl, LamX.ExtN.refl _, tb3⟩ ?_ ?_⟩
    · rintro i σ Hx hi ⟨c6, rfl, xx, tx⟩
      have p4 : BN h H3 Hx := BN.ex xx
      have wk4 := wk3.tp (exTp xx)
      have eT4 := exT xx eT3
      have tl4 := tl3.map fun v a z => z.tp (exTp xx)
      have c1 : cutV xs none (some (0 + (i : Int))) = xs.take i := by rw [Int.zero_add]; exact cutV_take xs i
      have c2 : cutV xs (some (0 + (i : Int) + 1)) none = xs.drop (i + 1) := by
        rw [Int.zero_add]
        exact cutV_drop xs (i + 1) (by omega)
      refine ⟨_, rfl, _, rfl, _, rfl, _, rfl, T0, xs, rfl, eT4, fun p1 Ha sa e1 => ⟨_, rfl, _, rfl, _, _, rfl, rfl, _, rfl, T0, xs, rfl, sa _ _ eT4, fun p2 Hb sb e2 => ⟨p1, p2, _, _, rfl, rfl, sb _ _ e1, e2, ?_, fun p5 Hc sc e5 => ?_⟩⟩⟩
      · rw [c1, c2, List.length_take, List.length_drop]
        exact Nat.le_trans (show _ ≤ 100 by omega) (by decide)
      rw [c1, c2] at e5
      have sabc := (sa.trans sb).trans sc
      refine ⟨v, p5, _, wz, ts.take i ++ ts.drop (i + 1), rfl, wk4.tp (tp_same sabc), hd, hl, an, SqT.of e5, (((tl4.take i).app (tl4.drop (i + 1))).map fun v a z => z.tp (tp_same sabc)), ?_, (fun m hm => ?_), (tx.ext sabc), fun t6 _ _ m6 _ _ H6 x6 tb6 e6 _ _ _ mo6 _ _ _ => ?_⟩
      · rw [List.length_append, List.length_take, List.length_drop]; omega
      · rcases List.mem_append.mp hm with z | z
        · exact at_ m (List.mem_of_mem_take z)
        · exact at_ m (List.mem_of_mem_drop z)
      have le6 : m6 ≤ m := by
        refine mo6.sub mst (told_sub (List.Sublist.map _ ?_))
        refine (List.Sublist.append (List.Sublist.refl _) (List.drop_sublist_drop_left ts (show i ≤ i + 1 by omega))).trans ?_
        rw [List.take_append_drop]
        exact List.Sublist.refl _
      refine ⟨t6, _, 0, .int m6, rfl, rfl, SqT.of e6, rfl, _, rfl, m6, m, rfl, rfl, _, rfl, ?_⟩
      rw [decide_eq_false (show ¬ m < m6 by omega)]
      exact iteF ⟨_, rfl, (xx.trans (LamX.ExtN.of sabc)).trans x6, tb6⟩
    · rintro σ Hx ⟨c6, rfl, xx, tx⟩
      have h4 := h3.ext xx
      have p4 : BN h H Hx := p3.trans (BN.ex xx)
      have wk4 := wk3.tp (exTp xx)
      have eT4 := exT xx eT3
      have tl4 := tl3.map fun v a z => z.tp (exTp xx)
      refine ⟨_, rfl, _, rfl, T0, xs, rfl, .inr (SqT.of eT4), _, 1, rfl, rfl, h, _, _, rfl, by omega, lt30i (by omega), h4, by show n + 200 ≤ 1000000; omega, fun d H5 d0 d1 h5 b5 => ?_⟩
      have p5 := p4.trans (BN.of b5)
      have tb5 := tabs_but tx h4 b5
      obtain ⟨j, rfl⟩ : ∃ j : Nat, d = (j : Int) := ⟨d.toNat, by omega⟩
      have jl : j ≤ xs.length := by omega
      have wk5 := wk.tp (p5.tp hh)
      have eT5 := p5.tp hh _ _ eT
      have tl5 := tl.map fun v a z => z.tp (p5.tp hh)
      have nev5 := nev.tp (p5.tp hh)
      have c1 := cutV_take xs j
      have c2 := cutV_drop xs j jl
      refine ⟨_, rfl, _, rfl, _, rfl, _, rfl, T0, xs, rfl, eT5, fun p1 Ha sa e1 => ⟨_, rfl, (by show 1 ≤ sizeLine; decide), fun p2 n2 => ?_⟩⟩
      rw [c1] at e1
      have s2 := same_upd n2 (o := .tup [ev])
      have e2 : (L2.upd Ha p2 (.tup [ev])) p2 = some (.tup [ev]) := upd_same
      have e1' := s2 _ _ e1
      have eT6 := s2 _ _ (sa _ _ eT5)
      have sa2 := sa.trans s2
      generalize L2.upd Ha p2 (.tup [ev]) = Hb at s2 e2 e1' eT6 sa2 ⊢
      refine ⟨p1, p2, _, _, rfl, rfl, e1', e2, ?_, fun p3 Hc sc e3 => ⟨_, rfl, _, rfl, _, rfl, T0, xs, rfl, sc _ _ eT6, fun p4 Hd sd e4 => ⟨p3, p4, _, _, rfl, rfl, sd _ _ e3, e4, ?_, fun p6 He se e6 => ?_⟩⟩⟩
      · rw [List.length_take]
        exact Nat.le_trans (show min j xs.length + 1 ≤ 100 by omega) (by decide)
      · rw [c2, List.length_append, List.length_take, List.length_drop]
        exact Nat.le_trans (show min j xs.length + 1 + (xs.length - j) ≤ 100 by omega) (by decide)
      rw [c2] at e6
      have sall := ((sa2.trans sc).trans sd).trans se
      refine ⟨v, p6, _, wz, (ts.take j ++ [some me]) ++ ts.drop j, rfl, wk5.tp (tp_same sall), hd, hl, an, SqT.of e6, ((((tl5.take j).snoc (show TtV H5 ev (some me) from nev5)).app (tl5.drop j)).map fun v a z => z.tp (tp_same sall)), ?_, (fun m hm => ?_), (tb5.ext sall), fun t7 _ _ m7 _ _ H7 x7 tb7 e7 _ _ _ mo7 _ _ _ => ?_⟩
      · rw [List.length_append, List.length_append, List.length_take, List.length_drop]
        show min j ts.length + 1 + (ts.length - j) ≤ 30
        omega
      · rcases List.mem_append.mp hm with z | z
        · rcases List.mem_append.mp z with y | y
          · exact at_ m (List.mem_of_mem_take y)
          · have y := List.mem_singleton.mp y
            cases y
            exact ane
        · exact at_ m (List.mem_of_mem_drop z)
      have le7 : m ≤ m7 := by
        refine mst.sub mo7 (told_sub (List.Sublist.map _ ?_))
        have : ts.Sublist (ts.take j ++ [some me] ++ ts.drop j) := by
          have h1 : (ts.take j ++ ts.drop j).Sublist (ts.take j ++ [some me] ++ ts.drop j) := List.Sublist.append (List.sublist_append_left _ _) (List.Sublist.refl _)
          rwa [List.take_append_drop] at h1
        exact this
      refine ⟨t7, _, 0, .int m7, rfl, rfl, SqT.of e7, rfl, _, rfl, m7, m, rfl, rfl, _, rfl, ?_⟩
      rw [decide_eq_false (show ¬ m7 < m by omega)]
      have x57 := (LamX.ExtN.of (H := H5) sall).trans x7
      have p7 := p5.trans (BN.ex x57)
      refine iteF ⟨_, rfl, v, wz, rfl, wk.tp (p7.tp hh), hd, by omega, fun r H8 s8 wr => ⟨_, rfl, T0, xs, rfl, s8 _ _ (p7.tp hh _ _ eT), fun p9 H9 s9 e9 => ?_⟩⟩
      have s89 := s8.trans s9
      refine ⟨r, p9, _, bk wz, ts.reverse, rfl, wr.tp (tp_same s9), by rw [bk_dp]; exact hd, by rw [(bk_nms wz).length_eq]; exact hl, (fun m hm => an m ((bk_nms wz).mem_iff.mp hm)), SqT.of e9, ((tl.map fun v a z => z.tp (p7.tp hh)).rev.map fun v a z => z.tp (tp_same s89)), by rw [List.length_reverse]; omega, (fun m hm => at_ m (List.mem_reverse.mp hm)), tb7.ext s89, fun ta _ _ ma _ _ HA xA tbA eA _ _ _ moA _ _ _ => ?_⟩
      have em : ma = m := by
        refine Most.uniq moA ?_
        have := mst.mr (nl wz)
        unfold mrS at this
        rw [List.map_map, ← List.map_reverse] at this
        refine (congrArg (fun S => Most S m) (List.map_congr_left fun o _ => ?_)).mp this
        cases o with
        | none => rfl
        | some m0 => exact (spn_bk nd m0).symm
      refine ⟨ta, _, 0, .int ma, rfl, rfl, SqT.of eA, rfl, _, rfl, ?_⟩
      subst em
      have p9 := p7.trans ((BN.of (Same.but s89 h)).trans (BN.ex xA))
      have h9 := (((h5.ext x57).same s89).ext xA)
      refine ⟨rfl, ?_⟩
      have ed : decide (V.int ma = V.int ma) = true := decide_eq_true rfl
      rw [ed]
      exact q HA (h9.mono (by omega)) p9 tbA
end
end K82
set_option Elab.async false
set_option linter.all false
set_option maxRecDepth 100000
set_option maxHeartbeats 4000000
set_option pp.maxSteps 400
set_option pp.deepTerms false
namespace K82
open PySem PySem.Spec PyProof.Rows L2
open Xk Az W37
section
variable {P : Program} {w : World} {K : PySem.W.Frag} {mg : Str → Option Value} {base : Heap}
theorem sqL_extN {K : PySem.W.Frag} {H H' : Hp} (s : LamX.ExtN H H') {t : Addr} {xs : List V} (q : SqL K H t xs) : SqL K H' t xs := by
  rcases q with (q | ⟨o, q⟩) | q
  · exact .inl (.inl (s _ _ q fun ps z => by cases z))
  · exact .inl (.inr ⟨o, s _ _ q fun ps z => by cases z⟩)
  · exact .inr q
def spLaw (pB : Addr) (K : PySem.W.Frag) : Sp := fun vs H Q _ => ∃ (a : Addr) (ns : List Int), vs = [.ref a] ∧ SqL K H a (ns.map V.int) ∧ ns.length ≤ 63 ∧ LamX.Tabs (Tb pB) H ∧ ∀ H', Q (.bl true) H'
theorem ok_law {f : Addr} {fd : FuncData} {pB : Addr} (D : Df K mg "law" ["_law_script"] sLaw f fd) (T : Txt mg) (cH : Ca P w K mg base 1 "_law_hand" ["_law_script", "_law_k"] (spHand K)) (cT : Ca P w K mg base 1 "_law_take" ["_law_hand_here", "_law_many"] spTake) (cP : Ca P w K mg base 2 "_law_pick" ["_law_hand_here", "_law_some"] spPick) (cWo : Ca P w K mg base 9 "_law_work" ["_law_hand_here", "_law_many"] spWork) (cTi : Ca P w K mg base 3 "_law_titles" ["_law_hand_here", "_law_names_here", "_law_others", "_law_most"] spTi) (cRt : Ca P w K mg base 11 "_law_right" ["_law_hand_here", "_law_work_here", "_law_titles_here", "_law_extra"] (spRt K pB)) : Gn P w K mg base 12 f fd ["_law_script"] (spLaw pB K) := by
  refine gn_body D.fn scLaw (fun vs H Q E h => ?_) (fun cdv A outer s H vs Q E hg hr h => ?_)
  · obtain ⟨a, ns, rfl, hS, hlen, tb, q⟩ := h
    rfl
  · obtain ⟨a, ns, rfl, hS, hlen, tb, q⟩ := h
    refine ⟨_, (pss_cons (ps_for PassesOwn.never rfl (pi_range1 (by rfl) T.range (pa_cons (pe_callB (call_max2 (by rfl)) (by rfl) T.max (by decide +kernel) (pa_cons pe_int (pa_cons (pe_callB (call_min2 (by rfl)) (by rfl) T.min (by decide +kernel) (pa_cons (pe_callB call_len_seq (by rfl) T.len PySem.boot_len (pa_cons (pv 0) pa_nil)) (pa_cons pe_int pa_nil))) pa_nil))) pa_nil)) (pg_name (i := 1) scLaw.nd rfl (.inl rfl)) (pss_cons (ps_set (i := 2) scLaw.nd rfl (.inl rfl) (pe_ca cH hr (by decide) (by rfl) (pa_cons (pv 0) (pa_cons (pv 1) pa_nil))))
      (pss_cons (ps_asg (pe_ca cWo hr (by decide) (by rfl) (pa_cons (pv 2) (pa_cons (pe_op op_add pe_int (pe_ca cT hr (by decide) (by rfl) (pa_cons (pv 2) (pa_cons pe_int pa_nil)))) pa_nil))) (pg_tup (by rfl) (pgs_cons (pg_name (i := 3) scLaw.nd rfl (.inl rfl)) (pgs_cons (pg_name (i := 4) scLaw.nd rfl (.inl rfl)) (pgs_cons (pg_name (i := 5) scLaw.nd rfl (.inl rfl)) pgs_nil)))))
      (pss_cons (ps_set (i := 6) scLaw.nd rfl (.inl rfl) (pe_ca cTi hr (by decide) (by rfl) (pa_cons (pv 2) (pa_cons (pv 4) (pa_cons (pv 5) (pa_cons pe_int pa_nil))))))
      (pss_one (ps_if (pt_not (pt_val (pe_ca cRt hr (by decide) (by rfl) (pa_cons (pv 2) (pa_cons (pv 3) (pa_cons (pv 6) (pa_cons (pe_ca cP hr (by decide) (by rfl) (pa_cons (pv 2) (pa_cons (pe_op op_cat (pv 4) (pe_slice sl_list (pv 5) po_none (po_some pe_int))) pa_nil))) pa_nil))))))) (pss_one (ps_ret pe_bl)) pss_nil))))))
      (pss_one (ps_ret pe_bl))), ?_⟩
    refine ⟨_, rfl, a, _, rfl, .inl hS, _, 3, rfl, 1, _, rfl, _, rfl, ?_, ?_, for_range (lo := 0) (fun k σ Hi => ∃ c1 c2 c3 c4 c5 c6 : Option V, σ = [some (.ref a), c1, c2, c3, c4, c5, c6] ∧ LamX.ExtN H Hi ∧ LamX.Tabs (Tb pB) Hi) ?_ ?_ ?_⟩
    · rw [List.length_map]; split <;> (try split) <;> omega
    · rw [List.length_map]; split <;> (try split) <;> omega
    · exact ⟨_, _, _, _, _, _, rfl, LamX.ExtN.refl H, tb⟩
    · rintro kk σ Hi hk ⟨c1, c2, c3, c4, c5, c6, rfl, xm, tm⟩
      refine ⟨_, rfl, _, rfl, a, 0 + (kk : Int), ns, rfl, by omega, sqL_extN xm hS, fun h g m nh g0 m0 m1 => ?_⟩
      have sh := same_upd nh (o := .lst [.int g, .int m, .int 0])
      have hh0 : Hand 0 (upd Hi h (.lst [.int g, .int m, .int 0])) h := ⟨g, m, 0, upd_same, g0, m0, m1, Int.le_refl _, Int.le_refl _⟩
      have t0 := tm.ext sh
      have back : ∀ {Hz : Hp}, BN h (upd Hi h (.lst [.int g, .int m, .int 0])) Hz → LamX.ExtN H Hz := fun {Hz} b y o e nt => by
        have e2 := xm _ _ e nt
        exact b y o (ne_of_none e2 nh) nt (sh _ _ e2)
      generalize upd Hi h (.lst [.int g, .int m, .int 0]) = H0 at hh0 back t0 ⊢
      clear sh
      -- the work
      refine ⟨_, rfl, _, rfl, h, 16, 0, rfl, by decide, by decide, hh0, by decide, fun d H2 d0 d1 h2 b2 => ?_⟩
      refine ⟨1, d, rfl, rfl, h, 1, 1 + d, rfl, by omega, by omega, h2, by decide, fun t A O v w xa xo no H4 et wk dw eA Ah nA nmA eO Oh nO nmO lno nd gn lw h4 b4 => ⟨t, _, rfl, SqT.of et, rfl, _, _, rfl, _, _, rfl, _, _, rfl, rfl, ?_⟩⟩
      have b04 := b2.trans b4
      have t4 := tabs_but t0 hh0 b04
      have an : ∀ m ∈ w.nms ++ no, An m := fun m hm => ⟨(gn m hm).2.1, (gn m hm).2.2.2⟩
      have lA := nmA.len
      have lO := nmO.len
      have np := nms_pos' w
      have nd1 : w.nms.Nodup := by
        rw [List.map_append] at nd
        exact (List.pairwise_map.mp (List.nodup_append.mp nd).1).imp fun {a b} h e => h (congrArg (fun m : Nm => m.2) e)
      refine ⟨_, rfl, _, rfl, _, rfl, h, A, O, _, xa, xo, w.nms, no, rfl, h4, by decide, eA, Ah, nmA, (fun z => by rw [z] at np; cases np), by omega, eO, Oh, nmO, (fun z => by rw [z] at lno; cases lno), by omega, fun T1 xs ts H5 eT tl l7 mem h5 b5 => ?_⟩
      have b05 := b04.trans b5
      have t5 := tabs_but t4 h4 b5
      have tp45 : Tp H4 H5 := fun c ys e => b5 c _ (h4.ne_tup (K := K) e) e
      refine ⟨_, rfl, _, rfl, _, rfl, _, rfl, _, rfl, _, rfl, _, rfl, O, xo, rfl, SqL.of (b5 _ _ Oh eO), fun F nF => ?_⟩
      rw [show cutV xo none (some (1 : Int)) = xo.take 1 from cutV_take xo 1]
      have sF := same_upd nF (o := .lst (xo.take 1))
      have eF : (upd H5 F (.lst (xo.take 1))) F = some (.lst (xo.take 1)) := upd_same
      have eA6 := sF _ _ (b5 _ _ Ah eA)
      generalize upd H5 F (.lst (xo.take 1)) = H6 at sF eF eA6 ⊢
      refine ⟨A, F, _, _, rfl, rfl, eA6, eF, ?_, fun p np' => ?_⟩
      · rw [List.length_take]
        exact Nat.le_trans (show xa.length + min 1 xo.length ≤ 100 by omega) (by decide)
      have sp := same_upd np' (o := .lst (xa ++ xo.take 1))
      have ep : (upd H6 p (.lst (xa ++ xo.take 1))) p = some (.lst (xa ++ xo.take 1)) := upd_same
      have h6 := (h5.same sF)
      have ph := h6.fresh np'
      have s67 := sF.trans sp
      generalize upd H6 p (.lst (xa ++ xo.take 1)) = H7 at sp ep s67 ⊢
      have h7 := h5.same s67
      have t7 := t5.ext s67
      refine ⟨h, _, _, rfl, h7, by decide, .inl ⟨p, _, rfl, ep, ph, (fun z => by have := congrArg List.length z; rw [List.length_append] at this; simp only [List.length_nil] at this; omega), ?_, fun ev H8 mv h8 b8 => ?_⟩⟩
      · rw [List.length_append, List.length_take]
        omega
      have t8 := tabs_but t7 h7 b8
      have b58 := (Same.but s67 h).trans b8
      have tp58 : Tp H5 H8 := fun c ys e => b58 c _ (h5.ne_tup (K := K) e) e
      obtain ⟨me, mem2, nev⟩ : ∃ me, me ∈ w.nms ++ no ∧ NmV H4 ev me := by
        rcases List.mem_append.mp mv with z | z
        · obtain ⟨m1, hm, hv⟩ := nmA.mem z
          exact ⟨m1, List.mem_append_left _ hm, hv⟩
        · obtain ⟨m1, hm, hv⟩ := nmO.mem (List.mem_of_mem_take z)
          exact ⟨m1, List.mem_append_right _ hm, hv⟩
      refine ⟨h, _, v, T1, ev, xs, w, ts, me, rfl, h8, by decide, (wk.tp tp45).tp tp58, dw, by omega, (fun m hm => an m (List.mem_append_left _ hm)), nd1, tp58 _ _ eT, tl.map (fun v a z => z.tp tp58), l7, (fun m hm => an m ((mem m hm).elim (List.mem_append_left _) (List.mem_append_right _))), (nev.tp tp45).tp tp58, an me mem2, t8, fun H9 h9 p9 t9 => ⟨_, rfl, iteF ?_⟩⟩
      exact ⟨_, _, _, _, _, _, rfl, back ((BN.of (b05.trans b58)).trans p9), t9⟩
    · rintro σ He ⟨c1, c2, c3, c4, c5, c6, rfl, xm, tm⟩
      exact q _
end
end K82
set_option Elab.async false
set_option linter.all false
set_option maxRecDepth 100000
set_option maxHeartbeats 4000000
set_option pp.maxSteps 400
set_option pp.deepTerms false
namespace K82
open PySem PySem.Spec PyProof.Rows L2
/-! ## the law's end with one table of code objects -/
theorem law_goT {P : Program} {w : World} {K : PySem.W.Frag} {mg mb : Str → Option Value} {k : Nat} {fa a cB pB : Addr} {fd : FuncData} {x : Str} {sp : Sp} {z : Shared} {vs : List Value} {ns : List Int}
    (kin : K.In z.heap) (nsG : z.heap.Ns mainGlobals mg) (nsB : z.heap.Ns builtinsNs mb) (same : ∀ y : Str, y ≠ "__name__" → mb y = bootBuiltins y) (lim : z.heap.NoLimit) (dig : z.heap.NoDigits) (no : z.gens = #[])
    (hC : PySem.W.CodeHd z.heap cB pB) (hP : z.heap.get? pB = some (PySem.W.tabObj #[])) (nP : K.lookup pB = none)
    (bmain : ∃ (bm : Addr) (ob : Obj), mg "__builtins__" = some (.ref bm) ∧ bm ≠ builtinsNs ∧ z.heap.get? bm = some ob ∧ ob.cls = .type "module" ∧ ob.dict = some builtinsNs ∧ ob.data = .plain)
    (at_ : z.heap.get? a = some { cls := .type "list", data := .seq vs.toArray }) (intsA : IntsAre vs ns) (many : ns.length ≤ sizeLine) (room : Room k callerA)
    (F : ∀ base : Heap, K.In base → base.Ns mainGlobals mg → base.NoDigits → LamX.TabB base mg cB pB → Gn P w K mg base k fa fd [x] sp) (bind : ∀ (s : Shared) (u : Value), BindsTo s fd ⟨[u], []⟩ [(x, u)])
    (hsp : ∀ H : Hp, H pB = some (.tbl #[]) → SqL K H a (ns.map V.int) → sp [.ref a] H (fun v _ => v = .bl true) fun _ _ _ => False) :
    codeAny (model P w) callerA (.call (.ref fa) ⟨[.ref a], []⟩) (fun r s' => r = .ok (.ret (.bool true)) ∧ OldK z.heap s'.heap ∧ s'.os = z.os ∧ AllBare s'.gens) z := by
  have rv : Vals (ns.map V.int) vs := vals_ints intsA
  have sz : (ns.map V.int).length ≤ sizeLine := by rw [List.length_map]; exact many
  let u : HO := .frz { cls := .type "list", data := .seq vs.toArray } (.lst (ns.map V.int))
  let H : Hp := fun b => if b = pB then some (.tbl #[]) else if b = a ∧ K.lookup a = none then some u else none
  have apart : a ≠ pB := fun e => by
    rw [e, hP] at at_
    cases at_
  have Ht : H pB = some (.tbl #[]) := if_pos rfl
  have Ho : ∀ b, b ≠ pB → H b = if b = a ∧ K.lookup a = none then some u else none := fun b n => if_neg n
  have only : ∀ b o, b ≠ pB → H b = some o → b = a ∧ K.lookup a = none ∧ o = u := fun b o n e => by
    rw [Ho b n] at e
    by_cases c : b = a ∧ K.lookup a = none
    · rw [if_pos c] at e
      exact ⟨c.1, c.2, (Option.some.inj e).symm⟩
    · rw [if_neg c] at e
      cases e
  have sq : SqL K H a (ns.map V.int) := by
    cases hk : K.lookup a with
    | none => exact .inl (.inr ⟨_, (Ho a apart).trans (if_pos ⟨rfl, hk⟩)⟩)
    | some o =>
      have e := kin a o hk
      rw [at_] at e
      cases e
      exact .inr ⟨_, vs.toArray, _, hk, rfl, rfl, rfl, by rw [List.size_toArray, ← rv.length]; exact sz, by simpa using rv⟩
  have hok : HOk P w H z.heap := fun b o e => by
    by_cases c : b = pB
    · subst c
      rw [Ht] at e
      cases e
      exact hP
    · obtain ⟨rfl, _, rfl⟩ := only b o c e
      exact ⟨at_, sz, vs, _, rv, at_⟩
  have clear : ∀ {b : Addr} {o : Obj}, z.heap.get? b = some o → (∀ xs n, o.data ≠ .seq xs n) → o.data ≠ .fields #[] → H b = none := fun {b o} e d1 d2 => by
    cases q : H b with
    | none => rfl
    | some v =>
      by_cases c : b = pB
      · rw [c, hP] at e
        cases e
        exact absurd rfl d2
      · obtain ⟨rfl, _, _⟩ := only b v c q
        rw [at_] at e
        cases e
        exact absurd rfl (d1 _ _)
  have nsK : ∀ {b : Addr} {m : Str → Option Value}, z.heap.Ns b m → (hidT z.heap H).Ns b m := fun {b m} q => by
    obtain ⟨o, es, ep, e, d, r⟩ := q
    exact ⟨o, es, ep, hidT_get e (clear e (fun _ _ y => by rw [d] at y; cases y) fun y => by rw [d] at y; cases y), d, r⟩
  have kb : K.In (hidT z.heap H) := fun b o e => by
    refine hidT_get (kin b o e) ?_
    cases q : H b with
    | none => rfl
    | some v =>
      by_cases c : b = pB
      · rw [c, nP] at e
        cases e
      · obtain ⟨rfl, n, _⟩ := only b v c q
        rw [n] at e
        cases e
  have limB : (hidT z.heap H).NoLimit := by
    obtain ⟨mc, h1, h2⟩ := lim
    exact ⟨mc, nsK h1, h2⟩
  have digB : (hidT z.heap H).NoDigits := by
    obtain ⟨mc, h1, h2⟩ := dig
    exact ⟨mc, nsK h1, h2⟩
  have tb : LamX.TabB (hidT z.heap H) mg cB pB := by
    refine ⟨?_, ?_, fun e => ?_⟩
    · obtain ⟨o, us, f1, f2, f3, f4, f5, f6, f7, e, r1, r2, r3, r⟩ := hC
      refine ⟨o, us, f1, f2, f3, f4, f5, f6, f7, hidT_get e (clear e (fun _ _ y => ?_) fun y => ?_), r1, r2, r3, r⟩
      · rw [r2] at y; cases y
      · rw [r2] at y
        cases y
        simp at r3
    · obtain ⟨bm, ob, b1, b2, b3, b4, b5, b6⟩ := bmain
      refine ⟨bm, ob, b1, b2, fun y => ?_, fun y => ?_, hidT_get b3 (clear b3 (fun _ _ y => ?_) fun y => ?_), b4, b5, b6⟩
      · obtain ⟨o, es, ep, e, d, _⟩ := nsG
        rw [y, e] at b3
        cases b3
        rw [d] at b6
        cases b6
      · rw [y, hP] at b3
        cases b3
        cases b6
      · rw [b6] at y; cases y
      · rw [b6] at y; cases y
    · obtain ⟨o, es, ep, e', d, _⟩ := nsG
      rw [e, hP] at e'
      cases e'
      cases d
  have en : Env0 P w K mg (hidT z.heap H) callerA [] z H :=
    ⟨rfl, ⟨kb, nsK nsG, ⟨mb, nsK nsB, same⟩, limB⟩, fun _ _ e => of_hidT e, Nat.le_of_eq (hidT_size _ _), trivial, (fun b hb => absurd (show b ∈ ([] : List Addr) from hb) List.not_mem_nil), hok, .of_eq no⟩
  refine codeAny_mono ((F _ kb (nsK nsG) digB tb).go callerA [] z H ⟨[.ref a], []⟩ [.ref a] [.ref a] _ _ rfl room en (bind z (.ref a)) (.cons rfl .nil) (hsp H Ht sq)) fun r s' h => ?_
  match r, h with
  | .error e, h => exact False.elim h
  | .ok .next, h => exact False.elim h
  | .ok .brk, h => exact False.elim h
  | .ok .cont, h => exact False.elim h
  | .ok (.ret y), h =>
    obtain ⟨v, H', os, bare, un, hok', r', q⟩ := h
    obtain rfl : v = .bl true := q
    obtain rfl : y = Value.bool true := r'
    have stay : ∀ b o, b ≠ pB → z.heap.get? b = some o → s'.heap.get? b = some o := fun b o n e => by
      cases q : H b with
      | none => exact un.keep b o e q (fun y => by cases y) (fun y => by cases y)
      | some v =>
        obtain ⟨rfl, _, rfl⟩ := only b v n q
        have e2 := (hok' _ _ (un.frzs _ _ _ q)).1
        rw [at_] at e
        cases e
        exact e2
    obtain ⟨more, hm⟩ := un.tbls pB #[] Ht
    have grown := hok' pB _ hm
    refine ⟨rfl, ⟨fun b o e => ?_, fun b o e => ?_⟩, os, bare⟩
    · by_cases c : b = pB
      · subst c
        rw [hP] at e
        cases e
        refine .inr (.inl ⟨(hC.tab hP).isCodeTable, rfl, #[], more, rfl, ?_⟩)
        exact grown
      · exact .inl (stay b o c e)
    · by_cases c : b = pB
      · subst c
        exact ⟨_, grown⟩
      · exact ⟨o, stay b o c e⟩
theorem walk_goT {l : PySem.W.OpenLaw} {n k : Nat} {q : Program} {loose : List Str} {XP : (Str → Option Value) → Heap → Prop} {YP : World → Heap → Prop} {d : DefRec} {K : Params → PySem.W.Frag} {sp : Addr → PySem.W.Frag → Sp} {x : Str} {ts : List Addr}
    (most : l.most = some n) (small : n ≤ sizeLine) (nodef : d.params.defaults = []) (room : Room k callerA) (hY : ∀ (w : World) (h : Heap), YP w h → (K w.params).In h ∧ ∀ P ∈ ts, h.get? P = some (PySem.W.tabObj #[]))
    (F : ∀ (w : World) (mg : Str → Option Value) (fa : Addr) (h : Heap), (K w.params).In h → h.Ns mainGlobals mg → mg d.name = some (.ref fa) →
      ∃ (cB pB : Addr) (fd : FuncData), pB ∈ ts ∧ PySem.W.codeHdIn (K w.params) cB pB = true ∧ (K w.params).lookup pB = none ∧ (∀ (s : Shared) (u : Value), BindsTo s fd ⟨[u], []⟩ [(x, u)]) ∧
        (∀ (H : Hp) (a : Addr) (ns : List Int), ns.length ≤ n → H pB = some (.tbl #[]) → SqL (K w.params) H a (ns.map V.int) → sp pB (K w.params) [.ref a] H (fun v _ => v = .bl true) fun _ _ _ => False) ∧
        ∀ base : Heap, (K w.params).In base → base.Ns mainGlobals mg → base.NoDigits → LamX.TabB base mg cB pB → Gn l.prog w (K w.params) mg base k fa fd [x] (sp pB (K w.params))) :
    PySem.W.WalkO q loose XP YP l.row.toRowW d [] (fun f vs => PySem.call f vs) := by
  refine Att.attach_call most nodef fun w s₀ s₁ mg mb fa o pm cd doc a vs ns G Y _ _ _ hmg hobj hints hlen hg => ?_
  obtain ⟨kin, tabs⟩ := hY w _ Y
  obtain ⟨cB, pB, fd, mem, hc, nP, hb, hsp, hF⟩ := F w mg fa _ kin G.T.g hmg
  exact law_goT kin G.T.g G.T.b G.T.builtins G.T.nolimit G.T.nodigits hg (PySem.W.codeHd_of_K kin hc) (tabs pB mem) nP G.T.bmain hobj hints (Nat.le_trans hlen small) room hF hb fun H hH hS => hsp H a ns hlen hH hS
end K82
set_option Elab.async false
set_option linter.all false
set_option maxRecDepth 100000
set_option maxHeartbeats 4000000
set_option pp.maxSteps 400
set_option pp.deepTerms false
namespace K82
open PySem PySem.Spec PyProof.Rows L2
open Xk Az W37
theorem all_mk {l : PySem.W.OpenLaw} {w : World} {K : PySem.W.Frag} {h : Heap} {mg : Str → Option Value} {ts : List Addr} {cB pB fa f0 f1 f2 f3 f4 t4 f5 f6 f7 f8 f9 f10 t10 f11 f12 t12 f13 t13 f14 f15 f16 f17 f18 f19 f20 f21 f22 f23 f24 f25 f26 f27 f28 f29 : Addr}
    {od0 an0 od1 an1 od2 an2 od3 an3 od4 an4 odT4 od5 an5 od6 an6 od7 an7 od8 an8 od9 an9 od10 an10 odT10 od11 an11 od12 an12 odT12 od13 an13 odT13 od14 an14 od15 an15 od16 an16 od17 an17 od18 an18 od19 an19 od20 an20 od21 an21 od22 an22 od23 an23 od24 an24 od25 an25 od26 an26 od27 an27 od28 an28 od29 an29 : Option Addr}
    {sl0 sl1 sl2 sl3 sl4 slT4 sl5 sl6 sl7 sl8 sl9 sl10 slT10 sl11 sl12 slT12 sl13 slT13 sl14 sl15 sl16 sl17 sl18 sl19 sl20 sl21 sl22 sl23 sl24 sl25 sl26 sl27 sl28 sl29 : Array (Option Value)}
    {oc0 kV0 dc0 pm0 cd0 ct0 oc1 kV1 dc1 pm1 cd1 ct1 oc2 kV2 dc2 pm2 cd2 ct2 oc3 kV3 dc3 pm3 cd3 ct3 oc4 kV4 dc4 pm4 cd4 ct4 ocT4 oc5 kV5 dc5 pm5 cd5 ct5 oc6 kV6 dc6 pm6 cd6 ct6 oc7 kV7 dc7 pm7 cd7 ct7 oc8 kV8 dc8 pm8 cd8 ct8 oc9 kV9 dc9 pm9 cd9 ct9 oc10 kV10 dc10 pm10 cd10 ct10 ocT10 oc11 kV11 dc11 pm11 cd11 ct11 oc12 kV12 dc12 pm12 cd12 ct12 ocT12 oc13 kV13 dc13 pm13 cd13 ct13 ocT13 oc14 kV14 dc14 pm14 cd14 ct14 oc15 kV15 dc15 pm15 cd15 ct15 oc16 kV16 dc16 pm16 cd16 ct16 oc17 kV17 dc17 pm17 cd17 ct17 oc18 kV18 dc18 pm18 cd18 ct18 oc19 kV19 dc19 pm19 cd19 ct19 oc20 kV20 dc20 pm20 cd20 ct20 oc21 kV21 dc21 pm21 cd21 ct21 oc22 kV22 dc22 pm22 cd22 ct22 oc23 kV23 dc23 pm23 cd23 ct23 oc24 kV24 dc24 pm24 cd24 ct24 oc25 kV25 dc25 pm25 cd25 ct25 oc26 kV26 dc26 pm26 cd26 ct26 oc27 kV27 dc27 pm27 cd27 ct27 oc28 kV28 dc28 pm28 cd28 ct28 oc29 kV29 dc29 pm29 cd29 ct29 : Value}
    {nT4 nT10 nT12 nT13 : Nat}
    (X : K.In h) (G : h.Ns mainGlobals mg) (hfa : mg "law" = some (.ref fa))
    (a0 : PySem.W.nsIn K mainGlobals "is_whole" = some (some (.ref f0)))
    (l0 : K.lookup f0 = some ⟨oc0, od0, .func (PySem.W.fnOf "is_whole" "is_whole" (defArgs sIsWhole) (defBody sIsWhole) (defScope sIsWhole) .none kV0 dc0 pm0 an0 cd0 ct0), sl0⟩)
    (c0 : PySem.W.codeIn K cd0 "is_whole" = true)
    (k0 : PySem.W.keepIn K (.ref f0) = true)
    (a1 : PySem.W.nsIn K mainGlobals "is_within" = some (some (.ref f1)))
    (l1 : K.lookup f1 = some ⟨oc1, od1, .func (PySem.W.fnOf "is_within" "is_within" (defArgs sIsWithin) (defBody sIsWithin) (defScope sIsWithin) .none kV1 dc1 pm1 an1 cd1 ct1), sl1⟩)
    (c1 : PySem.W.codeIn K cd1 "is_within" = true)
    (k1 : PySem.W.keepIn K (.ref f1) = true)
    (a2 : PySem.W.nsIn K mainGlobals "leaves" = some (some (.ref f2)))
    (l2 : K.lookup f2 = some ⟨oc2, od2, .func (PySem.W.fnOf "leaves" "leaves" (defArgs sLeaves) (defBody sLeaves) (defScope sLeaves) .none kV2 dc2 pm2 an2 cd2 ct2), sl2⟩)
    (c2 : PySem.W.codeIn K cd2 "leaves" = true)
    (k2 : PySem.W.keepIn K (.ref f2) = true)
    (a3 : PySem.W.nsIn K mainGlobals "spans_in" = some (some (.ref f3)))
    (l3 : K.lookup f3 = some ⟨oc3, od3, .func (PySem.W.fnOf "spans_in" "spans_in" (defArgs sSpansIn) (defBody sSpansIn) (defScope sSpansIn) .none kV3 dc3 pm3 an3 cd3 ct3), sl3⟩)
    (c3 : PySem.W.codeIn K cd3 "spans_in" = true)
    (k3 : PySem.W.keepIn K (.ref f3) = true)
    (a4 : PySem.W.nsIn K mainGlobals "span_of" = some (some (.ref f4)))
    (l4 : K.lookup f4 = some ⟨oc4, od4, .func (PySem.W.fnOf "span_of" "span_of" (defArgs sSpanOf) (defBody sSpanOf) (defScope sSpanOf) (.ref t4) kV4 dc4 pm4 an4 cd4 ct4), sl4⟩)
    (c4 : PySem.W.codeIn K cd4 "span_of" = true)
    (k4 : PySem.W.keepIn K (.ref f4) = true)
    (d4 : K.lookup t4 = some ⟨ocT4, odT4, .seq #[Value.none] nT4, slT4⟩)
    (a5 : PySem.W.nsIn K mainGlobals "spans_of" = some (some (.ref f5)))
    (l5 : K.lookup f5 = some ⟨oc5, od5, .func (PySem.W.fnOf "spans_of" "spans_of" (defArgs sSpansOf) (defBody sSpansOf) (defScope sSpansOf) .none kV5 dc5 pm5 an5 cd5 ct5), sl5⟩)
    (c5 : PySem.W.codeIn K cd5 "spans_of" = true)
    (k5 : PySem.W.keepIn K (.ref f5) = true)
    (a6 : PySem.W.nsIn K mainGlobals "leaves_within" = some (some (.ref f6)))
    (l6 : K.lookup f6 = some ⟨oc6, od6, .func (PySem.W.fnOf "leaves_within" "leaves_within" (defArgs sLeavesWithin) (defBody sLeavesWithin) (defScope sLeavesWithin) .none kV6 dc6 pm6 an6 cd6 ct6), sl6⟩)
    (c6 : PySem.W.codeIn K cd6 "leaves_within" = true)
    (k6 : PySem.W.keepIn K (.ref f6) = true)
    (a7 : PySem.W.nsIn K mainGlobals "is_ahead" = some (some (.ref f7)))
    (l7 : K.lookup f7 = some ⟨oc7, od7, .func (PySem.W.fnOf "is_ahead" "is_ahead" (defArgs sIsAhead) (defBody sIsAhead) (defScope sIsAhead) .none kV7 dc7 pm7 an7 cd7 ct7), sl7⟩)
    (c7 : PySem.W.codeIn K cd7 "is_ahead" = true)
    (k7 : PySem.W.keepIn K (.ref f7) = true)
    (a8 : PySem.W.nsIn K mainGlobals "best_of" = some (some (.ref f8)))
    (l8 : K.lookup f8 = some ⟨oc8, od8, .func (PySem.W.fnOf "best_of" "best_of" (defArgs sBestOf) (defBody sBestOf) (defScope sBestOf) .none kV8 dc8 pm8 an8 cd8 ct8), sl8⟩)
    (c8 : PySem.W.codeIn K cd8 "best_of" = true)
    (k8 : PySem.W.keepIn K (.ref f8) = true)
    (a9 : PySem.W.nsIn K mainGlobals "best_by_first" = some (some (.ref f9)))
    (l9 : K.lookup f9 = some ⟨oc9, od9, .func (PySem.W.fnOf "best_by_first" "best_by_first" (defArgs sBestByFirst) (defBody sBestByFirst) (defScope sBestByFirst) .none kV9 dc9 pm9 an9 cd9 ct9), sl9⟩)
    (c9 : PySem.W.codeIn K cd9 "best_by_first" = true)
    (k9 : PySem.W.keepIn K (.ref f9) = true)
    (a10 : PySem.W.nsIn K mainGlobals "most_in_order" = some (some (.ref f10)))
    (l10 : K.lookup f10 = some ⟨oc10, od10, .func (PySem.W.fnOf "most_in_order" "most_in_order" (defArgs sMostInOrder) (defBody sMostInOrder) (defScope sMostInOrder) (.ref t10) kV10 dc10 pm10 an10 cd10 ct10), sl10⟩)
    (c10 : PySem.W.codeIn K cd10 "most_in_order" = true)
    (k10 : PySem.W.keepIn K (.ref f10) = true)
    (d10 : K.lookup t10 = some ⟨ocT10, odT10, .seq #[Value.none] nT10, slT10⟩)
    (a11 : PySem.W.nsIn K mainGlobals "least_height" = some (some (.ref f11)))
    (l11 : K.lookup f11 = some ⟨oc11, od11, .func (PySem.W.fnOf "least_height" "least_height" (defArgs sLeastHeight) (defBody sLeastHeight) (defScope sLeastHeight) .none kV11 dc11 pm11 an11 cd11 ct11), sl11⟩)
    (c11 : PySem.W.codeIn K cd11 "least_height" = true)
    (k11 : PySem.W.keepIn K (.ref f11) = true)
    (a12 : PySem.W.nsIn K mainGlobals "heights" = some (some (.ref f12)))
    (l12 : K.lookup f12 = some ⟨oc12, od12, .func (PySem.W.fnOf "heights" "heights" (defArgs sHeights) (defBody sHeights) (defScope sHeights) (.ref t12) kV12 dc12 pm12 an12 cd12 ct12), sl12⟩)
    (c12 : PySem.W.codeIn K cd12 "heights" = true)
    (k12 : PySem.W.keepIn K (.ref f12) = true)
    (d12 : K.lookup t12 = some ⟨ocT12, odT12, .seq #[Value.none] nT12, slT12⟩)
    (a13 : PySem.W.nsIn K mainGlobals "shows_most" = some (some (.ref f13)))
    (l13 : K.lookup f13 = some ⟨oc13, od13, .func (PySem.W.fnOf "shows_most" "shows_most" (defArgs sShowsMost) (defBody sShowsMost) (defScope sShowsMost) (.ref t13) kV13 dc13 pm13 an13 cd13 ct13), sl13⟩)
    (c13 : PySem.W.codeIn K cd13 "shows_most" = true)
    (k13 : PySem.W.keepIn K (.ref f13) = true)
    (d13 : K.lookup t13 = some ⟨ocT13, odT13, .seq #[Value.none] nT13, slT13⟩)
    (a14 : PySem.W.nsIn K mainGlobals "_law_hand" = some (some (.ref f14)))
    (l14 : K.lookup f14 = some ⟨oc14, od14, .func (PySem.W.fnOf "_law_hand" "_law_hand" (defArgs sHand) (defBody sHand) (defScope sHand) .none kV14 dc14 pm14 an14 cd14 ct14), sl14⟩)
    (c14 : PySem.W.codeIn K cd14 "_law_hand" = true)
    (k14 : PySem.W.keepIn K (.ref f14) = true)
    (a15 : PySem.W.nsIn K mainGlobals "_law_take" = some (some (.ref f15)))
    (l15 : K.lookup f15 = some ⟨oc15, od15, .func (PySem.W.fnOf "_law_take" "_law_take" (defArgs sTake) (defBody sTake) (defScope sTake) .none kV15 dc15 pm15 an15 cd15 ct15), sl15⟩)
    (c15 : PySem.W.codeIn K cd15 "_law_take" = true)
    (k15 : PySem.W.keepIn K (.ref f15) = true)
    (a16 : PySem.W.nsIn K mainGlobals "_law_pick" = some (some (.ref f16)))
    (l16 : K.lookup f16 = some ⟨oc16, od16, .func (PySem.W.fnOf "_law_pick" "_law_pick" (defArgs sPick) (defBody sPick) (defScope sPick) .none kV16 dc16 pm16 an16 cd16 ct16), sl16⟩)
    (c16 : PySem.W.codeIn K cd16 "_law_pick" = true)
    (k16 : PySem.W.keepIn K (.ref f16) = true)
    (a17 : PySem.W.nsIn K mainGlobals "_law_signs" = some (some (.ref f17)))
    (l17 : K.lookup f17 = some ⟨oc17, od17, .func (PySem.W.fnOf "_law_signs" "_law_signs" (defArgs sSigns) (defBody sSigns) (defScope sSigns) .none kV17 dc17 pm17 an17 cd17 ct17), sl17⟩)
    (c17 : PySem.W.codeIn K cd17 "_law_signs" = true)
    (k17 : PySem.W.keepIn K (.ref f17) = true)
    (a18 : PySem.W.nsIn K mainGlobals "_law_text" = some (some (.ref f18)))
    (l18 : K.lookup f18 = some ⟨oc18, od18, .func (PySem.W.fnOf "_law_text" "_law_text" (defArgs sText) (defBody sText) (defScope sText) .none kV18 dc18 pm18 an18 cd18 ct18), sl18⟩)
    (c18 : PySem.W.codeIn K cd18 "_law_text" = true)
    (k18 : PySem.W.keepIn K (.ref f18) = true)
    (a19 : PySem.W.nsIn K mainGlobals "_law_tongue" = some (some (.ref f19)))
    (l19 : K.lookup f19 = some ⟨oc19, od19, .func (PySem.W.fnOf "_law_tongue" "_law_tongue" (defArgs sTongue) (defBody sTongue) (defScope sTongue) .none kV19 dc19 pm19 an19 cd19 ct19), sl19⟩)
    (c19 : PySem.W.codeIn K cd19 "_law_tongue" = true)
    (k19 : PySem.W.keepIn K (.ref f19) = true)
    (a20 : PySem.W.nsIn K mainGlobals "_law_names" = some (some (.ref f20)))
    (l20 : K.lookup f20 = some ⟨oc20, od20, .func (PySem.W.fnOf "_law_names" "_law_names" (defArgs sNames) (defBody sNames) (defScope sNames) .none kV20 dc20 pm20 an20 cd20 ct20), sl20⟩)
    (c20 : PySem.W.codeIn K cd20 "_law_names" = true)
    (k20 : PySem.W.keepIn K (.ref f20) = true)
    (a21 : PySem.W.nsIn K mainGlobals "_law_tree" = some (some (.ref f21)))
    (l21 : K.lookup f21 = some ⟨oc21, od21, .func (PySem.W.fnOf "_law_tree" "_law_tree" (defArgs sTree) (defBody sTree) (defScope sTree) .none kV21 dc21 pm21 an21 cd21 ct21), sl21⟩)
    (c21 : PySem.W.codeIn K cd21 "_law_tree" = true)
    (k21 : PySem.W.keepIn K (.ref f21) = true)
    (a22 : PySem.W.nsIn K mainGlobals "_law_work" = some (some (.ref f22)))
    (l22 : K.lookup f22 = some ⟨oc22, od22, .func (PySem.W.fnOf "_law_work" "_law_work" (defArgs sWork) (defBody sWork) (defScope sWork) .none kV22 dc22 pm22 an22 cd22 ct22), sl22⟩)
    (c22 : PySem.W.codeIn K cd22 "_law_work" = true)
    (k22 : PySem.W.keepIn K (.ref f22) = true)
    (a23 : PySem.W.nsIn K mainGlobals "_law_all" = some (some (.ref f23)))
    (l23 : K.lookup f23 = some ⟨oc23, od23, .func (PySem.W.fnOf "_law_all" "_law_all" (defArgs sAll) (defBody sAll) (defScope sAll) .none kV23 dc23 pm23 an23 cd23 ct23), sl23⟩)
    (c23 : PySem.W.codeIn K cd23 "_law_all" = true)
    (k23 : PySem.W.keepIn K (.ref f23) = true)
    (a24 : PySem.W.nsIn K mainGlobals "_law_titles" = some (some (.ref f24)))
    (l24 : K.lookup f24 = some ⟨oc24, od24, .func (PySem.W.fnOf "_law_titles" "_law_titles" (defArgs sTitles) (defBody sTitles) (defScope sTitles) .none kV24 dc24 pm24 an24 cd24 ct24), sl24⟩)
    (c24 : PySem.W.codeIn K cd24 "_law_titles" = true)
    (k24 : PySem.W.keepIn K (.ref f24) = true)
    (a25 : PySem.W.nsIn K mainGlobals "_law_backward" = some (some (.ref f25)))
    (l25 : K.lookup f25 = some ⟨oc25, od25, .func (PySem.W.fnOf "_law_backward" "_law_backward" (defArgs sBackward) (defBody sBackward) (defScope sBackward) .none kV25 dc25 pm25 an25 cd25 ct25), sl25⟩)
    (c25 : PySem.W.codeIn K cd25 "_law_backward" = true)
    (k25 : PySem.W.keepIn K (.ref f25) = true)
    (a26 : PySem.W.nsIn K mainGlobals "_law_choice_right" = some (some (.ref f26)))
    (l26 : K.lookup f26 = some ⟨oc26, od26, .func (PySem.W.fnOf "_law_choice_right" "_law_choice_right" (defArgs sChoiceRight) (defBody sChoiceRight) (defScope sChoiceRight) .none kV26 dc26 pm26 an26 cd26 ct26), sl26⟩)
    (c26 : PySem.W.codeIn K cd26 "_law_choice_right" = true)
    (k26 : PySem.W.keepIn K (.ref f26) = true)
    (a27 : PySem.W.nsIn K mainGlobals "_law_papers_right" = some (some (.ref f27)))
    (l27 : K.lookup f27 = some ⟨oc27, od27, .func (PySem.W.fnOf "_law_papers_right" "_law_papers_right" (defArgs sPapersRight) (defBody sPapersRight) (defScope sPapersRight) .none kV27 dc27 pm27 an27 cd27 ct27), sl27⟩)
    (c27 : PySem.W.codeIn K cd27 "_law_papers_right" = true)
    (k27 : PySem.W.keepIn K (.ref f27) = true)
    (a28 : PySem.W.nsIn K mainGlobals "_law_right" = some (some (.ref f28)))
    (l28 : K.lookup f28 = some ⟨oc28, od28, .func (PySem.W.fnOf "_law_right" "_law_right" (defArgs sRight) (defBody sRight) (defScope sRight) .none kV28 dc28 pm28 an28 cd28 ct28), sl28⟩)
    (c28 : PySem.W.codeIn K cd28 "_law_right" = true)
    (k28 : PySem.W.keepIn K (.ref f28) = true)
    (a29 : PySem.W.nsIn K mainGlobals "law" = some (some (.ref f29)))
    (l29 : K.lookup f29 = some ⟨oc29, od29, .func (PySem.W.fnOf "law" "law" (defArgs sLaw) (defBody sLaw) (defScope sLaw) .none kV29 dc29 pm29 an29 cd29 ct29), sl29⟩)
    (c29 : PySem.W.codeIn K cd29 "law" = true)
    (k29 : PySem.W.keepIn K (.ref f29) = true)
    (tcode : cd8 = .ref cB)
    (tmem : pB ∈ ts)
    (thd : PySem.W.codeHdIn K cB pB = true)
    (tlk : K.lookup pB = none)
    (z_isinstance : PySem.W.nsIn K mainGlobals "isinstance" = some none)
    (z_int : PySem.W.nsIn K mainGlobals "int" = some none)
    (z_bool : PySem.W.nsIn K mainGlobals "bool" = some none)
    (z_str : PySem.W.nsIn K mainGlobals "str" = some none)
    (z_tuple : PySem.W.nsIn K mainGlobals "tuple" = some none)
    (z_list : PySem.W.nsIn K mainGlobals "list" = some none)
    (z_len : PySem.W.nsIn K mainGlobals "len" = some none)
    (z_range : PySem.W.nsIn K mainGlobals "range" = some none)
    (z_max : PySem.W.nsIn K mainGlobals "max" = some none)
    (z_min : PySem.W.nsIn K mainGlobals "min" = some none)
    (z_abs : PySem.W.nsIn K mainGlobals "abs" = some none)
    (z_all : PySem.W.nsIn K mainGlobals "all" = some none)
    (z_any : PySem.W.nsIn K mainGlobals "any" = some none)
    (z_sorted : PySem.W.nsIn K mainGlobals "sorted" = some none)
    (z_set : PySem.W.nsIn K mainGlobals "set" = some none)
    (z_enumerate : PySem.W.nsIn K mainGlobals "enumerate" = some none)
    (z_reversed : PySem.W.nsIn K mainGlobals "reversed" = some none)
    : ∃ (cB pB : Addr) (fd : FuncData), pB ∈ ts ∧ PySem.W.codeHdIn K cB pB = true ∧ K.lookup pB = none ∧ (∀ (s : Shared) (v : Value), BindsTo s fd ⟨[v], []⟩ [("_law_script", v)]) ∧
      (∀ (H : Hp) (a : Addr) (ns : List Int), ns.length ≤ 63 → H pB = some (.tbl #[]) → SqL K H a (ns.map V.int) → spLaw pB K [.ref a] H (fun v _ => v = .bl true) fun _ _ _ => False) ∧
      ∀ base : Heap, K.In base → base.Ns mainGlobals mg → base.NoDigits → LamX.TabB base mg cB pB → Gn l.prog w K mg base 12 fa fd ["_law_script"] (spLaw pB K) := by
  have e := hfa.symm.trans (PySem.W.mg_of X G a29)
  cases e
  have F0 := fun_mk (st := sIsWhole) l0 c0 k0
  have D0 : Df K mg "is_whole" ["thing"] sIsWhole f0 _ := ⟨F0, PySem.W.mg_of X G a0, F0.binds (ps := ["thing"]) fun _ _ _ _ _ _ us hl => match us, hl with | [_], _ => rfl⟩
  have F1 := fun_mk (st := sIsWithin) l1 c1 k1
  have D1 : Df K mg "is_within" ["thing", "least", "most"] sIsWithin f1 _ := ⟨F1, PySem.W.mg_of X G a1, F1.binds (ps := ["thing", "least", "most"]) fun _ _ _ _ _ _ us hl => match us, hl with | [_, _, _], _ => rfl⟩
  have F2 := fun_mk (st := sLeaves) l2 c2 k2
  have D2 : Df K mg "leaves" ["work"] sLeaves f2 _ := ⟨F2, PySem.W.mg_of X G a2, F2.binds (ps := ["work"]) fun _ _ _ _ _ _ us hl => match us, hl with | [_], _ => rfl⟩
  have F3 := fun_mk (st := sSpansIn) l3 c3 k3
  have D3 : Df K mg "spans_in" ["work", "start"] sSpansIn f3 _ := ⟨F3, PySem.W.mg_of X G a3, F3.binds (ps := ["work", "start"]) fun _ _ _ _ _ _ us hl => match us, hl with | [_, _], _ => rfl⟩
  have F4 : FunD K "span_of" "span_of" (defArgs sSpanOf) (defBody sSpanOf) (defScope sSpanOf) [.non] [] f4 _ :=
    ⟨⟨_, _, _, _, _, _, _, _, _, _, rfl, l4, c4, .inr ⟨by simp, t4, _, [Value.none], _, rfl, d4, rfl, .cons rfl .nil⟩, .inl rfl⟩, k4⟩
  have F5 := fun_mk (st := sSpansOf) l5 c5 k5
  have D5 : Df K mg "spans_of" ["work", "titles", "names"] sSpansOf f5 _ := ⟨F5, PySem.W.mg_of X G a5, F5.binds (ps := ["work", "titles", "names"]) fun _ _ _ _ _ _ us hl => match us, hl with | [_, _, _], _ => rfl⟩
  have F6 := fun_mk (st := sLeavesWithin) l6 c6 k6
  have D6 : Df K mg "leaves_within" ["span"] sLeavesWithin f6 _ := ⟨F6, PySem.W.mg_of X G a6, F6.binds (ps := ["span"]) fun _ _ _ _ _ _ us hl => match us, hl with | [_], _ => rfl⟩
  have F7 := fun_mk (st := sIsAhead) l7 c7 k7
  have D7 : Df K mg "is_ahead" ["one", "other"] sIsAhead f7 _ := ⟨F7, PySem.W.mg_of X G a7, F7.binds (ps := ["one", "other"]) fun _ _ _ _ _ _ us hl => match us, hl with | [_, _], _ => rfl⟩
  have F8 := fun_mk (st := sBestOf) l8 c8 k8
  have D8 : Df K mg "best_of" ["choices"] sBestOf f8 _ := ⟨F8, PySem.W.mg_of X G a8, F8.binds (ps := ["choices"]) fun _ _ _ _ _ _ us hl => match us, hl with | [_], _ => rfl⟩
  have F9 := fun_mk (st := sBestByFirst) l9 c9 k9
  have D9 : Df K mg "best_by_first" ["spans"] sBestByFirst f9 _ := ⟨F9, PySem.W.mg_of X G a9, F9.binds (ps := ["spans"]) fun _ _ _ _ _ _ us hl => match us, hl with | [_], _ => rfl⟩
  have F10 : FunD K "most_in_order" "most_in_order" (defArgs sMostInOrder) (defBody sMostInOrder) (defScope sMostInOrder) [.non] [] f10 _ :=
    ⟨⟨_, _, _, _, _, _, _, _, _, _, rfl, l10, c10, .inr ⟨by simp, t10, _, [Value.none], _, rfl, d10, rfl, .cons rfl .nil⟩, .inl rfl⟩, k10⟩
  have F11 := fun_mk (st := sLeastHeight) l11 c11 k11
  have D11 : Df K mg "least_height" ["spans", "known", "number"] sLeastHeight f11 _ := ⟨F11, PySem.W.mg_of X G a11, F11.binds (ps := ["spans", "known", "number"]) fun _ _ _ _ _ _ us hl => match us, hl with | [_, _, _], _ => rfl⟩
  have F12 : FunD K "heights" "heights" (defArgs sHeights) (defBody sHeights) (defScope sHeights) [.non] [] f12 _ :=
    ⟨⟨_, _, _, _, _, _, _, _, _, _, rfl, l12, c12, .inr ⟨by simp, t12, _, [Value.none], _, rfl, d12, rfl, .cons rfl .nil⟩, .inl rfl⟩, k12⟩
  have F13 : FunD K "shows_most" "shows_most" (defArgs sShowsMost) (defBody sShowsMost) (defScope sShowsMost) [.non] [] f13 _ :=
    ⟨⟨_, _, _, _, _, _, _, _, _, _, rfl, l13, c13, .inr ⟨by simp, t13, _, [Value.none], _, rfl, d13, rfl, .cons rfl .nil⟩, .inl rfl⟩, k13⟩
  have F14 := fun_mk (st := sHand) l14 c14 k14
  have D14 : Df K mg "_law_hand" ["_law_script", "_law_k"] sHand f14 _ := ⟨F14, PySem.W.mg_of X G a14, F14.binds (ps := ["_law_script", "_law_k"]) fun _ _ _ _ _ _ us hl => match us, hl with | [_, _], _ => rfl⟩
  have F15 := fun_mk (st := sTake) l15 c15 k15
  have D15 : Df K mg "_law_take" ["_law_hand_here", "_law_many"] sTake f15 _ := ⟨F15, PySem.W.mg_of X G a15, F15.binds (ps := ["_law_hand_here", "_law_many"]) fun _ _ _ _ _ _ us hl => match us, hl with | [_, _], _ => rfl⟩
  have F16 := fun_mk (st := sPick) l16 c16 k16
  have D16 : Df K mg "_law_pick" ["_law_hand_here", "_law_some"] sPick f16 _ := ⟨F16, PySem.W.mg_of X G a16, F16.binds (ps := ["_law_hand_here", "_law_some"]) fun _ _ _ _ _ _ us hl => match us, hl with | [_, _], _ => rfl⟩
  have F17 := fun_mk (st := sSigns) l17 c17 k17
  have D17 : Df K mg "_law_signs" [] sSigns f17 _ := ⟨F17, PySem.W.mg_of X G a17, F17.binds (ps := []) fun _ _ _ _ _ _ us hl => match us, hl with | [], _ => rfl⟩
  have F18 := fun_mk (st := sText) l18 c18 k18
  have D18 : Df K mg "_law_text" ["_law_hand_here", "_law_most"] sText f18 _ := ⟨F18, PySem.W.mg_of X G a18, F18.binds (ps := ["_law_hand_here", "_law_most"]) fun _ _ _ _ _ _ us hl => match us, hl with | [_, _], _ => rfl⟩
  have F19 := fun_mk (st := sTongue) l19 c19 k19
  have D19 : Df K mg "_law_tongue" ["_law_hand_here"] sTongue f19 _ := ⟨F19, PySem.W.mg_of X G a19, F19.binds (ps := ["_law_hand_here"]) fun _ _ _ _ _ _ us hl => match us, hl with | [_], _ => rfl⟩
  have F20 := fun_mk (st := sNames) l20 c20 k20
  have D20 : Df K mg "_law_names" ["_law_hand_here", "_law_many"] sNames f20 _ := ⟨F20, PySem.W.mg_of X G a20, F20.binds (ps := ["_law_hand_here", "_law_many"]) fun _ _ _ _ _ _ us hl => match us, hl with | [_, _], _ => rfl⟩
  have F21 := fun_mk (st := sTree) l21 c21 k21
  have D21 : Df K mg "_law_tree" ["_law_hand_here", "_law_deep", "_law_left"] sTree f21 _ := ⟨F21, PySem.W.mg_of X G a21, F21.binds (ps := ["_law_hand_here", "_law_deep", "_law_left"]) fun _ _ _ _ _ _ us hl => match us, hl with | [_, _, _], _ => rfl⟩
  have F22 := fun_mk (st := sWork) l22 c22 k22
  have D22 : Df K mg "_law_work" ["_law_hand_here", "_law_many"] sWork f22 _ := ⟨F22, PySem.W.mg_of X G a22, F22.binds (ps := ["_law_hand_here", "_law_many"]) fun _ _ _ _ _ _ us hl => match us, hl with | [_, _], _ => rfl⟩
  have F23 := fun_mk (st := sAll) l23 c23 k23
  have D23 : Df K mg "_law_all" ["_law_work_here"] sAll f23 _ := ⟨F23, PySem.W.mg_of X G a23, F23.binds (ps := ["_law_work_here"]) fun _ _ _ _ _ _ us hl => match us, hl with | [_], _ => rfl⟩
  have F24 := fun_mk (st := sTitles) l24 c24 k24
  have D24 : Df K mg "_law_titles" ["_law_hand_here", "_law_names_here", "_law_others", "_law_most"] sTitles f24 _ := ⟨F24, PySem.W.mg_of X G a24, F24.binds (ps := ["_law_hand_here", "_law_names_here", "_law_others", "_law_most"]) fun _ _ _ _ _ _ us hl => match us, hl with | [_, _, _, _], _ => rfl⟩
  have F25 := fun_mk (st := sBackward) l25 c25 k25
  have D25 : Df K mg "_law_backward" ["_law_work_here"] sBackward f25 _ := ⟨F25, PySem.W.mg_of X G a25, F25.binds (ps := ["_law_work_here"]) fun _ _ _ _ _ _ us hl => match us, hl with | [_], _ => rfl⟩
  have F26 := fun_mk (st := sChoiceRight) l26 c26 k26
  have D26 : Df K mg "_law_choice_right" ["_law_work_here", "_law_titles_here", "_law_told"] sChoiceRight f26 _ := ⟨F26, PySem.W.mg_of X G a26, F26.binds (ps := ["_law_work_here", "_law_titles_here", "_law_told"]) fun _ _ _ _ _ _ us hl => match us, hl with | [_, _, _], _ => rfl⟩
  have F27 := fun_mk (st := sPapersRight) l27 c27 k27
  have D27 : Df K mg "_law_papers_right" ["_law_hand_here", "_law_work_here", "_law_titles_here", "_law_many"] sPapersRight f27 _ := ⟨F27, PySem.W.mg_of X G a27, F27.binds (ps := ["_law_hand_here", "_law_work_here", "_law_titles_here", "_law_many"]) fun _ _ _ _ _ _ us hl => match us, hl with | [_, _, _, _], _ => rfl⟩
  have F28 := fun_mk (st := sRight) l28 c28 k28
  have D28 : Df K mg "_law_right" ["_law_hand_here", "_law_work_here", "_law_titles_here", "_law_extra"] sRight f28 _ := ⟨F28, PySem.W.mg_of X G a28, F28.binds (ps := ["_law_hand_here", "_law_work_here", "_law_titles_here", "_law_extra"]) fun _ _ _ _ _ _ us hl => match us, hl with | [_, _, _, _], _ => rfl⟩
  have F29 := fun_mk (st := sLaw) l29 c29 k29
  have D29 : Df K mg "law" ["_law_script"] sLaw fa _ := ⟨F29, PySem.W.mg_of X G a29, F29.binds (ps := ["_law_script"]) fun _ _ _ _ _ _ us hl => match us, hl with | [_], _ => rfl⟩
  have T : Txt mg := ⟨PySem.W.mg_none_of X G z_isinstance,
    PySem.W.mg_none_of X G z_int,
    PySem.W.mg_none_of X G z_bool,
    PySem.W.mg_none_of X G z_str,
    PySem.W.mg_none_of X G z_tuple,
    PySem.W.mg_none_of X G z_list,
    PySem.W.mg_none_of X G z_len,
    PySem.W.mg_none_of X G z_range,
    PySem.W.mg_none_of X G z_max,
    PySem.W.mg_none_of X G z_min,
    PySem.W.mg_none_of X G z_abs,
    PySem.W.mg_none_of X G z_all,
    PySem.W.mg_none_of X G z_any,
    PySem.W.mg_none_of X G z_sorted,
    PySem.W.mg_none_of X G z_set,
    PySem.W.mg_none_of X G z_enumerate,
    PySem.W.mg_none_of X G z_reversed⟩
  refine ⟨cB, pB, PySem.W.fnOf "law" "law" (defArgs sLaw) (defBody sLaw) (defScope sLaw) .none kV29 dc29 pm29 an29 cd29 ct29, tmem, thd, tlk, fun s v => .of_eq rfl, fun H a ns hl hH hS => ⟨a, ns, rfl, hS, hl, fun p hp => ?t, fun _ => rfl⟩, fun base kb gb nd TB => ?g⟩
  case t =>
    rw [List.mem_singleton.mp hp]
    exact .nil hH
  case g =>
    have cSI := D3.ca (si_fn (P := l.prog) (w := w) (base := base) D3 T 5)
    have cLv := D2.ca (leaves_fn (P := l.prog) (w := w) (base := base) D2 T 5)
    have okSo := ok_so F4 T cSI
    obtain ⟨So_, cSO⟩ := so_mk F4 (PySem.W.mg_of X G a4) okSo
    have cSOs := D5.ca (ok_sos D5 T cSO)
    have cLW := D6.ca (ok_lw (P := l.prog) (w := w) (base := base) D6)
    have cAh := D7.ca (ok_ah (P := l.prog) (w := w) (base := base) D7)
    have cBO := D8.ca (ok_bo (P := l.prog) (w := w) (base := base) D8 tcode TB T)
    have cBB := D9.ca (ok_bb D9 T cBO cLW cAh)
    have Mo := mo_mk F10 (PySem.W.mg_of X G a10) (ok_mo F10 T cSOs cBB cBO cLv)
    have cLH := D11.ca (ok_lh D11 T cLW cAh)
    have Ht := ht_mk F12 (PySem.W.mg_of X G a12) (ok_ht F12 T cSOs cLH)
    have cW := D0.ca (ok_whole (P := l.prog) (w := w) (base := base) D0 T)
    have cWi := D1.ca (ok_within D1 cW)
    have Sm := sm_mk F13 (PySem.W.mg_of X G a13) (ok_sm F13 T cWi cSOs cLH)
    have cH := D14.ca (ok_hand (P := l.prog) (w := w) (base := base) D14 T)
    have cT := D15.ca (ok_take (P := l.prog) (w := w) (base := base) D15)
    have cP := D16.ca (ok_pick D16 T cT)
    have cS := D17.ca (ok_signs (P := l.prog) (w := w) (base := base) D17)
    have cX := D18.ca (ok_text D18 T cT cP cS)
    have cG := D19.ca (ok_tongue D19 T cT cP)
    have cN := D20.ca (ok_names D20 T cT cP cS cX cG)
    have cTA := D21.ca (fn_all (N := 5) (k := 8) (sp := spTree) fun n hn => FnOk.mono (tree_fn D21 T cP n) (by omega))
    have cAA := D23.ca (all_fn (P := l.prog) (w := w) (base := base) D23 T 5)
    have cWo := D22.ca (ok_work D22 T cT cN cTA cAA)
    have cTi := D24.ca (ok_ti D24 T cT cP)
    have cBk := D25.ca (bk_fn (P := l.prog) (w := w) (base := base) D25 T 5)
    have cCR := D26.ca (ok_cr D26 T So_ cLv)
    have cPR := D27.ca (ok_pr D27 T cT Ht Sm)
    have cRt := D28.ca (ok_rt D28 T cT Mo cCR cPR cBk)
    exact ok_law D29 T cH cT cP cWo cTi cRt
end K82
open PySem PySem.W PyProof.Rows L2
set_option maxRecDepth 100000 in
set_option maxHeartbeats 0 in
theorem PySem.Challenge.cw_takesworks_k82_whole_parts_in_order_holds : PySem.Challenge.rw_takesworks_k82_whole_parts_in_order.Holds := by
  w_on; o_law; k_head; (case hw => w_witness2)
  k_fill
  refine K82.walk_goT (l := PySem.Challenge.rw_takesworks_k82_whole_parts_in_order) (n := 63) (k := 12) (x := "_law_script") (sp := K82.spLaw) rfl (by decide) rfl ⟨rfl, by decide, by decide⟩ (fun w h Y => ⟨PySem.W.km_in_of Y, PySem.W.km_tabs_of Y⟩) ?F
  case F =>
    intro w mg fa h KX G hmg
    refine' K82.all_mk KX G hmg ?a0 ?l0 ?c0 ?k0 ?a1 ?l1 ?c1 ?k1 ?a2 ?l2 ?c2 ?k2 ?a3 ?l3 ?c3 ?k3 ?a4 ?l4 ?c4 ?k4 ?d4 ?a5 ?l5 ?c5 ?k5 ?a6 ?l6 ?c6 ?k6 ?a7 ?l7 ?c7 ?k7 ?a8 ?l8 ?c8 ?k8 ?a9 ?l9 ?c9 ?k9 ?a10 ?l10 ?c10 ?k10 ?d10 ?a11 ?l11 ?c11 ?k11 ?a12 ?l12 ?c12 ?k12 ?d12 ?a13 ?l13 ?c13 ?k13 ?d13 ?a14 ?l14 ?c14 ?k14 ?a15 ?l15 ?c15 ?k15 ?a16 ?l16 ?c16 ?k16 ?a17 ?l17 ?c17 ?k17 ?a18 ?l18 ?c18 ?k18 ?a19 ?l19 ?c19 ?k19 ?a20 ?l20 ?c20 ?k20 ?a21 ?l21 ?c21 ?k21 ?a22 ?l22 ?c22 ?k22 ?a23 ?l23 ?c23 ?k23 ?a24 ?l24 ?c24 ?k24 ?a25 ?l25 ?c25 ?k25 ?a26 ?l26 ?c26 ?k26 ?a27 ?l27 ?c27 ?k27 ?a28 ?l28 ?c28 ?k28 ?a29 ?l29 ?c29 ?k29 ?tcode ?tmem ?thd ?tlk ?z_isinstance ?z_int ?z_bool ?z_str ?z_tuple ?z_list ?z_len ?z_range ?z_max ?z_min ?z_abs ?z_all ?z_any ?z_sorted ?z_set ?z_enumerate ?z_reversed
    (case a0 => k_is)
    (case l0 => k_is)
    (case c0 => k_is)
    (case k0 => k_is)
    (case a1 => k_is)
    (case l1 => k_is)
    (case c1 => k_is)
    (case k1 => k_is)
    (case a2 => k_is)
    (case l2 => k_is)
    (case c2 => k_is)
    (case k2 => k_is)
    (case a3 => k_is)
    (case l3 => k_is)
    (case c3 => k_is)
    (case k3 => k_is)
    (case a4 => k_is)
    (case l4 => k_is)
    (case c4 => k_is)
    (case k4 => k_is)
    (case d4 => k_is)
    (case a5 => k_is)
    (case l5 => k_is)
    (case c5 => k_is)
    (case k5 => k_is)
    (case a6 => k_is)
    (case l6 => k_is)
    (case c6 => k_is)
    (case k6 => k_is)
    (case a7 => k_is)
    (case l7 => k_is)
    (case c7 => k_is)
    (case k7 => k_is)
    (case a8 => k_is)
    (case l8 => k_is)
    (case c8 => k_is)
    (case k8 => k_is)
    (case a9 => k_is)
    (case l9 => k_is)
    (case c9 => k_is)
    (case k9 => k_is)
    (case a10 => k_is)
    (case l10 => k_is)
    (case c10 => k_is)
    (case k10 => k_is)
    (case d10 => k_is)
    (case a11 => k_is)
    (case l11 => k_is)
    (case c11 => k_is)
    (case k11 => k_is)
    (case a12 => k_is)
    (case l12 => k_is)
    (case c12 => k_is)
    (case k12 => k_is)
    (case d12 => k_is)
    (case a13 => k_is)
    (case l13 => k_is)
    (case c13 => k_is)
    (case k13 => k_is)
    (case d13 => k_is)
    (case a14 => k_is)
    (case l14 => k_is)
    (case c14 => k_is)
    (case k14 => k_is)
    (case a15 => k_is)
    (case l15 => k_is)
    (case c15 => k_is)
    (case k15 => k_is)
    (case a16 => k_is)
    (case l16 => k_is)
    (case c16 => k_is)
    (case k16 => k_is)
    (case a17 => k_is)
    (case l17 => k_is)
    (case c17 => k_is)
    (case k17 => k_is)
    (case a18 => k_is)
    (case l18 => k_is)
    (case c18 => k_is)
    (case k18 => k_is)
    (case a19 => k_is)
    (case l19 => k_is)
    (case c19 => k_is)
    (case k19 => k_is)
    (case a20 => k_is)
    (case l20 => k_is)
    (case c20 => k_is)
    (case k20 => k_is)
    (case a21 => k_is)
    (case l21 => k_is)
    (case c21 => k_is)
    (case k21 => k_is)
    (case a22 => k_is)
    (case l22 => k_is)
    (case c22 => k_is)
    (case k22 => k_is)
    (case a23 => k_is)
    (case l23 => k_is)
    (case c23 => k_is)
    (case k23 => k_is)
    (case a24 => k_is)
    (case l24 => k_is)
    (case c24 => k_is)
    (case k24 => k_is)
    (case a25 => k_is)
    (case l25 => k_is)
    (case c25 => k_is)
    (case k25 => k_is)
    (case a26 => k_is)
    (case l26 => k_is)
    (case c26 => k_is)
    (case k26 => k_is)
    (case a27 => k_is)
    (case l27 => k_is)
    (case c27 => k_is)
    (case k27 => k_is)
    (case a28 => k_is)
    (case l28 => k_is)
    (case c28 => k_is)
    (case k28 => k_is)
    (case a29 => k_is)
    (case l29 => k_is)
    (case c29 => k_is)
    (case k29 => k_is)
    (case tcode => exact rfl)
    (case tmem => exact List.mem_singleton.mpr rfl)
    (case thd => first | kernel_rfl | exact rfl)
    (case tlk => first | kernel_rfl | exact rfl)
    (case z_isinstance => k_is)
    (case z_int => k_is)
    (case z_bool => k_is)
    (case z_str => k_is)
    (case z_tuple => k_is)
    (case z_list => k_is)
    (case z_len => k_is)
    (case z_range => k_is)
    (case z_max => k_is)
    (case z_min => k_is)
    (case z_abs => k_is)
    (case z_all => k_is)
    (case z_any => k_is)
    (case z_sorted => k_is)
    (case z_set => k_is)
    (case z_enumerate => k_is)
    (case z_reversed => k_is)
