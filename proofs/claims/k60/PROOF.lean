import PyProof.Rows.All
import Wide.All
import OpenK.AllK
import Wide.FinOn
import HandS.ForMost
import HandS.ForExc
import HandS.Wide
import HandS.Flow
import HandS.IsInst
import HandS.Codes
import HandS.ExcInit
import HandS.ExcField
import HandS.ExcIs
import HandS.CallSlots
import HandS.Defaults
import HandS.MakeKw
import HandS.MakeKwOnly
import KE.KExcIs
import KE.KTryMore
import HandS.RaiseMore
import HandS.FStrTup
import PyProof.ReprRoads
import PyProof.StrLawsRepr
import KE.GoesMore
import HandS.Iter
import HandS.Walk
import HandS.More
import KE.DataMinMax
import KE.SortData
import KE.KStar
import KE.GoesZip
import KE.GoesEnum
import PyProof.NeKinds
import HandS.TupMul
import HandS.TupLe
import HandS.Zip
import HandS.SetFor
import HandS.Strs
import HandS.TupAny
import HandS.SortInts
import HandS.Style
import KE.KRevSl
import PySem.Challenge.RW_takesworks_k60_books_of_anything
set_option Elab.async false
set_option linter.all false
set_option maxRecDepth 100000
set_option maxHeartbeats 4000000
set_option pp.maxSteps 400
set_option pp.deepTerms false
/-! A caught exception that is kept: tracked as an object of its own, with its class and its dict. -/
namespace Xk
open PySem PySem.Spec PyProof.Rows L2
/-- at a: an exception of the class cls, its dict at d (if it has one) -/
def ExK (cls : Value) (d : Option Addr) (a : Addr) : HO := .ext fun h => ∃ oe : Obj, h.get? a = some oe ∧ Zc cls d oe ∧ ∃ vs, oe.data = .fields vs
theorem exK_ok {P : Program} {w : World} {H : Hp} {h : Heap} {a : Addr} {cls : Value} {d : Option Addr} {oe : Obj} {vs : Array Value}
    (e : h.get? a = some oe) (z : Zc cls d oe) (hd : oe.data = .fields vs) : ObjOk P w H h a (ExK cls d a) :=
  ⟨⟨oe, e, z, vs, hd⟩, ⟨oe, e⟩, fun _ _ y k => by
    obtain ⟨o, q, r⟩ := y
    exact ⟨o, k o q, r⟩⟩
theorem exK_at {P : Program} {w : World} {H : Hp} {h : Heap} {a : Addr} {cls : Value} {d : Option Addr} (hok : HOk P w H h) (e : H a = some (ExK cls d a)) :
    ∃ oe : Obj, h.get? a = some oe ∧ Zc cls d oe ∧ ∃ vs, oe.data = .fields vs := by
  have z : ObjOk P w H h a (.ext fun h => ∃ oe : Obj, h.get? a = some oe ∧ Zc cls d oe ∧ ∃ vs, oe.data = .fields vs) := hok a _ e
  exact z.1
section
variable {X : Cx} {pins : List (Addr × Obj)} {σ : L2.St} {H : Hp} {s : Shared}
/-- an object that came during the call, untracked as yet, is tracked from here on -/
theorem track {a : Addr} {o : HO} (I : Inv X pins σ H s) (h0 : X.s_0.heap.get? a = none) (na : H a = none) (nL : a ≠ X.env.locals)
    (nC : ∀ x c, X.env.cells.lookup x = some c → c ≠ a) (nP : ∀ p ∈ X.pn ++ pins, p.1 ≠ a) (new : ObjOk X.prog X.w (upd H a o) s.heap a o) : Inv X pins σ (upd H a o) s := by
  have n0 : ∀ {b : Addr} {u : Obj}, X.s_0.heap.get? b = some u → b ≠ a := fun {b u} e z => by
    rw [z, h0] at e
    cases e
  refine ⟨I.ok, I.os, I.bare, ⟨I.base.keep, I.base.slot, fun b u e n hx => ?_, I.base.there, fun b xs e => ?_, fun b u v e => ?_, fun b ps e => ?_⟩, I.loc, I.cell, ?_, fun x c e => ?_, fun p hp => ?_, fun b u e => ?_, I.len⟩
  · rw [upd_ne (n0 e)]
    exact I.base.free b u e n hx
  · have q := I.base.tups b xs e
    rw [upd_ne (ne_of_none q na)]
    exact q
  · have q := I.base.frzs b u v e
    rw [upd_ne (ne_of_none q na)]
    exact q
  · obtain ⟨m, q⟩ := I.base.tbls b ps e
    exact ⟨m, by rw [upd_ne (ne_of_none q na)]; exact q⟩
  · rw [upd_ne (Ne.symm nL)]
    exact I.free
  · rw [upd_ne (nC x c e)]
    exact I.freeC x c e
  · obtain ⟨e1, e2, e3⟩ := I.pin p hp
    exact ⟨e1, by rw [upd_ne (nP p hp)]; exact e2, e3⟩
  · by_cases hb : b = a
    · subst hb
      rw [upd_same] at e
      cases e
      exact new
    · rw [upd_ne hb] at e
      refine (I.hok b u e).stay (fun _ _ _ q => q) (fun c q => ?_) fun c xs q => ?_
      · rw [upd_ne (ne_of_none q na)]
        exact q
      · rw [upd_ne (ne_of_none q na)]
        exact q
end
theorem flying_kept {B h h' : Heap} {l : List Env} {a : Addr} {Z : Obj → Prop} (f : HandSPX.FlyingZ B l a Z h) (k : ∀ b o, h.get? b = some o → h'.get? b = some o) : HandSPX.FlyingZ B l a Z h' := by
  obtain ⟨f1, f2, f3, oe, vs, T, oT, ts, t1, t2, t3, t4, t5, t6, t7, t8, t9⟩ := f
  exact ⟨fun b o e => k b o (f1 b o e), f2, f3.of_keeps fun b o e _ => ⟨o, k b o e, rfl⟩, oe, vs, T, oT, ts, k _ _ t1, t2, t3, t4, t5, t6, k _ _ t7, t8, t9⟩
/-- what the clause 'except (A, B, C) as n' wishes of an exception of the body: slot i is n's; the exception is tracked -/
def wKeep (K : PySem.W.Frag) (cs : List Value) (i : Nat) (ts : Addr → TS) (Wout : WX) (D : Ends) : WX := fun cls d σ H =>
  ∃ b, PySem.W.exmAny K cls cs = some b ∧
    (b = true → ∀ a, H a = none → ts a { nx := fun σ' H' => D.nx (σ'.set i none) H', rt := D.rt, bk := fun σ' H' => D.bk (σ'.set i none) H', ct := fun σ' H' => D.ct (σ'.set i none) H' } (σ.set i (some (.ref a))) (upd H a (ExK cls d a))) ∧
    (b = false → Wout cls d σ H)
/-- a module's own class by its name -/
structure Nm (X : Cx) (x : Str) (C : Addr) : Prop where
  gl : Gl X x
  db : (x == ("__debug__" : Str)) = false
  mg : X.mg x = some (.ref C)
section
variable {X : Cx} {x1 x2 x3 n : Str} {C1 C2 C3 : Addr} {i : Nat} {body suite : List Stmt} {b₀ : Stmt} {p1 p2 p3 tp pos pos' : Pos} {tb : WX → TS} {ts : Addr → TS} {Wout : WX} {cx}
theorem ps_try_keep (hs : X.stack = X.env :: X.outer) (hf : X.env.frame = some X.env.locals) (hex : X.ex = []) (hN : X.N.Nodup) (hi : X.N[i]? = some n) (hln : X.env.kindOf n = some .local)
    (n1 : Nm X x1 C1) (n2 : Nm X x2 C2) (n3 : Nm X x3 C3) (tk : Takes X Wout)
    (hb : ∀ (W : WX) (pn : List (Addr × Obj)) (xe : Value → Shared → Prop), Takes (X.tr pn xe) W → PassesOwn (model X.prog X.w) X.A X.env xe → PSs (X.tr pn xe) body (tb W))
    (hsu : ∀ (a : Addr) (pn : List (Addr × Obj)), PSs (X.suite a pn) (b₀ :: suite) (ts a)) :
    PS X (.Try body [.ExceptHandler (some (.Tuple [.Name x1 p1, .Name x2 p2, .Name x3 p3] cx tp)) (some n) (b₀ :: suite) pos'] [] [] pos) (fun D σ H => tb (wKeep X.K [.ref C1, .ref C2, .ref C3] i ts Wout D) D σ H) := by
  refine ⟨fun pins s σ H D I h => ?_⟩
  have ok := I.ok
  have frs2 : X.A.frames = some (X.env :: X.outer) := by rw [ok.frames, hs]
  refine wpAny_Try_except ?_
  refine wpAny_mono ((hb (wKeep X.K [.ref C1, .ref C2, .ref C3] i ts Wout D) (X.pn ++ pins)
    (fun e s₁ => wpAny (model X.prog X.w) X.A (noteFrame e X.env) (fun _ s₂ => wpAny (model X.prog X.w) X.A (setFlight e none) (fun _ s₃ => wpAny (model X.prog X.w) X.A
      (handleBy e X.env [.ExceptHandler (some (.Tuple [.Name x1 p1, .Name x2 p2, .Name x3 p3] cx tp)) (some n) (b₀ :: suite) pos']) (SP X pins D) X.xe s₃) X.xe s₂) X.xe s₁)
    (fun u s' air => ?_) PassesOwn.looking).run [] s σ H D (I.toTry _) h) (fun f s1 hsp => ?_) (fun e s1 he => he)
  · obtain ⟨a, B, sI, pins', σ', H', cls, d, rfl, J', nb, up, sky, na, os, ag, b, hb1, hyes, hno⟩ := air
    have J : Inv X pins σ' H' sI := J'.ofTry ok
    have sky2 : Sky B (X.env :: X.outer) a (Zc cls d) X.env.locals s'.heap := by
      rw [← hs]
      exact sky
    refine Sky.land Zc.steady frs2 hf sky2 fun h3 fl3 up3 => ?_
    obtain ⟨oe3, vs3, he3, hz3, hd3⟩ := fl3.there
    have nfr : a ∉ frs (X.env :: X.outer) := fun hm => by
      obtain ⟨_, o', e', hnf⟩ := fl3.2.2.1.mem hm
      rw [he3] at e'
      cases e'
      exact hnf _ hd3
    have nL : a ≠ X.env.locals := fun z => nfr (List.mem_filterMap.mpr ⟨X.env, List.mem_cons_self, by rw [hf, z]⟩)
    have nF : a ∉ X.fs := fun hm => by
      obtain ⟨e, he, q⟩ := List.mem_filterMap.mp hm
      exact nfr (List.mem_filterMap.mpr ⟨e, List.mem_cons_of_mem _ he, q⟩)
    -- it was not there when the call began
    have aI : sI.heap.get? a = none := by
      cases e : sI.heap.get? a with
      | none => rfl
      | some o =>
        have z := nb a o e (by rw [hs]; exact nfr)
        rw [fl3.2.1] at z
        cases z
    have a0 : X.s_0.heap.get? a = none := by
      cases e : X.s_0.heap.get? a with
      | none => rfl
      | some o =>
        obtain ⟨o', z⟩ := J.base.there a o e (by rw [hex]; exact fun z => nomatch z)
        rw [aI] at z
        cases z
    have nP : ∀ p ∈ X.pn ++ pins, p.1 ≠ a := fun p hp z => by
      have q := (J.pin p hp).1
      rw [z, aI] at q
      cases q
    have trk : ∀ {h4 : Heap} {s4 : Shared}, s4.heap = h4 → HandSPX.FlyingZ B (X.env :: X.outer) a (Zc cls d) h4 → Inv X pins σ' H' s4 → Inv X pins σ' (upd H' a (ExK cls d a)) s4 := fun {h4 s4} e4 fl4 J4 => by
      subst e4
      obtain ⟨oe4, vs4, he4, hz4, hd4⟩ := fl4.there
      refine track J4 a0 na nL (fun x c e z => ?_) nP (exK_ok he4 hz4 hd4)
      obtain ⟨v, o, eo, ed⟩ := J4.cell x c e
      rw [z, he4] at eo
      cases eo
      rw [hd4] at ed
      cases ed
    have J3 : Inv X pins σ' H' { s' with heap := h3 } := J.landed nb fl3.1 (up.trans up3) os ag
    have S3 : Inv (X.suite a (X.pn ++ pins)) [] σ' H' { s' with heap := h3 } :=
      ⟨J3.ok.suite _ _, J3.os, J3.bare, J3.base, J3.loc, J3.cell, J3.free, J3.freeC, fun p hp => J3.pin p (by rw [List.append_nil] at hp; exact hp), J3.hok, J3.len⟩
    refine wpAny_handleBy_cons (codeAny_handlers_test ?_) (by intro q; cases q)
    have own : ∀ {x : Str} {C : Addr} {p : Pos} {Q : Value → Shared → Prop} {E : Value → Shared → Prop}, Nm X x C → Q (.ref C) { s' with heap := h3 } →
        wpAny (model X.prog X.w) (X.A.mark (some (.ref a))) (eval (.Name x p) X.env) Q E { s' with heap := h3 } := fun {x C p Q E} z q => ld_glob (X := X.suite a (X.pn ++ pins)) S3 z.gl z.mg q z.db
    have tup : ∀ {Q : Value → Shared → Prop} {E : Value → Shared → Prop}, Q (.ref h3.objs.size) { s' with heap := h3.push { cls := .type "tuple", data := .seq [Value.ref C1, .ref C2, .ref C3].toArray } } →
        wpAny (model X.prog X.w) (X.A.mark (some (.ref a))) (eval (.Tuple [.Name x1 p1, .Name x2 p2, .Name x3 p3] cx tp) X.env) Q E { s' with heap := h3 } := fun {Q E} q => by
      refine wpAny_Tuple_spliced ?_
      show wpAny _ _ (spliced ((false, eval (.Name x1 p1) X.env) :: (false, eval (.Name x2 p2) X.env) :: (false, eval (.Name x3 p3) X.env) :: [])) _ _ _
      exact Calls.spliced_cons (own n1 (Calls.spliced_cons (own n2 (Calls.spliced_cons (own n3 (Calls.spliced_nil ⟨by show 3 ≤ sizeLine; decide, q⟩))))))
    refine tup ?_
    have k4 : ∀ b o, h3.get? b = some o → (h3.push { cls := .type "tuple", data := .seq [Value.ref C1, .ref C2, .ref C3].toArray }).get? b = some o := fun b o e => Heap.get?_push_of_some _ e
    have t4 := Heap.get?_push_size h3 (o := { cls := .type "tuple", data := .seq [Value.ref C1, .ref C2, .ref C3].toArray }) rfl
    generalize h3.push { cls := .type "tuple", data := .seq [Value.ref C1, .ref C2, .ref C3].toArray } = h4 at k4 t4 ⊢
    have fl4 := flying_kept fl3 k4
    have J4 : Inv X pins σ' H' { s' with heap := h4 } := J3.kept k4
    have LT : PySem.W.Looks (model X.prog X.w) h4 (typeOf (.ref a)) cls := fun A Q E s k q => wpAny_typeOf_ref (k _ _ (k4 _ _ he3)) (by rw [hz3.1]; exact q)
    refine (PySem.W.exm_tup3 (M := model X.prog X.w) J4.kIn LT t4 hb1).here ?_
    cases b with
    | true =>
      refine codeAny_handlers_suite_as ?_
      refine HandSPX.lands_againZ fl4 fun h5 fl5 up5 => ?_
      have J5 : Inv X pins σ' H' { s' with heap := h5 } := J.landed nb fl5.1 ((up.trans up3).trans ((Heap.UpToSlots.of_keeps k4).trans up5)) os ag
      have T5 := trk rfl fl5 J5
      have S5 : Inv (X.suite a (X.pn ++ pins)) [] σ' (upd H' a (ExK cls d a)) { s' with heap := h5 } :=
        ⟨T5.ok.suite _ _, T5.os, T5.bare, T5.base, T5.loc, T5.cell, T5.free, T5.freeC, fun p hp => T5.pin p (by rw [List.append_nil] at hp; exact hp), T5.hok, T5.len⟩
      refine store_ok (X := X.suite a (X.pn ++ pins)) (v := .ref a) S5 hN hi (.inl hln) rfl (fun s6 S6 => ?_) (.inr hln)
      refine wpAny_mono ((hsu a (X.pn ++ pins)).run [] s6 _ _ _ S6 (hyes rfl a na)) (fun f s7 hsp => ?_) (fun _ _ z => False.elim z)
      have back : ∀ {σ7 : L2.St} {H7 : Hp}, Inv (X.suite a (X.pn ++ pins)) [] σ7 H7 s7 → Inv X pins σ7 H7 s7 := fun {σ7 H7} S7 =>
        ⟨ok, S7.os, S7.bare, S7.base, S7.loc, S7.cell, S7.free, S7.freeC, fun p hp => S7.pin p (by rw [List.append_nil]; exact hp), S7.hok, S7.len⟩
      cases f with
      | next =>
        obtain ⟨σ7, H7, S7, q7⟩ := hsp
        exact gone_ok (back S7) hN hi hln fun s8 J8 => ⟨_, _, J8, q7⟩
      | brk =>
        obtain ⟨σ7, H7, S7, q7⟩ := hsp
        exact gone_ok (back S7) hN hi hln fun s8 J8 => ⟨_, _, J8, q7⟩
      | cont =>
        obtain ⟨σ7, H7, S7, q7⟩ := hsp
        exact gone_ok (back S7) hN hi hln fun s8 J8 => ⟨_, _, J8, q7⟩
      | ret u =>
        obtain ⟨v7, σ7, H7, S7, r7, q7⟩ := hsp
        exact gone_ok (back S7) hN hi hln fun s8 J8 => ⟨_, _, _, J8, r7, q7⟩
    | false =>
      refine wpAny_handleBy_nil ?_
      obtain ⟨k1, k2, k3, oe, vs, T, oT, ts', he, hz, hd, h1, hr⟩ := id fl4
      unfold PySem.passOn
      refine wpAny_bind (wpAny_field he hd h1 ?_)
      rw [if_neg (by simp : ¬ ((Value.ref T == Value.none) = true))]
      have fin : wpAny (model X.prog X.w) X.A (setFlight (.ref a) X.env.frame) (fun _ s5 => wpAny (model X.prog X.w) X.A (throw (.ref a) : Sem Flow) (SP X pins D) X.xe s5) X.xe { s' with heap := h4 } := by
        rw [hf]
        refine HandSPX.setFlight_upZ fl4 fun h5 hh5 up5 => wpAny_throw (tk _ _ ?_)
        exact ⟨a, B, sI, pins, σ', H', cls, d, rfl, J, nb, (up.trans up3).trans ((Heap.UpToSlots.of_keeps k4).trans up5), .inr (.inr (by rw [hs]; exact hh5)), na, os, ag, hno rfl⟩
      first
        | exact wpAny_bind (wpAny_pure (wpAny_bind fin))
        | exact wpAny_bind fin
  · cases f with
    | next =>
      obtain ⟨σ', H', J', q⟩ := hsp
      exact wpAny_execs_nil ⟨σ', H', J'.ofTry ok, q⟩
    | brk =>
      obtain ⟨σ', H', J', q⟩ := hsp
      exact ⟨σ', H', J'.ofTry ok, q⟩
    | cont =>
      obtain ⟨σ', H', J', q⟩ := hsp
      exact ⟨σ', H', J'.ofTry ok, q⟩
    | ret u =>
      obtain ⟨v, σ', H', J', r, q⟩ := hsp
      exact ⟨v, σ', H', J'.ofTry ok, r, q⟩
end
end Xk
set_option Elab.async false
set_option linter.all false
set_option maxRecDepth 100000
set_option maxHeartbeats 4000000
set_option pp.maxSteps 400
set_option pp.deepTerms false
namespace Xk
open PySem PySem.Spec PyProof.Rows L2
/-- what an own exception class says, so that its kept instances are read and asked -/
structure XcC (K : PySem.W.Frag) (C : Addr) : Prop where
  cl : (PySem.W.clsIn K C).isSome = true
  ga : PySem.W.findIn K (.ref C) "__getattribute__" = some (some (.builtin "BaseException.__getattribute__"))
  gg : PySem.W.findIn K (.ref C) "__getattr__" = some none
  sb : PySem.W.subIn K (.ref C) (.type "BaseException") = some true
  hd : PySem.W.hasDictIn K C = true
  ha : PySem.W.findIn K (.ref C) "__class__" = some (some (.builtin "object.__class__"))
  hn : PySem.W.specialIn K (.builtin "object.__class__") "__get__" = some (some (.builtin "getset_descriptor.__get__"))
  ht : PySem.W.takesIn K (.builtin "object.__class__") = some true
  hm : PySem.W.mroIn K C (.type "object") = some true
/-- a kept exception of the class at C with the fields fs -/
def Kept (H : Hp) (a C : Addr) (fs : List (Str × V)) : Prop := ∃ d, H a = some (ExK (.ref C) (some d) a) ∧ H d = some (.xd fs)
theorem Kept.same {H H' : Hp} {a C : Addr} {fs : List (Str × V)} (k : Kept H a C fs) (s : L2.Same H H') : Kept H' a C fs := by
  obtain ⟨d, e1, e2⟩ := k
  exact ⟨d, s _ _ e1, s _ _ e2⟩
section
variable {X : Cx} {pins : List (Addr × Obj)} {σ : L2.St} {H : Hp} {s : Shared}
theorem Kept.inst {a C : Addr} {fs : List (Str × V)} (I : Inv X pins σ H s) (k : Kept H a C fs) :
    ∃ (oe od : Obj) (mA : Str → Option Value), PySem.W.InstAt s.heap a oe C (some od) ∧ (∀ n, PySem.W.lookIn n od = some (mA n)) ∧ ∀ f, RelO (fs.lookup f) (mA f) := by
  obtain ⟨d, e1, e2⟩ := k
  obtain ⟨oe, he, hz, vs, hv⟩ := exK_at I.hok e1
  have hx : ObjOk X.prog X.w H s.heap d (.xd fs) := I.hok d _ e2
  obtain ⟨mA, hns, hr⟩ := hx
  obtain ⟨od, ho, hl⟩ := lookIn_ns hns
  refine ⟨oe, od, mA, ⟨he, hz.1, by unfold PySem.W.notCls; rw [hv] <;> rfl, by rw [hz.2]; exact ho⟩, hl, hr⟩
end
/-- e.f of a kept exception -/
def tKf (C : Addr) (f : Str) (te : TE) : TE := fun σ H Q => te σ H fun x H1 => ∃ (a : Addr) (fs : List (Str × V)) (v : V), x = .ref a ∧ Kept H1 a C fs ∧ fs.lookup f = some v ∧ Q v H1
theorem pe_kf {X : Cx} {C : Addr} {e : Expr} {te : TE} {pos : Pos} {n : Str} (T : XcC X.K C) (hno : PySem.W.findIn X.K (.ref C) n = some none) (he : PE X e te)
    (hb : attributeBase e n X.env (eval e X.env) = eval e X.env := by rfl) : PE X (.Attribute e n pos) (tKf C n te) := by
  refine ⟨fun pins s σ H Q I h => attr_of hb (thn (he.run pins s σ H _ I h) fun u s1 z => ?_)⟩
  obtain ⟨x, H1, I1, rx, a, fs, v, ex, k, l, q⟩ := z
  subst ex
  obtain rfl : u = Value.ref a := rx
  obtain ⟨oe, od, mA, J, hl, hr⟩ := k.inst I1
  obtain ⟨y, hy, ry⟩ := RelO.some_of (v := v) (o := mA n) (by rw [← l]; exact hr n)
  exact HandSPX.exc_get I1.kIn J T.ga T.gg T.sb (PySem.W.findObj_own T.hd hno rfl (by rw [hl, hy])) (handed_of ry) ⟨v, H1, I1.tok _, ry, q⟩
/-- isinstance(e, c), isinstance(e, (c1, ..)) of a kept exception -/
def rIsK (K : PySem.W.Frag) (C : Addr) : List V → Hp → VK → Prop := fun xs H Q => ∃ (a : Addr) (fs : List (Str × V)) (c : V) (u : Value) (b : Bool), xs = [.ref a, c] ∧ Kept H a C fs ∧ ClsV c u ∧ PySem.W.kitOne K (.ref C) u = some b ∧ Q (.bl b) H
def rIsKT (K : PySem.W.Frag) (C : Addr) : List V → Hp → VK → Prop := fun xs H Q => ∃ (a tp : Addr) (fs : List (Str × V)) (cs : List V) (us : List Value) (b : Bool), xs = [.ref a, .ref tp] ∧ Kept H a C fs ∧
  H tp = some (.tup cs) ∧ Paired ClsV cs us ∧ PySem.W.kitAny K (.ref C) us = some b ∧ Q (.bl b) H
theorem call_isK {X : Cx} {C : Addr} (T : XcC X.K C) : CallR X (.builtin "isinstance") (rIsK X.K C) := by
  intro pins s σ H xs us Q I r h
  obtain ⟨a, fs, c, u, b, rfl, k, hc, e, q⟩ := h
  obtain ⟨u1, u2, rfl, r1, r2⟩ := vals2 r
  have e2 := hc.eq r2
  subst e2
  cases (show u1 = Value.ref a from r1)
  obtain ⟨oe, od, mA, J, _, _⟩ := k.inst I
  exact PySem.W.kia_one (PySem.W.kitx_exc (ox := oe) (od := some od) T.cl T.ga T.gg T.sb T.ha T.hn T.ht T.hm) I.kIn J e (fun z => nomatch z) fun tk => ⟨.bl b, H, I.tok tk, rfl, q⟩
theorem call_isKT {X : Cx} {C : Addr} (T : XcC X.K C) : CallR X (.builtin "isinstance") (rIsKT X.K C) := by
  intro pins s σ H xs us Q I r h
  obtain ⟨a, tp, fs, cs, ws, b, rfl, k, hT, hc, e, q⟩ := h
  obtain ⟨u1, u2, rfl, r1, r2⟩ := vals2 r
  cases (show u1 = Value.ref a from r1)
  cases (show u2 = Value.ref tp from r2)
  obtain ⟨oe, od, mA, J, _, _⟩ := k.inst I
  have ht : ObjOk X.prog X.w H s.heap tp (.tup cs) := I.hok tp _ hT
  obtain ⟨_, its, rv, o, h1, h2, n, h3⟩ := ht
  have e3 := ClsV.all hc rv
  subst e3
  obtain ⟨oc, od2, dt, sl⟩ := o
  simp only at h2 h3
  subst h2 h3
  exact PySem.W.kia_tup (PySem.W.kitx_exc (ox := oe) (od := some od) T.cl T.ga T.gg T.sb T.ha T.hn T.ht T.hm) I.kIn J h1 e (fun z => nomatch z) fun tk => ⟨.bl b, H, I.tok tk, rfl, q⟩
/-! ### B.__init__(self, ..), B an own class over ValueError without own __init__ -/
structure BiC (K : PySem.W.Frag) (B : Addr) : Prop where
  rd : PySem.W.readsIn K B (.type "type") = true
  sp : PySem.W.specialIn K (.ref B) "__getattribute__" = some (some (.builtin "type.__getattribute__"))
  fi : PySem.W.findCls K (.ref B) (.type "type") "__init__" = some (.val (.builtin "ValueError.__init__"))
theorem pe_binit {X : Cx} {B : Addr} {x : Str} {e : Expr} {es : List Expr} {ta : TA} {p1 p2 pos : Pos} {pl : Sem Bool} (T : BiC X.K B) (gl : Gl X x) (mg : X.mg x = some (.ref B)) (ha : PA X (e :: es) ta) (hdb : (x == ("__debug__" : Str)) = false := by decide)
    (hc : eval (.Call (.Attribute (.Name x p1) "__init__" p2) (e :: es) [] pos) X.env = (do
      let ov ← eval (.Name x p1) X.env
      standAt p2.atName
      let (f, first) ← holding [ov] (getMethod ov "__init__" pl)
      callWith pos f first (backTo pos (starEach (e :: es) X.env)) (backToKw pos (keywordEach [] X.env))) := by rfl)
    (he : starEach (e :: es) X.env = (false, eval e X.env) :: starEach es X.env := by rfl) (hpl : (backTo pos (starEach es X.env)).any (·.1) = false := by rfl) :
    PE X (.Call (.Attribute (.Name x p1) "__init__" p2) (e :: es) [] pos) (tVeI X.K ta) := by
  refine ⟨fun pins s σ H Q I h => PySem.W.methodCall_KW (ld_glob I gl mg ?_ hdb) hc⟩
  refine PySem.W.method_cls I.kIn T.sp (PySem.W.cls_value I.kIn T.rd T.fi (by decide +kernel) ?_)
  show wpAny _ _ (callWith pos (Value.builtin "ValueError.__init__") [] (backTo pos (starEach (e :: es) X.env)) []) _ _ _
  refine PyProof.Rows.callWith_method1 (thn (ha.run pos pins _ σ H _ (I.tok _) h) fun us s1 z => ?_) he hpl
  obtain ⟨vs, H1, I1, r1, a, C, ws, ev, hl, Tx, ea, q⟩ := z
  subst ev
  cases r1 with
  | @cons _ u0 _ ur ra rw' =>
    obtain rfl : u0 = Value.ref a := ra
    refine oinit_ok Tx I1 ea ?_ fun s' J => ⟨.non, H1, J, rfl, q⟩
    rw [← Paired.length rw', sizeLine_eq]
    omega
/-! ### calls in a try's body: what is raised is wished for at the slots -/
section
variable {X : Cx} {CX : CXT} {k n : Nat} {f C : Addr} {fd : FuncData} {ps ks : List Str} {sp : Sp} {dvs : List V} {ds : List Value} {E : L2.St → XK} {x : Str} {p pos : Pos} {e : Expr} {es : List Expr} {kws : List Keyword} {t tk : TA}
  {g : List Value → List Value → List Value} {gV : List V → List V → List V}
def tMakeS (C : Addr) (sp : Sp) (dvs : List V) (E : L2.St → XK) (t : TA) : TE := fun σ H Q => t σ H fun vs H1 => ∀ x dx, H1 x = none → H1 dx = none → dx ≠ x →
  sp (.ref x :: (vs ++ dvs)) (upd (upd H1 dx (.own x)) x (.ins C dx [])) (fun v H2 => v = .non ∧ Q (.ref x) H2) (E σ)
theorem pe_makeS (M : Mk X.K C f) (F : FnOk X.prog X.w X.K X.mg X.base CX k f fd ps sp) (room : Room (k + 1) X.A) (gl : Gl X x) (mg : X.mg x = some (.ref C)) (bd : Binds X.K fd ps ds) (rd : Vals dvs ds) (px : ∀ σ, PassesAt CX X σ (E σ))
    (ha : PA X (e :: es) t) (hdb : (x == ("__debug__" : Str)) = false := by decide) (he : starEach (e :: es) X.env = (false, eval e X.env) :: starEach es X.env := by rfl) (hpl : (backTo pos (starEach es X.env)).any (·.1) = false := by rfl) :
    PE X (.Call (.Name x p) (e :: es) [] pos) (tMakeS C sp dvs E t) := by
  refine ⟨fun pins s σ H Q I h => wpAny_Call_Name_kw (ld_glob I gl mg ?_ hdb)⟩
  refine PySem.W.callWith_K (h₀ := X.base) I.ok.mod.kin M.kp (thn (ha.run pos pins s σ H _ I h) fun us s1 z => ?_) he hpl
  obtain ⟨vs, H1, I1, r, q⟩ := z
  refine ⟨I1.kIn, ?_⟩
  have q1 := q (s1.heap.objs.size + 1) s1.heap.objs.size (I1.hok.fresh (Nat.le_succ _)) (I1.hok.fresh (Nat.le_refl _)) (Nat.ne_of_lt (Nat.lt_succ_self _))
  have I2 := Inv.made (C := C) I1
  have r2 : Vals (V.ref (s1.heap.objs.size + 1) :: (vs ++ dvs)) (Value.ref (s1.heap.objs.size + 1) :: (us ++ ds)) := .cons rfl (r.append rd)
  have many : (Value.ref (s1.heap.objs.size + 1) :: us ++ ds).length = ps.length := (r2.length.symm.trans (F.len _ _ _ _ q1))
  refine wpAny_call (make_map (f := f) I1.kIn M.makes M.init (beq_iff_eq.mp M.fn) (codeAny_mono (F.run _ X.stack _ _ ⟨Value.ref (s1.heap.objs.size + 1) :: us, []⟩ (Value.ref (s1.heap.objs.size + 1) :: (us ++ ds)) _ _ (E σ)
    (room.make C us []) (I2.env0.make C us []) (bd _ (Value.ref (s1.heap.objs.size + 1) :: us) I2.kIn many) r2 q1) fun r s' z => ?_))
  cases r with
  | error e => exact px σ pins _ _ e s' I2 z
  | ok fl =>
    cases fl with
    | ret u =>
      obtain ⟨v, H', I3, rv, ev, q3⟩ := I2.after z
      subst ev
      exact ⟨rv, ⟨V.ref (s1.heap.objs.size + 1), H', I3, rfl, q3⟩⟩
    | next => exact False.elim z
    | brk => exact False.elim z
    | cont => exact False.elim z
def tMakeKS (C : Addr) (m : Nat) (sp : Sp) (gV : List V → List V → List V) (E : L2.St → XK) (tk : TA) : TE := fun σ H Q => tk σ H fun zs H2 => zs.length = m ∧
  ∀ x dx, H2 x = none → H2 dx = none → dx ≠ x → sp (gV [.ref x] zs) (upd (upd H2 dx (.own x)) x (.ins C dx [])) (fun v H3 => v = .non ∧ Q (.ref x) H3) (E σ)
theorem pe_makeKS (M : Mk X.K C f) (F : FnOk X.prog X.w X.K X.mg X.base CX k f fd ps sp) (room : Room (k + 1) X.A) (gl : Gl X x) (mg : X.mg x = some (.ref C)) (kb : KBn X.K fd ps 1 ks g gV) (px : ∀ σ, PassesAt CX X σ (E σ)) (pk : PK X kws tk)
    (hall : (backToKw pos (keywordEach kws X.env)).all (·.1.isSome) = true := by rfl) (hks : (backToKw pos (keywordEach kws X.env)).filterMap (·.1) = ks := by rfl) (hdb : (x == ("__debug__" : Str)) = false := by decide)
    (hpl : ((backTo pos (starEach [] X.env)).any (·.1) || (backToKw pos (keywordEach kws X.env)).any (·.1.isNone)) = false := by rfl) :
    PE X (.Call (.Name x p) [] kws pos) (tMakeKS C ks.length sp gV E tk) := by
  refine ⟨fun pins s σ H Q I h => wpAny_Call_Name_kw (ld_glob I gl mg ?_ hdb)⟩
  refine PySem.W.callWith_KW0 (h₀ := X.base) I.ok.mod.kin M.kp hall (thn (pk.run pos pins s σ H _ I h) fun ws s1 z => ?_) hpl
  obtain ⟨zs, H1, I1, rz, l2, q⟩ := z
  refine ⟨I1.kIn, ?_⟩
  rw [hks]
  have q1 := q (s1.heap.objs.size + 1) s1.heap.objs.size (I1.hok.fresh (Nat.le_succ _)) (I1.hok.fresh (Nat.le_refl _)) (Nat.ne_of_lt (Nat.lt_succ_self _))
  have I2 := Inv.made (C := C) I1
  have r1 : Vals [V.ref (s1.heap.objs.size + 1)] [Value.ref (s1.heap.objs.size + 1)] := .cons rfl .nil
  have r2 := kb.rel r1 rz
  refine wpAny_call (make_map (f := f) I1.kIn M.makes M.init (beq_iff_eq.mp M.fn) (codeAny_mono (F.run _ X.stack _ _ ⟨[Value.ref (s1.heap.objs.size + 1)], ks.zip ws⟩ (g [Value.ref (s1.heap.objs.size + 1)] ws) _ _ (E σ)
    (room.make C [] (ks.zip ws)) (I2.env0.make C [] (ks.zip ws)) (kb.to _ [Value.ref (s1.heap.objs.size + 1)] ws I2.kIn rfl (rz.length.symm.trans l2)) r2 q1) fun r s' z => ?_))
  cases r with
  | error e => exact px σ pins _ _ e s' I2 z
  | ok fl =>
    cases fl with
    | ret u =>
      obtain ⟨v, H', I3, rv, ev, q3⟩ := I2.after z
      subst ev
      exact ⟨rv, ⟨V.ref (s1.heap.objs.size + 1), H', I3, rfl, q3⟩⟩
    | next => exact False.elim z
    | brk => exact False.elim z
    | cont => exact False.elim z
def tCallKS (m : Nat) (sp : Sp) (gV : List V → List V → List V) (E : L2.St → XK) (tk : TA) : TE := fun σ H Q => tk σ H fun zs H2 => zs.length = m ∧ sp (gV [] zs) H2 Q (E σ)
theorem pe_callKS (F : FnOk X.prog X.w X.K X.mg X.base CX k f fd ps sp) (room : Room k X.A) (gl : Gl X x) (mg : X.mg x = some (.ref f)) (kp : PySem.W.keepIn X.K (.ref f) = true) (kb : KBn X.K fd ps 0 ks g gV) (px : ∀ σ, PassesAt CX X σ (E σ)) (pk : PK X kws tk)
    (hall : (backToKw pos (keywordEach kws X.env)).all (·.1.isSome) = true := by rfl) (hks : (backToKw pos (keywordEach kws X.env)).filterMap (·.1) = ks := by rfl) (hdb : (x == ("__debug__" : Str)) = false := by decide)
    (hpl : ((backTo pos (starEach [] X.env)).any (·.1) || (backToKw pos (keywordEach kws X.env)).any (·.1.isNone)) = false := by rfl) :
    PE X (.Call (.Name x p) [] kws pos) (tCallKS ks.length sp gV E tk) := by
  refine ⟨fun pins s σ H Q I h => wpAny_Call_Name_kw (ld_glob I gl mg ?_ hdb)⟩
  refine PySem.W.callWith_KW0 (h₀ := X.base) I.ok.mod.kin kp hall (thn (pk.run pos pins s σ H _ I h) fun ws s1 z => ?_) hpl
  obtain ⟨zs, H1, I1, rz, l2, q⟩ := z
  refine ⟨I1.kIn, ?_⟩
  rw [hks]
  have rn : Vals [] [] := .nil
  have r2 := kb.rel rn rz
  refine wpAny_call (codeAny_mono (F.run X.A X.stack s1 H1 ⟨[], ks.zip ws⟩ (g [] ws) (gV [] zs) Q (E σ) room I1.env0 (kb.to s1 [] ws I1.kIn rfl (rz.length.symm.trans l2)) r2 q) fun r s' z => ?_)
  cases r with
  | error e => exact px σ pins _ _ e s' I1 z
  | ok fl =>
    cases fl with
    | ret u => exact I1.after z
    | next => exact False.elim z
    | brk => exact False.elim z
    | cont => exact False.elim z
end
end Xk
set_option Elab.async false
set_option linter.all false
set_option maxRecDepth 100000
set_option maxHeartbeats 4000000
set_option pp.maxSteps 400
set_option pp.deepTerms false
/-! Things of any kind: texts, numbers, truths, None, and lists, tuples, dicts of these, at any depth. -/
namespace Az
open PySem PySem.Spec PyProof.Rows L2
def keyD : Key → PyData
  | .inl i => .int i
  | .inr x => .str x
mutual
inductive Dz (K : PySem.W.Frag) (H : Hp) : V → PyData → Prop
  | non : Dz K H .non .none
  | bl (b : Bool) : Dz K H (.bl b) (.bool b)
  | int (i : Int) : Dz K H (.int i) (.int i)
  | str (x : Str) : Dz K H (.str x) (.str x)
  | lst {a : Addr} {xs : List V} {ds : List PyData} : H a = some (.lst xs) → a ≠ sysModules → DzAll K H xs ds → Dz K H (.ref a) (.list ds)
  | tup {a : Addr} {xs : List V} {ds : List PyData} : H a = some (.tup xs) → DzAll K H xs ds → Dz K H (.ref a) (.tuple ds)
  | dct {a : Addr} {kvs : List (Key × V)} {ds : List (PyData × PyData)} : H a = some (.dK kvs) → DzKv K H kvs ds → Dz K H (.ref a) (.dict ds)
inductive DzAll (K : PySem.W.Frag) (H : Hp) : List V → List PyData → Prop
  | nil : DzAll K H [] []
  | cons {v : V} {vs : List V} {d : PyData} {ds : List PyData} : Dz K H v d → DzAll K H vs ds → DzAll K H (v :: vs) (d :: ds)
inductive DzKv (K : PySem.W.Frag) (H : Hp) : List (Key × V) → List (PyData × PyData) → Prop
  | nil : DzKv K H [] []
  | cons {k : Key} {v : V} {kvs : List (Key × V)} {d : PyData} {ds : List (PyData × PyData)} : Dz K H v d → DzKv K H kvs ds → DzKv K H ((k, v) :: kvs) ((keyD k, d) :: ds)
end
section
variable {K : PySem.W.Frag} {H H' : Hp}
mutual
/-- what is read of a thing stays while its objects do -/
theorem Dz.keep (s : ∀ b o, H b = some o → (∀ x, o ≠ .own x) → H' b = some o) : ∀ {v : V} {d : PyData}, Dz K H v d → Dz K H' v d
  | _, _, .non => .non
  | _, _, .bl b => .bl b
  | _, _, .int i => .int i
  | _, _, .str x => .str x
  | _, _, .lst e n r => .lst (s _ _ e (fun _ z => by cases z)) n (DzAll.keep s r)
  | _, _, .tup e r => .tup (s _ _ e (fun _ z => by cases z)) (DzAll.keep s r)
  | _, _, .dct e r => .dct (s _ _ e (fun _ z => by cases z)) (DzKv.keep s r)
theorem DzAll.keep (s : ∀ b o, H b = some o → (∀ x, o ≠ .own x) → H' b = some o) : ∀ {v : List V} {d : List PyData}, DzAll K H v d → DzAll K H' v d
  | _, _, .nil => .nil
  | _, _, .cons h r => .cons (Dz.keep s h) (DzAll.keep s r)
theorem DzKv.keep (s : ∀ b o, H b = some o → (∀ x, o ≠ .own x) → H' b = some o) : ∀ {v : List (Key × V)} {d : List (PyData × PyData)}, DzKv K H v d → DzKv K H' v d
  | _, _, .nil => .nil
  | _, _, .cons h r => .cons (Dz.keep s h) (DzKv.keep s r)
end
theorem Dz.same {v : V} {d : PyData} (h : Dz K H v d) (s : L2.Same H H') : Dz K H' v d := h.keep fun b o e _ => s b o e
theorem DzAll.same {v : List V} {d : List PyData} (h : DzAll K H v d) (s : L2.Same H H') : DzAll K H' v d := h.keep fun b o e _ => s b o e
/-- the kind of a thing -/
def kindD : PyData → String
  | .none => "NoneType"
  | .bool _ => "bool"
  | .int _ => "int"
  | .str _ => "str"
  | .list _ => "list"
  | .tuple _ => "tuple"
  | .dict _ => "dict"
theorem Dz.ty {v : V} {d : PyData} (h : Dz K H v d) : TyX K H v (.type (kindD d)) := by
  cases h with
  | non => exact .base .non
  | bl b => exact .base (.bl b)
  | int i => exact .base (.int i)
  | str x => exact .base (.str x)
  | lst e _ _ => exact .base (.lst e)
  | tup e _ => exact .base (.tup e)
  | dct e _ => exact .base (.dK e)
end
section
variable {X : Cx} {pins : List (Addr × Obj)} {σ : L2.St} {H : Hp} {s : Shared}
theorem pairs_keys {P : Program} {w : World} : ∀ {es : List DictEntry} {vs : List (Key × Value)}, PySem.Pairs (mixKind P w) es vs → ∃ as, ReadsAll s.heap (es.map (·.key)) (vs.map fun p => keyD p.1) as ∧ as = []
  | _, _, .nil => ⟨[], .nil, rfl⟩
  | e :: es, (k, u) :: vs, .cons h1 h2 r => by
    obtain ⟨as, q, rfl⟩ := pairs_keys r
    rcases keyIs_shape (show keyIs k e.key = true from h1) with ⟨i, t, rfl, ek⟩ | ⟨x, t, rfl, ek⟩
    · refine ⟨[] ++ [], .cons ?_ q, rfl⟩
      show Reads s.heap e.key (.int i) []
      rw [ek]
      exact .int i t
    · refine ⟨[] ++ [], .cons ?_ q, rfl⟩
      show Reads s.heap e.key (.str x) []
      rw [ek]
      exact .str x t
theorem pairs_vals {P : Program} {w : World} : ∀ {es : List DictEntry} {vs : List (Key × Value)}, PySem.Pairs (mixKind P w) es vs → es.map (·.val) = vs.map (·.2)
  | _, _, .nil => rfl
  | e :: es, (k, u) :: vs, .cons h1 h2 r => by
    rw [List.map_cons, List.map_cons, pairs_vals r, h2]
mutual
theorem Dz.reads (I : Inv X pins σ H s) : ∀ (d : PyData) (v : V) (u : Value), Dz X.K H v d → RelV v u → ∃ as, Reads s.heap u d as ∧ sysModules ∉ as
  | .none, _, _, h, r => by
    cases h
    cases r
    exact ⟨[], .none, by simp⟩
  | .bool b, _, _, h, r => by
    cases h
    cases r
    exact ⟨[], .bool b, by simp⟩
  | .int i, _, _, h, r => by
    cases h
    obtain ⟨t, rfl⟩ := r
    exact ⟨[], .int i t, by simp⟩
  | .str x, _, _, h, r => by
    cases h
    obtain ⟨t, rfl⟩ := r
    exact ⟨[], .str x t, by simp⟩
  | .list ds, _, _, h, r => by
    cases h with
    | @lst a xs _ e ne ha =>
      cases r
      have ok : ObjOk X.prog X.w H s.heap a (.lst xs) := I.hok a _ e
      obtain ⟨_, its, n, rv, eh⟩ := ok
      obtain ⟨as, q, na⟩ := DzAll.reads I ds xs its ha rv
      refine ⟨a :: as, .list eh rfl rfl (by simpa using q), fun m => ?_⟩
      rcases List.mem_cons.mp m with z | z
      · exact ne z.symm
      · exact na z
  | .tuple ds, _, _, h, r => by
    cases h with
    | @tup a xs _ e ha =>
      cases r
      have ok : ObjOk X.prog X.w H s.heap a (.tup xs) := I.hok a _ e
      obtain ⟨_, its, rv, o, eh, ec, n, ed⟩ := ok
      obtain ⟨as, q, na⟩ := DzAll.reads I ds xs its ha rv
      exact ⟨as, .tuple eh ec ed (by simpa using q), na⟩
  | .dict ds, _, _, h, r => by
    cases h with
    | @dct a kvs _ e ha =>
      cases r
      obtain ⟨_, ne, vs, rel, o, es, ep, eh, ex, ed, _, pr, _⟩ := dk_of I.hok e
      obtain ⟨as, q1, rfl⟩ := pairs_keys (s := s) pr
      obtain ⟨bs, q2, nb⟩ := DzKv.reads I ds kvs vs ha rel
      have hk : (vs.map fun p => keyD p.1) = ds.map (·.1) := DzKv.keys ha rel
      rw [hk] at q1
      refine ⟨a :: [] ++ bs, .dict eh ex.1 ed q1 (by rw [pairs_vals pr]; exact q2), fun m => ?_⟩
      rcases List.mem_cons.mp m with z | z
      · rw [← z] at ne
        simp at ne
      · exact nb z
theorem DzAll.reads (I : Inv X pins σ H s) : ∀ (ds : List PyData) (vs : List V) (us : List Value), DzAll X.K H vs ds → Vals vs us → ∃ as, ReadsAll s.heap us ds as ∧ sysModules ∉ as
  | [], _, _, h, r => by
    cases h
    cases r
    exact ⟨[], .nil, by simp⟩
  | d :: ds, _, _, h, r => by
    cases h with
    | cons h1 h2 =>
      cases r with
      | cons r1 r2 =>
        obtain ⟨as, q1, n1⟩ := Dz.reads I d _ _ h1 r1
        obtain ⟨bs, q2, n2⟩ := DzAll.reads I ds _ _ h2 r2
        exact ⟨as ++ bs, .cons q1 q2, fun m => (List.mem_append.mp m).elim n1 n2⟩
theorem DzKv.reads (I : Inv X pins σ H s) : ∀ (ds : List (PyData × PyData)) (kvs : List (Key × V)) (vs : List (Key × Value)), DzKv X.K H kvs ds → KV kvs vs → ∃ as, ReadsAll s.heap (vs.map (·.2)) (ds.map (·.2)) as ∧ sysModules ∉ as
  | [], _, _, h, r => by
    cases h
    cases r
    exact ⟨[], .nil, by simp⟩
  | (_, d) :: ds, _, _, h, r => by
    cases h with
    | cons h1 h2 =>
      cases r with
      | cons r1 r2 =>
        obtain ⟨as, q1, n1⟩ := Dz.reads I d _ _ h1 r1.2
        obtain ⟨bs, q2, n2⟩ := DzKv.reads I ds _ _ h2 r2
        exact ⟨as ++ bs, .cons q1 q2, fun m => (List.mem_append.mp m).elim n1 n2⟩
theorem DzKv.keys {K : PySem.W.Frag} : ∀ {ds : List (PyData × PyData)} {kvs : List (Key × V)} {vs : List (Key × Value)}, DzKv K H kvs ds → KV kvs vs → (vs.map fun p => keyD p.1) = ds.map (·.1)
  | [], _, _, h, r => by
    cases h
    cases r
    rfl
  | (_, d) :: ds, _, _, h, r => by
    cases h with
    | cons h1 h2 =>
      cases r with
      | cons r1 r2 =>
        rw [List.map_cons, List.map_cons, DzKv.keys h2 r2, ← r1.1]
end
/-- repr of a thing -/
def rReprZ (K : PySem.W.Frag) : List V → Hp → VK → Prop := fun xs H Q => ∃ (v : V) (d : PyData), xs = [v] ∧ Dz K H v d ∧ d.showable = true ∧ d.depth ≤ 60 ∧ d.shown.length ≤ sizeLine ∧ Q (.str d.shown) H
theorem cr_reprZ {k : Nat} (quiet : X.A.guards = some []) (room : Room k X.A) : CallR X (.builtin "repr") (rReprZ X.K) := by
  intro pins s σ H xs us Q I r h
  obtain ⟨v, d, rfl, hd, hs, hp, hz, q⟩ := h
  obtain ⟨u, rfl, rx⟩ := vals1 r
  have hu := room.units
  cases hd with
  | non =>
    cases rx
    exact PySem.P.repr_of_none ⟨.str _, H, I.tok _, ⟨_, rfl⟩, q⟩
  | bl b =>
    cases rx
    exact PySem.P.repr_of_bool ⟨.str _, H, I.tok _, ⟨_, rfl⟩, q⟩
  | int i =>
    obtain ⟨t, rfl⟩ := rx
    exact PySem.P.repr_of_int (by simpa [PyData.showable] using hs) ⟨.str _, H, I.tok _, ⟨_, rfl⟩, q⟩
  | str x =>
    obtain ⟨t, rfl⟩ := rx
    exact PySem.P.repr_of_str ⟨.str _, H, I.tok _, ⟨_, rfl⟩, q⟩ hz
  | lst e n ha =>
    obtain ⟨as, rd, na⟩ := Dz.reads I _ _ u (.lst e n ha) rx
    cases rx
    exact repr_of_reads' rd hs (fun _ => na) quiet (by omega) (fun _ _ z => z) (fun h' u tk kept => ⟨.str _, H, I.kept kept, ⟨u, rfl⟩, q⟩) hz
  | tup e ha =>
    obtain ⟨as, rd, na⟩ := Dz.reads I _ _ u (.tup e ha) rx
    cases rx
    exact repr_of_reads' rd hs (fun _ => na) quiet (by omega) (fun _ _ z => z) (fun h' u tk kept => ⟨.str _, H, I.kept kept, ⟨u, rfl⟩, q⟩) hz
  | dct e ha =>
    obtain ⟨as, rd, na⟩ := Dz.reads I _ _ u (.dct e ha) rx
    cases rx
    exact repr_of_reads' rd hs (fun _ => na) quiet (by omega) (fun _ _ z => z) (fun h' u tk kept => ⟨.str _, H, I.kept kept, ⟨u, rfl⟩, q⟩) hz
/-- a list of written items: new, and no table of modules -/
def tLstZ (t : TA) : TE := fun σ H Q => t σ H fun xs H1 => xs.length ≤ sizeLine ∧ ∀ p, H1 p = none → p ≠ sysModules → Q (.ref p) (upd H1 p (.lst xs))
theorem pe_lstZ {es : List Expr} {t : TA} {pos : Pos} (h : PA X es t) : PE X (.List es pos) (tLstZ t) := by
  refine ⟨fun pins s σ H Q I hq => wpAny_List_spliced (thn (h.run pos pins s σ H _ I hq) fun us s1 z => ?_)⟩
  obtain ⟨xs, H1, I1, r, z, q⟩ := z
  refine ⟨by rw [← r.length]; exact z, ?_⟩
  have new : H1 s1.heap.objs.size = none := I1.hok.fresh (Nat.le_refl _)
  refine ⟨.ref s1.heap.objs.size, upd H1 s1.heap.objs.size (.lst xs), I1.laid (t' := s1.toks) (fun b u e => Heap.get?_push_of_some _ e) (Nat.le_refl _) ?_, rfl, q _ new (Nat.ne_of_gt I1.big)⟩
  exact ⟨z, us, 0, r, Heap.get?_push_size _ rfl⟩
end
end Az
namespace Az
open PySem PySem.Spec PyProof.Rows L2
/-- a thing that is shown in n signs at most, at most k deep -/
structure Nice (d : PyData) (k n : Nat) : Prop where
  sh : d.showable = true
  dp : d.depth ≤ k
  sz : d.shown.length ≤ n
theorem Nice.mono {d : PyData} {k k' n n' : Nat} (h : Nice d k n) (hk : k ≤ k') (hn : n ≤ n') : Nice d k' n' := ⟨h.sh, Nat.le_trans h.dp hk, Nat.le_trans h.sz hn⟩
theorem nice_int {i : Int} {n : Nat} (h : i.natAbs.log2 < 1920) (hn : (Str.ofString (toString i)).length ≤ n) : Nice (.int i) 0 n :=
  ⟨by simpa [PyData.showable] using h, by simp [PyData.depth], by simpa [PyData.shown] using hn⟩
theorem nice_none : Nice .none 0 4 := ⟨by simp [PyData.showable], by simp [PyData.depth], by simp only [PyData.shown]; decide +kernel⟩
theorem nice_bool (b : Bool) : Nice (.bool b) 0 5 := ⟨by simp [PyData.showable], by simp [PyData.depth], by simp only [PyData.shown]; cases b <;> decide +kernel⟩
theorem nice_str {x : Str} {n : Nat} (h : (reprText x).length ≤ n) : Nice (.str x) 0 n := ⟨by simp [PyData.showable], by simp [PyData.depth], by simpa [PyData.shown] using h⟩
theorem list_le : ∀ ts : List Str, (listText ts).length ≤ piled ts + 2
  | [] => by decide +kernel
  | t :: ts => by
    have e : (textFrom 0 "[" (t :: ts)).length = 1 + t.length + piled ts := by
      show (textFrom 1 (("[" : Str) ++ ((if 0 > 0 then ", " else "" : String) : Str) ++ t) ts).length = _
      rw [textFrom_length_pos ts 1 _ (by decide), strLen_append, strLen_append]
      rfl
    unfold listText
    rw [strLen_append, e, piled_cons]
    show 1 + t.length + piled ts + 1 ≤ _
    omega
theorem dict_le (ps : List Str) : (dictText ps).length ≤ piled ps + 2 := by
  unfold dictText
  rw [strLen_append, strLen_append]
  show 1 + (Str.join ", " ps).length + 1 ≤ _
  cases ps with
  | nil => decide
  | cons p r =>
    have := join_length_add (p :: r) (by simp)
    omega
theorem nice_tup1 {d : PyData} {k n : Nat} (h : Nice d k n) : Nice (.tuple [d]) (k + 1) (n + 4) := by
  refine ⟨by simp [PyData.showable, PyData.showableAll, h.sh], ?_, ?_⟩
  · simp only [PyData.depth, PyData.depthAll]
    have := h.dp
    omega
  · simp only [PyData.shown, PyData.shownAll]
    have a := fmt_text [d.shown]
    simp only [piled_cons, piled_nil] at a
    have := h.sz
    omega
theorem nice_lst1 {d : PyData} {k n : Nat} (h : Nice d k n) : Nice (.list [d]) (k + 1) (n + 4) := by
  refine ⟨by simp [PyData.showable, PyData.showableAll, h.sh], ?_, ?_⟩
  · simp only [PyData.depth, PyData.depthAll]
    have := h.dp
    omega
  · simp only [PyData.shown, PyData.shownAll]
    have a := list_le [d.shown]
    simp only [piled_cons, piled_nil] at a
    have := h.sz
    omega
theorem nice_dct1 {d : PyData} {k n m : Nat} {x : Str} (hx : (reprText x).length ≤ m) (h : Nice d k n) : Nice (.dict [(.str x, d)]) (k + 1) (n + m + 6) := by
  refine ⟨by simp [PyData.showable, PyData.showableKv, h.sh], ?_, ?_⟩
  · simp only [PyData.depth, PyData.depthKv]
    have := h.dp
    omega
  · simp only [PyData.shown, PyData.shownKv]
    have a := dict_le [reprText x ++ ": " ++ d.shown]
    simp only [piled_cons, piled_nil, strLen_append] at a
    have c : ((": " : Str)).length = 2 := by decide +kernel
    have := h.sz
    omega
theorem nice_tup0 : Nice (.tuple []) 1 2 := ⟨by simp [PyData.showable, PyData.showableAll], by simp [PyData.depth, PyData.depthAll], by simp only [PyData.shown, PyData.shownAll]; decide +kernel⟩
theorem nice_lst0 : Nice (.list []) 1 2 := ⟨by simp [PyData.showable, PyData.showableAll], by simp [PyData.depth, PyData.depthAll], by simp only [PyData.shown, PyData.shownAll]; decide +kernel⟩
theorem nice_dct0 : Nice (.dict []) 1 2 := ⟨by simp [PyData.showable, PyData.showableKv], by simp [PyData.depth, PyData.depthKv], by simp only [PyData.shown, PyData.shownKv]; decide +kernel⟩
end Az
set_option Elab.async false
set_option linter.all false
set_option maxRecDepth 100000
set_option maxHeartbeats 4000000
set_option pp.maxSteps 400
set_option pp.deepTerms false
namespace Az
open PySem PySem.Spec PyProof.Rows L2
/-! ### texts of signs that have a number of eight places -/
def Asc (x : Str) : Prop := ∀ c ∈ x.cps.toList, c < 16 ^ 8
theorem asc_str (s : String) : Asc (Str.ofString s) := fun c hc => by
  rw [Str.ofString_eq_toList] at hc
  simp only [List.mem_map] at hc
  obtain ⟨k, _, rfl⟩ := hc
  exact Nat.lt_of_lt_of_le (UInt32.toNat_lt k.val) (by decide)
theorem Asc.app {x y : Str} (h1 : Asc x) (h2 : Asc y) : Asc (x ++ y) := fun c hc => by
  rw [Str.cps_append, Array.toList_append, List.mem_append] at hc
  exact hc.elim (h1 c) (h2 c)
theorem asc_hex (l : List Char) (n : Nat) : ∀ c ∈ List.replicate n 48 ++ l.map Char.toNat, c < 16 ^ 8 := fun c hc => by
  rcases List.mem_append.mp hc with h | h
  · rw [(List.mem_replicate.mp h).2]
    decide
  · obtain ⟨k, _, rfl⟩ := List.mem_map.mp h
    exact Nat.lt_of_lt_of_le (UInt32.toNat_lt k.val) (by decide)
theorem asc_char {q c : Nat} (hc : c < 16 ^ 8) : ∀ d ∈ Builtin.Str.reprChar q c, d < 16 ^ 8 := fun d hd => by
  unfold Builtin.Str.reprChar at hd
  dsimp only at hd
  have two : ∀ a : Nat, a < 16 ^ 8 → d ∈ [92, a] → d < 16 ^ 8 := fun a ha h => by
    simp only [List.mem_cons, List.not_mem_nil, or_false] at h
    rcases h with h | h
    · rw [h]; decide
    · rw [h]; exact ha
  have app : ∀ (a : Nat) (l : List Nat), a < 16 ^ 8 → (∀ c ∈ l, c < 16 ^ 8) → d ∈ [92, a] ++ l → d < 16 ^ 8 := fun a l ha hl h => (List.mem_append.mp h).elim (two a ha) (hl d)
  split at hd
  · exact two c hc hd
  · split at hd
    · exact two 110 (by decide) hd
    · split at hd
      · exact two 114 (by decide) hd
      · split at hd
        · exact two 116 (by decide) hd
        · split at hd
          · simp only [List.mem_cons, List.not_mem_nil, or_false] at hd
            rw [hd]
            exact hc
          · split at hd
            · exact app 120 _ (by decide) (asc_hex _ _) hd
            · split at hd
              · exact app 117 _ (by decide) (asc_hex _ _) hd
              · exact app 85 _ (by decide) (asc_hex _ _) hd
theorem asc_fold {q : Nat} : ∀ (l : List Nat) (acc : Array Nat), (∀ c ∈ l, c < 16 ^ 8) → (∀ c ∈ acc.toList, c < 16 ^ 8) → ∀ c ∈ (l.foldl (fun out c => out ++ (Builtin.Str.reprChar q c).toArray) acc).toList, c < 16 ^ 8
  | [], acc, _, h => h
  | k :: r, acc, hl, ha => by
    rw [List.foldl_cons]
    refine asc_fold r _ (fun c hc => hl c (List.mem_cons_of_mem _ hc)) fun c hc => ?_
    rw [Array.toList_append, List.mem_append] at hc
    exact hc.elim (ha c) fun h => asc_char (hl k List.mem_cons_self) c (by simpa using h)
theorem asc_quote (x : Str) : reprQuote x < 16 ^ 8 := by
  unfold reprQuote
  split <;> decide
theorem asc_repr {x : Str} (h : Asc x) : Asc (reprText x) := fun c hc => by
  unfold reprText at hc
  rw [Array.toList_push, List.mem_append, ← Array.foldl_toList] at hc
  rcases hc with hc | hc
  · refine asc_fold x.cps.toList #[reprQuote x] h (fun d hd => ?_) c hc
    have z : d = reprQuote x := by simpa using hd
    rw [z]
    exact asc_quote x
  · have z : c = reprQuote x := by simpa using hc
    rw [z]
    exact asc_quote x
theorem asc_join : ∀ ts : List Str, (∀ t ∈ ts, Asc t) → Asc (Str.join ", " ts)
  | [], _ => fun c hc => by
    have z : c ∈ (Str.empty).cps.toList := hc
    simp [Str.empty] at z
  | [x], h => h x List.mem_cons_self
  | x :: y :: r, h => ((h x List.mem_cons_self).app (asc_str ", ")).app (asc_join (y :: r) fun t ht => h t (List.mem_cons_of_mem _ ht))
theorem asc_from : ∀ (ts : List Str) (k : Nat) (acc : Str), Asc acc → (∀ t ∈ ts, Asc t) → Asc (textFrom k acc ts)
  | [], _, _, h, _ => h
  | t :: ts, k, acc, h, ht => by
    unfold textFrom
    exact asc_from ts (k + 1) _ ((h.app (asc_str _)).app (ht t List.mem_cons_self)) fun u hu => ht u (List.mem_cons_of_mem _ hu)
mutual
/-- all texts within a thing -/
def ascD : PyData → Prop
  | .none | .bool _ | .int _ => True
  | .str x => Asc x
  | .list xs | .tuple xs => ascAll xs
  | .dict kvs => ascKv kvs
def ascAll : List PyData → Prop
  | [] => True
  | x :: xs => ascD x ∧ ascAll xs
def ascKv : List (PyData × PyData) → Prop
  | [] => True
  | (k, v) :: r => ascD k ∧ ascD v ∧ ascKv r
end
mutual
theorem asc_shown : ∀ d : PyData, ascD d → Asc d.shown
  | .none, _ => asc_str "None"
  | .bool b, _ => by
    simp only [PyData.shown]
    cases b
    · exact asc_str "False"
    · exact asc_str "True"
  | .int i, _ => asc_str (toString i)
  | .str x, h => asc_repr (by simpa [ascD] using h)
  | .list xs, h => by
    simp only [PyData.shown]
    exact (asc_from _ _ _ (asc_str "[") (asc_shownAll xs (by simpa [ascD] using h))).app (asc_str "]")
  | .tuple xs, h => by
    simp only [PyData.shown]
    exact ((asc_str "(").app (asc_join _ (asc_shownAll xs (by simpa [ascD] using h)))).app (asc_str _)
  | .dict kvs, h => by
    simp only [PyData.shown]
    exact ((asc_str "{").app (asc_join _ (asc_shownKv kvs (by simpa [ascD] using h)))).app (asc_str "}")
theorem asc_shownAll : ∀ xs : List PyData, ascAll xs → ∀ t ∈ PyData.shownAll xs, Asc t
  | [], _, t, ht => by
    simp [PyData.shownAll] at ht
  | x :: xs, h, t, ht => by
    have h' : ascD x ∧ ascAll xs := by simpa [ascAll] using h
    simp only [PyData.shownAll, List.mem_cons] at ht
    rcases ht with e | e
    · rw [e]
      exact asc_shown x h'.1
    · exact asc_shownAll xs h'.2 t e
theorem asc_shownKv : ∀ xs : List (PyData × PyData), ascKv xs → ∀ t ∈ PyData.shownKv xs, Asc t
  | [], _, t, ht => by
    simp [PyData.shownKv] at ht
  | (k, v) :: xs, h, t, ht => by
    have h' : ascD k ∧ ascD v ∧ ascKv xs := by simpa [ascKv] using h
    simp only [PyData.shownKv, List.mem_cons] at ht
    rcases ht with e | e
    · rw [e]
      exact ((asc_shown k h'.1).app (asc_str ": ")).app (asc_shown v h'.2.1)
    · exact asc_shownKv xs h'.2.2 t e
end
/-- str of a thing -/
def strD : PyData → Str
  | .str x => x
  | d => d.shown
theorem strD_asc {d : PyData} (h : ascD d) : Asc (strD d) := by
  cases d with
  | str x => simpa [strD, ascD] using h
  | _ => exact asc_shown _ h
theorem len_repr (x : Str) : x.length ≤ (reprText x).length := by
  have grow : ∀ (q : Nat) (l : List Nat) (acc : Array Nat), acc.size + l.length ≤ (l.foldl (fun out c => out ++ (Builtin.Str.reprChar q c).toArray) acc).size := fun q l => by
    induction l with
    | nil => intro acc; simp
    | cons k r ih =>
      intro acc
      have h := ih (acc ++ (Builtin.Str.reprChar q k).toArray)
      have one : 1 ≤ (Builtin.Str.reprChar q k).length := by
        unfold Builtin.Str.reprChar
        dsimp only
        repeat' split
        all_goals simp
        all_goals omega
      rw [List.foldl_cons]
      simp only [Array.size_append, List.size_toArray] at h
      simp only [List.length_cons]
      omega
  have h := grow (reprQuote x) x.cps.toList #[reprQuote x]
  unfold reprText
  show x.length ≤ ((x.cps.foldl (fun out c => out ++ (Builtin.Str.reprChar (reprQuote x) c).toArray) #[reprQuote x]).push (reprQuote x)).size
  rw [Array.size_push, ← Array.foldl_toList]
  have e : x.cps.toList.length = x.length := by simp [Str.length]
  omega
theorem strD_len {d : PyData} : (strD d).length ≤ d.shown.length := by
  cases d with
  | str x =>
    simp only [strD, PyData.shown]
    exact len_repr x
  | _ => exact Nat.le_refl _
section
variable {X : Cx}
def rStrZ (K : PySem.W.Frag) : List V → Hp → VK → Prop := fun xs H Q => ∃ (v : V) (d : PyData), xs = [v] ∧ Dz K H v d ∧ d.showable = true ∧ d.depth ≤ 60 ∧ d.shown.length ≤ sizeLine ∧ Q (.str (strD d)) H
theorem cr_strZ {k : Nat} (quiet : X.A.guards = some []) (room : Room k X.A) : CallR X (.type "str") (rStrZ X.K) := by
  intro pins s σ H xs us Q I r h
  obtain ⟨v, d, rfl, hd, hs, hp, hz, q⟩ := h
  obtain ⟨u, rfl, rx⟩ := vals1 r
  have hu := room.un
  cases hd with
  | non =>
    cases rx
    exact PySem.P.str_of_none ⟨.str _, H, I.tok _, ⟨_, rfl⟩, q⟩
  | bl b =>
    cases rx
    exact PySem.P.str_of_bool ⟨.str _, H, I.tok _, ⟨_, rfl⟩, q⟩
  | int i =>
    obtain ⟨t, rfl⟩ := rx
    exact PySem.P.str_of_int (by simpa [PyData.showable] using hs) ⟨.str _, H, I.tok _, ⟨_, rfl⟩, q⟩
  | str x =>
    obtain ⟨t, rfl⟩ := rx
    exact PySem.P.str_of_str ⟨.str _, H, I, ⟨_, rfl⟩, q⟩
  | lst e n ha =>
    obtain ⟨as, rd, na⟩ := Dz.reads I _ _ u (.lst e n ha) rx
    cases rx
    exact str_of_reads rd hs (fun _ => na) quiet (by omega) (fun _ _ z => z) (fun h' u tk kept => ⟨.str _, H, I.kept kept, ⟨u, rfl⟩, q⟩) hz
  | tup e ha =>
    obtain ⟨as, rd, na⟩ := Dz.reads I _ _ u (.tup e ha) rx
    cases rx
    exact str_of_reads rd hs (fun _ => na) quiet (by omega) (fun _ _ z => z) (fun h' u tk kept => ⟨.str _, H, I.kept kept, ⟨u, rfl⟩, q⟩) hz
  | dct e ha =>
    obtain ⟨as, rd, na⟩ := Dz.reads I _ _ u (.dct e ha) rx
    cases rx
    exact str_of_reads rd hs (fun _ => na) quiet (by omega) (fun _ _ z => z) (fun h' u tk kept => ⟨.str _, H, I.kept kept, ⟨u, rfl⟩, q⟩) hz
end
end Az
set_option Elab.async false
set_option linter.all false
set_option maxRecDepth 100000
set_option maxHeartbeats 4000000
set_option pp.maxSteps 400
set_option pp.deepTerms false
namespace Xt
open PySem PySem.Spec PyProof.Rows L2
open AutoSeq1 (wpAny_loadPart')
theorem meets_enumerate_newT (l : Addr) (items : Array Value) (n : Nat) (dct : Option Addr) (sl : Array (Option Value)) :
    Meets (Builtin.«enumerate.__new__» ⟨[.type "enumerate", .ref l], []⟩) (fun _ R s => s.heap.get? l = some { cls := .type "tuple", dict := dct, data := .seq items n, slots := sl } ∧
      R (.ok (.ret (.ref (s.heap.push { cls := .type "tuple_iterator", data := .fields #[.ref l, .int 0 0] }).objs.size)))
        { s with heap := (s.heap.push { cls := .type "tuple_iterator", data := .fields #[.ref l, .int 0 0] }).push { cls := .type "enumerate", data := .fields #[.none, .bool false, .ref s.heap.objs.size, rawInt 0, .none, .none] } }) :=
  .of_wp fun prog w A R s h => by
    obtain ⟨hp, g, d, tk, os⟩ := s; obtain ⟨hl, h⟩ := h
    have hsub := sub_enumerate
    have hL : Heap.IsTuple (Shared.heap ⟨hp, g, d, tk, os⟩) l items := ⟨_, hl, rfl, n, rfl⟩
    wp_walk using wpAny_loadPart' hl
    refine wpAny_stack_any fun st => wpAny_pure ?_
    split
    · rename_i c _ _ _ _ _
      cases (c == Value.type "enumerate")
      · wp_walk using wpAny_loadPart' hl, wpAny_pyIter_tuple hL
        exact ⟨_, rfl, h⟩
      · wp_walk using wpAny_loadPart' hl, wpAny_pyIter_tuple hL
        exact ⟨_, rfl, h⟩
    · wp_walk using wpAny_loadPart' hl, wpAny_pyIter_tuple hL
      exact ⟨_, rfl, h⟩
section
variable {prog : Program} {w : World} {A : Around} {E : Value → Shared → Prop} {s : Shared}
theorem call_enumerate_tuple {l : Addr} {items : Array Value} {Q : Value → Shared → Prop} (hL : s.heap.IsTuple l items)
    (h : ∀ h', IsEnum h' (s.heap.objs.size + 1) s.heap.objs.size 0 .none → h'.IsTupleIter s.heap.objs.size l 0 → h'.objs.size = s.heap.objs.size + 2 →
      (∀ b o, s.heap.get? b = some o → h'.get? b = some o) → Q (.ref (s.heap.objs.size + 1)) { s with heap := h' }) :
    wpAny (model prog w) A (call (.type "enumerate") [.ref l]) Q E s := by
  obtain ⟨⟨c, dct, dt, sl⟩, hl, hc, n, hd⟩ := hL
  replace hc : c = .type "tuple" := hc
  replace hd : dt = .seq items n := hd
  subst hc hd
  refine callType_new F.called_enumerate (by decide) (F.typeCall_enumerate_1 _) (F.newCall_enumerate_1 _) (fun obj => F.args_object_init_2 obj _) F.entry_enumerate_new
    (meets_enumerate_newT l items n dct sl) ⟨hl, ?_⟩
  have hz : (s.heap.push { cls := .type "tuple_iterator", data := .fields #[.ref l, .int 0 0] }).objs.size = s.heap.objs.size + 1 := Heap.size_push ..
  show _ ∧ _
  rw [hz]
  have he : IsEnum ((s.heap.push { cls := .type "tuple_iterator", data := .fields #[.ref l, .int 0 0] }).push
      { cls := .type "enumerate", data := .fields #[.none, .bool false, .ref s.heap.objs.size, rawInt 0, .none, .none] }) (s.heap.objs.size + 1) s.heap.objs.size 0 .none := by
    have := Heap.get?_push_size (s.heap.push { cls := .type "tuple_iterator", data := .fields #[.ref l, .int 0 0] })
      (o := { cls := .type "enumerate", data := .fields #[.none, .bool false, .ref s.heap.objs.size, rawInt 0, .none, .none] }) rfl
    rw [hz] at this; exact this
  refine ⟨⟨_, he, rfl⟩, h _ he ⟨_, Heap.get?_push_of_some _ (Heap.get?_push_size _ rfl), rfl, rfl⟩ (by rw [Heap.size_push, hz]) fun b o x => Heap.get?_push_of_some _ (Heap.get?_push_of_some _ x)⟩
end
/-- the tuple at a, each item in a new pair with its number -/
def IteT (K : PySem.W.Frag) (a : Addr) : It :=
  ⟨fun i H => ∃ (xs : List V) (x : V), SqT K H a xs ∧ xs[i]? = some x, fun i H v H' => ∃ T x, v = .ref T ∧ H T = none ∧ H' = upd H T (.tup [.int (i : Nat), x]) ∧ ∀ xs, SqT K H a xs → xs[i]? = some x, fun i H => ∃ xs : List V, SqT K H a xs ∧ xs.length = i⟩
theorem turn_enumT {P : Program} {w : World} {K : PySem.W.Frag} {elts : List Expr} {kk : Nat} {tpos : Pos} (a e it : Addr) (hae : a ≠ e) (hai : a ≠ it) :
    Turn P w K (.Tuple elts kk tpos) (IteT K a) [e, it] e (fun i h => (∃ old, IsEnum h e it ((i : Nat) : Int) old) ∧ h.IsTupleIter it a i ∧ e ≠ it) where
  mem := by simp
  obj := fun i h st b hb => by
    obtain ⟨⟨old, he⟩, ⟨o, ho, hc, hd⟩, _⟩ := st
    have e' : b = e ∨ b = it := by simpa using hb
    rcases e' with z | z
    · rw [z]; exact ⟨_, he, fun v q => nomatch q⟩
    · rw [z]; exact ⟨o, ho, fun v q => by rw [hd] at q; cases q⟩
  keep := fun i h h' st k => let ⟨⟨old, he⟩, hi, hne⟩ := st; ⟨⟨old, k e (by simp) _ he⟩, hi.at fun o q => k it (by simp) o q, hne⟩
  item := by
    intro X hP hw hK hc i pins s σ H E I hf st hg
    subst hP hw hK
    obtain ⟨⟨old, he⟩, hit, hne⟩ := st
    obtain ⟨xs, x, hq, hx⟩ := hg
    obtain ⟨its, rv, p, hz⟩ := I.tuple hq
    obtain ⟨u, hu, ru⟩ := rv.get hx
    have hel : e < s.heap.objs.size := Heap.lt_size he
    have hil : it < s.heap.objs.size := by obtain ⟨_, q, _⟩ := hit; exact Heap.lt_size q
    have hu' : its.toArray[i]? = some u := by simpa using hu
    have hi : i < its.toArray.size := by
      rcases Nat.lt_or_ge i its.toArray.size with h | h
      · exact h
      · rw [Array.getElem?_eq_none h] at hu'; cases hu'
    refine wpAny_pyNext_enum_itemD (Draws.tuple (A := X.A.in1) (I.ok.hd hc) it a hai its.toArray) he ⟨hit, p⟩ hi hne (by simp [Ne.symm hne]; exact ⟨hne, Ne.symm hae⟩) fun y h' tk hy ho hst' hT hsz hk => ?_
    obtain rfl : u = y := by rw [hu'] at hy; cases hy; rfl
    refine ⟨_, rfl, wpAny_letOwnedTupleGo_enum (s := { s with heap := h', toks := tk + 1 }) ho fun h'' he' sb => ?_⟩
    have hT2 : h''.get? s.heap.objs.size = some { cls := .type "tuple", data := .seq #[.int i tk, u] } := (sb.2 _ (Nat.ne_of_gt hel)).trans hT
    have new : ObjOk X.prog X.w (upd H s.heap.objs.size (.tup [.int (i : Nat), x])) h'' s.heap.objs.size (.tup [.int (i : Nat), x]) :=
      ⟨by show 2 ≤ sizeLine; decide, [.int i tk, u], .cons ⟨_, rfl⟩ (.cons ru .nil), ⟨_, hT2, rfl, _, rfl⟩⟩
    have I1 : Inv X pins σ (upd H s.heap.objs.size (.tup [.int (i : Nat), x])) { s with heap := h'', toks := tk + 1 } :=
      I.turnedNew (ch := [e, it]) (fun b ob hb q => (sb.2 b (fun z => hb (by simp [z]))).trans (hk b ob (fun z => hb (by simp [z])) (fun z => hb (by simp [z])) q)) hf (Nat.le_refl _) new
    refine ⟨.ref s.heap.objs.size, _, I1, rfl, ⟨_, x, rfl, I.hok.fresh (Nat.le_refl _), rfl, fun ys hy => by rw [I.tuple_inj hy hq]; exact hx⟩, ⟨⟨u, ?_⟩, hst'.1.at fun o q => (sb.2 it (Ne.symm hne)).trans q, hne⟩, fun b hb => ?_⟩
    · have e1 : ((i + 1 : Nat) : Int) = (i : Int) + 1 := by omega
      rw [e1]; exact he'
    · have hb' : b < s.heap.objs.size := by
        have e' : b = e ∨ b = it := by simpa using hb
        rcases e' with z | z
        · rw [z]; exact hel
        · rw [z]; exact hil
      rw [upd_ne (Nat.ne_of_lt hb')]
      exact (hf b hb).1
  done := by
    intro X hP hw hK hc i pins s σ H E I hf st hg
    subst hP hw hK
    obtain ⟨⟨old, he⟩, hit, hne⟩ := st
    obtain ⟨xs, hq, hx⟩ := hg
    obtain ⟨its, rv, p, hz⟩ := I.tuple hq
    obtain ⟨f0, f1, f2, f3, f4, f5⟩ := hf it (by simp)
    have hl := rv.length
    have en : its.toArray.size = i := by simp; omega
    exact wpAny_pyNext_enum_endD (Draws.tuple (A := X.A.in1) (I.ok.hd hc) it a hai its.toArray) he (by rw [en]; exact ⟨hit, p⟩) fun h' eb => ⟨rfl, I.turned (t' := s.toks) (fun b o hb q => eb b o hb q) f0 f1 f3 f4 f5⟩
  self := fun A i s Q E st h => let ⟨⟨_, he⟩, _⟩ := st; wpAny_pyIter_enum he h
def iEnumT (K : PySem.W.Frag) (ta : TA) : TI := fun σ H R => ta σ H fun vs H1 => ∃ a xs, vs = [.ref a] ∧ SqT K H1 a xs ∧ R (IteT K a) H1
theorem pi_enumT {X : Cx} {e : Expr} {ta : TA} {p pos tpos : Pos} {elts : List Expr} {kk : Nat} (hg : Gl X "enumerate") (hm : X.mg "enumerate" = none) (ha : PA X [e] ta) (hs : starEach [e] X.env = [(false, eval e X.env)] := by rfl) :
    PI X (.Tuple elts kk tpos) (.Call (.Name "enumerate" p) [e] [] pos) (iEnumT X.K ta) := by
  refine ⟨fun pins s σ H R I h => ?_⟩
  refine Call_ (ld_blt I hg hm boot_enumerate (PyProof.Rows.callWith_type1 (thn (ha.run pos pins s σ H _ I h) fun us s1 ⟨vs, H1, I1, r1, q1⟩ => ?_) hs rfl))
  obtain ⟨a, xs, ex, hq, q⟩ := q1
  subst ex
  cases r1 with
  | cons r rr =>
    cases rr
    cases r
    obtain ⟨its, rv, p', hz⟩ := I1.tuple hq
    have hal : a < s1.heap.objs.size := by obtain ⟨_, z, _⟩ := p'; exact Heap.lt_size z
    refine call_enumerate_tuple p' fun h' he hit hsz hk => wpAny_pyIter_enum he ?_
    have I2 : Inv X pins σ H1 { s1 with heap := h' } := I1.kept (t' := s1.toks) hk
    refine ⟨s1.heap.objs.size + 1, [s1.heap.objs.size + 1, s1.heap.objs.size], _, _, H1, rfl, I2, turn_enumT a (s1.heap.objs.size + 1) s1.heap.objs.size (Nat.ne_of_lt (Nat.lt_succ_of_lt hal)) (Nat.ne_of_lt hal), ⟨⟨.none, he⟩, hit, Nat.succ_ne_self _⟩, fun b hb => ?_, q⟩
    have e' : b = s1.heap.objs.size + 1 ∨ b = s1.heap.objs.size := by simpa using hb
    have hle : s1.heap.objs.size ≤ b := by
      rcases e' with z | z
      · rw [z]; exact Nat.le_add_right _ _
      · rw [z]; exact Nat.le_refl _
    exact I1.fpOk hle (I1.hok.fresh hle)
theorem walk_enumT {K : PySem.W.Frag} {a : Addr} {xs : List V} : Walk (IteT K a) xs.length (fun H => SqT K H a xs) (YPair (fun i => some (.int (i : Nat))) (fun i => xs[i]?)) := by
  refine ⟨fun i _ hi q => ⟨xs, xs[i], q, by simp [hi]⟩, fun _ q => ⟨xs, q, rfl⟩, fun i H v H' _ q y => ?_⟩
  obtain ⟨T, x, h1, h2, h3, h4⟩ := y
  exact ⟨T, .int (i : Nat), x, h1, h2, h3, rfl, h4 xs q⟩
end Xt
set_option Elab.async false
set_option linter.all false
set_option maxRecDepth 100000
set_option maxHeartbeats 4000000
set_option pp.maxSteps 400
set_option pp.deepTerms false
namespace Xt
open PySem PySem.Spec PyProof.Rows L2 Az PySem.W
/-- *e ahead of other items, e a tuple -/
def tStar (K : PySem.W.Frag) (ta : TE) (tr : TA) : TA := fun σ H Q => ta σ H fun x H1 => ∃ a xs, x = .ref a ∧ SqT K H1 a xs ∧ tr σ H1 fun ys H2 => Q (xs ++ ys) H2
theorem pa_star {X : Cx} {e : Expr} {es : List Expr} {te : TE} {t : TA} {p : Pos} (ha : PE X e te) (hr : PA X es t) : PA X (.Starred e p :: es) (tStar X.K te t) := by
  refine ⟨fun pos pins s σ H Q I h => ?_⟩
  refine items_star (thn (ha.run pins s σ H _ I h) fun u s1 ⟨x, H1, I1, r1, a, xs, ex, hq, q⟩ => ?_)
  subst ex
  obtain rfl : u = Value.ref a := r1
  refine star_tup I1 hq fun us s2 I2 rv => ?_
  exact thn (hr.run pos pins s2 σ H1 _ I2 q) fun ws s3 ⟨ys, H2, I3, r2, q2⟩ => ⟨xs ++ ys, H2, I3, rv.append r2, q2⟩
section
variable {prog : Program} {w : World} {A : Around} {E : Value → Shared → Prop} {s : Shared}
/-- min(a, b), compared where a heap stands -/
theorem call_min_twoH {a b : Value} {Q : Value → Shared → Prop}
    (h : wpAny (model prog w) A.in1 (pyIter (.ref s.heap.objs.size)) (fun it s₂ => ∃ I fp wr G n P St H bt, it = .ref I ∧ WalksS prog w A.in1 I fp wr G n P St ∧ St 0 s₂ ∧ (∀ b ∈ fp, b < s₂.heap.objs.size) ∧ 0 < n ∧
      (∀ b o, H.get? b = some o → b ∉ wr) ∧ (∀ b o, H.get? b = some o → s₂.heap.get? b = some o) ∧ CmpIn prog w A.in1 .Lt H P bt ∧ ∀ v s', P (argBest bt (n - 1)) v → Moved wr G s₂ s' → Q v s') E
      { s with heap := s.heap.push { cls := .type "tuple", data := .seq #[a, b] } }) :
    wpAny (model prog w) A (call (.builtin "min") [a, b]) Q E s := by
  have hname : (toString "min" ++ toString ".loop" : String) = "min.loop" := by decide
  refine call_function_tree F.kind_min F.plain_min F.entry_min (F.args_min2 _ _) ?_
  show wpAny _ A.in1 (Builtin.Builtins.bindParams "min" ["key", "default"] 0 ⟨[], []⟩ >>= _) _ _ s
  refine wpAny_bind (wpAny_of_eq (show Builtin.Builtins.bindParams "min" ["key", "default"] 0 ⟨[], []⟩ = pure [none, none] from rfl) ?_)
  show wpAny _ A.in1 (newTuple [a, b] >>= _) _ _ s
  refine wpAny_bind (wpAny_newObj_type ?_)
  refine wpAny_bind (wpAny_mono h (fun it s₂ h₂ => ?_) fun _ _ e => e)
  obtain ⟨I, fp, wr, G, n, P, St, H, bt, rfl, W, hst, hfp, hn, hw, hkeep, hcmp, hQ⟩ := h₂
  refine wpAny_bind (wpAny_newObj_type ?_)
  have hSf : s₂.heap.objs.size ∉ fp := fun hm => Nat.lt_irrefl _ (hfp _ hm)
  rw [hname]
  refine wpAny_pure ⟨plainId_quiet F.plain_min_loop _, codeAny_min_loop_firstH W H hw bt hcmp s₂.heap.objs.size hSf (fresh_in hkeep) _ hn (fun b o e => Heap.get?_push_of_some _ (hkeep b o e)) (W.frame 0 s₂ _ s₂.toks hst (Nat.le_refl _) fun b _ o e => Heap.get?_push_of_some _ e) (Heap.get?_push_size _ rfl) fun v s' hP hm => ?_⟩
  exact hQ v s' hP (Moved.drop_new (tk := s₂.toks) hm (Nat.le_refl _))
theorem min_two_data {a b : Value} {da db : PyData} {as bs : List Addr} {Q : Value → Shared → Prop} (hh : A.handled = none) (ra : Reads s.heap a da as) (rb : Reads s.heap b db bs) (ha : AlikeAll [da, db]) (hu : A.units + 1 + PyData.depthAll [da, db] < cLine)
    (h : ∀ h' tk, (∀ c o, s.heap.get? c = some o → h'.get? c = some o) → Q (if dataLt db da = true then b else a) { s with heap := h', toks := tk }) :
    wpAny (model prog w) A (call (.builtin "min") [a, b]) Q E s := by
  have hT : (s.heap.push { cls := .type "tuple", data := .seq #[a, b] }).IsTuple s.heap.objs.size #[a, b] := ⟨_, Heap.get?_push_size _ rfl, rfl, 0, rfl⟩
  have hr : ReadsAll s.heap (#[a, b] : Array Value).toList [da, db] (as ++ (bs ++ [])) := .cons ra (.cons rb .nil)
  have k0 : ∀ c o, s.heap.get? c = some o → (s.heap.push { cls := .type "tuple", data := .seq #[a, b] }).get? c = some o := fun c o e => Heap.get?_push_of_some _ e
  refine call_min_twoH (iter_tupleW (A := A.in1) (s := { s with heap := s.heap.push { cls := .type "tuple", data := .seq #[a, b] } }) hh hT fun s₂ e W st hfp hw hk => ?_)
  refine ⟨_, _, _, _, _, _, _, s.heap, _, rfl, W, st, hfp, (by simp), fun b o q => hw b o (k0 b o q), fun b o q => hk b o (k0 b o q), cmpIn_lt (A := A.in1) hr ha (by show A.units + 1 + _ < _; exact hu), fun v s' hP m => ?_⟩
  obtain ⟨h', tk, rfl, hk'⟩ := moved_old e rfl m
  have := h h' tk fun c o q => hk' c o (k0 c o q)
  have ev : v = if dataLt db da = true then b else a := by
    replace hP : (#[a, b] : Array Value)[argBest (fun i j => dataLt ([da, db].getD i .none) ([da, db].getD j .none)) 1]? = some v := hP
    cases c : dataLt db da with
    | true =>
      have e1 : argBest (fun i j => dataLt ([da, db].getD i .none) ([da, db].getD j .none)) 1 = 1 := by simp [argBest, c]
      rw [e1] at hP
      rw [if_pos rfl]
      exact (Option.some.inj hP).symm
    | false =>
      have e1 : argBest (fun i j => dataLt ([da, db].getD i .none) ([da, db].getD j .none)) 1 = 0 := by simp [argBest, c]
      rw [e1] at hP
      rw [if_neg Bool.false_ne_true]
      exact (Option.some.inj hP).symm
  rw [ev]
  exact this
end
/-- min(a, b) of two things that can be compared -/
def rMin2Z (K : PySem.W.Frag) : List V → Hp → VK → Prop := fun vs H Q => ∃ (a b : V) (da db : PyData), vs = [a, b] ∧ Dz K H a da ∧ Dz K H b db ∧ AlikeAll [da, db] ∧ PyData.depthAll [da, db] ≤ 50 ∧ Q (if dataLt db da = true then b else a) H
theorem cr_min2Z {X : Cx} {k : Nat} (hc : X.calm = true) (room : Room k X.A) : CallR X (.builtin "min") (rMin2Z X.K) := by
  intro pins s σ H vs us Q I r h
  obtain ⟨a, b, da, db, rfl, hda, hdb, al, dp, q⟩ := h
  cases r with
  | cons r1 rr =>
    cases rr with
    | cons r2 rr =>
      cases rr
      obtain ⟨as, ra, _⟩ := Dz.reads I _ _ _ hda r1
      obtain ⟨bs, rb, _⟩ := Dz.reads I _ _ _ hdb r2
      refine min_two_data (I.ok.hd hc) ra rb al (by have := room.units; omega) fun h' tk kk => ?_
      cases c : dataLt db da with
      | true => rw [c, if_pos rfl] at q; exact ⟨_, H, I.kept kk, r2, q⟩
      | false => rw [c, if_neg Bool.false_ne_true] at q; exact ⟨_, H, I.kept kk, r1, q⟩
/-- pairs of a number and a row of numbers -/
def pairD (p : Int × List Int) : PyData := .tuple [.int p.1, .tuple (p.2.map .int)]
def pairLt (p q : Int × List Int) : Bool := decide (p.1 < q.1 ∨ (p.1 = q.1 ∧ p.2 < q.2))
theorem alike_ints : ∀ xs ys : List Int, alikeAll (xs.map .int) (ys.map .int) = true
  | [], _ => by simp [alikeAll]
  | _ :: _, [] => by simp [alikeAll]
  | x :: xs, y :: ys => by simp [alikeAll, alike, alike_ints xs ys]
theorem alike_pairs (p q : Int × List Int) : AlikeAll [pairD p, pairD q] := by
  have al : ∀ p q : Int × List Int, alike (pairD p) (pairD q) = true := fun p q => by simp [pairD, alike, alikeAll, alike_ints]
  constructor
  · intro x hx y hy
    simp only [List.mem_cons, List.not_mem_nil, or_false] at hx hy
    rcases hx with rfl | rfl <;> rcases hy with rfl | rfl <;> exact al _ _
  · intro x hx
    simp only [List.mem_cons, List.not_mem_nil, or_false] at hx
    rcases hx with rfl | rfl <;> simp [pairD]
theorem eqv_ints : ∀ xs ys : List Int, PyData.eqvAll (xs.map .int) (ys.map .int) = decide (xs = ys)
  | [], [] => by simp [PyData.eqvAll]
  | [], _ :: _ => by simp [PyData.eqvAll]
  | _ :: _, [] => by simp [PyData.eqvAll]
  | x :: xs, y :: ys => by
    rw [List.map_cons, List.map_cons, PyData.eqvAll, eqv_ints xs ys]
    by_cases h1 : x = y <;> by_cases h2 : xs = ys <;> simp [PyData.eqv, h1, h2]
theorem lt_pairs (p q : Int × List Int) : dataLt (pairD p) (pairD q) = pairLt p q := by
  obtain ⟨a, xs⟩ := p
  obtain ⟨b, ys⟩ := q
  unfold pairD pairLt
  rw [dataLt_pair (by simp [alike]) (by simp [alike, alike_ints]), dataLt_int, dataLt_tuple]
  have e := dataLt_ints xs ys
  unfold rowLt at e
  rw [e]
  simp only [PyData.eqv, eqv_ints]
  by_cases h1 : a = b
  · subst h1
    by_cases h2 : xs = ys
    · subst h2
      simp [List.lt_irrefl]
    · simp [h2]
  · simp [h1]
theorem depth_ints : ∀ xs : List Int, PyData.depthAll (xs.map .int) = 0
  | [] => rfl
  | x :: xs => by
    rw [List.map_cons, PyData.depthAll, depth_ints xs]
    simp [PyData.depth]
theorem depth_pairs (p q : Int × List Int) : PyData.depthAll [pairD p, pairD q] ≤ 50 := by
  simp [pairD, PyData.depthAll, PyData.depth, depth_ints]
end Xt
set_option Elab.async false
set_option linter.all false
set_option maxRecDepth 100000
set_option maxHeartbeats 4000000
set_option pp.maxSteps 400
set_option pp.deepTerms false
/-! zip(a list, a tuple) of one length; a list != [] -/
namespace Xt
open PySem PySem.Spec PyProof.Rows L2
def ItzLT (K : PySem.W.Frag) (a b : Addr) : It :=
  ⟨fun i H => ∃ (xs ys : List V) (x y : V), SqL K H a xs ∧ SqT K H b ys ∧ xs[i]? = some x ∧ ys[i]? = some y,
    fun i H v H' => ∃ T x y, v = .ref T ∧ H T = none ∧ H' = upd H T (.tup [x, y]) ∧ (∀ xs, SqL K H a xs → xs[i]? = some x) ∧ ∀ ys, SqT K H b ys → ys[i]? = some y,
    fun i H => ∃ xs ys : List V, SqL K H a xs ∧ SqT K H b ys ∧ xs.length = i ∧ ys.length = i⟩
theorem turn_zipLT {P : Program} {w : World} {K : PySem.W.Frag} {elts : List Expr} {kk : Nat} {tpos : Pos} {a b z TI TO i1 i2 : Addr} (D : ZipSep2 z TI TO i1 i2 [i1, a] [i2, b]) (n1 : a ≠ i1) (n2 : b ≠ i2) :
    Turn P w K (.Tuple elts kk tpos) (ItzLT K a b) [z, TI, TO, i1, i2] z (fun i h => IsZip h z TI TO .none ∧ IsTupOf2 h TI (.ref i1) (.ref i2) ∧ (∃ x y, IsTupOf2 h TO x y) ∧ h.IsListIter i1 a i ∧ h.IsTupleIter i2 b i) where
  mem := by simp
  obj := fun i h ⟨h1, h2, ⟨x, y, h3⟩, ⟨o1, e1, _, d1⟩, ⟨o2, e2, _, d2⟩⟩ c hc => by
    simp only [List.mem_cons, List.not_mem_nil, or_false] at hc
    rcases hc with rfl | rfl | rfl | rfl | rfl
    · exact ⟨_, h1, fun _ q => nomatch q⟩
    · exact ⟨_, h2, fun _ q => nomatch q⟩
    · exact ⟨_, h3, fun _ q => nomatch q⟩
    · exact ⟨o1, e1, fun _ q => by rw [d1] at q; cases q⟩
    · exact ⟨o2, e2, fun _ q => by rw [d2] at q; cases q⟩
  keep := fun i h h' ⟨h1, h2, ⟨x, y, h3⟩, h4, h5⟩ k => ⟨k z (by simp) _ h1, k TI (by simp) _ h2, ⟨x, y, k TO (by simp) _ h3⟩, h4.at fun o q => k i1 (by simp) o q, h5.at fun o q => k i2 (by simp) o q⟩
  item := by
    intro X hP hw hK hc i pins s σ H E I hf st hg
    subst hP hw hK
    obtain ⟨hz, hTI, ⟨x0, y0, hTO⟩, t1, t2⟩ := st
    obtain ⟨xs, ys, x, y, hqx, hqy, hx, hy⟩ := hg
    obtain ⟨us, r1, p1, _⟩ := I.list hqx
    obtain ⟨ws, r2, p2, _⟩ := I.tuple hqy
    obtain ⟨u, hu, ru⟩ := r1.get hx
    obtain ⟨v, hv, rv⟩ := r2.get hy
    have l1 : i < us.toArray.size := by simpa using (List.getElem?_eq_some_iff.mp hu).1
    have l2 : i < ws.toArray.size := by simpa using (List.getElem?_eq_some_iff.mp hv).1
    have nh := I.ok.hd hc
    have zl : z < s.heap.objs.size := Heap.lt_size hz
    refine wpAny_pyNext_zipD2_item D (Draws.list (A := X.A.in1) nh i1 a n1 us.toArray) (Draws.tuple (A := X.A.in1) nh i2 b n2 ws.toArray) hz hTI hTO ⟨t1, p1.isList⟩ ⟨t2, p2⟩ l1 l2 fun u' v' h' tk eu ev z' TO' s1 s2 hT hsz hk => ?_
    obtain rfl : u = u' := by
      have : us.toArray[i]? = some u := by simpa using hu
      rw [this] at eu; cases eu; rfl
    obtain rfl : v = v' := by
      have : ws.toArray[i]? = some v := by simpa using hv
      rw [this] at ev; cases ev; rfl
    refine ⟨_, rfl, wpAny_letOwnedTupleGo_zip (s := { s with heap := h', toks := tk }) z' fun h'' z'' sb => ?_⟩
    have hT2 : h''.get? s.heap.objs.size = some { cls := .type "tuple", data := .seq #[u, v] } := (sb.2 _ (Nat.ne_of_gt zl)).trans hT
    have I1 : Inv X pins σ (upd H s.heap.objs.size (.tup [x, y])) { s with heap := h'', toks := tk } :=
      I.turnedNew (ch := [z, TI, TO, i1, i2]) (fun c o hb q => (sb.2 c (fun e => hb (by simp [e]))).trans (hk c o (fun e => hb (by simp [e])) (fun e => hb (by simp [e])) (fun e => hb (by simp [e])) (fun e => hb (by simp [e])) q)) hf (Nat.le_refl _)
        ⟨by show 2 ≤ sizeLine; decide, [u, v], .cons ru (.cons rv .nil), ⟨_, hT2, rfl, _, rfl⟩⟩
    refine ⟨.ref s.heap.objs.size, _, I1, rfl, ⟨_, x, y, rfl, I.hok.fresh (Nat.le_refl _), rfl, fun l hl => by rw [I.list_inj hl hqx]; exact hx, fun l hl => by rw [I.tuple_inj hl hqy]; exact hy⟩,
      ⟨z'', (sb.2 _ D.TIz).trans (hk _ _ D.TIz D.TITO D.TIi1 D.TIi2 hTI), ⟨u, v, (sb.2 _ D.TOz).trans TO'⟩, s1.1.at fun o q => (sb.2 _ (Ne.symm D.zi1)).trans q, s2.1.at fun o q => (sb.2 _ (Ne.symm D.zi2)).trans q⟩, fun c hcm => ?_⟩
    have lt : c < s.heap.objs.size := by
      have hcm' := hcm
      simp only [List.mem_cons, List.not_mem_nil, or_false] at hcm'
      rcases hcm' with rfl | rfl | rfl | rfl | rfl
      · exact zl
      · exact Heap.lt_size hTI
      · exact Heap.lt_size hTO
      · exact Heap.lt_size t1.choose_spec.1
      · exact Heap.lt_size t2.choose_spec.1
    rw [upd_ne (Nat.ne_of_lt lt)]
    exact (hf c hcm).1
  done := by
    intro X hP hw hK hc i pins s σ H E I hf st hg
    subst hP hw hK
    obtain ⟨hz, hTI, ⟨x0, y0, hTO⟩, t1, t2⟩ := st
    obtain ⟨xs, ys, hqx, hqy, lx, ly⟩ := hg
    obtain ⟨us, r1, p1, _⟩ := I.list hqx
    obtain ⟨ws, r2, p2, _⟩ := I.tuple hqy
    have e1 : us.toArray.size = i := by rw [List.size_toArray, ← r1.length]; exact lx
    have e2 : ws.toArray.size = i := by rw [List.size_toArray, ← r2.length]; exact ly
    have nh := I.ok.hd hc
    exact wpAny_pyNext_zipD2_end D (Draws.list (A := X.A.in1) nh i1 a n1 us.toArray) (Draws.tuple (A := X.A.in1) nh i2 b n2 ws.toArray) hz hTI hTO ⟨t1, p1.isList⟩ ⟨t2, p2⟩ (by omega) (by omega) (.inl e1.symm) fun h' tk hk =>
      ⟨rfl, I.turnedL (t' := tk) (ch := [z, TI, TO, i1, i2]) (fun c o hb q => hk c o (fun e => hb (by simp [e])) (fun e => hb (by simp [e])) (fun e => hb (by simp [e])) (fun e => hb (by simp [e])) q) hf⟩
  self := fun A i s Q E st h => wpAny_pyIter_zip st.1 h
def iZipLT (K : PySem.W.Frag) (ta : TA) : TI := fun σ H R => ta σ H fun vs H1 => ∃ a b xs ys, vs = [.ref a, .ref b] ∧ SqL K H1 a xs ∧ SqT K H1 b ys ∧ R (ItzLT K a b) H1
theorem pi_zipLT {X : Cx} {e e2 : Expr} {ta : TA} {p pos tpos : Pos} {elts : List Expr} {kk : Nat} (hg : Gl X "zip") (hm : X.mg "zip" = none) (ha : PA X [e, e2] ta)
    (hs : starEach [e, e2] X.env = (false, eval e X.env) :: starEach [e2] X.env := by rfl) (hpl : (backTo pos (starEach [e2] X.env)).any (·.1) = false := by rfl) :
    PI X (.Tuple elts kk tpos) (.Call (.Name "zip" p) [e, e2] [] pos) (iZipLT X.K ta) := by
  refine ⟨fun pins s σ H R I h => ?_⟩
  refine Call_ (ld_blt I hg hm PyProof.Rows.boot_zip (PyProof.Rows.callWith_type1 (thn (ha.run pos pins s σ H _ I h) fun us s1 ⟨vs, H1, I1, r1, q1⟩ => ?go) hs hpl))
  case go =>
    obtain ⟨a, b, xs, ys, rfl, hqx, hqy, q⟩ := q1
    cases r1 with
    | cons r rr =>
      cases rr with
      | cons r' rr =>
        cases rr; cases r; cases r'
        obtain ⟨us, v1, p1, _⟩ := I1.list hqx
        obtain ⟨ws, v2, p2, _⟩ := I1.tuple hqy
        have la : a < s1.heap.objs.size := p1.lt
        have lb : b < s1.heap.objs.size := by obtain ⟨o, ho, _⟩ := id p2; exact Heap.lt_size ho
        refine zip_begins2 (begins_list a us.toArray) (begins_tuple b ws.toArray) p1.isList p2 fun h' hz hTI hTO h1 h2 _ hk => wpAny_pyIter_zip hz ?_
        have I2 : Inv X pins σ H1 { s1 with heap := h' } := I1.kept (t' := s1.toks) hk
        refine ⟨s1.heap.objs.size + 4, [s1.heap.objs.size + 4, s1.heap.objs.size + 2, s1.heap.objs.size + 3, s1.heap.objs.size, s1.heap.objs.size + 1], _, _, H1, rfl, I2,
          turn_zipLT (zip_sep2 (N := s1.heap.objs.size) (fp1 := [a]) (fp2 := [b]) (fun c hc => by rw [List.mem_singleton.mp hc]; exact la) (fun c hc => by rw [List.mem_singleton.mp hc]; exact lb)) (Nat.ne_of_lt la) (Nat.ne_of_lt (Nat.lt_succ_of_lt lb)),
          ⟨hz, hTI, ⟨_, _, hTO⟩, ⟨_, h1, rfl, rfl⟩, ⟨_, h2, rfl, rfl⟩⟩, fun c hc => ?_, q⟩
        have le : s1.heap.objs.size ≤ c := by
          simp only [List.mem_cons, List.not_mem_nil, or_false] at hc
          rcases hc with rfl | rfl | rfl | rfl | rfl
          · exact Nat.le_add_right _ _
          · exact Nat.le_add_right _ _
          · exact Nat.le_add_right _ _
          · exact Nat.le_refl _
          · exact Nat.le_add_right _ _
        exact I1.fpOk le (I1.hok.fresh le)
theorem walk_zipLT {K : PySem.W.Frag} {a b : Addr} {xs ys : List V} (e : xs.length = ys.length) : Walk (ItzLT K a b) xs.length (fun H => SqL K H a xs ∧ SqT K H b ys) (YPair (fun i => xs[i]?) (fun i => ys[i]?)) := by
  refine ⟨fun i H hi q => ⟨xs, ys, xs[i], ys[i]'(by omega), q.1, q.2, List.getElem?_eq_getElem hi, List.getElem?_eq_getElem (by omega)⟩, fun H q => ⟨xs, ys, q.1, q.2, rfl, e.symm⟩, fun i H v H' hi q y => ?_⟩
  obtain ⟨T, x, z, h1, h2, h3, h4, h5⟩ := y
  exact ⟨T, x, z, h1, h2, h3, h4 xs q.1, h5 ys q.2⟩
/-- a list of any things != [] -/
theorem op_neL0 {X : Cx} (hu : X.A.units + 64 < cLine) : OpR X (compareOp .NotEq) (fun x y H Q => ∃ a b xs, x = .ref a ∧ y = .ref b ∧ H a = some (.lst xs) ∧ H b = some (.lst []) ∧ Q (.bl (!xs.isEmpty)) H) := by
  intro pins s σ H x y v u Q I rx ry h
  obtain ⟨a, b, xs, rfl, rfl, ea, eb, q⟩ := h
  cases rx; cases ry
  obtain ⟨its, r1, p1, _⟩ := I.list (SqL.of ea)
  obtain ⟨its2, r2, p2, _⟩ := I.list (SqL.of eb)
  cases r2
  have l := r1.length
  cases xs with
  | nil =>
    cases r1
    exact (PySem.SeqAt.RcNeAt.lists (e := fun _ => true) p1.isList p2.isList rfl (by omega) (fun j h1 _ => absurd h1 (by simp))) _ _ _ _ ⟨.bl false, H, I, rfl, q⟩
  | cons x r =>
    refine (PySem.SeqAt.RcNeAt.lists_lengths p1.isList p2.isList ?_ (by omega)) _ _ _ _ ⟨.bl true, H, I, rfl, q⟩
    rw [List.size_toArray, ← l]
    simp
end Xt
set_option Elab.async false
set_option linter.all false
set_option maxRecDepth 100000
set_option maxHeartbeats 4000000
/-! a list that a call does not look at may be left out of its heap -/
namespace Xfr
open PySem PySem.Spec PyProof.Rows L2
def spF (sp : Sp) : Sp := fun vs H Q E => ∃ (L : Addr) (xs : List V), H L = some (.lst xs) ∧ sp vs (del H L) (fun v H' => H' L = none → Q v (upd H' L (.lst xs))) E
theorem frame {P : Program} {w : World} {K : PySem.W.Frag} {mg : Str → Option Value} {base : Heap} {k : Nat} {f : Addr} {fd : FuncData} {ps : List Str} {sp : Sp} (F : FnOk P w K mg base CX0 k f fd ps sp) : FnOk P w K mg base CX0 k f fd ps (spF sp) := by
  refine ⟨fun vs H Q E ⟨L, xs, _, h⟩ => F.len _ _ _ _ h, fun A outer s H args us vs Q E hr e0 hb hv ⟨L, xs, eL, h⟩ => ?_⟩
  have okL := e0.hok L _ eL
  have nL : L ∉ frs outer := fun z => by
    have := e0.frf L z
    rw [eL] at this
    cases this
  have dn : ∀ {b : Addr}, H b = none → del H L b = none := fun {b} e => by
    by_cases c : b = L
    · rw [c]; exact del_same
    · rw [del_ne c]; exact e
  have ds : ∀ {b : Addr} {o : HO}, del H L b = some o → b ≠ L ∧ H b = some o := fun {b o} e => by
    by_cases c : b = L
    · rw [c, del_same] at e
      cases e
    · rw [del_ne c] at e
      exact ⟨c, e⟩
  have dk : ∀ {b : Addr} {o : HO}, H b = some o → (∀ ys, o ≠ .lst ys) → del H L b = some o := fun {b o} e n => by
    rw [del_ne (fun c : b = L => by rw [c, eL] at e; cases e; exact n _ rfl)]
    exact e
  have e1 : Env0 P w K mg base A outer s (del H L) := ⟨e0.frames, e0.mod, fun b o e => ⟨(e0.bs b o e).1, dn (e0.bs b o e).2⟩, e0.bsz, e0.funs, fun b hb => dn (e0.frf b hb), fun a o e =>
    (e0.hok a o (ds e).2).stay (fun b u _ q => q) (fun b q => dk q (fun ys z => by cases z)) (fun b ys q => dk q (fun zs z => by cases z)), e0.bare⟩
  refine codeAny_mono (F.run A outer s (del H L) args us vs _ E hr e1 hb hv h) fun r s' q => ?_
  match r, q with
  | .error e, q => exact False.elim q
  | .ok .next, q => exact False.elim q
  | .ok .brk, q => exact False.elim q
  | .ok .cont, q => exact False.elim q
  | .ok (.ret y), q =>
    obtain ⟨v, H', os, bare, un, hok, rv, q⟩ := q
    obtain ⟨sz, its, n, rx, gL⟩ := okL
    have gL' := un.keep L _ gL del_same nL List.not_mem_nil
    have fL := un.free L _ gL del_same List.not_mem_nil
    refine ⟨v, upd H' L (.lst xs), os, bare, ⟨fun b o e n hb hx => un.keep b o e (dn n) hb hx, fun b o e n hb hx => un.slot b o e (dn n) hb hx, fun b o e n hx => ?_, un.there, fun b ys e => ?_, fun b o u e => ?_, fun b ps e => ?_⟩, fun a o e => ?_, rv, q fL⟩
    · rw [upd_ne (fun c : b = L => by rw [c, eL] at n; cases n)]
      exact un.free b o e (dn n) hx
    · have := un.tups b ys (dk e (fun zs z => by cases z))
      rw [upd_ne (ne_of_none this fL)]
      exact this
    · have := un.frzs b o u (dk e (fun zs z => by cases z))
      rw [upd_ne (ne_of_none this fL)]
      exact this
    · obtain ⟨more, hm⟩ := un.tbls b ps (dk e (fun zs z => by cases z))
      exact ⟨more, by rw [upd_ne (ne_of_none hm fL)]; exact hm⟩
    · by_cases c : a = L
      · subst c
        rw [upd_same] at e
        cases e
        exact ⟨sz, its, n, rx, gL'⟩
      · rw [upd_ne c] at e
        exact (hok a o e).stay (fun b u _ q => q) (fun b q => by rw [upd_ne (ne_of_none q fL)]; exact q) (fun b ys q => by rw [upd_ne (ne_of_none q fL)]; exact q)
end Xfr
set_option Elab.async false
set_option linter.all false
set_option maxRecDepth 100000
set_option maxHeartbeats 4000000
/-! tuple * int from nought on; list * int whose list is no table of modules -/
namespace Xrp
open PySem PySem.Spec PyProof.Rows L2
theorem mul0 (l : Addr) (items : Array Value) (n : Nat) (dd : Option Addr) (sl : Array (Option Value)) (u : Tok) (ne : items.isEmpty = false) :
    Meets (Builtin.«tuple.__mul__» ⟨[.ref l, .int 0 u], []⟩) (fun _ R s =>
      s.heap.get? l = some { cls := .type "tuple", dict := dd, data := .seq items n, slots := sl } ∧
      R (.ok (.ret (Value.ref s.heap.objs.size))) { s with heap := s.heap.push { cls := Value.type "tuple", data := Data.seq #[] }, toks := s.toks }) :=
  .of_wp fun prog w A R s h => by
    obtain ⟨hp, g, d, tk, os⟩ := s
    obtain ⟨hl, h⟩ := h
    have f1 := AutoSeq1.idx_int
    wp_walk using wpAny_loadPart' hl
    exact ⟨_, rfl, h⟩
theorem mul1 (l : Addr) (items : Array Value) (n : Nat) (dd : Option Addr) (sl : Array (Option Value)) (u : Tok) :
    Meets (Builtin.«tuple.__mul__» ⟨[.ref l, .int 1 u], []⟩) (fun _ R s =>
      s.heap.get? l = some { cls := .type "tuple", dict := dd, data := .seq items n, slots := sl } ∧ R (.ok (.ret (.ref l))) s) :=
  .of_wp fun prog w A R s h => by
    obtain ⟨hp, g, d, tk, os⟩ := s
    obtain ⟨hl, h⟩ := h
    have f1 := AutoSeq1.idx_int
    have c1 : (items.isEmpty || ((1 : Int) == 1)) = true := by simp
    wp_walk using wpAny_loadPart' hl
    repeat (first
      | (refine wpAny_ite_true (decide_eq_true c1) ?_; wp_walk using wpAny_loadPart' hl)
      | (refine wpAny_ite_true c1 ?_; wp_walk using wpAny_loadPart' hl))
    exact ⟨_, rfl, h⟩
section
variable {X : Cx}
def rRepU (K : PySem.W.Frag) : R2 := fun x y H Q => ∃ l k xs, x = .ref l ∧ y = .int k ∧ H l = some (.tup xs) ∧ xs ≠ [] ∧ 0 ≤ k ∧ k ≤ 1000 ∧ xs.length ≤ 1000 ∧ ∀ p H', L2.Same H H' → H' p = some (.tup (List.replicate k.toNat xs).flatten) → Q (.ref p) H'
theorem op_repU : OpR X (binaryOp .Mult) (rRepU X.K) := by
  intro pins s σ H x y v u Q I rx ry h
  obtain ⟨l, k, xs, rfl, rfl, hT, hne, h1, h2, hz, q⟩ := h
  rcases Int.lt_or_le k 2 with c | c
  · cases rx
    obtain ⟨t, rfl⟩ := ry
    obtain ⟨its, r, ⟨⟨cls, dd, data, sl⟩, ho, hc, n, hd⟩, hs⟩ := I.tuple (SqT.of hT)
    simp only at hc hd
    subst hc hd
    have hi : its.toArray.isEmpty = false := by
      cases its with
      | nil =>
        cases r
        exact absurd rfl hne
      | cons a b => rfl
    have k01 : k = 0 ∨ k = 1 := by omega
    rcases k01 with rfl | rfl
    · refine wpAny_binaryOp_repeat_ref (T := "tuple") (U := "int") (by decide) ⟨_, ho, rfl⟩
        (fun s' => typeIs_int s' 0 t) noFill_tuple_mul F.fills_int_mul F.slot_int_rmul repeat_tuple
        F.slot_int_index.lookup (call_meets F.slot_int_rmul (typeIs_int s 0 t) F.entry_int_rmul
          (F.args_int_rmul_2 _ _) (int_rmul_tuple 0 t l its.toArray n dd sl) ⟨ho, rfl, ⟨_, ho, rfl⟩, ?_⟩)
      refine call_meets F.slot_tuple_mul ⟨_, ho, rfl⟩ F.entry_tuple_mul (F.args_tuple_mul_2 _ _) (mul0 l its.toArray n dd sl t hi) ⟨ho, ?_⟩
      have nw := I.hok.fresh (Nat.le_refl s.heap.objs.size)
      refine ⟨.ref s.heap.objs.size, _, I.laid (t' := s.toks) (o := .tup []) (fun b ob z => Heap.get?_push_of_some _ z) (Nat.le_refl _) ?_, rfl, q _ _ (fun b o z => by rw [upd_ne (ne_of_none z nw)]; exact z) upd_same⟩
      exact ⟨Nat.zero_le _, [], .nil, IsTup.new _ _⟩
    · refine wpAny_binaryOp_repeat_ref (T := "tuple") (U := "int") (by decide) ⟨_, ho, rfl⟩
        (fun s' => typeIs_int s' 1 t) noFill_tuple_mul F.fills_int_mul F.slot_int_rmul repeat_tuple
        F.slot_int_index.lookup (call_meets F.slot_int_rmul (typeIs_int s 1 t) F.entry_int_rmul
          (F.args_int_rmul_2 _ _) (int_rmul_tuple 1 t l its.toArray n dd sl) ⟨ho, rfl, ⟨_, ho, rfl⟩, ?_⟩)
      refine call_meets F.slot_tuple_mul ⟨_, ho, rfl⟩ F.entry_tuple_mul (F.args_tuple_mul_2 _ _) (mul1 l its.toArray n dd sl t) ⟨ho, ?_⟩
      exact ⟨.ref l, H, I, rfl, q l H (Same.refl H) (by rw [hT]; simp)⟩
  · exact op_repT pins s σ H _ _ v u Q I rx ry ⟨l, k, xs, rfl, rfl, SqT.of hT, hne, c, h2, hz, fun p np => q p _ (fun b o z => by rw [upd_ne (ne_of_none z np)]; exact z) upd_same⟩
def rRepZ : R2 := fun x y H Q => ∃ l k xs, x = .ref l ∧ y = .int k ∧ H l = some (.lst xs) ∧ 0 ≤ k ∧ k ≤ 1000 ∧ xs.length ≤ 1000 ∧ ∀ p, H p = none → p ≠ sysModules → Q (.ref p) (upd H p (.lst (List.replicate k.toNat xs).flatten))
theorem op_repZ : OpR X (binaryOp .Mult) rRepZ := by
  intro pins s σ H x y v u Q I rx ry h
  obtain ⟨l, k, xs, rfl, rfl, hL, h1, h2, hz, q⟩ := h
  have sz : xs.length * k.toNat ≤ sizeLine := Nat.le_trans (Nat.mul_le_mul hz (show k.toNat ≤ 1000 by omega)) (by decide)
  cases rx
  obtain ⟨t, rfl⟩ := ry
  obtain ⟨z, its, n, r, hl, e⟩ := I.lstM hL
  have w1 : its.toArray.size * k.toNat ≤ sizeLine := by rw [List.size_toArray, ← hl]; exact sz
  have w2 : ¬ its.toArray.size * k.toNat > (2 ^ 63 - 1) / 8 := fun y => by
    have : (sizeLine : Nat) ≤ (2 ^ 63 - 1) / 8 := by decide
    omega
  have w3 : ¬ (!Builtin.List.listFitsIndex k) = true := fun y => by
    rw [fitsIndex_both (by omega) (by omega)] at y
    cases y
  have w4 : ¬ Builtin.List.listTooLong (its.toArray.size * k.toNat) = true := fun y => by
    rw [notLongL w1] at y
    cases y
  have w5 : (List.replicate (if its.toArray.isEmpty = true then 0 else k.toNat) its.toArray).foldl (fun a b => a ++ b) #[] = (List.replicate k.toNat its).flatten.toArray := by
    cases its with
    | nil => simp
    | cons a r' =>
      rw [if_neg (by simp)]
      exact size_rep _ _
  refine wpAny_binaryOp_repeat_ref (T := "list") (U := "int") (by decide) ⟨_, e, rfl⟩
    (fun s' => typeIs_int s' k t) noFill_list_mul F.fills_int_mul F.slot_int_rmul repeat_list
    F.slot_int_index.lookup (call_meets F.slot_int_rmul (typeIs_int s k t) F.entry_int_rmul
      (F.args_int_rmul_2 _ _) (int___rmul___int_list k t l its.toArray n) ⟨e, rfl, ⟨_, e, rfl⟩, ?_⟩)
  refine call_meets F.slot_list_mul ⟨_, e, rfl⟩ F.entry_list_mul
    (F.args_list_mul_2 _ _) (AutoListH.list___mul___list_int_3 l its.toArray n k t w3 w2 w4) ⟨e, ?_⟩
  rw [w5]
  refine ⟨.ref _, _, I.lnew (t' := s.toks) (r.rep k.toNat) ?_, rfl, q _ I.fresh (Nat.ne_of_gt I.big)⟩
  rw [PyProof.Rows.lm_len_rep_flat, Nat.mul_comm]
  exact sz
end
end Xrp
set_option linter.all false
namespace P56
/-! ## rising rows -/
theorem lt_app : ∀ {a b : List Nat} (x y : List Nat), a.length = b.length → a < b → a ++ x < b ++ y
  | [], [], _, _, _, h => absurd h (List.lt_irrefl _)
  | [], _ :: _, _, _, e, _ => by simp at e
  | _ :: _, [], _, _, e, _ => by simp at e
  | a :: as, b :: bs, x, y, e, h => by
    rw [List.cons_append, List.cons_append, List.cons_lt_cons_iff]
    rw [List.cons_lt_cons_iff] at h
    rcases h with h | ⟨h1, h2⟩
    · exact .inl h
    · exact .inr ⟨h1, lt_app x y (by simpa using e) h2⟩
theorem lt_last : ∀ (d : List Nat) {k k' : Nat}, k < k' → d ++ [k] < d ++ [k']
  | [], _, _, h => by rw [List.nil_append, List.nil_append, List.cons_lt_cons_iff]; exact .inl h
  | x :: d, _, _, h => by
    rw [List.cons_append, List.cons_append, List.cons_lt_cons_iff]
    exact .inr ⟨rfl, lt_last d h⟩
/-- two strictly rising rows with the same members -/
theorem up_ext : ∀ {a b : List Nat}, a.Pairwise (· < ·) → b.Pairwise (· < ·) → (∀ k, k ∈ a ↔ k ∈ b) → a = b
  | [], [], _, _, _ => rfl
  | [], y :: b, _, _, h => absurd ((h y).2 List.mem_cons_self) (List.not_mem_nil)
  | x :: a, [], _, _, h => absurd ((h x).1 List.mem_cons_self) (List.not_mem_nil)
  | x :: a, y :: b, ha, hb, h => by
    rw [List.pairwise_cons] at ha hb
    have exy : x = y := by
      have h1 := (h x).1 List.mem_cons_self
      have h2 := (h y).2 List.mem_cons_self
      rw [List.mem_cons] at h1 h2
      rcases h1 with h1 | h1
      · exact h1
      · rcases h2 with h2 | h2
        · exact h2.symm
        · have := ha.1 _ h2; have := hb.1 _ h1; omega
    subst exy
    refine congrArg (x :: ·) (up_ext ha.2 hb.2 fun k => ⟨fun hk => ?_, fun hk => ?_⟩)
    · have := (h k).1 (List.mem_cons_of_mem _ hk)
      rw [List.mem_cons] at this
      rcases this with e | m
      · have := ha.1 _ hk; omega
      · exact m
    · have := (h k).2 (List.mem_cons_of_mem _ hk)
      rw [List.mem_cons] at this
      rcases this with e | m
      · have := hb.1 _ hk; omega
      · exact m
section
variable (held : List (List Int)) (ws : List Int)
def on (k : Nat) (w : Int) : Bool := decide (w ∈ held.getD k [])
def cov (c : List Nat) (w : Int) : Bool := c.any fun k => on held k w
/-- what the choice misses -/
def unc (c : List Nat) : List Int := ws.filter fun w => !cov held c w
def rest (h : List Int) (ms : List Int) : List Int := ms.filter fun w => !decide (w ∈ h)
def first (d : List Nat) : Nat := if 0 < d.length then d.getD (d.length - 1) 0 + 1 else 0
def step (p : List Nat × List Int) : List (List Nat × List Int) :=
  ((List.range' (first p.1) (held.length - first p.1)).map fun k => (p.1 ++ [k], rest (held.getD k []) p.2)).filter fun q => decide (q.2.length < p.2.length)
def level : Nat → List (List Nat × List Int)
  | 0 => [([], ws)]
  | n + 1 => (level n).flatMap (step held)
def hit (l : List (List Nat × List Int)) : Option (List Nat × List Int) := l.find? fun p => decide (p.2.length = 0)
def Up (c : List Nat) : Prop := c.Pairwise (· < ·) ∧ ∀ k ∈ c, k < held.length
def Covers (c : List Nat) : Prop := ∀ w ∈ ws, cov held c w = true
structure Least (c : List Nat) : Prop where
  up : Up held c
  cv : Covers held ws c
  le : ∀ c', Up held c' → Covers held ws c' → ¬ (c'.length < c.length ∨ (c'.length = c.length ∧ c' < c))
variable {held ws}
theorem unc_nil_iff {c : List Nat} : unc held ws c = [] ↔ Covers held ws c := by
  unfold unc Covers
  rw [List.filter_eq_nil_iff]
  exact ⟨fun h w hw => by simpa using h w hw, fun h w hw => by simp [h w hw]⟩
theorem rest_unc {c : List Nat} {k : Nat} : rest (held.getD k []) (unc held ws c) = unc held ws (c ++ [k]) := by
  unfold rest unc
  rw [List.filter_filter]
  refine List.filter_congr fun w _ => ?_
  unfold cov
  rw [List.any_append, List.any_cons, List.any_nil, Bool.or_false, Bool.not_or, Bool.and_comm]
  rfl
theorem first_le {d : List Nat} (h : d.Pairwise (· < ·)) {k : Nat} (hk : first d ≤ k) : ∀ x ∈ d, x < k := by
  intro x hx
  unfold first at hk
  obtain ⟨i, hi, rfl⟩ := List.mem_iff_getElem.1 hx
  have l0 : 0 < d.length := by omega
  rw [if_pos l0] at hk
  have e : d.getD (d.length - 1) 0 = d[d.length - 1] := by simp [List.getD_eq_getElem?_getD, show d.length - 1 < d.length by omega]
  rw [e] at hk
  by_cases c : i = d.length - 1
  · subst c; omega
  · have := List.pairwise_iff_getElem.1 h i (d.length - 1) hi (by omega) (by omega)
    omega
theorem le_first {d : List Nat} {k : Nat} (h : ∀ x ∈ d, x < k) : first d ≤ k := by
  unfold first
  split
  · rename_i l0
    have e : d.getD (d.length - 1) 0 = d[d.length - 1] := by simp [List.getD_eq_getElem?_getD, show d.length - 1 < d.length by omega]
    rw [e]
    exact h _ (List.getElem_mem _)
  · exact Nat.zero_le _
theorem mem_step {p q : List Nat × List Int} : q ∈ step held p ↔ ∃ k, first p.1 ≤ k ∧ k < held.length ∧ q = (p.1 ++ [k], rest (held.getD k []) p.2) ∧ q.2.length < p.2.length := by
  unfold step
  rw [List.mem_filter, List.mem_map]
  constructor
  · rintro ⟨⟨k, hk, rfl⟩, h⟩
    rw [List.mem_range'_1] at hk
    exact ⟨k, hk.1, by omega, rfl, by simpa using h⟩
  · rintro ⟨k, h1, h2, rfl, h⟩
    exact ⟨⟨k, List.mem_range'_1.2 (by omega), rfl⟩, by simpa using h⟩
theorem lev_ok : ∀ (i : Nat) (p : List Nat × List Int), p ∈ level held ws i → p.2 = unc held ws p.1 ∧ p.1.length = i ∧ Up held p.1
  | 0, p, h => by
    rw [level, List.mem_singleton] at h
    subst h
    refine ⟨?_, rfl, List.Pairwise.nil, fun k hk => absurd hk List.not_mem_nil⟩
    unfold unc
    exact (List.filter_eq_self.2 fun w _ => rfl).symm
  | i + 1, q, h => by
    rw [level, List.mem_flatMap] at h
    obtain ⟨p, hp, hq⟩ := h
    obtain ⟨e1, e2, e3⟩ := lev_ok i p hp
    obtain ⟨k, k1, k2, rfl, _⟩ := mem_step.1 hq
    refine ⟨?_, by simp [e2], ?_, ?_⟩
    · show rest (held.getD k []) p.2 = _
      rw [e1, rest_unc]
    · rw [List.pairwise_append]
      exact ⟨e3.1, List.pairwise_singleton _ _, fun a ha b hb => by rw [List.mem_singleton] at hb; subst hb; exact first_le e3.1 k1 a ha⟩
    · intro x hx
      rw [List.mem_append, List.mem_singleton] at hx
      rcases hx with hx | rfl
      · exact e3.2 x hx
      · exact k2
theorem step_sorted (p : List Nat × List Int) : (step held p).Pairwise fun a b => a.1 < b.1 := by
  unfold step
  refine List.Pairwise.filter _ ?_
  rw [List.pairwise_map]
  refine List.Pairwise.imp ?_ (List.pairwise_lt_range' (s := first p.1) (n := held.length - first p.1))
  intro a b h
  exact lt_last _ h
theorem lev_sorted : ∀ i : Nat, (level held ws i).Pairwise fun a b => a.1 < b.1
  | 0 => by rw [level]; exact List.pairwise_singleton _ _
  | i + 1 => by
    rw [level, List.flatMap, List.pairwise_flatten]
    refine ⟨fun l hl => ?_, ?_⟩
    · rw [List.mem_map] at hl
      obtain ⟨p, _, rfl⟩ := hl
      exact step_sorted p
    · rw [List.pairwise_map]
      refine List.Pairwise.imp_of_mem ?_ (lev_sorted i)
      intro a b ha hb h x hx y hy
      obtain ⟨k, _, _, rfl, _⟩ := mem_step.1 hx
      obtain ⟨k', _, _, rfl, _⟩ := mem_step.1 hy
      exact lt_app _ _ ((lev_ok i a ha).2.1.trans (lev_ok i b hb).2.1.symm) h
theorem lev_mem : ∀ (c : List Nat), Up held c → (∀ j, j < c.length → (unc held ws (c.take (j + 1))).length < (unc held ws (c.take j)).length) → (c, unc held ws c) ∈ level held ws c.length := by
  intro c
  generalize hn : c.length = n
  induction n generalizing c with
  | zero =>
    intro _ _
    have : c = [] := List.eq_nil_of_length_eq_zero hn
    subst this
    rw [level, List.mem_singleton]
    refine Prod.ext rfl ?_
    unfold unc
    exact List.filter_eq_self.2 fun w _ => rfl
  | succ n ih =>
    intro up th
    have hlt : n < c.length := by omega
    have ec : c = c.take n ++ [c[n]] := by
      rw [List.take_append_getElem, List.take_of_length_le (by omega)]
    have up' : Up held (c.take n) := ⟨up.1.sublist (List.take_sublist _ _), fun k hk => up.2 k (List.mem_of_mem_take hk)⟩
    have := ih (c.take n) (by rw [List.length_take]; omega) up' fun j hj => by
      have z := th j (by omega)
      rw [List.take_take, List.take_take, Nat.min_eq_left (by omega), Nat.min_eq_left (by omega)]
      exact z
    rw [level, List.mem_flatMap]
    refine ⟨_, this, mem_step.2 ⟨c[n], ?_, up.2 _ (List.getElem_mem _), ?_, ?_⟩⟩
    · refine le_first fun x hx => ?_
      have pw := up.1
      rw [ec, List.pairwise_append] at pw
      exact pw.2.2 x hx _ (List.mem_singleton.2 rfl)
    · show (c, unc held ws c) = (c.take n ++ [c[n]], rest (held.getD c[n] []) (unc held ws (c.take n)))
      rw [rest_unc, ← ec]
    · have z := th n (by omega)
      rw [List.take_of_length_le (by omega : c.length ≤ n + 1)] at z
      exact z
theorem Least.thrifty {c : List Nat} (h : Least held ws c) (j : Nat) (hj : j < c.length) : (unc held ws (c.take (j + 1))).length < (unc held ws (c.take j)).length := by
  refine Nat.lt_of_not_le fun hle => ?_
  have e : c.take (j + 1) = c.take j ++ [c[j]] := (List.take_append_getElem hj).symm
  rw [e, ← rest_unc] at hle
  have full : rest (held.getD c[j] []) (unc held ws (c.take j)) = unc held ws (c.take j) := by
    unfold rest
    refine List.Sublist.eq_of_length_le List.filter_sublist ?_
    exact hle
  have no : ∀ w ∈ unc held ws (c.take j), w ∉ held.getD c[j] [] := fun w hw => by
    rw [← full] at hw
    unfold rest at hw
    simpa using (List.mem_filter.1 hw).2
  refine h.le (c.eraseIdx j) ⟨h.up.1.sublist (List.eraseIdx_sublist _ _), fun k hk => h.up.2 k (List.mem_of_mem_eraseIdx hk)⟩ (fun w hw => ?_) (.inl ?_)
  · have hc := h.cv w hw
    unfold cov at hc ⊢
    rw [List.any_eq_true] at hc ⊢
    obtain ⟨k, hk, ok⟩ := hc
    have ce : c.eraseIdx j = c.take j ++ c.drop (j + 1) := List.eraseIdx_eq_take_drop_succ ..
    rw [ce]
    by_cases kj : k = c[j]
    · subst kj
      have nu : w ∉ unc held ws (c.take j) := fun hu => no w hu (by simpa [on] using ok)
      have cw : cov held (c.take j) w = true := by
        cases q : cov held (c.take j) w with
        | true => rfl
        | false => exact absurd (List.mem_filter.2 ⟨hw, by rw [q]; rfl⟩) nu
      unfold cov at cw
      rw [List.any_eq_true] at cw
      obtain ⟨k', hk', ok'⟩ := cw
      exact ⟨k', List.mem_append_left _ hk', ok'⟩
    · refine ⟨k, ?_, ok⟩
      have hc' : k ∈ c.take j ++ c[j] :: c.drop (j + 1) := by
        rw [← List.drop_eq_getElem_cons hj, List.take_append_drop]; exact hk
      rw [List.mem_append, List.mem_cons] at hc'
      rw [List.mem_append]
      rcases hc' with m | m | m
      · exact .inl m
      · exact absurd m kj
      · exact .inr m
  · rw [List.length_eraseIdx_of_lt hj]; omega
theorem Least.not_before {c : List Nat} (h : Least held ws c) {i : Nat} (hi : i < c.length) : hit (level held ws i) = none := by
  unfold hit
  rw [List.find?_eq_none]
  intro p hp z
  obtain ⟨e1, e2, e3⟩ := lev_ok i p hp
  have z' : p.2 = [] := List.eq_nil_of_length_eq_zero (by simpa using z)
  rw [e1, unc_nil_iff] at z'
  exact h.le p.1 e3 z' (.inl (by omega))
theorem Least.hits {c : List Nat} (h : Least held ws c) : hit (level held ws c.length) = some (c, []) := by
  have m := lev_mem c h.up h.thrifty
  have e0 : unc held ws c = [] := unc_nil_iff.2 h.cv
  rw [e0] at m
  cases q : hit (level held ws c.length) with
  | none =>
    unfold hit at q
    rw [List.find?_eq_none] at q
    exact absurd (by simp) (q _ m)
  | some p =>
    unfold hit at q
    rw [List.find?_eq_some_iff_append] at q
    obtain ⟨hp, as, bs, el, no⟩ := q
    have mp : p ∈ level held ws c.length := by rw [el]; simp
    obtain ⟨e1, e2, e3⟩ := lev_ok _ p mp
    have z' : p.2 = [] := List.eq_nil_of_length_eq_zero (by simpa using hp)
    have cvp : Covers held ws p.1 := by rw [e1, unc_nil_iff] at z'; exact z'
    have srt := lev_sorted (held := held) (ws := ws) c.length
    rw [el] at m srt
    rw [List.mem_append, List.mem_cons] at m
    rcases m with m | m | m
    · exact absurd (no _ m) (by simp)
    · rw [m]
    · rw [List.pairwise_append, List.pairwise_cons] at srt
      exact absurd (.inr ⟨e2, srt.2.1.1 _ m⟩) (h.le p.1 e3 cvp)
end
end P56
set_option linter.all false
namespace P56
/-! ## choices by codes -/
def choice (n code : Nat) : List Nat := (List.range n).filter fun k => code.testBit k
theorem choice_up (n code : Nat) : (choice n code).Pairwise (· < ·) := List.Pairwise.filter _ List.pairwise_lt_range
theorem mem_choice {n code k : Nat} : k ∈ choice n code ↔ k < n ∧ code.testBit k = true := by
  unfold choice
  rw [List.mem_filter, List.mem_range]
theorem choice_len (n code : Nat) : (choice n code).length ≤ n := by
  have := List.length_filter_le (fun k => code.testBit k) (List.range n)
  rw [List.length_range] at this
  exact this
def codeOf (c : List Nat) : Nat := c.foldr (fun k a => 2 ^ k ||| a) 0
theorem codeOf_bit : ∀ (c : List Nat) (j : Nat), (codeOf c).testBit j = decide (j ∈ c)
  | [], j => by simp [codeOf]
  | k :: c, j => by
    have e : codeOf (k :: c) = 2 ^ k ||| codeOf c := rfl
    rw [e, Nat.testBit_or, codeOf_bit c j, Nat.testBit_two_pow]
    by_cases h : k = j
    · simp [h]
    · simp [h, Ne.symm h]
theorem codeOf_lt {n : Nat} : ∀ (c : List Nat), (∀ k ∈ c, k < n) → codeOf c < 2 ^ n
  | [], _ => by simp [codeOf]; exact Nat.two_pow_pos n
  | k :: c, h => by
    have e : codeOf (k :: c) = 2 ^ k ||| codeOf c := rfl
    rw [e]
    exact Nat.or_lt_two_pow (Nat.pow_lt_pow_right (by decide) (h k List.mem_cons_self)) (codeOf_lt c fun j hj => h j (List.mem_cons_of_mem _ hj))
theorem choice_codeOf {n : Nat} {c : List Nat} (up : c.Pairwise (· < ·)) (h : ∀ k ∈ c, k < n) : choice n (codeOf c) = c := by
  refine up_ext (choice_up _ _) up fun k => ?_
  rw [mem_choice, codeOf_bit]
  simp only [decide_eq_true_eq]
  exact ⟨fun q => q.2, fun q => ⟨h k q, q⟩⟩
/-- the lowest bit taken away -/
theorem low_bit {code low : Nat} (h1 : code.testBit low = true) (h0 : ∀ j, j < low → code.testBit j = false) (j : Nat) : (code &&& (code - 1)).testBit j = (code.testBit j && decide (j ≠ low)) := by
  have m0 : code % 2 ^ low = 0 := by
    refine Nat.eq_of_testBit_eq fun i => ?_
    rw [Nat.testBit_mod_two_pow, Nat.zero_testBit]
    by_cases hi : i < low
    · rw [h0 i hi, Bool.and_false]
    · simp [hi]
  have q1 : (code / 2 ^ low) % 2 = 1 := by
    have := h1
    rw [Nat.testBit_eq_decide_div_mod_eq] at this
    exact of_decide_eq_true this
  have ec : code = 2 ^ (low + 1) * (code / 2 ^ low / 2) + 2 ^ low := by
    have a1 := Nat.div_add_mod code (2 ^ low)
    have a2 := Nat.div_add_mod (code / 2 ^ low) 2
    rw [m0] at a1
    rw [q1] at a2
    have a3 : code = 2 ^ low * (2 * (code / 2 ^ low / 2) + 1) := by rw [a2]; omega
    rw [Nat.mul_add, Nat.mul_one, ← Nat.mul_assoc, ← Nat.pow_succ] at a3
    exact a3
  have pp : 0 < 2 ^ low := Nat.two_pow_pos low
  have b1 : ∀ p, (2 ^ (low + 1) * p + 2 ^ low).testBit j = if j < low + 1 then decide (low = j) else p.testBit (j - (low + 1)) := fun p => by
    rw [Nat.testBit_two_pow_mul_add _ (Nat.pow_lt_pow_right (by decide) (Nat.lt_succ_self _)), Nat.testBit_two_pow]
  have b2 : ∀ p, (2 ^ (low + 1) * p + 2 ^ low - 1).testBit j = if j < low + 1 then decide (j < low) else p.testBit (j - (low + 1)) := fun p => by
    rw [show 2 ^ (low + 1) * p + 2 ^ low - 1 = 2 ^ (low + 1) * p + (2 ^ low - 1) by omega, Nat.testBit_two_pow_mul_add _ (by have := Nat.pow_lt_pow_right (a := 2) (by decide) (Nat.lt_succ_self low); omega), Nat.testBit_two_pow_sub_one]
  generalize code / 2 ^ low / 2 = p at ec
  subst ec
  rw [Nat.testBit_and, b1, b2]
  by_cases c1 : j < low + 1
  · simp only [c1, if_true]
    by_cases c2 : low = j
    · simp [c2]
    · simp [c2]
  · simp only [c1, if_false]
    have : j ≠ low := by omega
    simp [this]
theorem and_lt {code : Nat} (h : 0 < code) : code &&& (code - 1) < code := Nat.lt_of_le_of_lt Nat.and_le_right (by omega)
theorem choice_low {n code low : Nat} (hl : low < n) (h1 : code.testBit low = true) (h0 : ∀ j, j < low → code.testBit j = false) : choice n code = low :: choice n (code &&& (code - 1)) := by
  refine up_ext (choice_up _ _) ?_ fun k => ?_
  · rw [List.pairwise_cons]
    refine ⟨fun k hk => ?_, choice_up _ _⟩
    rw [mem_choice, low_bit h1 h0] at hk
    simp only [Bool.and_eq_true, decide_eq_true_eq] at hk
    rcases Nat.lt_trichotomy k low with q | q | q
    · rw [h0 k q] at hk; simp at hk
    · exact absurd q hk.2.2
    · exact q
  · rw [List.mem_cons, mem_choice, mem_choice, low_bit h1 h0]
    simp only [Bool.and_eq_true, decide_eq_true_eq]
    constructor
    · rintro ⟨a, b⟩
      by_cases e : k = low
      · exact .inl e
      · exact .inr ⟨a, b, e⟩
    · rintro (e | ⟨a, b, _⟩)
      · subst e; exact ⟨hl, h1⟩
      · exact ⟨a, b⟩
theorem choice_zero (n : Nat) : choice n 0 = [] := by
  unfold choice
  rw [List.filter_eq_nil_iff]
  simp
/-! ## what a disc, what a choice holds, by bits -/
section
variable (held : List (List Int)) (ws : List Int)
def bitsTo (k : Nat) : Nat → Nat
  | 0 => 0
  | m + 1 => bitsTo k m + if on held k (ws.getD m 0) = true then 2 ^ m else 0
variable {held ws}
theorem bitsTo_lt (k : Nat) : ∀ m, bitsTo held ws k m < 2 ^ m
  | 0 => by simp [bitsTo]
  | m + 1 => by
    have := bitsTo_lt k m
    rw [bitsTo, Nat.pow_succ]
    split <;> omega
theorem bitsTo_bit (k : Nat) : ∀ m j, (bitsTo held ws k m).testBit j = (decide (j < m) && on held k (ws.getD j 0))
  | 0, j => by simp [bitsTo]
  | m + 1, j => by
    have lt := bitsTo_lt (held := held) (ws := ws) k m
    have ih := bitsTo_bit k m j
    rw [bitsTo]
    cases o : on held k (ws.getD m 0) with
    | true =>
      rw [if_pos rfl, Nat.add_comm, show 2 ^ m + bitsTo held ws k m = 2 ^ m * 1 + bitsTo held ws k m by omega, Nat.testBit_two_pow_mul_add _ lt]
      by_cases c1 : j < m
      · rw [if_pos c1, ih]
        simp [c1, Nat.lt_succ_of_lt c1]
      · rw [if_neg c1]
        by_cases c2 : j = m
        · subst c2
          simp [o]
          rw [List.getD_eq_getElem?_getD] at o
          exact o
        · have : ¬ j < m + 1 := by omega
          rw [Nat.testBit_eq_decide_div_mod_eq, show (1 : Nat) / 2 ^ (j - m) = 0 from Nat.div_eq_of_lt (by have := Nat.pow_lt_pow_right (a := 2) (by decide) (show 0 < j - m by omega); omega)]
          simp [this]
    | false =>
      rw [if_neg Bool.false_ne_true, Nat.add_zero, ih]
      by_cases c1 : j < m
      · simp [c1, Nat.lt_succ_of_lt c1]
      · by_cases c2 : j = m
        · subst c2
          simp
          rw [List.getD_eq_getElem?_getD] at o
          exact o
        · have : ¬ j < m + 1 := by omega
          simp [c1, this]
variable (held ws)
def bits (k : Nat) : Nat := bitsTo held ws k ws.length
def told (c : List Nat) : Nat := c.foldr (fun k a => a ||| bits held ws k) 0
variable {held ws}
theorem told_bit (j : Nat) (hj : j < ws.length) : ∀ c, (told held ws c).testBit j = cov held c (ws.getD j 0)
  | [] => by simp [told, cov]
  | k :: c => by
    have e : told held ws (k :: c) = told held ws c ||| bits held ws k := rfl
    rw [e, Nat.testBit_or, told_bit j hj c]
    unfold bits
    rw [bitsTo_bit]
    unfold cov
    rw [List.any_cons, Bool.or_comm]
    simp [hj]
theorem told_lt : ∀ c, told held ws c < 2 ^ ws.length
  | [] => by simp [told]; exact Nat.two_pow_pos _
  | k :: c => by
    have e : told held ws (k :: c) = told held ws c ||| bits held ws k := rfl
    rw [e]
    exact Nat.or_lt_two_pow (told_lt c) (bitsTo_lt k _)
theorem told_full {c : List Nat} : told held ws c = 2 ^ ws.length - 1 ↔ Covers held ws c := by
  constructor
  · intro e w hw
    obtain ⟨j, hj, rfl⟩ := List.mem_iff_getElem.1 hw
    have := told_bit (held := held) (ws := ws) j hj c
    rw [e, Nat.testBit_two_pow_sub_one] at this
    have z : ws.getD j 0 = ws[j] := by simp [List.getD_eq_getElem?_getD, hj]
    rw [z] at this
    rw [← this]
    simpa using hj
  · intro h
    refine Nat.eq_of_testBit_eq fun j => ?_
    rw [Nat.testBit_two_pow_sub_one]
    by_cases hj : j < ws.length
    · rw [told_bit j hj, h]
      · simp [hj]
      · have z : ws.getD j 0 = ws[j] := by simp [List.getD_eq_getElem?_getD, hj]
        rw [z]; exact List.getElem_mem _
    · rw [Nat.testBit_lt_two_pow (Nat.lt_of_lt_of_le (told_lt c) (Nat.pow_le_pow_right (by decide) (by omega)))]
      simp [hj]
theorem told_low {n code low : Nat} (hl : low < n) (h1 : code.testBit low = true) (h0 : ∀ j, j < low → code.testBit j = false) :
    told held ws (choice n code) = told held ws (choice n (code &&& (code - 1))) ||| bits held ws low := by
  rw [choice_low hl h1 h0]
  rfl
end
/-! ## the least of all choices -/
abbrev Pr := Int × List Int
def prLt (p q : Pr) : Bool := decide (p.1 < q.1 ∨ (p.1 = q.1 ∧ p.2 < q.2))
def toI (c : List Nat) : List Int := c.map fun (k : Nat) => (k : Int)
def prOf (c : List Nat) : Pr := ((c.length : Int), toI c)
theorem toI_lt : ∀ a b : List Nat, toI a < toI b ↔ a < b
  | [], [] => by simp [toI, List.lt_irrefl]
  | [], b :: bs => by simp [toI]
  | a :: as, [] => by simp [toI]
  | a :: as, b :: bs => by
    have ih := toI_lt as bs
    unfold toI at ih ⊢
    rw [List.map_cons, List.map_cons, List.cons_lt_cons_iff, List.cons_lt_cons_iff, ih, Int.ofNat_lt, Int.ofNat_inj]
theorem prLt_of (a b : List Nat) : prLt (prOf a) (prOf b) = decide (a.length < b.length ∨ (a.length = b.length ∧ a < b)) := by
  unfold prLt prOf
  simp only [toI_lt, Int.ofNat_lt, Int.ofNat_inj]
theorem prLt_trans {p q r : Pr} (h1 : prLt p q = true) (h2 : prLt q r = true) : prLt p r = true := by
  unfold prLt at *
  simp only [decide_eq_true_eq] at *
  rcases h1 with h1 | ⟨e1, l1⟩ <;> rcases h2 with h2 | ⟨e2, l2⟩
  · left; omega
  · left; omega
  · left; omega
  · right; exact ⟨e1.trans e2, List.lt_trans l1 l2⟩
section
variable (held : List (List Int)) (ws : List Int)
/-- what stands behind the codes below t -/
def Bst (t : Nat) : Option Pr → Prop
  | none => ∀ code, code < t → ¬ Covers held ws (choice held.length code)
  | some p => ∃ code, code < t ∧ Covers held ws (choice held.length code) ∧ p = prOf (choice held.length code) ∧ ∀ c', c' < t → Covers held ws (choice held.length c') → prLt (prOf (choice held.length c')) p = false
variable {held ws}
theorem Bst.zero : Bst held ws 0 none := fun _ h => absurd h (Nat.not_lt_zero _)
theorem Bst.skip {t : Nat} {o : Option Pr} (h : Bst held ws t o) (n : ¬ Covers held ws (choice held.length t)) : Bst held ws (t + 1) o := by
  cases o with
  | none =>
    intro code hc
    by_cases e : code = t
    · subst e; exact n
    · exact h code (by omega)
  | some p =>
    obtain ⟨code, h1, h2, h3, h4⟩ := h
    refine ⟨code, by omega, h2, h3, fun c' hc' cv => ?_⟩
    by_cases e : c' = t
    · subst e; exact absurd cv n
    · exact h4 c' (by omega) cv
def nxt (o : Option Pr) (q : Pr) : Pr := if prLt q (o.getD (99, [])) = true then q else o.getD (99, [])
theorem Bst.take {t : Nat} {o : Option Pr} (h : Bst held ws t o) (hl : held.length < 99) (cv : Covers held ws (choice held.length t)) : Bst held ws (t + 1) (some (nxt o (prOf (choice held.length t)))) := by
  have irr : ∀ p : Pr, prLt p p = false := fun p => by unfold prLt; simp [List.lt_irrefl]
  cases o with
  | none =>
    have lt : prLt (prOf (choice held.length t)) ((none : Option Pr).getD (99, [])) = true := by
      have := choice_len held.length t
      unfold prLt prOf
      simp
      omega
    unfold nxt
    rw [if_pos lt]
    refine ⟨t, by omega, cv, rfl, fun c' hc' cv' => ?_⟩
    by_cases e : c' = t
    · subst e; exact irr _
    · exact absurd cv' (h c' (by omega))
  | some p =>
    obtain ⟨code, h1, h2, h3, h4⟩ := h
    have e0 : (some p).getD ((99, []) : Pr) = p := rfl
    unfold nxt
    rw [e0]
    cases c : prLt (prOf (choice held.length t)) p with
    | true =>
      rw [if_pos rfl]
      refine ⟨t, by omega, cv, rfl, fun c' hc' cv' => ?_⟩
      by_cases e : c' = t
      · subst e; exact irr _
      · cases q : prLt (prOf (choice held.length c')) (prOf (choice held.length t)) with
        | false => rfl
        | true => rw [← h4 c' (by omega) cv', prLt_trans q c]
    | false =>
      rw [if_neg Bool.false_ne_true]
      refine ⟨code, by omega, h2, h3, fun c' hc' cv' => ?_⟩
      by_cases e : c' = t
      · subst e; exact c
      · exact h4 c' (by omega) cv'
/-- behind all codes: the least choice that holds all -/
theorem Bst.end_ {o : Option Pr} (h : Bst held ws (2 ^ held.length) o) (all : ∀ w ∈ ws, ∃ k, k < held.length ∧ on held k w = true) : ∃ c, Least held ws c ∧ o = some (prOf c) := by
  cases o with
  | none =>
    have fl : ∀ k, k < held.length → (2 ^ held.length - 1).testBit k = true := fun k hk => by rw [Nat.testBit_two_pow_sub_one]; simpa using hk
    refine absurd ?_ (h (2 ^ held.length - 1) (by have := Nat.two_pow_pos held.length; omega))
    intro w hw
    obtain ⟨k, hk, ok⟩ := all w hw
    unfold cov
    rw [List.any_eq_true]
    exact ⟨k, mem_choice.2 ⟨hk, fl k hk⟩, ok⟩
  | some p =>
    obtain ⟨code, h1, h2, h3, h4⟩ := h
    refine ⟨choice held.length code, ⟨⟨choice_up _ _, fun k hk => (mem_choice.1 hk).1⟩, h2, fun c' up cv lt => ?_⟩, by rw [h3]⟩
    have e := choice_codeOf up.1 up.2
    have := h4 (codeOf c') (codeOf_lt c' up.2) (by rw [e]; exact cv)
    rw [e, h3, prLt_of] at this
    exact absurd lt (by simpa using this)
end
end P56
set_option linter.all false
namespace P56
section
variable {held : List (List Int)} {ws : List Int}
theorem first_snoc (d : List Nat) (k : Nat) : first (d ++ [k]) = k + 1 := by
  unfold first
  simp
def wt (n : Nat) (p : List Nat × List Int) : Nat := 2 ^ (n - first p.1)
theorem wt_sum (n f : Nat) : ∀ m, f + m ≤ n → ((List.range' f m).map fun k => 2 ^ (n - (k + 1))).sum + 2 ^ (n - (f + m)) ≤ 2 ^ (n - f)
  | 0, _ => by simp
  | m + 1, h => by
    have ih := wt_sum n f m (by omega)
    rw [List.range'_concat, List.map_append, List.sum_append, Nat.one_mul]
    have e : n - (f + m) = n - (f + m + 1) + 1 := by omega
    rw [e, Nat.pow_succ] at ih
    simp only [List.map_cons, List.map_nil, List.sum_cons, List.sum_nil]
    have e2 : f + (m + 1) = f + m + 1 := by omega
    rw [e2]
    omega
theorem sum_filter_le {α : Type} (g : α → Nat) (q : α → Bool) : ∀ l : List α, ((l.filter q).map g).sum ≤ (l.map g).sum
  | [] => Nat.le_refl _
  | x :: r => by
    have ih := sum_filter_le g q r
    rw [List.filter_cons]
    split
    · simp only [List.map_cons, List.sum_cons]; omega
    · simp only [List.map_cons, List.sum_cons]; omega
theorem step_wt (p : List Nat × List Int) : ((step held p).map (wt held.length)).sum ≤ wt held.length p := by
  unfold step
  refine Nat.le_trans (sum_filter_le _ _ _) ?_
  rw [List.map_map]
  have e : (wt held.length ∘ fun k => (p.1 ++ [k], rest (held.getD k []) p.2)) = fun k => 2 ^ (held.length - (k + 1)) := by
    funext k
    show 2 ^ (held.length - first (p.1 ++ [k])) = _
    rw [first_snoc]
  rw [e]
  by_cases h : first p.1 ≤ held.length
  · have := wt_sum held.length (first p.1) (held.length - first p.1) (by omega)
    exact Nat.le_trans (Nat.le_add_right _ _) this
  · rw [show held.length - first p.1 = 0 by omega]
    simp
theorem sum_flat {α β : Type} (g : β → Nat) (u : α → List β) (v : α → Nat) (h : ∀ x, ((u x).map g).sum ≤ v x) : ∀ l : List α, ((l.flatMap u).map g).sum ≤ (l.map v).sum
  | [] => Nat.le_refl _
  | x :: r => by
    have ih := sum_flat g u v h r
    have := h x
    rw [List.flatMap_cons, List.map_append, List.sum_append]
    simp only [List.map_cons, List.sum_cons]
    omega
theorem lev_wt : ∀ i, ((level held ws i).map (wt held.length)).sum ≤ 2 ^ held.length
  | 0 => by simp [level, wt, first]
  | i + 1 => by
    rw [level]
    exact Nat.le_trans (sum_flat _ _ _ step_wt _) (lev_wt i)
theorem len_le_sum {α : Type} (g : α → Nat) (h : ∀ x, 1 ≤ g x) : ∀ l : List α, l.length ≤ (l.map g).sum
  | [] => Nat.le_refl _
  | x :: r => by
    have ih := len_le_sum g h r
    have := h x
    simp only [List.length_cons, List.map_cons, List.sum_cons]
    omega
theorem lev_len (i : Nat) : (level held ws i).length ≤ 2 ^ held.length := Nat.le_trans (len_le_sum (wt held.length) (fun _ => Nat.two_pow_pos _) _) (lev_wt i)
theorem bst_ex (hl : held.length < 99) : ∀ t, ∃ o, Bst held ws t o
  | 0 => ⟨none, Bst.zero⟩
  | t + 1 => by
    obtain ⟨o, h⟩ := bst_ex hl t
    by_cases c : Covers held ws (choice held.length t)
    · exact ⟨_, h.take hl c⟩
    · exact ⟨o, h.skip c⟩
theorem least_ex (hl : held.length < 99) (all : ∀ w ∈ ws, ∃ k, k < held.length ∧ on held k w = true) : ∃ c, Least held ws c := by
  obtain ⟨o, h⟩ := bst_ex (held := held) (ws := ws) hl (2 ^ held.length)
  obtain ⟨c, hc, _⟩ := h.end_ all
  exact ⟨c, hc⟩
theorem Least.uniq {c c' : List Nat} (h : Least held ws c) (h' : Least held ws c') : c = c' := by
  have e : c.length = c'.length := by
    have a := h.le c' h'.up h'.cv
    have b := h'.le c h.up h.cv
    omega
  have a := h.hits
  rw [e, h'.hits] at a
  exact (congrArg Prod.fst (Option.some.inj a)).symm
theorem Least.len {c : List Nat} (h : Least held ws c) : c.length ≤ held.length := by
  rw [← choice_codeOf h.up.1 h.up.2]
  exact choice_len _ _
theorem lev_first {i : Nat} {p : List Nat × List Int} (h : p ∈ level held ws i) : first p.1 ≤ held.length ∧ p.1.length ≤ held.length ∧ p.2.length ≤ ws.length := by
  obtain ⟨e1, e2, e3⟩ := lev_ok i p h
  refine ⟨le_first e3.2, ?_, ?_⟩
  · rw [← choice_codeOf e3.1 e3.2]
    exact choice_len _ _
  · rw [e1]
    exact List.length_filter_le _ _
def none_holds (held : List (List Int)) (w : Int) : Bool := (List.range held.length).all fun k => !on held k w
def lack (held : List (List Int)) (ws : List Int) : Option Int := ws.find? (none_holds held)
theorem lack_none (h : lack held ws = none) : ∀ w ∈ ws, ∃ k, k < held.length ∧ on held k w = true := by
  intro w hw
  unfold lack at h
  rw [List.find?_eq_none] at h
  have z := h w hw
  unfold none_holds at z
  simp only [List.all_eq_true, List.mem_range, Bool.not_eq_true', Classical.not_forall] at z
  obtain ⟨k, hk, ok⟩ := z
  exact ⟨k, hk, by simpa using ok⟩
end
end P56
set_option linter.all false
set_option maxRecDepth 100000
/-! books: what a right one is, and that there is one -/
namespace P56
variable {held : List (List Int)} {ws ms : List Int} {n : Nat}
/-- the discs that hold w -/
def hold (held : List (List Int)) (w : Int) : List Nat := (List.range held.length).filter fun k => on held k w
theorem mem_hold {w : Int} {k : Nat} : k ∈ hold held w ↔ k < held.length ∧ on held k w = true := by
  unfold hold
  rw [List.mem_filter, List.mem_range]
theorem hold_len (w : Int) : (hold held w).length ≤ held.length := by
  unfold hold
  exact Nat.le_trans (List.length_filter_le _ _) (by simp)
/-- no so many discs hold all -/
def NoN (held : List (List Int)) (ms : List Int) (n : Nat) : Prop := ∀ c : List Nat, (∀ k ∈ c, k < held.length) → c.length ≤ n → ¬ Covers held ms c
theorem NoN.ne (h : NoN held ms n) : ms ≠ [] := fun e => h [] (by simp) (Nat.zero_le _) (by subst e; intro w hw; cases hw)
theorem NoN.less (h : NoN held ms (n + 1)) {k : Nat} (hk : k < held.length) : NoN held (rest (held.getD k []) ms) n := by
  intro c hc hl cv
  refine h (k :: c) (fun x hx => ?_) (Nat.succ_le_succ hl) fun w hw => ?_
  · rcases List.mem_cons.mp hx with rfl | hx
    · exact hk
    · exact hc x hx
  · unfold cov
    rw [List.any_cons]
    by_cases e : w ∈ held.getD k []
    · simp only [on, e, decide_true, Bool.true_or]
    · have := cv w (by unfold rest; rw [List.mem_filter]; exact ⟨hw, by simp only [e, decide_false, Bool.not_false]⟩)
      unfold cov at this
      rw [this, Bool.or_true]
theorem few_in : ∀ (l : List Nat), l.Nodup → ∀ c : List Nat, (l.filter fun x => decide (x ∈ c)).length ≤ c.length := by
  have one : ∀ (a : Nat) (l : List Nat), l.Nodup → (l.filter fun x => decide (x = a)).length ≤ 1 := by
    intro a l
    induction l with
    | nil => intro _; simp
    | cons x l ih =>
      intro nd
      have nd' := List.nodup_cons.mp nd
      by_cases e : x = a
      · have : (l.filter fun x => decide (x = a)) = [] := by
          rw [List.filter_eq_nil_iff]
          intro y hy z
          have z : y = a := of_decide_eq_true z
          exact nd'.1 (by rw [e, ← z]; exact hy)
        rw [List.filter_cons, if_pos (by simpa using e), List.length_cons, this]
        exact Nat.le_refl _
      · rw [List.filter_cons, if_neg (by simpa using e)]
        exact ih nd'.2
  have both : ∀ (p q : Nat → Bool) (l : List Nat), (l.filter fun x => p x || q x).length ≤ (l.filter p).length + (l.filter q).length := by
    intro p q l
    induction l with
    | nil => simp
    | cons x l ih =>
      rw [List.filter_cons, List.filter_cons, List.filter_cons]
      cases p x <;> cases q x <;> simp <;> omega
  intro l nd c
  induction c with
  | nil => simp
  | cons a c ih =>
    have e : (l.filter fun x => decide (x ∈ a :: c)) = l.filter fun x => decide (x = a) || decide (x ∈ c) := by
      congr 1
      funext x
      simp
    rw [e, List.length_cons]
    have := both (fun x => decide (x = a)) (fun x => decide (x ∈ c)) l
    have := one a l nd
    omega
theorem noN_least {c : List Nat} (h : Least held ws c) {m : Nat} (hm : m < c.length) : NoN held ws m := by
  intro d hd hl cv
  have nd : (List.range held.length).Nodup := List.nodup_range
  refine h.le ((List.range held.length).filter fun x => decide (x ∈ d)) ⟨List.Pairwise.filter _ List.pairwise_lt_range, fun k hk => List.mem_range.mp (List.mem_filter.mp hk).1⟩ (fun w hw => ?_) (.inl (Nat.lt_of_le_of_lt (few_in _ nd d) (Nat.lt_of_le_of_lt hl hm)))
  have := cv w hw
  unfold cov at this ⊢
  rw [List.any_eq_true] at this ⊢
  obtain ⟨k, hk, e⟩ := this
  exact ⟨k, List.mem_filter.mpr ⟨List.mem_range.mpr (hd k hk), decide_eq_true hk⟩, e⟩
theorem lack_no {w : Int} (h : lack held ws = some w) {c : List Nat} (hc : ∀ k ∈ c, k < held.length) : ¬ Covers held ws c := by
  intro cv
  have hw : w ∈ ws := List.mem_of_find?_eq_some h
  have hn : none_holds held w = true := List.find?_some h
  have := cv w hw
  unfold cov at this
  rw [List.any_eq_true] at this
  obtain ⟨k, hk, e⟩ := this
  unfold none_holds at hn
  rw [List.all_eq_true] at hn
  have := hn k (List.mem_range.mpr (hc k hk))
  rw [e] at this
  cases this
theorem noN_lack {w : Int} (h : lack held ws = some w) (m : Nat) : NoN held ws m := fun c hc _ => lack_no h hc
theorem bst_lack {w : Int} (h : lack held ws = some w) {t : Nat} : ∀ {o : Option Pr}, Bst held ws t o → o = none
  | none, _ => rfl
  | some p, hb => by
    obtain ⟨code, _, cv, _⟩ := hb
    exact absurd cv (lack_no h fun k hk => (mem_choice.mp hk).1)
end P56
set_option linter.all false
set_option maxRecDepth 100000
/-! books: what is asked of a thing of any kind, clause by clause -/
namespace P56
open PySem
variable {hs : List (List Int)} {ws ms : List Int} {n : Nat}
def num : PyData → Int
  | .int i => i
  | _ => 0
/-- a whole number among these -/
def mis (ms : List Int) : PyData → Bool
  | .int g => decide (g ∈ ms)
  | _ => false
theorem mis_int {d : PyData} (h : mis ms d = true) : ∃ g, d = .int g ∧ g ∈ ms := by
  cases d with
  | int g => exact ⟨g, rfl, of_decide_eq_true h⟩
  | _ => cases h
def bsR (ns : List Int) : List Bool := (List.range (ns.length - 1)).map fun i => decide (ns.getD i 0 < ns.getD (i + 1) 0)
def ris (ns : List Int) : Bool := (bsR ns).all id
theorem bsR_at {ns : List Int} {i : Nat} {x y : Int} (e1 : ns[i]? = some x) (e2 : (ns.drop 1)[i]? = some y) : (bsR ns)[i]? = some (decide (x < y)) := by
  rw [List.getElem?_drop, Nat.add_comm] at e2
  have h2 := (List.getElem?_eq_some_iff.mp e2).1
  unfold bsR
  rw [List.getElem?_map, List.getElem?_range (by omega)]
  simp [List.getD_eq_getElem?_getD, e1, e2]
theorem ris_step {ns : List Int} (h : ris ns = true) {i : Nat} (hi : i + 1 < ns.length) : ns[i]'(by omega) < ns[i + 1] := by
  unfold ris at h
  rw [List.all_eq_true] at h
  have := h (decide (ns.getD i 0 < ns.getD (i + 1) 0)) (by unfold bsR; exact List.mem_map.mpr ⟨i, List.mem_range.mpr (by omega), rfl⟩)
  simpa [List.getD_eq_getElem?_getD, List.getElem?_eq_getElem hi, List.getElem?_eq_getElem (show i < ns.length by omega)] using this
theorem ris_iff {ns : List Int} : ris ns = true ↔ ns.Pairwise (· < ·) := by
  refine ⟨fun h => ?_, fun h => ?_⟩
  · rw [List.pairwise_iff_getElem]
    intro i j hi hj hij
    induction j with
    | zero => omega
    | succ j ih =>
      have s := ris_step h (i := j) hj
      rcases Nat.lt_or_ge i j with c | c
      · exact Int.lt_trans (ih (by omega) c) s
      · obtain rfl : i = j := by omega
        exact s
  · unfold ris bsR
    rw [List.all_eq_true]
    intro b hb
    obtain ⟨i, hi, rfl⟩ := List.mem_map.mp hb
    have hi := List.mem_range.mp hi
    have h0 : i < ns.length := by omega
    have h1 : i + 1 < ns.length := by omega
    have := List.pairwise_iff_getElem.mp h i (i + 1) h0 h1 (Nat.lt_succ_self i)
    simpa [List.getD_eq_getElem?_getD, List.getElem?_eq_getElem h0, List.getElem?_eq_getElem h1] using this
/-- no disc holds two of them -/
def shr (hs : List (List Int)) (ns : List Int) : Bool := hs.all fun gs => decide ((ns.filter fun g => decide (g ∈ gs)).length < 2)
theorem two_iff {gs : List Int} : ∀ {ns : List Int}, (ns.filter fun g => decide (g ∈ gs)).length < 2 ↔ ns.Pairwise fun a b => ¬ (a ∈ gs ∧ b ∈ gs)
  | [] => by simp
  | x :: r => by
    have ih := two_iff (gs := gs) (ns := r)
    rw [List.pairwise_cons, List.filter_cons]
    by_cases c : x ∈ gs
    · rw [if_pos (by simpa using c), List.length_cons]
      refine ⟨fun h => ⟨fun b hb ⟨_, h2⟩ => ?_, ih.mp (by omega)⟩, fun ⟨h1, h2⟩ => ?_⟩
      · have : 0 < (r.filter fun g => decide (g ∈ gs)).length := List.length_pos_of_mem (a := b) (List.mem_filter.mpr ⟨hb, by simpa using h2⟩)
        omega
      · have : (r.filter fun g => decide (g ∈ gs)) = [] := by
          rw [List.filter_eq_nil_iff]
          intro b hb h
          exact h1 b hb ⟨c, by simpa using h⟩
        rw [this]
        simp
    · rw [if_neg (by simpa using c)]
      exact ⟨fun h => ⟨fun b _ ⟨h1, _⟩ => c h1, ih.mp h⟩, fun h => ih.mpr h.2⟩
def som (hs : List (List Int)) (ms : List Int) (n : Nat) : PyData → Bool
  | .tuple ds => ds.all (mis ms) && (ris (ds.map num) && (decide (n < ds.length) && shr hs (ds.map num)))
  | _ => false
def endB (hs : List (List Int)) (ms : List Int) (n : Nat) (x : Str) (w : PyData) : Bool := if x = "left" then decide (n = 0) && mis ms w else decide (x = "apart") && som hs ms n w
def tkB (hs : List (List Int)) (rc : List Int → PyData → Bool) (ms : List Int) (w bs : PyData) : Bool := mis ms w && match bs with
  | .tuple us => decide (us.length = (hold hs (num w)).length) && ((hold hs (num w)).zip us).all fun p => rc (rest (hs.getD p.1 []) ms) p.2
  | _ => false
def ibk (hs : List (List Int)) : Nat → List Int → PyData → Bool
  | 0, ms, d => match d with
    | .tuple [.str x, w] => endB hs ms 0 x w
    | _ => false
  | n + 1, ms, d => match d with
    | .tuple [.str x, w] => endB hs ms (n + 1) x w
    | .tuple [.str x, w, bs] => decide (x = "take") && tkB hs (ibk hs n) ms w bs
    | _ => false
/-- the tuples of a thing, one in another, are not too long -/
def Wd : Nat → PyData → Prop
  | 0, d => match d with
    | .tuple _ => False
    | _ => True
  | k + 1, d => match d with
    | .tuple ds => ds.length ≤ 1000 ∧ ∀ e ∈ ds, Wd k e
    | _ => True
theorem Wd.of {k : Nat} {ds : List PyData} (h : Wd k (.tuple ds)) : ds.length ≤ 1000 ∧ ∀ e ∈ ds, ∃ j, Wd j e := by
  cases k with
  | zero => exact h.elim
  | succ k => exact ⟨h.1, fun e he => ⟨k, h.2 e he⟩⟩
end P56
set_option linter.all false
set_option maxRecDepth 100000
/-! books made by hand: their shape, that they are right, that they show what they say -/
namespace P56
open PySem
inductive Al2 (R : Nat → PyData → Prop) : List Nat → List PyData → Prop
  | nil : Al2 R [] []
  | cons {k : Nat} {d : PyData} {ks : List Nat} {ds : List PyData} (h : R k d) (r : Al2 R ks ds) : Al2 R (k :: ks) (d :: ds)
section
variable {R S : Nat → PyData → Prop} {ks : List Nat} {ds : List PyData}
theorem Al2.len (h : Al2 R ks ds) : ds.length = ks.length := by
  induction h with
  | nil => rfl
  | cons _ _ ih => rw [List.length_cons, List.length_cons, ih]
theorem Al2.snoc (h : Al2 R ks ds) {k : Nat} {d : PyData} (q : R k d) : Al2 R (ks ++ [k]) (ds ++ [d]) := by
  induction h with
  | nil => exact .cons q .nil
  | cons h _ ih => exact .cons h ih
theorem Al2.mem (h : Al2 R ks ds) {d : PyData} (m : d ∈ ds) : ∃ k ∈ ks, R k d := by
  induction h with
  | nil => cases m
  | @cons k d' ks ds h r ih =>
    rcases List.mem_cons.mp m with z | z
    · subst z; exact ⟨k, List.mem_cons_self, h⟩
    · obtain ⟨k', h1, h2⟩ := ih z
      exact ⟨k', List.mem_cons_of_mem _ h1, h2⟩
theorem Al2.memL (h : Al2 R ks ds) {k : Nat} (m : k ∈ ks) : ∃ d ∈ ds, R k d := by
  induction h with
  | nil => cases m
  | @cons k' d' ks ds h r ih =>
    rcases List.mem_cons.mp m with z | z
    · subst z; exact ⟨d', List.mem_cons_self, h⟩
    · obtain ⟨d, h1, h2⟩ := ih z
      exact ⟨d, List.mem_cons_of_mem _ h1, h2⟩
theorem Al2.zip (h : Al2 R ks ds) : ∀ p ∈ ks.zip ds, R p.1 p.2 := by
  induction h with
  | nil => intro p hp; cases hp
  | cons h _ ih =>
    intro p hp
    rcases List.mem_cons.mp hp with z | z
    · subst z; exact h
    · exact ih p z
end
def OB (hs : List (List Int)) : Nat → List Int → PyData → Prop
  | 0, ms, d => ∃ g ∈ ms, d = .tuple [.str "left", .int g]
  | n + 1, ms, d => (∃ ns : List Int, ns.Sublist ms ∧ n + 1 < ns.length ∧ shr hs ns = true ∧ d = .tuple [.str "apart", .tuple (ns.map .int)]) ∨
    ∃ g ∈ ms, ∃ us : List PyData, d = .tuple [.str "take", .int g, .tuple us] ∧ Al2 (fun k u => OB hs n (rest (hs.getD k []) ms) u) (hold hs g) us
variable {hs : List (List Int)}
theorem rest_up {gs ms : List Int} (h : ms.Pairwise (· < ·)) : (rest gs ms).Pairwise (· < ·) := h.sublist List.filter_sublist
theorem rest_len {gs ms : List Int} : (rest gs ms).length ≤ ms.length := List.length_filter_le _ _
theorem ob_ibk : ∀ {n : Nat} {ms : List Int} {d : PyData}, ms.Pairwise (· < ·) → OB hs n ms d → ibk hs n ms d = true
  | 0, ms, d, up, h => by
    obtain ⟨g, hg, rfl⟩ := h
    simp [ibk, endB, mis, hg]
  | n + 1, ms, d, up, h => by
    rcases h with ⟨ns, sub, ln, sh, rfl⟩ | ⟨g, hg, us, rfl, al⟩
    · have e1 : (ns.map PyData.int).map num = ns := by rw [List.map_map]; exact List.map_id _
      have e2 : (ns.map PyData.int).all (mis ms) = true := by
        rw [List.all_eq_true]
        intro d hd
        obtain ⟨g, hg, rfl⟩ := List.mem_map.mp hd
        exact decide_eq_true (sub.subset hg)
      have e3 : ris ns = true := ris_iff.mpr (up.sublist sub)
      show endB hs ms (n + 1) "apart" (.tuple (ns.map .int)) = true
      unfold endB
      rw [if_neg (by decide)]
      unfold som
      dsimp only
      rw [e2, e1, e3, sh, List.length_map, decide_eq_true ln]
      rfl
    · show (decide (("take" : Str) = "take") && tkB hs (ibk hs n) ms (.int g) (.tuple us)) = true
      unfold tkB
      rw [show mis ms (.int g) = true from decide_eq_true hg]
      show (decide (("take" : Str) = "take") && (true && (decide (us.length = (hold hs g).length) && ((hold hs g).zip us).all _))) = true
      rw [decide_eq_true (al.len), decide_eq_true rfl]
      simp only [Bool.true_and]
      rw [List.all_eq_true]
      intro p hp
      exact ob_ibk (rest_up up) (al.zip p hp)
theorem wd_ints (k : Nat) {ns : List Int} (h : ns.length ≤ 1000) : Wd (k + 1) (.tuple (ns.map .int)) := by
  refine ⟨by rw [List.length_map]; exact h, fun e he => ?_⟩
  obtain ⟨i, _, rfl⟩ := List.mem_map.mp he
  cases k <;> trivial
theorem ob_wd (l12 : hs.length ≤ 12) : ∀ {n : Nat} {ms : List Int} {d : PyData}, ms.length ≤ 20 → OB hs n ms d → Wd (2 * n + 2) d
  | 0, ms, d, l, h => by
    obtain ⟨g, hg, rfl⟩ := h
    refine ⟨by show 2 ≤ 1000; decide, fun e he => ?_⟩
    simp only [List.mem_cons, List.not_mem_nil, or_false] at he
    rcases he with rfl | rfl <;> trivial
  | n + 1, ms, d, l, h => by
    rcases h with ⟨ns, sub, ln, sh, rfl⟩ | ⟨g, hg, us, rfl, al⟩
    · have := sub.length_le
      refine ⟨by show 2 ≤ 1000; decide, fun e he => ?_⟩
      simp only [List.mem_cons, List.not_mem_nil, or_false] at he
      rcases he with rfl | rfl
      · trivial
      · exact wd_ints _ (by omega)
    · have h1 := al.len
      have h2 := hold_len (held := hs) g
      refine ⟨by show 3 ≤ 1000; decide, fun e he => ?_⟩
      simp only [List.mem_cons, List.not_mem_nil, or_false] at he
      rcases he with rfl | rfl | rfl
      · trivial
      · trivial
      · refine ⟨by omega, fun e he => ?_⟩
        obtain ⟨k, _, hk⟩ := al.mem he
        exact ob_wd l12 (Nat.le_trans rest_len l) hk
/-- discs that hold all of some, of which none holds two, are as many at least -/
theorem few_apart : ∀ {ns : List Int} {c : List Nat}, (∀ gs ∈ hs, ns.Pairwise fun a b => ¬ (a ∈ gs ∧ b ∈ gs)) → (∀ k ∈ c, k < hs.length) → Covers hs ns c → ns.length ≤ c.length
  | [], c, _, _, _ => Nat.zero_le _
  | x :: r, c, pw, hc, cv => by
    have hx := cv x List.mem_cons_self
    unfold cov at hx
    rw [List.any_eq_true] at hx
    obtain ⟨k, hk, ho⟩ := hx
    have kl := hc k hk
    have xk : x ∈ hs.getD k [] := of_decide_eq_true ho
    have gm : hs.getD k [] ∈ hs := by rw [List.getD_eq_getElem?_getD, List.getElem?_eq_getElem kl]; exact List.getElem_mem kl
    have h2 : Covers hs r (c.erase k) := fun w hw => by
      have := cv w (List.mem_cons_of_mem _ hw)
      unfold cov at this ⊢
      rw [List.any_eq_true] at this ⊢
      obtain ⟨j, hj, oj⟩ := this
      refine ⟨j, ?_, oj⟩
      have njk : j ≠ k := fun z => by
        subst z
        exact (List.pairwise_cons.mp (pw _ gm)).1 w hw ⟨xk, of_decide_eq_true oj⟩
      exact (List.mem_erase_of_ne njk).mpr hj
    have := few_apart (c := c.erase k) (fun gs hg => (List.pairwise_cons.mp (pw gs hg)).2) (fun j hj => hc j (List.mem_of_mem_erase hj)) h2
    rw [List.length_erase_of_mem hk] at this
    have : 0 < c.length := List.length_pos_of_mem hk
    rw [List.length_cons]
    omega
theorem noN_take {ms : List Int} {g : Int} {n : Nat} (hg : g ∈ ms) (h : ∀ k ∈ hold hs g, NoN hs (rest (hs.getD k []) ms) n) : NoN hs ms (n + 1) := fun c hc lc cv => by
  have hx := cv g hg
  unfold cov at hx
  rw [List.any_eq_true] at hx
  obtain ⟨k, hk, ho⟩ := hx
  have kl := hc k hk
  refine h k (mem_hold.mpr ⟨kl, ho⟩) (c.erase k) (fun j hj => hc j (List.mem_of_mem_erase hj)) ?_ fun w hw => ?_
  · rw [List.length_erase_of_mem hk]
    omega
  · unfold rest at hw
    rw [List.mem_filter] at hw
    have := cv w hw.1
    unfold cov at this ⊢
    rw [List.any_eq_true] at this ⊢
    obtain ⟨j, hj, oj⟩ := this
    refine ⟨j, ?_, oj⟩
    have njk : j ≠ k := fun z => by
      subst z
      have : w ∈ hs.getD j [] := of_decide_eq_true oj
      have h2 := hw.2
      rw [decide_eq_true this] at h2
      cases h2
    exact (List.mem_erase_of_ne njk).mpr hj
theorem ob_noN : ∀ {n : Nat} {ms : List Int} {d : PyData}, OB hs n ms d → NoN hs ms n
  | 0, ms, d, h => fun c _ lc cv => by
    obtain ⟨g, hg, _⟩ := h
    have := cv g hg
    rw [List.eq_nil_of_length_eq_zero (Nat.le_zero.mp lc)] at this
    cases this
  | n + 1, ms, d, h => by
    rcases h with ⟨ns, sub, ln, sh, _⟩ | ⟨g, hg, us, _, al⟩
    · intro c hc lc cv
      unfold shr at sh
      rw [List.all_eq_true] at sh
      have := few_apart (fun gs hg => two_iff.mp (of_decide_eq_true (sh gs hg))) hc (fun w hw => cv w (sub.subset hw))
      omega
    · refine noN_take hg fun k hk => ?_
      obtain ⟨d, _, hd⟩ := al.memL hk
      exact ob_noN hd
/-- whatever is taken for a book shows what it says -/
theorem ibk_noN : ∀ {n : Nat} {ms : List Int} {d : PyData}, ibk hs n ms d = true → NoN hs ms n := by
  have fin : ∀ {n : Nat} {ms : List Int} {x : Str} {w : PyData}, endB hs ms n x w = true → NoN hs ms n := by
    intro n ms x w h
    unfold endB at h
    by_cases xl : x = "left"
    · rw [if_pos xl, Bool.and_eq_true] at h
      obtain ⟨g, rfl, hg⟩ := mis_int h.2
      obtain rfl := of_decide_eq_true h.1
      exact ob_noN (d := .tuple [.str "left", .int g]) ⟨g, hg, rfl⟩
    · rw [if_neg xl, Bool.and_eq_true] at h
      have h2 := h.2
      cases w with
      | tuple ds =>
        unfold som at h2
        simp only [Bool.and_eq_true] at h2
        obtain ⟨h3, h4, h5, h6⟩ := h2
        intro c hc lc cv
        unfold shr at h6
        rw [List.all_eq_true] at h6
        have := few_apart (fun gs hg => two_iff.mp (of_decide_eq_true (h6 gs hg))) hc (fun w hw => by
          obtain ⟨d, hd, rfl⟩ := List.mem_map.mp hw
          obtain ⟨g, rfl, hg⟩ := mis_int (List.all_eq_true.mp h3 d hd)
          exact cv g hg)
        rw [List.length_map] at this
        have := of_decide_eq_true h5
        omega
      | _ => cases h2
  intro n
  induction n with
  | zero =>
    intro ms d h
    unfold ibk at h
    split at h
    · exact fin h
    · cases h
  | succ n ih =>
    intro ms d h
    unfold ibk at h
    split at h
    · exact fin h
    · rename_i x w bs
      rw [Bool.and_eq_true] at h
      have h2 := h.2
      unfold tkB at h2
      rw [Bool.and_eq_true] at h2
      obtain ⟨g, rfl, hg⟩ := mis_int h2.1
      have h3 := h2.2
      cases bs with
      | tuple us =>
        replace h3 : (decide (us.length = (hold hs g).length) && ((hold hs g).zip us).all fun p => ibk hs n (rest (hs.getD p.1 []) ms) p.2) = true := h3
        rw [Bool.and_eq_true] at h3
        have lu := of_decide_eq_true h3.1
        refine noN_take hg fun k hk => ?_
        obtain ⟨i, hi, ei⟩ := List.getElem_of_mem hk
        have hz : (k, us[i]'(by omega)) ∈ (hold hs g).zip us := by
          refine List.mem_of_getElem? (i := i) ?_
          rw [List.getElem?_zip_eq_some]
          exact ⟨by rw [List.getElem?_eq_getElem hi, ei], List.getElem?_eq_getElem (by omega)⟩
        exact ih (List.all_eq_true.mp h3.2 _ hz)
      | _ => cases h3
    · cases h
end P56
set_option Elab.async false
set_option linter.all false
set_option maxRecDepth 100000
set_option maxHeartbeats 4000000
namespace K60
open PySem PySem.Spec PyProof.Rows L2
/-! ## defs that show things: promises where no showing is under way -/
structure Gn (P : Program) (w : World) (K : PySem.W.Frag) (mg : Str → Option Value) (base : Heap) (k : Nat) (f : Addr) (fd : FuncData) (ps : List Str) (sp : Sp) : Prop where
  many : ∀ vs H Q E, sp vs H Q E → vs.length = ps.length
  go : ∀ (A : Around) (outer : List Env) (s : Shared) (H : Hp) (args : Args) (us : List Value) (vs : List V) (Q : VK) (E : XK), A.guards = some [] → Room k A →
    Env0 P w K mg base A outer s H → BindsTo s fd args (ps.zip us) → Vals vs us → sp vs H Q E → codeAny (model P w) A (.call (.ref f) args) (CR CX0 outer P w H s Q E) s
section
variable {P : Program} {w : World} {K : PySem.W.Frag} {mg : Str → Option Value} {base : Heap}
theorem gn_body {x qual : Str} {st : Stmt} {f : Addr} {fd : FuncData} {N ps : List Str} {k : Nat} {sp : Sp} (F : Fun K x qual st f fd) (S : FnScope N ps (defScope st))
    (many : ∀ vs H Q E, sp vs H Q E → vs.length = ps.length)
    (body : ∀ (cdv : Value) (A : Around) (outer : List Env) (s : Shared) (H : Hp) (vs : List V) (Q : VK) (E : XK), A.guards = some [] →
      Room k (A.deeper (envOfC qual (defScope st) s.heap.objs.size f cdv)) → sp vs H Q E →
      ∃ t, PSs (cxOf CX0 P w K mg base N qual (defScope st) f cdv A outer s H E).nox (defBody st) t ∧ t { nx := fun _ H' => Q .non H', rt := Q } (start N vs) H) :
    Gn P w K mg base (k + 1) f fd ps sp := by
  obtain ⟨oc, od, kV, doc, pm, an, cdv, ct, osl, rfl, lk, hcd⟩ := F.ex
  refine ⟨many, fun A outer s H args us vs Q E hg room en bd rv hsp => ?_⟩
  have kin : K.In s.heap := en.mod.kin.keeps fun b o q => (en.bs b o q).1
  refine Att.call_fn kin (en.mod.nolimit.keeps fun b o q => (en.bs b o q).1) lk hcd room.depth bd ?_ (fun s1 inc => ?_) S.co S.gen S.kind
  · refine List.all_eq_true.mpr fun y hy => ?_
    rcases S.par y.1 (List.of_mem_zip (a := y.1) (b := y.2) hy).1 with q | q
    · rw [q]; rfl
    · rw [q]; rfl
  · obtain ⟨t, ht, hq⟩ := body cdv A outer s H vs Q E hg (room.deeper _) hsp
    have I := inv_start (CX := CX0) (E := E) S room.hd en (many _ _ _ _ hsp) rv inc
    refine wpAny_mono (ht.nox.run [] s1 _ H _ I hq) (fun fl s' hs => ?_) fun _ _ z => z
    cases fl with
    | ret u =>
      obtain ⟨v, _, H', J, r, q⟩ := hs
      exact ⟨v, H', J.os, J.bare, J.base, J.hok, r, q⟩
    | next =>
      obtain ⟨_, H', J, q⟩ := hs
      exact ⟨.non, H', J.os, J.bare, J.base, J.hok, rfl, q⟩
    | brk =>
      obtain ⟨_, _, _, z⟩ := hs
      exact False.elim z
    | cont =>
      obtain ⟨_, _, _, z⟩ := hs
      exact False.elim z
end
section
variable {X : Cx} {k : Nat} {f : Addr} {fd : FuncData} {ps : List Str} {sp : Sp} {x : Str} {p pos : Pos} {e : Expr} {es : List Expr} {t : TA}
theorem pe_gn (F : Gn X.prog X.w X.K X.mg X.base k f fd ps sp) (quiet : X.A.guards = some []) (room : Room k X.A) (gl : Gl X x) (mgf : X.mg x = some (.ref f))
    (kp : PySem.W.keepIn X.K (.ref f) = true) (bd : Binds X.K fd ps []) (ha : PA X (e :: es) t) (hdb : (x == ("__debug__" : Str)) = false := by decide)
    (he : starEach (e :: es) X.env = (false, eval e X.env) :: starEach es X.env := by rfl) (hpl : (backTo pos (starEach es X.env)).any (·.1) = false := by rfl) :
    PE X (.Call (.Name x p) (e :: es) [] pos) (tCall sp [] E0 t) := by
  refine ⟨fun pins s σ H Q I h => wpAny_Call_Name_kw (ld_glob I gl mgf ?_ hdb)⟩
  refine PySem.W.callWith_K (h₀ := X.base) I.ok.mod.kin kp ?_ he hpl
  refine thn (ha.run pos pins s σ H _ I h) fun us s1 z => ?_
  obtain ⟨vs, H1, I1, rv, q⟩ := z
  have q' : sp vs H1 Q E0 := by
    have z := q
    rw [List.append_nil] at z
    exact z
  have many : us.length = ps.length := rv.length.symm.trans (F.many _ _ _ _ q')
  have b1 := bd s1 us I1.kIn (by rw [List.append_nil]; exact many)
  rw [List.append_nil] at b1
  refine ⟨I1.kIn, wpAny_call (codeAny_mono (F.go X.A X.stack s1 H1 ⟨us, []⟩ us vs Q E0 quiet room I1.env0 b1 rv q') fun r s' hr => ?_)⟩
  cases r with
  | error z => exact False.elim hr
  | ok fl =>
    cases fl with
    | ret u => exact I1.after hr
    | next => exact False.elim hr
    | brk => exact False.elim hr
    | cont => exact False.elim hr
/-- repr of data at any depth -/
theorem cr_reprD (quiet : X.A.guards = some []) (room : Room k X.A) : CallR X (.builtin "repr") (fun xs H Q => ∃ (a : Addr) (d : PyData), xs = [.ref a] ∧ Dp X.K H (.ref a) d ∧ d.showable = true ∧ d.hasDict = false ∧
    d.depth ≤ 50 ∧ d.shown.length ≤ sizeLine ∧ Q (.str d.shown) H) := by
  intro pins s σ H xs us Q I r h
  obtain ⟨a, d, rfl, hd, hs, hn, hp, hz, q⟩ := h
  obtain ⟨u, rfl, rx⟩ := vals1 r
  obtain ⟨as, rd⟩ := Dp.reads I d _ u hd rx
  cases rx
  have hu := room.units
  exact repr_of_reads' rd hs (fun z => absurd (hn.symm.trans z) Bool.false_ne_true) quiet (by omega) (fun _ _ z => z) (fun h' u tk kept => ⟨.str d.shown, H, I.kept kept, ⟨u, rfl⟩, q⟩) hz
theorem cr_repr_bl : CallR X (.builtin "repr") (fun xs H Q => ∃ b : Bool, xs = [.bl b] ∧ Q (.str (if b then "True" else "False")) H) := by
  intro pins s σ H xs us Q I r h
  obtain ⟨b, rfl, q⟩ := h
  obtain ⟨u, rfl, rx⟩ := vals1 r
  cases rx
  exact PySem.P.repr_of_bool ⟨.str _, H, I.tok _, ⟨_, rfl⟩, q⟩
end
end K60
set_option Elab.async false
set_option linter.all false
set_option maxRecDepth 100000
set_option maxHeartbeats 4000000
namespace K60
open PySem PySem.Spec PyProof.Rows L2
theorem law_go {P : Program} {w : World} {K : PySem.W.Frag} {mg mb : Str → Option Value} {k : Nat} {fa a : Addr} {fd : FuncData} {x : Str} {sp : Sp} {z : Shared} {vs : List Value} {ns : List Int}
    (kin : K.In z.heap) (nsG : z.heap.Ns mainGlobals mg) (nsB : z.heap.Ns builtinsNs mb) (same : ∀ y : Str, y ≠ "__name__" → mb y = bootBuiltins y) (lim : z.heap.NoLimit) (dig : z.heap.NoDigits) (no : z.gens = #[])
    (at_ : z.heap.get? a = some { cls := .type "list", data := .seq vs.toArray }) (intsA : IntsAre vs ns) (many : ns.length ≤ sizeLine) (room : Room k callerA)
    (F : ∀ base : Heap, K.In base → base.Ns mainGlobals mg → base.NoDigits → Gn P w K mg base k fa fd [x] sp) (bind : ∀ (s : Shared) (u : Value), BindsTo s fd ⟨[u], []⟩ [(x, u)])
    (hsp : ∀ H : Hp, SqL K H a (ns.map V.int) → sp [.ref a] H (fun v _ => v = .bl true) fun _ _ _ => False) :
    codeAny (model P w) callerA (.call (.ref fa) ⟨[.ref a], []⟩) (fun r s' => r = .ok (.ret (.bool true)) ∧ OldK z.heap s'.heap ∧ s'.os = z.os ∧ AllBare s'.gens) z := by
  have rv : Vals (ns.map V.int) vs := vals_ints intsA
  have sz : (ns.map V.int).length ≤ sizeLine := by rw [List.length_map]; exact many
  -- what is tracked: the script, unless it is the module's own
  let u : HO := .frz { cls := .type "list", data := .seq vs.toArray } (.lst (ns.map V.int))
  let H : Hp := fun b => if b = a ∧ K.lookup a = none then some u else none
  have only : ∀ b o, H b = some o → b = a ∧ K.lookup a = none ∧ o = u := fun b o e => by
    by_cases c : b = a ∧ K.lookup a = none
    · have e2 : H b = some u := if_pos c
      rw [e2] at e
      exact ⟨c.1, c.2, (Option.some.inj e).symm⟩
    · have e2 : H b = none := if_neg c
      rw [e2] at e
      cases e
  have sq : SqL K H a (ns.map V.int) := by
    cases hk : K.lookup a with
    | none => exact .inl (.inr ⟨_, if_pos ⟨rfl, hk⟩⟩)
    | some o =>
      have e := kin a o hk
      rw [at_] at e
      cases e
      exact .inr ⟨_, vs.toArray, _, hk, rfl, rfl, rfl, by rw [List.size_toArray, ← rv.length]; exact sz, by simpa using rv⟩
  have hok : HOk P w H z.heap := fun b o e => by
    obtain ⟨rfl, _, rfl⟩ := only b o e
    exact ⟨at_, sz, vs, _, rv, at_⟩
  have dictFree : ∀ {b : Addr} {o : Obj} {es : Array DictEntry} {ep : Nat}, z.heap.get? b = some o → o.data = .dict es ep → H b = none := fun {b o es ep} e d => by
    cases q : H b with
    | none => rfl
    | some v =>
      obtain ⟨rfl, _, _⟩ := only b v q
      rw [at_] at e
      cases e
      cases (show Data.seq vs.toArray _ = Data.dict es ep from d)
  have nsK : ∀ {b : Addr} {m : Str → Option Value}, z.heap.Ns b m → (hidT z.heap H).Ns b m := fun {b m} q => by
    obtain ⟨o, es, ep, e, d, r⟩ := q
    exact ⟨o, es, ep, hidT_get e (dictFree e d), d, r⟩
  have kb : K.In (hidT z.heap H) := fun b o e => by
    refine hidT_get (kin b o e) ?_
    cases q : H b with
    | none => rfl
    | some v =>
      obtain ⟨rfl, n, _⟩ := only b v q
      rw [n] at e
      cases e
  have limB : (hidT z.heap H).NoLimit := by
    obtain ⟨mc, h1, h2⟩ := lim
    exact ⟨mc, nsK h1, h2⟩
  have digB : (hidT z.heap H).NoDigits := by
    obtain ⟨mc, h1, h2⟩ := dig
    exact ⟨mc, nsK h1, h2⟩
  have en : Env0 P w K mg (hidT z.heap H) callerA [] z H :=
    ⟨rfl, ⟨kb, nsK nsG, ⟨mb, nsK nsB, same⟩, limB⟩, fun _ _ e => of_hidT e, Nat.le_of_eq (hidT_size _ _), trivial, (fun b hb => absurd (show b ∈ ([] : List Addr) from hb) List.not_mem_nil), hok, .of_eq no⟩
  refine codeAny_mono ((F _ kb (nsK nsG) digB).go callerA [] z H ⟨[.ref a], []⟩ [.ref a] [.ref a] _ _ rfl room en (bind z (.ref a)) (.cons rfl .nil) (hsp H sq)) fun r s' h => ?_
  match r, h with
  | .error e, h => exact False.elim h
  | .ok .next, h => exact False.elim h
  | .ok .brk, h => exact False.elim h
  | .ok .cont, h => exact False.elim h
  | .ok (.ret y), h =>
    obtain ⟨v, H', os, bare, un, hok', r', q⟩ := h
    obtain rfl : v = .bl true := q
    obtain rfl : y = Value.bool true := r'
    refine ⟨rfl, OldK.of_keep fun b o e => ?_, os, bare⟩
    cases q : H b with
    | none => exact un.keep b o e q (fun y => by cases y) (fun y => by cases y)
    | some v =>
      obtain ⟨rfl, _, rfl⟩ := only b v q
      have e2 := (hok' _ _ (un.frzs _ _ _ q)).1
      rw [at_] at e
      cases e
      exact e2
theorem walk_go {l : PySem.W.OpenLaw} {n k : Nat} {q : Program} {loose : List Str} {XP : (Str → Option Value) → Heap → Prop} {YP : World → Heap → Prop} {d : DefRec} {K : Params → PySem.W.Frag} {sp : PySem.W.Frag → Sp} {x : Str}
    (most : l.most = some n) (small : n ≤ sizeLine) (nodef : d.params.defaults = []) (room : Room k callerA) (hY : ∀ (w : World) (h : Heap), YP w h → (K w.params).In h)
    (F : ∀ (w : World) (mg : Str → Option Value) (fa : Addr) (h : Heap), (K w.params).In h → h.Ns mainGlobals mg → mg d.name = some (.ref fa) →
      ∃ fd : FuncData, (∀ (s : Shared) (u : Value), BindsTo s fd ⟨[u], []⟩ [(x, u)]) ∧ ∀ base : Heap, (K w.params).In base → base.Ns mainGlobals mg → base.NoDigits →
        Gn l.prog w (K w.params) mg base k fa fd [x] (sp (K w.params)))
    (hsp : ∀ (K : PySem.W.Frag) (H : Hp) (a : Addr) (ns : List Int), ns.length ≤ n → SqL K H a (ns.map V.int) → sp K [.ref a] H (fun v _ => v = .bl true) fun _ _ _ => False) :
    PySem.W.WalkO q loose XP YP l.row.toRowW d [] (fun f vs => PySem.call f vs) := by
  refine Att.attach_call most nodef fun w s₀ s₁ mg mb fa o pm cd doc a vs ns G Y _ _ _ hmg hobj hints hlen hg => ?_
  have kin := hY w _ Y
  obtain ⟨fd, hb, hF⟩ := F w mg fa _ kin G.T.g hmg
  exact law_go kin G.T.g G.T.b G.T.builtins G.T.nolimit G.T.nodigits hg hobj hints (Nat.le_trans hlen small) room hF hb fun H hS => hsp _ H a ns hlen hS
end K60
set_option Elab.async false
set_option linter.all false
set_option maxRecDepth 100000
set_option maxHeartbeats 4000000
set_option pp.maxSteps 400
set_option pp.deepTerms false
namespace K60
open PySem PySem.Spec PyProof.Rows L2
open Xk Az
def top (i : Nat) : Stmt := PySem.Challenge.pw_takesworks_k60_books_of_anything.main.body.getD i (.Pass ⟨0, 0, 0, 0⟩)
abbrev sIsWhole : Stmt := top 1
abbrev sAreRising : Stmt := top 2
abbrev sHolders : Stmt := top 4
abbrev sNotAmong : Stmt := top 5
abbrev sIsMissing : Stmt := top 7
abbrev sShowsByTaking : Stmt := top 8
abbrev sShowsBySome : Stmt := top 9
abbrev sIsBook : Stmt := top 10
abbrev sShowsNone : Stmt := top 11
abbrev sHand : Stmt := top 13
abbrev sTake : Stmt := top 14
abbrev sPick : Stmt := top 15
abbrev sNumbers : Stmt := top 16
abbrev sCase : Stmt := top 17
abbrev sLacks : Stmt := top 18
abbrev sAreApart : Stmt := top 19
abbrev sEndRight : Stmt := top 20
abbrev sLwIsBook : Stmt := top 21
abbrev sOwnBook : Stmt := top 22
abbrev sDeep : Stmt := top 23
abbrev sOddThings : Stmt := top 24
abbrev sTold : Stmt := top 25
abbrev sLaw : Stmt := top 26
theorem scIsWhole : FnScope ["thing"] ["thing"] (defScope sIsWhole) := ⟨rfl, rfl, rfl, by decide +kernel, rfl, by decide +kernel, by decide +kernel⟩
theorem scAreRising : FnScope ["things", "one", "other"] ["things"] (defScope sAreRising) := ⟨rfl, rfl, rfl, by decide +kernel, rfl, by decide +kernel, by decide +kernel⟩
theorem scHolders : FnScope ["held", "wish", "number", "things"] ["held", "wish"] (defScope sHolders) := ⟨rfl, rfl, rfl, by decide +kernel, rfl, by decide +kernel, by decide +kernel⟩
theorem scNotAmong : FnScope ["things", "wishes", "wish"] ["things", "wishes"] (defScope sNotAmong) := ⟨rfl, rfl, rfl, by decide +kernel, rfl, by decide +kernel, by decide +kernel⟩
theorem scIsMissing : FnScope ["missing", "thing"] ["missing", "thing"] (defScope sIsMissing) := ⟨rfl, rfl, rfl, by decide +kernel, rfl, by decide +kernel, by decide +kernel⟩
theorem scShowsByTaking : FnScope ["held", "missing", "left", "wish", "books", "discs", "disc", "book"] ["held", "missing", "left", "wish", "books"] (defScope sShowsByTaking) := ⟨rfl, rfl, rfl, by decide +kernel, rfl, by decide +kernel, by decide +kernel⟩
theorem scShowsBySome : FnScope ["held", "missing", "left", "some", "on_one_disc", "wish", "known", "things", "shared"] ["held", "missing", "left", "some"] (defScope sShowsBySome) := ⟨rfl, rfl, rfl, by decide +kernel, rfl, by decide +kernel, by decide +kernel⟩
theorem scIsBook : FnScope ["held", "missing", "left", "thing"] ["held", "missing", "left", "thing"] (defScope sIsBook) := ⟨rfl, rfl, rfl, by decide +kernel, rfl, by decide +kernel, by decide +kernel⟩
theorem scShowsNone : FnScope ["held", "wishes", "many", "thing"] ["held", "wishes", "many", "thing"] (defScope sShowsNone) := ⟨rfl, rfl, rfl, by decide +kernel, rfl, by decide +kernel, by decide +kernel⟩
theorem scHand : FnScope ["_law_script", "_law_k", "_law_cell", "_law_great"] ["_law_script", "_law_k"] (defScope sHand) := ⟨rfl, rfl, rfl, by decide +kernel, rfl, by decide +kernel, by decide +kernel⟩
theorem scTake : FnScope ["_law_hand_here", "_law_many", "_law_digit", "_law_mixed"] ["_law_hand_here", "_law_many"] (defScope sTake) := ⟨rfl, rfl, rfl, by decide +kernel, rfl, by decide +kernel, by decide +kernel⟩
theorem scPick : FnScope ["_law_hand_here", "_law_some"] ["_law_hand_here", "_law_some"] (defScope sPick) := ⟨rfl, rfl, rfl, by decide +kernel, rfl, by decide +kernel, by decide +kernel⟩
theorem scNumbers : FnScope ["_law_hand_here", "_law_many", "_law_found", "_law_number", "_law_k"] ["_law_hand_here", "_law_many"] (defScope sNumbers) := ⟨rfl, rfl, rfl, by decide +kernel, rfl, by decide +kernel, by decide +kernel⟩
theorem scCase : FnScope ["_law_hand_here", "_law_most_discs", "_law_most_wishes", "_law_things", "_law_wishes", "_law_thin", "_law_held", "_law_k", "_law_wish", "_law_spot", "_law_one", "_law_some"] ["_law_hand_here", "_law_most_discs", "_law_most_wishes"] (defScope sCase) := ⟨rfl, rfl, rfl, by decide +kernel, rfl, by decide +kernel, by decide +kernel⟩
theorem scLacks : FnScope ["_law_wishes", "_law_thing"] ["_law_wishes", "_law_thing"] (defScope sLacks) := ⟨rfl, rfl, rfl, by decide +kernel, rfl, by decide +kernel, by decide +kernel⟩
theorem scAreApart : FnScope ["_law_held", "_law_some", "_law_k", "_law_other", "_law_things"] ["_law_held", "_law_some"] (defScope sAreApart) := ⟨rfl, rfl, rfl, by decide +kernel, rfl, by decide +kernel, by decide +kernel⟩
theorem scEndRight : FnScope ["_law_held", "_law_wishes", "_law_many", "_law_thing", "_law_wish"] ["_law_held", "_law_wishes", "_law_many", "_law_thing"] (defScope sEndRight) := ⟨rfl, rfl, rfl, by decide +kernel, rfl, by decide +kernel, by decide +kernel⟩
theorem scLwIsBook : FnScope ["_law_held", "_law_wishes", "_law_many", "_law_thing", "_law_rest", "_law_book", "_law_lacking", "_law_few", "_law_some", "_law_k", "_law_things", "_law_wish"] ["_law_held", "_law_wishes", "_law_many", "_law_thing"] (defScope sLwIsBook) := ⟨rfl, rfl, rfl, by decide +kernel, rfl, by decide +kernel, by decide +kernel⟩
theorem scOwnBook : FnScope ["_law_hand_here", "_law_held", "_law_wishes", "_law_many", "_law_apart_ones", "_law_wish", "_law_things", "_law_few", "_law_some", "_law_books", "_law_rest", "_law_book", "_law_one"] ["_law_hand_here", "_law_held", "_law_wishes", "_law_many"] (defScope sOwnBook) := ⟨rfl, rfl, rfl, by decide +kernel, rfl, by decide +kernel, by decide +kernel⟩
theorem scDeep : FnScope ["_law_hand_here", "_law_thing", "_law_turn"] ["_law_hand_here", "_law_thing"] (defScope sDeep) := ⟨rfl, rfl, rfl, by decide +kernel, rfl, by decide +kernel, by decide +kernel⟩
theorem scOddThings : FnScope ["_law_hand_here", "_law_held", "_law_wishes", "_law_wish", "_law_word", "_law_many", "_law_some", "_law_one"] ["_law_hand_here", "_law_held", "_law_wishes"] (defScope sOddThings) := ⟨rfl, rfl, rfl, by decide +kernel, rfl, by decide +kernel, by decide +kernel⟩
theorem scTold : FnScope ["_law_held", "_law_wishes", "_law_many", "_law_thing", "_law_kept", "_law_found"] ["_law_held", "_law_wishes", "_law_many", "_law_thing"] (defScope sTold) := ⟨rfl, rfl, rfl, by decide +kernel, rfl, by decide +kernel, by decide +kernel⟩
theorem scLaw : FnScope ["_law_script", "_law_k", "_law_hand_here", "_law_held", "_law_wishes", "_law_many", "_law_things", "_law_book", "_law_more", "_law_some", "_law_wanted", "_law_thing"] ["_law_script"] (defScope sLaw) := ⟨rfl, rfl, rfl, by decide +kernel, rfl, by decide +kernel, by decide +kernel⟩
/-! ## objects -/
/-- all that was tracked stands but for the hand -/
def But (h : Addr) (H H' : Hp) : Prop := ∀ b o, b ≠ h → H b = some o → H' b = some o
theorem But.refl (h : Addr) (H : Hp) : But h H H := fun _ _ _ e => e
theorem But.trans {h : Addr} {H H1 H2 : Hp} (p : But h H H1) (q : But h H1 H2) : But h H H2 := fun b o n e => q b o n (p b o n e)
theorem Same.but {H H' : Hp} (s : Same H H') (h : Addr) : But h H H' := fun b o _ e => s b o e
theorem But.seqT {K : PySem.W.Frag} {h : Addr} {H H' : Hp} (s : But h H H') {t : Addr} {xs : List V} (n : t ≠ h) (q : SqT K H t xs) : SqT K H' t xs := by
  rcases q with (q | ⟨o, q⟩) | q
  · exact .inl (.inl (s _ _ n q))
  · exact .inl (.inr ⟨o, s _ _ n q⟩)
  · exact .inr q
theorem But.seqL {K : PySem.W.Frag} {h : Addr} {H H' : Hp} (s : But h H H') {t : Addr} {xs : List V} (n : t ≠ h) (q : SqL K H t xs) : SqL K H' t xs := by
  rcases q with (q | ⟨o, q⟩) | q
  · exact .inl (.inl (s _ _ n q))
  · exact .inl (.inr ⟨o, s _ _ n q⟩)
  · exact .inr q
theorem Same.seqT {K : PySem.W.Frag} {H H' : Hp} (s : Same H H') {t : Addr} {xs : List V} (q : SqT K H t xs) : SqT K H' t xs := by
  rcases q with (q | ⟨o, q⟩) | q
  · exact .inl (.inl (s _ _ q))
  · exact .inl (.inr ⟨o, s _ _ q⟩)
  · exact .inr q
theorem same_upd {H : Hp} {p : Addr} {o : HO} (h : H p = none) : Same H (upd H p o) := fun b x e => by
  rw [upd_ne (ne_of_none e h)]
  exact e
theorem but_upd {H : Hp} {p : Addr} {o : HO} : But p H (upd H p o) := fun b x n e => by
  rw [upd_ne n]
  exact e
/-- the hand: what is left of the cell, what it is mixed of, how often it was asked -/
def Hand (n : Int) (H : Hp) (a : Addr) : Prop := ∃ g m c : Int, H a = some (.lst [.int g, .int m, .int c]) ∧ 0 ≤ g ∧ 0 ≤ m ∧ m < 2305843009213693951 ∧ 0 ≤ c ∧ c ≤ n
theorem Hand.mono {n n' : Int} {H : Hp} {a : Addr} (h : Hand n H a) (l : n ≤ n') : Hand n' H a := by
  obtain ⟨g, m, c, e, h1, h2, h3, h4, h5⟩ := h
  exact ⟨g, m, c, e, h1, h2, h3, h4, Int.le_trans h5 l⟩
theorem Hand.same {n : Int} {H H' : Hp} {a : Addr} (h : Hand n H a) (s : Same H H') : Hand n H' a := by
  obtain ⟨g, m, c, e, r⟩ := h
  exact ⟨g, m, c, s _ _ e, r⟩
theorem Hand.at_ {n : Int} {H : Hp} {a : Addr} (h : Hand n H a) : ∃ xs, H a = some (.lst xs) := by
  obtain ⟨g, m, c, e, r⟩ := h
  exact ⟨_, e⟩
theorem Hand.ne_tup {K : PySem.W.Frag} {n : Int} {H : Hp} {a t : Addr} {xs : List V} (h : Hand n H a) (e : H t = some (.tup xs)) : t ≠ a := by
  obtain ⟨ys, e2⟩ := h.at_
  exact ne_of e e2 (by intro z; cases z)
theorem But.free {h l : Addr} {H H' : Hp} (b : But h H H') (ne : l ≠ h) (e : H' l = none) : H l = none := by
  cases q : H l with
  | none => rfl
  | some o =>
    rw [b l o ne q] at e
    cases e
theorem Hand.fresh {n : Int} {H : Hp} {a l : Addr} (h : Hand n H a) (e : H l = none) : l ≠ a := by
  obtain ⟨xs, q⟩ := h.at_
  exact (ne_of_none q e).symm
theorem Hand.upd {n : Int} {H : Hp} {a p : Addr} {x : HO} (h : Hand n H a) (ne : a ≠ p) : Hand n (L2.upd H p x) a := by
  obtain ⟨g, m, c, e, r⟩ := h
  exact ⟨g, m, c, by rw [upd_ne ne]; exact e, r⟩
section
variable {X : Cx}
theorem cr_alt {f : Value} {r1 r2 : List V → Hp → VK → Prop} (h1 : CallR X f r1) (h2 : CallR X f r2) : CallR X f (fun xs H Q => r1 xs H Q ∨ r2 xs H Q) :=
  fun pins s σ H xs us Q I r h => h.elim (h1 pins s σ H xs us Q I r) (h2 pins s σ H xs us Q I r)
end
end K60
set_option Elab.async false
set_option linter.all false
set_option maxRecDepth 100000
set_option maxHeartbeats 4000000
set_option pp.maxSteps 400
set_option pp.deepTerms false
namespace K60
open PySem PySem.Spec PyProof.Rows L2
open Xk Az
section
variable {P : Program} {w : World} {K : PySem.W.Frag} {mg : Str → Option Value} {base : Heap}
/-- a def that may be called by its name -/
structure Ca (P : Program) (w : World) (K : PySem.W.Frag) (mg : Str → Option Value) (base : Heap) (k : Nat) (x : Str) (ps : List Str) (sp : Sp) : Prop where
  ex : ∃ (f : Addr) (fd : FuncData), FnOk P w K mg base CX0 k f fd ps sp ∧ mg x = some (.ref f) ∧ PySem.W.keepIn K (.ref f) = true ∧ Binds K fd ps []
/-- a def of the text, as the head finds it -/
structure Df (K : PySem.W.Frag) (mg : Str → Option Value) (x : Str) (ps : List Str) (st : Stmt) (f : Addr) (fd : FuncData) : Prop where
  fn : Fun K x x st f fd
  mgf : mg x = some (.ref f)
  bd : Binds K fd ps []
theorem Df.ca {k : Nat} {x : Str} {ps : List Str} {st : Stmt} {f : Addr} {fd : FuncData} {sp : Sp} (d : Df K mg x ps st f fd)
    (h : FnOk P w K mg base CX0 k f fd ps sp) : Ca P w K mg base k x ps sp := ⟨f, fd, h, d.mgf, d.fn.kp, d.bd⟩
section
variable {X : Cx} {k j : Nat} {x : Str} {ps : List Str} {sp : Sp} {p pos : Pos} {e : Expr} {es : List Expr} {t : TA}
theorem pe_ca (c : Ca X.prog X.w X.K X.mg X.base k x ps sp) (hr : Room j X.A) (hk : k ≤ j) (hg : Gl X x) (ha : PA X (e :: es) t) (hdb : (x == ("__debug__" : Str)) = false := by decide)
    (he : starEach (e :: es) X.env = (false, eval e X.env) :: starEach es X.env := by rfl) (hpl : (backTo pos (starEach es X.env)).any (·.1) = false := by rfl) :
    PE X (.Call (.Name x p) (e :: es) [] pos) (tCall sp [] E0 t) := by
  obtain ⟨f, fd, F, hm, kp, b⟩ := c.ex
  exact pe_call F (hr.mono hk) hg hm kp b .nil pass0 ha hdb he hpl
end
/-- what the top has left, besides the defs -/
structure Txt (mg : Str → Option Value) : Prop where
  int : mg "int" = none
  tuple : mg "tuple" = none
  len : mg "len" = none
  any : mg "any" = none
  range : mg "range" = none
  max : mg "max" = none
  min : mg "min" = none
  sorted : mg "sorted" = none
  enumerate : mg "enumerate" = none
  isi : mg "isinstance" = none
  bool : mg "bool" = none
  str : mg "str" = none
  all : mg "all" = none
  zip : mg "zip" = none
  set : mg "set" = none
  list : mg "list" = none
  repr : mg "repr" = none
abbrev far : Int := 1000000
def spHand (K : PySem.W.Frag) : Sp := fun vs H Q _ => ∃ (a : Addr) (k : Int) (ns : List Int), vs = [.ref a, .int k] ∧ 0 ≤ k ∧ SqL K H a (ns.map V.int) ∧
  ∀ p g m, H p = none → 0 ≤ g → 0 ≤ m → m < 2305843009213693951 → Q (.ref p) (upd H p (.lst [.int g, .int m, .int 0]))
def spTake : Sp := fun vs H Q _ => ∃ (h : Addr) (many n : Int), vs = [.ref h, .int many] ∧ 0 < many ∧ many < 10 ^ 30 ∧ Hand n H h ∧ n ≤ far ∧
  ∀ d H', 0 ≤ d → d < many → Hand (n + 1) H' h → But h H H' → Q (.int d) H'
def spPick : Sp := fun vs H Q _ => ∃ (h : Addr) (n : Int) (s : V), vs = [.ref h, s] ∧ Hand n H h ∧ n ≤ far ∧
  ((∃ (l : Addr) (xs : List V), s = .ref l ∧ H l = some (.lst xs) ∧ l ≠ h ∧ xs ≠ [] ∧ xs.length < 1000 ∧ ∀ v H', v ∈ xs → Hand (n + 1) H' h → But h H H' → Q v H') ∨
   (∃ x : Str, s = .str x ∧ 0 < x.length ∧ x.length < 1000 ∧ ∀ c H', c ∈ x.cps.toList → Hand (n + 1) H' h → But h H H' → Q (.str ⟨#[c]⟩) H'))
theorem wide30 {g many : Int} (m1 : 0 < many) (m2 : many < 10 ^ 30) : CDivW g many := by
  have h : (10 : Int) ^ 30 < 2 ^ 110 := by decide
  exact wide_div (b := 110) m1 (by omega) (by decide) (by decide)
theorem lt30 {n : Nat} (h : n < 1000) : (n : Int) < 10 ^ 30 := Int.lt_trans (Int.ofNat_lt.mpr h) (by decide)
theorem b01 (b : Bool) : -(2 ^ 64) < (if b = true then (1 : Int) else 0) ∧ (if b = true then (1 : Int) else 0) < 2 ^ 64 := by cases b <;> decide
theorem b0 (b : Bool) : 0 ≤ (if b = true then (1 : Int) else 0) := by cases b <;> decide
theorem ok_hand {f : Addr} {fd : FuncData} (D : Df K mg "_law_hand" ["_law_script", "_law_k"] sHand f fd) (T : Txt mg) : FnOk P w K mg base CX0 1 f fd ["_law_script", "_law_k"] (spHand K) := by
  refine D.fn.ok scHand (fun vs H Q E h => ?_) (fun cdv A outer s H vs Q E hr h => ?_)
  · obtain ⟨a, k, ns, rfl, hk, hS, q⟩ := h
    rfl
  · obtain ⟨a, k, ns, rfl, hk, hS, q⟩ := h
    refine ⟨_, (pss_cons (ps_set (i := 2) scHand.nd rfl (.inl rfl) pe_int)
      (pss_cons (ps_if (pt_cmpR op_lt (pv 1) (pe_callB call_len_seq (by rfl) T.len PySem.boot_len (pa_cons (pv 0) pa_nil)) (nomark _)) (pss_one (ps_set (i := 2) scHand.nd rfl (.inl rfl) (pe_ix ix_list (pv 0) (pv 1) (fun _ _ => rfl)))) pss_nil)
      (pss_cons (ps_set (i := 3) scHand.nd rfl (.inl rfl) (pe_op op_mul (pe_op op_mod (pv 2) (pe_op op_mulW (pe_op op_mulW (pe_op op_pow pe_int pe_int) (pe_op op_pow pe_int pe_int)) (pe_op op_pow pe_int pe_int))) (pe_callTy call_int1 (by rfl) T.int (by decide +kernel) (pa_cons (pe_cmpR op_ge (pv 2) (pe_op op_pow pe_int pe_int) (nomark _)) pa_nil))))
      (pss_one (ps_ret (pe_lst (pa_cons (pv 3) (pa_cons (pe_op op_mod (pe_op op_add (pe_op op_add (pe_op op_mod (pv 2) pe_int) (pe_op op_mul pe_int (pv 1))) pe_int) pe_int) (pa_cons pe_int pa_nil))))))))), ?_⟩
    refine ⟨_, rfl, _, rfl, a, _, rfl, .inl hS, k, _, rfl, rfl, _, rfl, ?_⟩
    refine ite2 (fun e => ?_) (fun e => ?_)
    · have hlt : k < ((ns.map V.int).length : Int) := of_decide_eq_true e
      rw [List.length_map] at hlt
      obtain ⟨j, rfl⟩ : ∃ j : Nat, k = (j : Int) := ⟨k.toNat, by omega⟩
      have hj : j < ns.length := by omega
      have hat : atI (ns.map V.int) ((j : Nat) : Int) = some (.int ns[j]) := atI_nat (by rw [List.getElem?_map, List.getElem?_eq_getElem hj]; rfl)
      refine ⟨_, rfl, _, rfl, a, _, _, _, rfl, rfl, hS, hat, ?_⟩
      refine ⟨_, rfl, 10, 60, rfl, rfl, ⟨by decide, by decide, by decide⟩, 10, 60, rfl, rfl, ⟨by decide, by decide, by decide⟩, _, _, rfl, rfl, ?_, 10, 60, rfl, rfl, ⟨by decide, by decide, by decide⟩, _, _, rfl, rfl, ?_, ns[j], _, rfl, rfl, ?_, ?_⟩
      · exact wide_mul (a := 300) (b := 300) (by decide +kernel) (by decide +kernel) (by decide) (by decide) (by decide)
      · exact wide_mul (a := 600) (b := 300) (by decide +kernel) (by decide +kernel) (by decide) (by decide) (by decide)
      · show (0 : Int) < 10 ^ (60 : Int).toNat * 10 ^ (60 : Int).toNat * 10 ^ (60 : Int).toNat
        decide +kernel
      · refine ⟨_, rfl, 10, 18, rfl, rfl, ⟨by decide, by decide, by decide⟩, ns[j], _, rfl, rfl, .inr ⟨_, rfl, _, _, rfl, rfl, .inr (b01 _), ?_⟩⟩
        refine ⟨_, rfl, _, rfl, ns[j], 2305843009213693951, rfl, rfl, (by show (0 : Int) < 2305843009213693951; decide), _, rfl, 7919, _, rfl, rfl, .inl (by decide), _, _, rfl, rfl, _, _, rfl, rfl, _, _, rfl, rfl, (by show (0 : Int) < 2305843009213693951; decide), (by show 3 ≤ sizeLine; decide), fun p np => ?_⟩
        refine q p _ _ np ?_ (Int.emod_nonneg _ (by decide)) (Int.emod_lt_of_pos _ (by decide))
        exact Int.mul_nonneg (Int.emod_nonneg _ (by decide +kernel)) (b0 _)
    · refine ⟨_, rfl, 10, 60, rfl, rfl, ⟨by decide, by decide, by decide⟩, 10, 60, rfl, rfl, ⟨by decide, by decide, by decide⟩, _, _, rfl, rfl, ?_, 10, 60, rfl, rfl, ⟨by decide, by decide, by decide⟩, _, _, rfl, rfl, ?_, 0, _, rfl, rfl, ?_, ?_⟩
      · exact wide_mul (a := 300) (b := 300) (by decide +kernel) (by decide +kernel) (by decide) (by decide) (by decide)
      · exact wide_mul (a := 600) (b := 300) (by decide +kernel) (by decide +kernel) (by decide) (by decide) (by decide)
      · show (0 : Int) < 10 ^ (60 : Int).toNat * 10 ^ (60 : Int).toNat * 10 ^ (60 : Int).toNat
        decide +kernel
      · refine ⟨_, rfl, 10, 18, rfl, rfl, ⟨by decide, by decide, by decide⟩, 0, _, rfl, rfl, .inr ⟨_, rfl, _, _, rfl, rfl, .inr (b01 _), ?_⟩⟩
        refine ⟨_, rfl, _, rfl, 0, 2305843009213693951, rfl, rfl, (by show (0 : Int) < 2305843009213693951; decide), _, rfl, 7919, _, rfl, rfl, .inl (by decide), _, _, rfl, rfl, _, _, rfl, rfl, _, _, rfl, rfl, (by show (0 : Int) < 2305843009213693951; decide), (by show 3 ≤ sizeLine; decide), fun p np => ?_⟩
        refine q p _ _ np ?_ (Int.emod_nonneg _ (by decide)) (Int.emod_lt_of_pos _ (by decide))
        exact Int.mul_nonneg (Int.emod_nonneg _ (by decide +kernel)) (b0 _)
theorem ok_take {f : Addr} {fd : FuncData} (D : Df K mg "_law_take" ["_law_hand_here", "_law_many"] sTake f fd) : FnOk P w K mg base CX0 1 f fd ["_law_hand_here", "_law_many"] spTake := by
  refine D.fn.ok scTake (fun vs H Q E h => ?_) (fun cdv A outer s H vs Q E hr h => ?_)
  · obtain ⟨h, many, n, rfl, _⟩ := h
    rfl
  · obtain ⟨h, many, n, rfl, m1, m2, ⟨g, m, c, hh, g0, k0, k1, c0, c1⟩, hn, q⟩ := h
    refine ⟨_, pss_cons (ps_if (pt_cmpR op_gt (pe_ix ix_list (pv 0) pe_int (fun _ _ => rfl)) pe_int (nomark _))
        (pss_cons (ps_set (i := 2) scTake.nd rfl (.inl rfl) (pe_op op_mod (pe_ix ix_list (pv 0) pe_int (fun _ _ => rfl)) (pv 1)))
        (pss_cons (ps_asg (pe_op op_fdivW (pe_ix ix_list (pv 0) pe_int (fun _ _ => rfl)) (pv 1)) (pg_sub (pv 0) pe_int set_list))
        (pss_one (ps_ret (pv 2))))) pss_nil)
      (pss_cons (ps_asg (pe_op op_add (pe_ix ix_list (pv 0) pe_int (fun _ _ => rfl)) pe_int) (pg_sub (pv 0) pe_int set_list))
      (pss_cons (ps_set (i := 3) scTake.nd rfl (.inl rfl) (pe_op op_mod (pe_op op_mul (pe_op op_add (pe_op op_add (pe_ix ix_list (pv 0) pe_int (fun _ _ => rfl))
          (pe_op op_mul (pe_op op_mul pe_int (pe_ix ix_list (pv 0) pe_int (fun _ _ => rfl))) (pe_ix ix_list (pv 0) pe_int (fun _ _ => rfl)))) pe_int) pe_int) pe_int))
      (pss_cons (ps_set (i := 3) scTake.nd rfl (.inl rfl) (pe_op op_mod (pe_op op_mul (pv 3) (pe_op op_add (pe_op op_mod (pv 3) pe_int) (pe_op op_mul pe_int (pe_ix ix_list (pv 0) pe_int (fun _ _ => rfl))))) pe_int))
      (pss_one (ps_ret (pe_op op_mod (pe_op op_add (pe_op op_fdiv (pv 3) pe_int) (pe_op op_fdiv (pv 3) pe_int)) (pv 1))))))), ?_⟩
    have far' : n ≤ 1000000 := hn
    refine ⟨_, rfl, h, _, 0, _, rfl, rfl, SqL.of hh, atI_nat (j := 0) rfl, g, 0, rfl, rfl, _, rfl, ite2 (fun e => ?_) (fun e => ?_)⟩
    · refine ⟨_, rfl, h, _, 0, _, rfl, rfl, SqL.of hh, atI_nat (j := 0) rfl, _, rfl, g, many, rfl, rfl, m1, ?_⟩
      refine ⟨_, rfl, h, _, 0, _, rfl, rfl, SqL.of hh, atI_nat (j := 0) rfl, _, rfl, g, many, rfl, rfl, wide30 m1 m2, _, rfl, h, _, 0, 0, rfl, rfl, hh, rfl, ?_⟩
      refine ⟨_, rfl, ?_⟩
      exact q _ _ (Int.emod_nonneg _ (by omega)) (Int.emod_lt_of_pos _ m1) ⟨g / many, m, c, upd_same, Int.ediv_nonneg g0 (by omega), k0, k1, c0, by omega⟩ but_upd
    · refine ⟨_, rfl, h, _, 2, _, rfl, rfl, SqL.of hh, atI_nat (j := 2) rfl, c, 1, rfl, rfl, _, rfl, h, _, 2, 2, rfl, rfl, hh, rfl, ?_⟩
      have h2 : (upd H h (.lst [.int g, .int m, .int (c + 1)])) h = some (.lst [.int g, .int m, .int (c + 1)]) := upd_same
      have s2 := SqL.of (K := K) h2
      refine ⟨_, rfl, h, _, 1, _, rfl, rfl, s2, atI_nat (j := 1) rfl, _, rfl, h, _, 2, _, rfl, rfl, s2, atI_nat (j := 2) rfl, 65537, c + 1, rfl, rfl, .inl (by decide), _, rfl, h, _, 2, _, rfl, rfl, s2, atI_nat (j := 2) rfl, _, c + 1, rfl, rfl, .inr (by omega),
        m, _, rfl, rfl, _, 11, rfl, rfl, _, 48271, rfl, rfl, .inr (by decide), _, 2305843009213693921, rfl, rfl, (by show (0 : Int) < 2305843009213693921; decide), ?_⟩
      generalize (m + 65537 * (c + 1) * (c + 1) + 11) * 48271 = z
      have z0 : 0 ≤ z % 2305843009213693921 := Int.emod_nonneg _ (by decide)
      have z1 : z % 2305843009213693921 < 2305843009213693921 := Int.emod_lt_of_pos _ (by decide)
      refine ⟨_, rfl, _, rfl, _, 1000003, rfl, rfl, (by show (0 : Int) < 1000003; decide), _, rfl, h, _, 2, _, rfl, rfl, s2, atI_nat (j := 2) rfl, 99991, c + 1, rfl, rfl, .inl (by decide), _, _, rfl, rfl, _, _, rfl, rfl, .inl (by omega),
        _, 2305843009213693907, rfl, rfl, (by show (0 : Int) < 2305843009213693907; decide), ?_⟩
      refine ⟨_, rfl, _, 97, rfl, rfl, ⟨by decide, by decide⟩, _, rfl, _, 1000033, rfl, rfl, ⟨by decide, by decide⟩, _, _, rfl, rfl, _, rfl, _, many, rfl, rfl, m1, ?_⟩
      exact q _ _ (Int.emod_nonneg _ (by omega)) (Int.emod_lt_of_pos _ m1) ⟨g, m, c + 1, h2, g0, k0, k1, by omega, by omega⟩ but_upd
theorem ok_pick {f : Addr} {fd : FuncData} (D : Df K mg "_law_pick" ["_law_hand_here", "_law_some"] sPick f fd) (T : Txt mg) (cT : Ca P w K mg base 1 "_law_take" ["_law_hand_here", "_law_many"] spTake) : FnOk P w K mg base CX0 2 f fd ["_law_hand_here", "_law_some"] spPick := by
  refine D.fn.ok scPick (fun vs H Q E h => ?_) (fun cdv A outer s H vs Q E hr h => ?_)
  · obtain ⟨h, n, s, rfl, hh, hn, q⟩ := h
    rfl
  · obtain ⟨h, n, s, rfl, hh, hn, q⟩ := h
    refine ⟨_, (pss_one (ps_ret (pe_ix ix_seq (pv 1) (pe_ca cT hr (by decide) (by rfl) (pa_cons (pv 0) (pa_cons (pe_callB (cr_alt call_len_seq call_len_str) (by rfl) T.len PySem.boot_len (pa_cons (pv 1) pa_nil)) pa_nil))) (fun _ _ => rfl)))), ?_⟩
    refine ⟨_, rfl, _, rfl, _, rfl, ?_⟩
    rcases q with ⟨l, xs, rfl, hl, nl, ne, few, q⟩ | ⟨x, rfl, pos, few, q⟩
    · have pos : 0 < xs.length := List.length_pos_iff.mpr ne
      refine .inl ⟨l, xs, rfl, .inl (SqL.of hl), h, (xs.length : Int), n, rfl, by omega, lt30 few, hh, hn, fun d H' d0 d1 hh' bt => ?_⟩
      obtain ⟨j, rfl⟩ : ∃ j : Nat, d = (j : Int) := ⟨d.toNat, by omega⟩
      have hj : j < xs.length := by omega
      refine .inl ⟨l, xs, _, xs[j], rfl, rfl, SqL.of (bt _ _ nl hl), atI_nat (List.getElem?_eq_getElem hj), ?_⟩
      exact q _ H' (List.getElem_mem hj) hh' bt
    · have sz : x.length ≤ sizeLine := Nat.le_trans (show x.length ≤ 1000 by omega) (by decide)
      refine .inr ⟨x, rfl, sz, h, (x.length : Int), n, rfl, by omega, lt30 few, hh, hn, fun d H' d0 d1 hh' bt => ?_⟩
      obtain ⟨j, rfl⟩ : ∃ j : Nat, d = (j : Int) := ⟨d.toNat, by omega⟩
      have hj : j < x.cps.toList.length := by
        have : x.length = x.cps.toList.length := by rw [Array.length_toList]; rfl
        omega
      refine .inr (.inr ⟨x, _, x.cps.toList[j], rfl, rfl, sz, atI_nat (List.getElem?_eq_getElem hj), ?_⟩)
      exact q _ H' (List.getElem_mem hj) hh' bt
end
end K60
set_option Elab.async false
set_option linter.all false
set_option maxRecDepth 100000
set_option maxHeartbeats 4000000
set_option pp.maxSteps 400
set_option pp.deepTerms false
namespace K60
open PySem PySem.Spec PyProof.Rows L2
open Xk Az
section
variable {P : Program} {w : World} {K : PySem.W.Frag} {mg : Str → Option Value} {base : Heap}
/-- numbers that are not too great -/
def Sm (ns : List Int) : Prop := ∀ x ∈ ns, 0 ≤ x ∧ x < 10 ^ 31
theorem Sm.snoc {ns : List Int} (h : Sm ns) {j : Int} (h0 : 0 ≤ j) (h1 : j < 10 ^ 31) : Sm (ns ++ [j]) := fun x hx => by
  rcases List.mem_append.mp hx with z | z
  · exact h x z
  · rw [List.mem_singleton.mp z]; exact ⟨h0, h1⟩
def spNumbers : Sp := fun vs H Q _ => ∃ (h : Addr) (n many : Int), vs = [.ref h, .int many] ∧ 0 ≤ many ∧ many ≤ 20 ∧ Hand n H h ∧ n + 100 ≤ far ∧
  ∀ L (ns : List Int) H', H' L = some (.lst (ns.map V.int)) → L ≠ h → H L = none → (ns.length : Int) = many → Sm ns → ns.Pairwise (· < ·) → Hand (n + 30) H' h → But h H H' → Q (.ref L) H'
theorem ok_numbers {f : Addr} {fd : FuncData} (D : Df K mg "_law_numbers" ["_law_hand_here", "_law_many"] sNumbers f fd) (T : Txt mg) (cT : Ca P w K mg base 1 "_law_take" ["_law_hand_here", "_law_many"] spTake) (cP : Ca P w K mg base 2 "_law_pick" ["_law_hand_here", "_law_some"] spPick) : FnOk P w K mg base CX0 3 f fd ["_law_hand_here", "_law_many"] spNumbers := by
  refine D.fn.ok scNumbers (fun vs H Q E h => ?_) (fun cdv A outer s H vs Q E hr h => ?_)
  · obtain ⟨h, n, many, rfl, m0, m1, hh, hn, q⟩ := h
    rfl
  · obtain ⟨h, n, many, rfl, m0, m1, hh, hn, q⟩ := h
    refine ⟨_, (pss_cons (ps_par (i := 2) (j := 3) (by rfl) scNumbers.nd rfl rfl (by decide) rfl rfl (pa_cons (pe_lst pa_nil) (pa_cons (pe_ca cP hr (by decide) (by rfl) (pa_cons (pv 0) (pa_cons (pe_lst (pa_cons pe_int (pa_cons pe_int (pa_cons pe_int (pa_cons pe_int (pa_cons (pe_op op_pow pe_int pe_int) pa_nil)))))) pa_nil))) pa_nil)) (by rfl))
      (pss_cons (ps_for PassesOwn.never rfl (pi_range1 (by rfl) T.range (pa_cons (pv 1) pa_nil)) (pg_name (i := 4) scNumbers.nd rfl (.inl rfl)) (pss_cons (ps_expr (pe_bm PySem.F.plainAttrs_list PySem.F.slot_list_append PySem.F.type_list_append mt_append (pv 2) (pa_cons (pv 3) pa_nil)))
      (pss_one (ps_set (i := 3) scNumbers.nd rfl (.inl rfl) (pe_op op_add (pe_op op_add (pv 3) pe_int) (pe_ca cP hr (by decide) (by rfl) (pa_cons (pv 0) (pa_cons (pe_lst (pa_cons pe_int (pa_cons pe_int (pa_cons pe_int (pa_cons pe_int (pa_cons (pe_op op_pow pe_int pe_int) pa_nil)))))) pa_nil))))))))
      (pss_one (ps_ret (pv 2))))), ?_⟩
    have fr : n + 100 ≤ 1000000 := hn
    refine ⟨(by show 0 ≤ sizeLine; decide), fun L nL => ?_⟩
    have s0 := same_upd nL (o := .lst [])
    refine ⟨_, rfl, 10, 29, rfl, rfl, ⟨by decide, by decide, by decide⟩, (by show 5 ≤ sizeLine; decide), fun l1 n1 => ?_⟩
    have s1 := same_upd n1 (o := .lst [.int 0, .int 0, .int 1, .int 7, .int (10 ^ (29 : Int).toNat)])
    have Lh := hh.fresh nL
    refine ⟨h, n, _, rfl, (hh.same s0).same s1, by show n ≤ 1000000; omega, .inl ⟨l1, _, rfl, upd_same, (hh.same s0).fresh n1, by simp, by show 5 < 1000; decide, fun v H1 mv h1 b1 => ⟨_, _, rfl, ?_⟩⟩⟩
    obtain ⟨i0, rfl, i00, i01⟩ : ∃ i : Int, v = .int i ∧ 0 ≤ i ∧ i < 10 ^ 30 := by
      simp only [List.mem_cons, List.not_mem_nil, or_false] at mv
      rcases mv with e | e | e | e | e <;> exact ⟨_, e, by decide, by decide⟩
    have eL : H1 L = some (.lst (([] : List Int).map V.int)) := b1 _ _ Lh (s1 _ _ upd_same)
    have bt1 : But h H H1 := (Same.but (s0.trans s1) h).trans b1
    refine ⟨_, rfl, _, rfl, by omega, by omega, for_range (lo := 0) (n := many.toNat) (fun k σ Hi => ∃ (ns : List Int) (j : Int) (c4 : Option V), σ = [some (.ref h), some (.int many), some (.ref L), some (.int j), c4] ∧ Hi L = some (.lst (ns.map V.int)) ∧ ns.length = k ∧ ((Sm ns ∧ ns.Pairwise (· < ·) ∧ ∀ x ∈ ns, x < j) ∧ 0 ≤ j ∧ j < 10 ^ 30 + k * 10 ^ 29) ∧ Hand (n + 1 + k) Hi h ∧ But h H Hi) ?_ ?_ ?_⟩
    · exact ⟨[], i0, none, rfl, eL, rfl, ⟨⟨by simp [Sm], by simp, by simp⟩, i00, by omega⟩, h1.mono (by omega), bt1⟩
    · rintro k σ Hi hk ⟨ns, j, c4, rfl, eLi, lk, ⟨⟨sN, pN, lN⟩, j0, j1⟩, hdi, bi⟩
      have k20 : k < 20 := by omega
      refine ⟨_, rfl, .inl ⟨rfl, _, SqL.of eLi⟩, _, rfl, L, _, _, rfl, rfl, eLi, ?_, ?_⟩
      · rw [List.length_map]
        exact Nat.lt_of_le_of_lt (show ns.length ≤ 100 by omega) (by decide)
      have hd2 : Hand (n + 1 + k) (upd Hi L (.lst (ns.map V.int ++ [.int j]))) h := hdi.upd (Ne.symm Lh)
      have e2 : (upd Hi L (.lst (ns.map V.int ++ [.int j]))) L = some (.lst ((ns ++ [j]).map V.int)) := by rw [upd_same, List.map_append]; rfl
      have bi2 : But h H (upd Hi L (.lst (ns.map V.int ++ [.int j]))) := fun b x nb e => by
        rw [upd_ne (ne_of_none e nL)]
        exact bi b x nb e
      refine ⟨_, rfl, j, 1, rfl, rfl, _, rfl, 10, 27, rfl, rfl, ⟨by decide, by decide, by decide⟩, (by show 5 ≤ sizeLine; decide), fun l2 n2 => ?_⟩
      have s2 := same_upd n2 (o := .lst [.int 0, .int 0, .int 1, .int 5, .int (10 ^ (27 : Int).toNat)])
      refine ⟨h, n + 1 + k, _, rfl, hd2.same s2, by show n + 1 + (k : Int) ≤ 1000000; omega, .inl ⟨l2, _, rfl, upd_same, hd2.fresh n2, by simp, by show 5 < 1000; decide, fun v H3 mv h3 b3 => ?_⟩⟩
      obtain ⟨i1, rfl, i10, i11⟩ : ∃ i : Int, v = .int i ∧ 0 ≤ i ∧ i < 10 ^ 28 := by
        simp only [List.mem_cons, List.not_mem_nil, or_false] at mv
        rcases mv with e | e | e | e | e <;> exact ⟨_, e, by decide, by decide⟩
      refine ⟨_, _, rfl, rfl, ns ++ [j], _, _, rfl, b3 _ _ Lh (s2 _ _ e2), by rw [List.length_append, lk]; rfl, ⟨⟨sN.snoc j0 (by omega), List.pairwise_append.mpr ⟨pN, List.pairwise_singleton _ _, fun x hx y hy => by rw [List.mem_singleton.mp hy]; exact lN x hx⟩, fun x hx => by
        rcases List.mem_append.mp hx with z | z
        · have := lN x z
          omega
        · rw [List.mem_singleton.mp z]
          omega⟩, by omega, by omega⟩, h3.mono (by omega), bi2.trans ((Same.but s2 h).trans b3)⟩
    rintro σ He ⟨ns, j, c4, rfl, eLe, lk, ⟨⟨sN, pN, _⟩, _, _⟩, hde, be⟩
    exact ⟨_, rfl, q L ns He eLe Lh nL (by omega) sN pN (hde.mono (by omega)) be⟩
theorem dpAll_ints {H : Hp} : ∀ gs : List Int, DpAll K H (gs.map V.int) (gs.map PyData.int)
  | [] => .nil
  | g :: r => .cons (.int g) (dpAll_ints r)
theorem lay_ints : ∀ gs : List Int, PyData.canLayAll0 (gs.map PyData.int) = true
  | [] => by simp [PyData.canLayAll0]
  | g :: r => by simp [PyData.canLayAll0, PyData.canLay0, lay_ints r]
theorem depth_ints : ∀ gs : List Int, PyData.depthAll (gs.map PyData.int) ≤ 1
  | [] => by simp [PyData.depthAll]
  | g :: r => by
    have := depth_ints r
    simp only [List.map_cons, PyData.depthAll, PyData.depth]
    omega
theorem ixN_nat {n j : Nat} (h : j < n) : ixN n (j : Int) = some j := by
  unfold ixN
  rw [if_pos (by omega), if_pos (by omega)]
  simp
theorem shaped_list {ds : List PyData} (q1 : PyData.canLayAll0 ds = true) (q2 : PyData.depthAll ds ≤ 3) : SeqAt.shaped (.list ds) = true := by
  unfold SeqAt.shaped
  have h1 : (PyData.list ds).canLay0 = true := by simp only [PyData.canLay0]; exact q1
  have h2 : (PyData.list ds).depth ≤ 64 := by simp only [PyData.depth]; omega
  rw [h1, decide_eq_true h2]
  rfl
theorem lt30' {i : Int} (h : i < 1000) : i < 10 ^ 30 := Int.lt_trans h (by decide)
/-- held: tuples of numbers -/
inductive Hl (H : Hp) : List V → List (List Int) → Prop
  | nil : Hl H [] []
  | cons {t : Addr} {ns : List Int} {xs : List V} {hs : List (List Int)} (e : H t = some (.tup (ns.map V.int))) (r : Hl H xs hs) : Hl H (.ref t :: xs) (ns :: hs)
def Gs (hs : List (List Int)) : Prop := ∀ gs ∈ hs, gs.length ≤ 40 ∧ Sm gs
theorem Hl.of {H : Hp} : ∀ xs : List V, (∀ v ∈ xs, ∃ t, ∃ ns : List Int, v = .ref t ∧ H t = some (.tup (ns.map V.int)) ∧ ns.length ≤ 40 ∧ Sm ns) → ∃ hs, Hl H xs hs ∧ Gs hs
  | [], _ => ⟨[], .nil, fun _ h => by cases h⟩
  | x :: r, h => by
    obtain ⟨hs, q, g⟩ := Hl.of r fun v hv => h v (List.mem_cons_of_mem _ hv)
    obtain ⟨t, ns, rfl, e, e2⟩ := h x List.mem_cons_self
    refine ⟨ns :: hs, .cons e q, fun gs hg => ?_⟩
    rcases List.mem_cons.mp hg with z | z
    · rw [z]; exact e2
    · exact g gs z
theorem Hl.len {H : Hp} {xs : List V} {hs : List (List Int)} (h : Hl H xs hs) : xs.length = hs.length := by
  induction h with
  | nil => rfl
  | cons _ _ ih => rw [List.length_cons, List.length_cons, ih]
theorem Hl.map {H H' : Hp} {xs : List V} {hs : List (List Int)} (h : Hl H xs hs) (k : ∀ b ys, H b = some (.tup ys) → H' b = some (.tup ys)) : Hl H' xs hs := by
  induction h with
  | nil => exact .nil
  | cons e _ ih => exact .cons (k _ _ e) ih
theorem Hl.get {H : Hp} {xs : List V} {hs : List (List Int)} (h : Hl H xs hs) {i : Nat} (hi : i < hs.length) : ∃ t, xs[i]? = some (.ref t) ∧ H t = some (.tup ((hs[i]).map V.int)) := by
  induction h generalizing i with
  | nil => simp at hi
  | cons e _ ih =>
    cases i with
    | zero => exact ⟨_, rfl, e⟩
    | succ i => exact ih (by simpa using hi)
/-- lists of numbers, apart from the hand and the list that has them -/
def Li (m : Nat) (h L : Addr) (H : Hp) (v : V) : Prop := ∃ l, ∃ ns : List Int, v = .ref l ∧ l ≠ L ∧ l ≠ h ∧ H l = some (.lst (ns.map V.int)) ∧ ns.length ≤ m ∧ Sm ns
theorem Li.but {m : Nat} {h L : Addr} {H H' : Hp} {v : V} (a : Li m h L H v) (s : But h H H') : Li m h L H' v := by
  obtain ⟨l, ns, e, n1, n2, q, lm⟩ := a
  exact ⟨l, ns, e, n1, n2, s _ _ n2 q, lm⟩
theorem Li.upd {m : Nat} {h L : Addr} {H : Hp} {v : V} {o : HO} (a : Li m h L H v) : Li m h L (L2.upd H L o) v := by
  obtain ⟨l, ns, e, n1, n2, q, lm⟩ := a
  exact ⟨l, ns, e, n1, n2, by rw [upd_ne n1]; exact q, lm⟩
def rTo (K : PySem.W.Frag) : List V → Hp → VK → Prop := fun xs H Q => ∃ p ys, xs = [V.ref p] ∧ ((SqL K H p ys ∧ ∀ (l : Addr), H l = none → Q (V.ref l) (L2.upd H l (HO.tup ys))) ∨ (SqT K H p ys ∧ Q (V.ref p) H))
theorem cut_ints (ns : List Int) (lo hi : Option Int) : cutV (ns.map V.int) lo hi = ((ns.drop (HT.sIx ns.length 0 lo)).take (HT.sIx ns.length ns.length hi - HT.sIx ns.length 0 lo)).map V.int := by
  unfold cutV
  rw [List.length_map, List.map_take, List.map_drop]
theorem cut_len (ns : List Int) (lo hi : Option Int) : ((ns.drop (HT.sIx ns.length 0 lo)).take (HT.sIx ns.length ns.length hi - HT.sIx ns.length 0 lo)).length ≤ ns.length := by
  rw [List.length_take, List.length_drop]
  omega
theorem lists_dp {m : Nat} {h L : Addr} {H : Hp} : ∀ xs : List V, (∀ v ∈ xs, Li m h L H v) → ∃ ds, DpAll K H xs ds ∧ PyData.canLayAll0 ds = true ∧ PyData.depthAll ds ≤ 3
  | [], _ => ⟨[], .nil, by simp [PyData.canLayAll0], by simp [PyData.depthAll]⟩
  | v :: r, q => by
    obtain ⟨ds, q1, q2, q3⟩ := lists_dp r (fun w hw => q w (List.mem_cons_of_mem _ hw))
    obtain ⟨l, ns, rfl, _, _, e, _, _⟩ := q v List.mem_cons_self
    refine ⟨.list (ns.map PyData.int) :: ds, .cons (.lst (SqL.of e) (dpAll_ints ns)) q1, ?_, ?_⟩
    · simp [PyData.canLayAll0, PyData.canLay0, q2, lay_ints ns]
    · have := depth_ints ns
      simp only [PyData.depthAll, PyData.depth]
      omega
def spCase : Sp := fun vs H Q _ => ∃ (h : Addr) (n md mw : Int), vs = [.ref h, .int md, .int mw] ∧ 0 ≤ md ∧ md ≤ 12 ∧ 0 ≤ mw ∧ mw ≤ 16 ∧ Hand n H h ∧ n + 2000 ≤ far ∧
  ∀ t a b xs hs (ws : List Int) H', H' t = some (.tup [.ref a, .ref b]) → H' a = some (.tup xs) → Hl H' xs hs → (hs.length : Int) ≤ md → Gs hs → H' b = some (.tup (ws.map V.int)) → ws.length ≤ 20 → Sm ws → ws.Pairwise (· < ·) → (ws.length : Int) ≤ mw → Hand (n + 1000) H' h → But h H H' → Q (.ref t) H'
theorem ok_case {f : Addr} {fd : FuncData} (D : Df K mg "_law_case" ["_law_hand_here", "_law_most_discs", "_law_most_wishes"] sCase f fd) (T : Txt mg) (cT : Ca P w K mg base 1 "_law_take" ["_law_hand_here", "_law_many"] spTake) (cP : Ca P w K mg base 2 "_law_pick" ["_law_hand_here", "_law_some"] spPick) (cNu : Ca P w K mg base 3 "_law_numbers" ["_law_hand_here", "_law_many"] spNumbers) : FnOk P w K mg base CX0 4 f fd ["_law_hand_here", "_law_most_discs", "_law_most_wishes"] spCase := by
  refine D.fn.ok scCase (fun vs H Q E h => ?_) (fun cdv A outer s H vs Q E hr h => ?_)
  · obtain ⟨h, n, md, mw, rfl, d0, d1, w0, w1, hh, hn, q⟩ := h
    rfl
  · obtain ⟨h, n, md, mw, rfl, d0, d1, w0, w1, hh, hn, q⟩ := h
    refine ⟨_, (pss_cons (ps_set (i := 3) scCase.nd rfl (.inl rfl) (pe_ca cNu hr (by decide) (by rfl) (pa_cons (pv 0) (pa_cons (pe_op op_add pe_int (pe_ca cT hr (by decide) (by rfl) (pa_cons (pv 0) (pa_cons (pe_op op_add (pv 2) pe_int) pa_nil)))) pa_nil))))
      (pss_cons (ps_set (i := 4) scCase.nd rfl (.inl rfl) (pe_slice sl_list (pe_lc (own := [("_law_one", 10)]) (g := gName 10) (by rfl) scCase.nd (pi_list (pv 3)) (blkOk_by (own := [("_law_one", 10)]) (N := ["_law_hand_here", "_law_most_discs", "_law_most_wishes", "_law_things", "_law_wishes", "_law_thin", "_law_held", "_law_k", "_law_wish", "_law_spot", "_law_one", "_law_some"]) (sc := defScope sCase) (by decide +kernel)) (fun _ _ _ _ _ => pg_name (i := 10) scCase.nd rfl (.inl rfl)) (fun _ _ _ _ _ => (pts_one (pt_cmpR op_gt (pe_ca cT hr (by decide) (by rfl) (pa_cons (pv 0) (pa_cons pe_int pa_nil))) pe_int (nomark _)))) (fun _ _ _ _ _ => pv 10)) po_none (po_some (pv 2))))
      (pss_cons (ps_asg (pe_tup (pa_cons (pe_ca cP hr (by decide) (by rfl) (pa_cons (pv 0) (pa_cons (pe_lst (pa_cons pe_int (pa_cons pe_int (pa_cons pe_int (pa_cons pe_int (pa_cons pe_int pa_nil)))))) pa_nil))) (pa_cons (pe_lst pa_nil) pa_nil))) (pg_tup (by rfl) (pgs_cons (pg_name (i := 5) scCase.nd rfl (.inr rfl)) (pgs_cons (pg_name (i := 6) scCase.nd rfl (.inl rfl)) pgs_nil))))
      (pss_cons (ps_for PassesOwn.never rfl (pi_range1 (by rfl) T.range (pa_cons (pe_ca cT hr (by decide) (by rfl) (pa_cons (pv 0) (pa_cons (pe_op op_add (pv 1) pe_int) pa_nil))) pa_nil)) (pg_name (i := 7) scCase.nd rfl (.inl rfl)) (pss_one (ps_expr (pe_bm PySem.F.plainAttrs_list PySem.F.slot_list_append PySem.F.type_list_append mt_append (pv 6) (pa_cons (pe_lc (own := [("_law_one", 10)]) (g := gName 10) (by rfl) scCase.nd (pi_list (pv 3)) (blkOk_by (own := [("_law_one", 10)]) (N := ["_law_hand_here", "_law_most_discs", "_law_most_wishes", "_law_things", "_law_wishes", "_law_thin", "_law_held", "_law_k", "_law_wish", "_law_spot", "_law_one", "_law_some"]) (sc := defScope sCase) (by decide +kernel)) (fun _ _ _ _ _ => pg_name (i := 10) scCase.nd rfl (.inl rfl)) (fun _ _ _ _ _ => (pts_one (pt_cmpR op_eq (pe_ca cT hr (by decide) (by rfl) (pa_cons (pv 0) (pa_cons (pv 5) pa_nil))) pe_int (nomark _)))) (fun _ _ _ _ _ => pv 10)) pa_nil)))))
      (C8.pss_cut (ps_if (PW.pt (pw_and (pt_cmpR (op_neD hr.units) (pv 6) (pe_lst pa_nil) (nomark _)) (pw_and1 (pt_cmpR op_gt (pe_ca cT hr (by decide) (by rfl) (pa_cons (pv 0) (pa_cons pe_int pa_nil))) pe_int (nomark _))))) (pss_one (ps_for PassesOwn.never rfl (pi_list (pv 4)) (pg_name (i := 8) scCase.nd rfl (.inr rfl)) (pss_one (ps_if (pt_not (pt_val (pe_callB (cr_any (by rfl)) (by rfl) T.any (by decide +kernel) (pa_cons (pe_lc (own := [("_law_some", 11)]) (g := gName 11) (tt := tYes) (te := tOp (rIn K false) (tVar 8) (tVar 11)) (by rfl) scCase.nd (pi_list (pv 6)) (blkOk_by (own := [("_law_some", 11)]) (N := ["_law_hand_here", "_law_most_discs", "_law_most_wishes", "_law_things", "_law_wishes", "_law_thin", "_law_held", "_law_k", "_law_wish", "_law_spot", "_law_one", "_law_some"]) (sc := defScope sCase) (by decide +kernel)) (fun _ _ _ _ _ => pg_name (i := 11) scCase.nd rfl (.inl rfl)) (fun _ _ _ _ _ => pts_nil) (fun _ _ _ _ _ => pe_cmpR op_in_seq (pv 8) (pv 11) (by rfl))) pa_nil)))) (pss_cons (ps_set (i := 9) scCase.nd rfl (.inl rfl) (pe_ca cT hr (by decide) (by rfl) (pa_cons (pv 0) (pa_cons (pe_callB call_len_seq (by rfl) T.len PySem.boot_len (pa_cons (pv 6) pa_nil)) pa_nil))))
      (pss_one (ps_asg (pe_callB cr_sortedI (by rfl) T.sorted (by decide +kernel) (pa_cons (pe_op op_cat (pe_ix ix_list (pv 6) (pv 9) (fun _ _ => rfl)) (pe_lst (pa_cons (pv 8) pa_nil))) pa_nil)) (pg_sub (pv 6) (pv 9) set_list)))) pss_nil)))) pss_nil)
      (pss_one (ps_ret (pe_tup (pa_cons (pe_callTy call_tuple_of (by rfl) T.tuple (by decide +kernel) (pa_cons (pe_lc (own := [("_law_some", 11)]) (g := gName 11) (tt := tYes) (te := tCB (rTo K) (tCons (tVar 11) tNil)) (by rfl) scCase.nd (pi_list (pv 6)) (blkOk_by (own := [("_law_some", 11)]) (N := ["_law_hand_here", "_law_most_discs", "_law_most_wishes", "_law_things", "_law_wishes", "_law_thin", "_law_held", "_law_k", "_law_wish", "_law_spot", "_law_one", "_law_some"]) (sc := defScope sCase) (by decide +kernel)) (fun _ _ _ _ _ => pg_name (i := 11) scCase.nd rfl (.inl rfl)) (fun _ _ _ _ _ => pts_nil) (fun _ _ _ _ _ => pe_callTy call_tuple_of (by rfl) T.tuple (by decide +kernel) (pa_cons (pv 11) pa_nil))) pa_nil)) (pa_cons (pe_callTy call_tuple_of (by rfl) T.tuple (by decide +kernel) (pa_cons (pv 4) pa_nil)) pa_nil)))))))))), ?_⟩
    have fr : n + 2000 ≤ 1000000 := hn
    refine ⟨_, rfl, _, rfl, _, rfl, mw, 4, rfl, rfl, h, mw + 4, n, rfl, by omega, lt30' (by omega), hh, by show n ≤ 1000000; omega, fun d H1 e0 e1 h1 b1 => ?_⟩
    refine ⟨1, d, rfl, rfl, h, n + 1, 1 + d, rfl, by omega, by omega, h1, by show n + 1 + 100 ≤ 1000000; omega, fun L ns H2 eL Lh nL ln sN pN h2 b2 => ?_⟩
    have bt2 : But h H H2 := b1.trans b2
    have ns20 : ns.length ≤ 20 := by omega
    clear b1 b2 h1
    -- wishes
    have h2' : Hand (n + 31) H2 h := h2.mono (by omega)
    refine ⟨_, rfl, L, rfl, ⟨_, SqL.of eL⟩, fun D nD => ?_⟩
    have Dh := h2'.fresh nD
    refine lc_list (K := K) (a := L) (xs := ns.map V.int) (fun i Hi => ∃ ws : List Int, Hi D = some (.lst (ws.map V.int)) ∧ (ws.length ≤ i ∧ Sm ws ∧ ws.Sublist (ns.take i)) ∧ Hand (n + 31 + i) Hi h ∧ But h H2 Hi) ⟨[], upd_same, ⟨Nat.le_refl _, by simp [Sm], by simp⟩, (h2'.same (same_upd nD)).mono (by omega), Same.but (same_upd nD) h⟩ ?_ ?_ ?_
    · rintro i Hi _ ⟨ws, _, _, _, bi⟩
      exact SqL.of (bi _ _ Lh eL)
    · rintro i x Hi hx ⟨ws, eD, ⟨lw, sw, sub⟩, hdi, bi⟩
      rw [List.getElem?_map] at hx
      obtain ⟨g, eg, rfl⟩ := Option.map_eq_some_iff.mp hx
      have il : i < ns.length := (List.getElem?_eq_some_iff.mp eg).1
      refine ⟨rfl, ?_⟩
      refine ⟨_, rfl, h, 5, n + 31 + i, rfl, by decide, by decide, hdi, by show n + 31 + (i : Int) ≤ 1000000; omega, fun d H3 e0 e1 h3 b3 => ⟨d, 0, rfl, rfl, _, rfl, ite2 (fun e => ?_) (fun e => ?_)⟩⟩
      · refine ⟨_, rfl, _, b3 _ _ Dh eD, ?_, ws ++ [g], by rw [upd_same, List.map_append]; rfl, ?_, (h3.upd (Ne.symm Dh)).mono (by omega), fun b x nb e => ?_⟩
        · rw [List.length_map]
          exact Nat.lt_of_le_of_lt (show ws.length ≤ 100 by omega) (by decide)
        · refine ⟨?_, sw.snoc (sN g (List.mem_of_getElem? eg)).1 (sN g (List.mem_of_getElem? eg)).2, by rw [List.take_add_one, eg]; exact sub.append (List.Sublist.refl _)⟩
          rw [List.length_append]
          exact Nat.add_le_add_right lw 1
        · rw [upd_ne (ne_of_none e nD)]
          exact b3 b x nb (bi b x nb e)
      · exact ⟨ws, b3 _ _ Dh eD, ⟨Nat.le_succ_of_le lw, sw, by rw [List.take_add_one]; exact sub.trans (List.sublist_append_left _ _)⟩, h3.mono (by omega), bi.trans b3⟩
    rintro H3 ⟨ws0, eD, ⟨lw, sw0, sub0⟩, h3, b3⟩
    rw [List.length_map] at lw h3
    refine ⟨_, rfl, mw, rfl, D, _, rfl, SqL.of eD, fun W nW => ?_⟩
    obtain ⟨ws, ews, lws, sw, pw, lmw⟩ : ∃ ws : List Int, cutV (ws0.map V.int) none (some mw) = ws.map V.int ∧ ws.length ≤ 20 ∧ Sm ws ∧ ws.Pairwise (· < ·) ∧ (ws.length : Int) ≤ mw := ⟨_, cut_ints ws0 none (some mw), Nat.le_trans (cut_len ws0 none (some mw)) (by omega), fun x hx => sw0 x (List.mem_of_mem_drop (List.mem_of_mem_take hx)), pN.sublist (((List.take_sublist _ _).trans (List.drop_sublist _ _)).trans (sub0.trans (List.take_sublist _ _))), (by
      obtain ⟨kw, rfl⟩ : ∃ k : Nat, mw = (k : Int) := ⟨mw.toNat, by omega⟩
      rw [List.length_take, HT.sIx_nat]
      omega)⟩
    clear sub0
    rw [ews]
    have h3' : Hand (n + 60) H3 h := h3.mono (by omega)
    have sW := same_upd nW (o := .lst (ws.map V.int))
    have eW : (upd H3 W (.lst (ws.map V.int))) W = some (.lst (ws.map V.int)) := upd_same
    have eL3 := sW _ _ (b3 _ _ Lh eL)
    have hW := h3'.same sW
    have Wh := h3'.fresh nW
    have btW : But h H (upd H3 W (.lst (ws.map V.int))) := (bt2.trans b3).trans (Same.but sW h)
    generalize upd H3 W (.lst (ws.map V.int)) = H4 at eW eL3 hW btW ⊢
    clear b3 h3 h3' sW eD lw ews nW h2 h2' nD
    -- thin, held
    refine ⟨_, rfl, (by show 5 ≤ sizeLine; decide), fun l1 n1 => ?_⟩
    have s1 := same_upd n1 (o := .lst [.int 2, .int 2, .int 3, .int 4, .int 6])
    refine ⟨h, n + 60, _, rfl, hW.same s1, by show n + 60 ≤ 1000000; omega, .inl ⟨l1, _, rfl, upd_same, hW.fresh n1, by simp, by show 5 < 1000; decide, fun v H5 mv h5 b5 => ?_⟩⟩
    obtain ⟨th, rfl, th1, th2⟩ : ∃ i : Int, v = .int i ∧ 0 < i ∧ i < 1000 := by
      simp only [List.mem_cons, List.not_mem_nil, or_false] at mv
      rcases mv with e | e | e | e | e <;> exact ⟨_, e, by decide, by decide⟩
    refine ⟨(by show 0 ≤ sizeLine; decide), fun HL nHL => ⟨(by show 2 ≤ sizeLine; decide), fun tp ntp => ?_⟩⟩
    have sH := same_upd nHL (o := .lst [])
    have sP := same_upd ntp (o := .tup [.int th, .ref HL])
    have HLh := h5.fresh nHL
    have h6 := (h5.same sH).same sP
    have bt6 := (btW.trans (Same.but s1 h)).trans (b5.trans (Same.but (sH.trans sP) h))
    have eW6 := sP _ _ (sH _ _ (b5 _ _ Wh (s1 _ _ eW)))
    have eL6 := sP _ _ (sH _ _ (b5 _ _ Lh (s1 _ _ eL3)))
    have eH6 : (upd (upd H5 HL (.lst [])) tp (.tup [.int th, .ref HL])) HL = some (.lst []) := sP _ _ upd_same
    have WHL : W ≠ HL := ne_of_none (b5 _ _ Wh (s1 _ _ eW)) nHL
    have LHL : L ≠ HL := ne_of_none (b5 _ _ Lh (s1 _ _ eL3)) nHL
    have nH0 : H HL = none := by
      cases z : H HL with
      | none => rfl
      | some x =>
        have := b5 _ _ HLh (s1 _ _ (btW _ _ HLh z))
        rw [nHL] at this
        cases this
    refine ⟨tp, _, rfl, SqT.of upd_same, rfl, ?_⟩
    generalize upd (upd H5 HL (.lst [])) tp (.tup [.int th, .ref HL]) = H6 at h6 bt6 eW6 eL6 eH6 ⊢
    clear b5 h5 s1 sH sP btW eW eL3 hW eL nHL ntp n1 mv
    refine ⟨_, _, rfl, _, _, rfl, rfl, ?_⟩
    refine ⟨_, rfl, _, rfl, md, 1, rfl, rfl, h, md + 1, n + 61, rfl, by omega, lt30' (by omega), h6.mono (by omega), by show n + 61 ≤ 1000000; omega, fun dk H7 dk0 dk1 h7 b7 => ?_⟩
    refine ⟨_, rfl, by omega, by omega, for_range (lo := 0) (n := dk.toNat) (fun k σ Hi => ∃ (xs : List V) (c7 c8 c9 c10 c11 : Option V), σ = [some (.ref h), some (.int md), some (.int mw), some (.ref L), some (.ref W), some (.int th), some (.ref HL), c7, c8, c9, c10, c11] ∧ Hi HL = some (.lst xs) ∧ xs.length = k ∧ (∀ v ∈ xs, Li 20 h HL Hi v) ∧
        Hi L = some (.lst (ns.map V.int)) ∧ Hi W = some (.lst (ws.map V.int)) ∧ Hand (n + 62 + 30 * k) Hi h ∧ But h H Hi) ?_ ?_ ?_⟩
    · exact ⟨[], _, _, _, _, _, rfl, b7 _ _ HLh eH6, rfl, by simp, b7 _ _ Lh eL6, b7 _ _ Wh eW6, h7.mono (by omega), bt6.trans b7⟩
    · rintro k σ Hi hk ⟨xs, c7, c8, c9, c10, c11, rfl, eHi, lx, cx, eLi, eWi, hdi, bi⟩
      have k20 : k < 20 := by omega
      refine ⟨_, rfl, .inl ⟨rfl, _, SqL.of eHi⟩, _, rfl, L, rfl, ⟨_, SqL.of eLi⟩, fun D nD => ?_⟩
      have Dh := hdi.fresh nD
      refine lc_list (K := K) (a := L) (xs := ns.map V.int) (fun i Hj => ∃ gs : List Int, Hj D = some (.lst (gs.map V.int)) ∧ (gs.length ≤ i ∧ Sm gs) ∧ Hand (n + 62 + 30 * k + i) Hj h ∧ But h Hi Hj) ⟨[], upd_same, ⟨Nat.le_refl _, by simp [Sm]⟩, (hdi.same (same_upd nD)).mono (by omega), Same.but (same_upd nD) h⟩ ?_ ?_ ?_
      · rintro i Hj _ ⟨gs, _, _, _, bj⟩
        exact SqL.of (bj _ _ Lh eLi)
      · rintro i x Hj hx ⟨gs, eD, ⟨lg, sg⟩, hdj, bj⟩
        rw [List.getElem?_map] at hx
        obtain ⟨g, eg, rfl⟩ := Option.map_eq_some_iff.mp hx
        have il : i < ns.length := (List.getElem?_eq_some_iff.mp eg).1
        refine ⟨rfl, ?_⟩
        refine ⟨_, rfl, _, rfl, h, th, n + 62 + 30 * k + i, rfl, th1, lt30' th2, hdj, by show n + 62 + 30 * (k : Int) + i ≤ 1000000; omega, fun d H3 e0 e1 h3 b3 => ⟨rfl, _, rfl, ite2 (fun e => ?_) (fun e => ?_)⟩⟩
        · refine ⟨_, rfl, _, b3 _ _ Dh eD, ?_, gs ++ [g], by rw [upd_same, List.map_append]; rfl, ?_, (h3.upd (Ne.symm Dh)).mono (by omega), fun b x nb e => ?_⟩
          · rw [List.length_map]
            exact Nat.lt_of_le_of_lt (show gs.length ≤ 100 by omega) (by decide)
          · refine ⟨?_, sg.snoc (sN g (List.mem_of_getElem? eg)).1 (sN g (List.mem_of_getElem? eg)).2⟩
            rw [List.length_append]
            exact Nat.add_le_add_right lg 1
          · rw [upd_ne (ne_of_none e nD)]
            exact b3 b x nb (bj b x nb e)
        · exact ⟨gs, b3 _ _ Dh eD, ⟨Nat.le_succ_of_le lg, sg⟩, h3.mono (by omega), bj.trans b3⟩
      rintro H8 ⟨gs, eD, ⟨lg, sg⟩, h8, b8⟩
      rw [List.length_map] at h8
      have DHL : D ≠ HL := Ne.symm (ne_of_none eHi nD)
      refine ⟨HL, _, _, rfl, rfl, b8 _ _ HLh eHi, ?_, ?_⟩
      · rw [lx]
        exact Nat.lt_of_le_of_lt (show k ≤ 100 by omega) (by decide)
      · refine ⟨xs ++ [.ref D], _, _, _, _, _, rfl, upd_same, by rw [List.length_append, lx]; rfl, ?_, by rw [upd_ne LHL]; exact b8 _ _ Lh eLi, by rw [upd_ne WHL]; exact b8 _ _ Wh eWi, (h8.upd (Ne.symm HLh)).mono (by omega), fun b x nb e => ?_⟩
        · intro v hv
          rcases List.mem_append.mp hv with z | z
          · exact ((cx v z).but b8).upd
          · rw [List.mem_singleton.mp z]
            exact ⟨D, gs, rfl, DHL, Dh, by rw [upd_ne DHL]; exact eD, by rw [List.length_map] at lg; omega, sg⟩
        · rw [upd_ne (ne_of_none e nH0)]
          exact b8 b x nb (bi b x nb e)
    rintro σ H9 ⟨xs, c7, c8, c9, c10, c11, rfl, eH9, lx, cx, eL9, eW9, h9, b9⟩
    have lx20 : (xs.length : Int) ≤ md := by omega
    have h9' : Hand (n + 700) H9 h := h9.mono (by omega)
    have flat : ∀ gs : List Int, (gs.map V.int).all flatV = true := fun gs => by
      rw [List.all_eq_true]
      intro v hv
      obtain ⟨g, _, rfl⟩ := List.mem_map.mp hv
      rfl
    clear h9 h7 b7 h6 bt6 eW6 eL6 eH6 bt2
    refine ⟨fun σ Hi => ∃ (ys : List V) (c7 c8 c9 c10 c11 : Option V), σ = [some (.ref h), some (.int md), some (.int mw), some (.ref L), some (.ref W), some (.int th), some (.ref HL), c7, c8, c9, c10, c11] ∧ Hi HL = some (.lst ys) ∧ (ys.length : Int) ≤ md ∧ (∀ v ∈ ys, Li 40 h HL Hi v) ∧
        Hi W = some (.lst (ws.map V.int)) ∧ Hand (n + 800) Hi h ∧ But h H Hi, ?_, ?_⟩
    · have up : ∀ {Hi : Hp} {ys : List V} {m : Nat}, m ≤ 40 → (∀ v ∈ ys, Li m h HL Hi v) → ∀ v ∈ ys, Li 40 h HL Hi v := fun hm q v hv => by
        obtain ⟨l, gs, e, n1, n2, e2, lg, sg⟩ := q v hv
        exact ⟨l, gs, e, n1, n2, e2, Nat.le_trans lg hm, sg⟩
      refine ⟨_, rfl, (by show 0 ≤ sizeLine; decide), fun le nle => ?_⟩
      have se := same_upd nle (o := .lst [])
      have bE : But h H9 (upd H9 le (.lst [])) := Same.but se h
      obtain ⟨ds, q1, q2, q3⟩ := lists_dp (K := K) xs (fun v hv => (cx v hv).but bE)
      refine ⟨.list ds, .list [], .lst (SqL.of (se _ _ eH9)) q1, .lst (SqL.of upd_same) .nil, shaped_list q2 q3, rfl, _, rfl, ite2 (fun e => ?_) (fun e => ?_)⟩
      · have xne : xs ≠ [] := fun z => by
          subst z
          cases q1
          simp [PyData.eqv, PyData.eqvAll] at e
        have xpos : 0 < xs.length := List.length_pos_iff.mpr xne
        refine ⟨_, rfl, h, 4, n + 700, rfl, by decide, by decide, h9'.same se, by show n + 700 ≤ 1000000; omega, fun d Ha d0' d1' ha ba => ⟨d, 0, rfl, rfl, _, rfl, ite2 (fun e2 => ?_) (fun e2 => ?_)⟩⟩
        · have bA : But h H9 Ha := bE.trans ba
          refine ⟨_, rfl, W, rfl, ⟨_, SqL.of (bA _ _ Wh eW9)⟩, ?_⟩
          refine for_list (K := K) (a := W) (xs := ws.map V.int) (fun i σ Hi => ∃ (ys : List V) (c7 c8 c9 c10 c11 : Option V), σ = [some (.ref h), some (.int md), some (.int mw), some (.ref L), some (.ref W), some (.int th), some (.ref HL), c7, c8, c9, c10, c11] ∧ Hi HL = some (.lst ys) ∧ ys.length = xs.length ∧ (∀ v ∈ ys, Li (20 + i) h HL Hi v) ∧
            Hi W = some (.lst (ws.map V.int)) ∧ Hand (n + 701 + i) Hi h ∧ But h H Hi) ?_ ?_ ?_ ?_
          · exact ⟨xs, _, _, _, _, _, rfl, bA _ _ HLh eH9, rfl, fun v hv => (cx v hv).but bA, bA _ _ Wh eW9, ha.mono (by omega), b9.trans bA⟩
          · rintro i σ Hi _ ⟨ys, _, _, _, _, _, _, _, _, _, e, _⟩
            exact SqL.of e
          · rintro i x σ Hi hx ⟨ys, c7, c8, c9, c10, c11, rfl, eHi, ly, cy, eWi, hdi, bi⟩
            rw [List.getElem?_map] at hx
            obtain ⟨g, eg, rfl⟩ := Option.map_eq_some_iff.mp hx
            have il : i < ws.length := (List.getElem?_eq_some_iff.mp eg).1
            refine ⟨_, rfl, HL, rfl, ⟨_, SqL.of eHi⟩, fun D nD => ?_⟩
            refine lc_list (K := K) (a := HL) (xs := ys) (fun j Hj => L2.Same Hi Hj ∧ ∃ bs : List Bool, Hj D = some (.lst (bs.map V.bl)) ∧ bs.length = j) ⟨same_upd nD, [], upd_same, rfl⟩ ?_ ?_ ?_
            · rintro j Hj _ ⟨sj, _⟩
              exact SqL.of (sj _ _ eHi)
            · rintro j v Hj hv ⟨sj, bs, eD, lb⟩
              have jl : j < ys.length := (List.getElem?_eq_some_iff.mp hv).1
              obtain ⟨l, gs, rfl, n1, n2, el, lg, sg⟩ := cy v (List.mem_of_getElem? hv)
              refine ⟨rfl, ?_⟩
              unfold tYes
              refine iteT ⟨_, rfl, _, rfl, l, _, rfl, .inl (SqL.of (sj _ _ el)), rfl, flat gs, ?_⟩
              refine ⟨_, eD, ?_, fun b x e => ?_, bs ++ [inV (.int g) (gs.map V.int)], by rw [upd_same, List.map_append]; rfl, by rw [List.length_append, lb]; rfl⟩
              · rw [List.length_map, lb]
                exact Nat.lt_of_le_of_lt (show j ≤ 100 by omega) (by decide)
              · rw [upd_ne (ne_of_none e nD)]
                exact sj b x e
            rintro Hb ⟨sb, bs, eD, lb⟩
            refine ⟨D, bs, rfl, SqL.of eD, _, rfl, ite2 (fun e3 => ?_) (fun e3 => ?_)⟩
            · refine ⟨_, rfl, _, rfl, HL, ys, rfl, .inl (SqL.of (sb _ _ eHi)), h, (ys.length : Int), n + 701 + i, rfl, by omega, lt30' (by omega), hdi.same sb, by show n + 701 + (i : Int) ≤ 1000000; omega, fun d Hc f0 f1 hc bc => ?_⟩
              have bC : But h Hi Hc := (Same.but sb h).trans bc
              obtain ⟨j, rfl⟩ : ∃ j : Nat, d = (j : Int) := ⟨d.toNat, by omega⟩
              have hj : j < ys.length := by omega
              obtain ⟨l, gs, el', n1, n2, el, lg, sg⟩ := cy ys[j] (List.getElem_mem hj)
              have eHc := bC _ _ HLh eHi
              refine ⟨_, rfl, _, rfl, HL, ys, _, .ref l, rfl, rfl, SqL.of eHc, atI_nat (by rw [List.getElem?_eq_getElem hj, el']), ?_⟩
              refine ⟨_, rfl, (by show 1 ≤ sizeLine; decide), fun lw nlw => ?_⟩
              have slw := same_upd nlw (o := .lst [.int g])
              refine ⟨l, lw, _, _, rfl, rfl, slw _ _ (bC _ _ n2 el), upd_same, ?_, fun lc nlc => ?_⟩
              · rw [List.length_map]
                exact Nat.le_trans (show gs.length + 1 ≤ 100 by omega) (by decide)
              have slc := same_upd nlc (o := .lst (gs.map V.int ++ [.int g]))
              refine ⟨lc, gs ++ [g], rfl, SqL.of (by rw [upd_same, List.map_append]; rfl), fun ns' p perm _ np => ?_⟩
              have sp := same_upd np (o := .lst (ns'.map V.int))
              have sA := (slw.trans slc).trans sp
              have eHp := sA _ _ eHc
              refine ⟨_, rfl, _, rfl, HL, _, _, j, rfl, rfl, eHp, ixN_nat hj, ?_⟩
              have ph := ((hc.same slw).same slc).fresh np
              have pHL : p ≠ HL := Ne.symm (ne_of_none (slc _ _ (slw _ _ eHc)) np)
              have bF : But h Hi (upd (upd (upd Hc lw (.lst [.int g])) lc (.lst (gs.map V.int ++ [.int g]))) p (.lst (ns'.map V.int))) := bC.trans (Same.but sA h)
              refine ⟨_, _, _, _, _, _, rfl, upd_same, by rw [List.length_set]; exact ly, fun v hv => ?_, by rw [upd_ne WHL]; exact bF _ _ Wh eWi, ((hc.same sA).upd (Ne.symm HLh)).mono (by omega), fun b x nb e => ?_⟩
              · rcases List.mem_or_eq_of_mem_set hv with z | z
                · obtain ⟨l2, g2, r1, r2, r3, r4, r5, r6⟩ := ((cy v z).but bF).upd (o := .lst (ys.set j (.ref p)))
                  exact ⟨l2, g2, r1, r2, r3, r4, by omega, r6⟩
                · subst z
                  refine ⟨p, ns', rfl, pHL, ph, by rw [upd_ne pHL, upd_same], ?_, fun x hx => (sg.snoc (sw g (List.mem_of_getElem? eg)).1 (sw g (List.mem_of_getElem? eg)).2) x (perm.mem_iff.mp hx)⟩
                  rw [perm.length_eq, List.length_append]
                  show gs.length + 1 ≤ _
                  omega
              · rw [upd_ne (ne_of_none e nH0)]
                exact bF b x nb (bi b x nb e)
            · refine ⟨ys, _, _, _, _, _, rfl, sb _ _ eHi, ly, fun v hv => ?_, sb _ _ eWi, (hdi.same sb).mono (by omega), bi.trans (Same.but sb h)⟩
              obtain ⟨l2, g2, r1, r2, r3, r4, r5, r6⟩ := (cy v hv).but (Same.but sb h)
              exact ⟨l2, g2, r1, r2, r3, r4, by omega, r6⟩
          · rintro σ Hz ⟨ys, c7, c8, c9, c10, c11, rfl, eHi, ly, cy, eWi, hdi, bi⟩
            rw [List.length_map] at cy hdi
            exact ⟨ys, _, _, _, _, _, rfl, eHi, by omega, up (by omega) cy, eWi, hdi.mono (by omega), bi⟩
        · have bA : But h H9 Ha := bE.trans ba
          exact ⟨xs, _, _, _, _, _, rfl, bA _ _ HLh eH9, lx20, up (by decide) (fun v hv => (cx v hv).but bA), bA _ _ Wh eW9, ha.mono (by omega), b9.trans bA⟩
      · exact ⟨xs, _, _, _, _, _, rfl, se _ _ eH9, lx20, up (by decide) (fun v hv => (cx v hv).but bE), se _ _ eW9, (h9'.same se).mono (by omega), b9.trans bE⟩
    rintro σ Hi ⟨ys, c7, c8, c9, c10, c11, rfl, eHi, ly, cy, eWi, hdi, bi⟩
    refine ⟨_, rfl, HL, rfl, ⟨_, SqL.of eHi⟩, fun D nD => ?_⟩
    refine lc_list (K := K) (a := HL) (xs := ys) (fun j Hj => L2.Same Hi Hj ∧ ∃ zs : List V, Hj D = some (.lst zs) ∧ zs.length = j ∧ ∀ v ∈ zs, ∃ t, ∃ gs : List Int, v = .ref t ∧ Hj t = some (.tup (gs.map V.int)) ∧ gs.length ≤ 40 ∧ Sm gs) ⟨same_upd nD, [], upd_same, rfl, by simp⟩ ?_ ?_ ?_
    · rintro j Hj _ ⟨sj, _⟩
      exact SqL.of (sj _ _ eHi)
    · rintro j v Hj hv ⟨sj, zs, eD, lz, cz⟩
      have jl : j < ys.length := (List.getElem?_eq_some_iff.mp hv).1
      obtain ⟨l, gs, rfl, n1, n2, el, lg, sg⟩ := cy v (List.mem_of_getElem? hv)
      refine ⟨rfl, ?_⟩
      unfold tYes
      refine iteT ⟨_, rfl, l, _, rfl, .inl ⟨SqL.of (sj _ _ el), fun p np => ?_⟩⟩
      have sp := same_upd np (o := .tup (gs.map V.int))
      have pD : p ≠ D := Ne.symm (ne_of_none eD np)
      refine ⟨_, sp _ _ eD, ?_, fun b x e => ?_, zs ++ [.ref p], upd_same, by rw [List.length_append, lz]; rfl, fun v hv => ?_⟩
      · rw [lz]
        exact Nat.lt_of_le_of_lt (show j ≤ 100 by omega) (by decide)
      · rw [upd_ne (ne_of_none e nD)]
        exact sp _ _ (sj b x e)
      · rcases List.mem_append.mp hv with z | z
        · obtain ⟨t, g2, e1, e2, e3⟩ := cz v z
          refine ⟨t, g2, e1, ?_, e3⟩
          rw [upd_ne (fun q => by rw [q, eD] at e2; cases e2)]
          exact sp _ _ e2
        · rw [List.mem_singleton.mp z]
          exact ⟨p, gs, rfl, by rw [upd_ne pD, upd_same], lg, sg⟩
    rintro Hb ⟨sb, zs, eD, lz, cz⟩
    refine ⟨D, zs, rfl, .inl ⟨SqL.of eD, fun ta nta => ?_⟩⟩
    have s1 := same_upd nta (o := .tup zs)
    refine ⟨_, rfl, W, _, rfl, .inl ⟨SqL.of (s1 _ _ (sb _ _ eWi)), fun tb ntb => ?_⟩⟩
    have s2 := same_upd ntb (o := .tup (ws.map V.int))
    refine ⟨(by show 2 ≤ sizeLine; decide), fun tt ntt => ?_⟩
    have s3 := same_upd ntt (o := .tup [.ref ta, .ref tb])
    have sA := (s1.trans s2).trans s3
    obtain ⟨hs, hl, sh⟩ := Hl.of (H := upd (upd (upd Hb ta (.tup zs)) tb (.tup (ws.map V.int))) tt (.tup [.ref ta, .ref tb])) zs fun v hv => by
      obtain ⟨t, g2, e1, e2, e3⟩ := cz v hv
      exact ⟨t, g2, e1, sA _ _ e2, e3⟩
    have lhs := hl.len
    exact q tt ta tb zs hs ws _ upd_same (s3 _ _ (s2 _ _ upd_same)) hl (by omega) sh (s3 _ _ upd_same) lws sw pw lmw (((hdi.same sb).same sA).mono (by omega)) (bi.trans (Same.but (sb.trans sA) h))
end
end K60
set_option Elab.async false
set_option linter.all false
set_option maxRecDepth 100000
set_option maxHeartbeats 4000000
set_option pp.maxSteps 400
set_option pp.deepTerms false
namespace K60
open PySem PySem.Spec PyProof.Rows L2
open Xk Az
section
variable {P : Program} {w : World} {K : PySem.W.Frag} {mg : Str → Option Value} {base : Heap}
theorem flat_ints (gs : List Int) : (gs.map V.int).all flatV = true := by
  rw [List.all_eq_true]
  intro v hv
  obtain ⟨g, _, rfl⟩ := List.mem_map.mp hv
  rfl
theorem inV_ints (g : Int) : ∀ gs : List Int, inV (.int g) (gs.map V.int) = decide (g ∈ gs)
  | [] => by simp [inV]
  | x :: r => by
    have ih := inV_ints g r
    unfold inV at ih ⊢
    rw [List.map_cons, List.any_cons, ih]
    by_cases c : x = g
    · simp [eqV, c]
    · simp [eqV, c, Ne.symm c]
def spHolders : Sp := fun vs H Q _ => ∃ (a : Addr) (g : Int) (xs : List V) (hs : List (List Int)), vs = [.ref a, .int g] ∧ H a = some (.tup xs) ∧ Hl H xs hs ∧ hs.length ≤ 12 ∧
  ∀ L (ns : List Int) H', L2.Same H H' → H' L = some (.lst (ns.map V.int)) → (ns.isEmpty = ((List.range hs.length).all fun k => !P56.on hs k g)) → ns = P56.toI (P56.hold hs g) → Q (.ref L) H'
def spNA (K : PySem.W.Frag) : Sp := fun vs H Q _ => ∃ (a b : Addr) (gs ms : List Int), vs = [.ref a, .ref b] ∧ H a = some (.tup (gs.map V.int)) ∧ H b = some (.tup (ms.map V.int)) ∧ ms.length ≤ 20 ∧
  ∀ t H', L2.Same H H' → H' t = some (.tup ((P56.rest gs ms).map V.int)) → Q (.ref t) H'
theorem ok_holders {f : Addr} {fd : FuncData} (D : Df K mg "holders" ["held", "wish"] sHolders f fd) (T : Txt mg) : FnOk P w K mg base CX0 1 f fd ["held", "wish"] spHolders := by
  refine D.fn.ok scHolders (fun vs H Q E h => ?_) (fun cdv A outer s H vs Q E hr h => ?_)
  · obtain ⟨a, g, xs, hs, rfl, ea, hl, l12, q⟩ := h
    rfl
  · obtain ⟨a, g, xs, hs, rfl, ea, hl, l12, q⟩ := h
    refine ⟨_, (pss_one (ps_ret (pe_lc (own := [("number", 2), ("things", 3)]) (g := (gTup K 2 (gCons (gName 2) (gCons (gName 3) gNil)))) (tt := tTest (tOp (rIn K false) (tVar 1) (tVar 3))) (by rfl) scHolders.nd (Xt.pi_enumT (by rfl) T.enumerate (pa_cons (pv 0) pa_nil)) (blkOk_by (own := [("number", 2), ("things", 3)]) (N := ["held", "wish", "number", "things"]) (sc := defScope sHolders) (by decide +kernel)) (fun _ _ _ _ _ => pg_tup (by rfl) (pgs_cons (pg_name (i := 2) scHolders.nd rfl (.inl rfl)) (pgs_cons (pg_name (i := 3) scHolders.nd rfl (.inl rfl)) pgs_nil))) (fun _ _ _ _ _ => (pts_one (pt_cmpR op_in_seq (pv 1) (pv 3) (by rfl)))) (fun _ _ _ _ _ => pv 2)))), ?_⟩
    have lh := hl.len
    refine ⟨_, rfl, a, xs, rfl, SqT.of ea, fun D nD => ?_⟩
    refine lc_it (Xt.walk_enumT (K := K) (a := a) (xs := xs)) (fun i Hi => L2.Same H Hi ∧ ∃ ns : List Int, Hi D = some (.lst (ns.map V.int)) ∧ ns.length ≤ i ∧ (ns.isEmpty = ((List.range i).all fun k => !P56.on hs k g)) ∧ ns = P56.toI ((List.range i).filter fun k => P56.on hs k g)) ⟨same_upd nD, [], upd_same, Nat.le_refl _, rfl, rfl⟩ (fun i Hi _ z => SqT.of (z.1 _ _ ea)) ?_ ?_
    · rintro i v Hi H' hi ⟨sm, ns, eD, ln, en, ef⟩ ⟨t, x, z, rfl, nt, rfl, ex, ez⟩
      have hi' : i < hs.length := by omega
      obtain ⟨tk, etk, eTk⟩ := hl.get hi'
      obtain rfl : V.ref tk = z := Option.some.inj (etk.symm.trans ez)
      obtain rfl : V.int (i : Nat) = x := Option.some.inj ex
      have st := same_upd nt (o := .tup [.int (i : Nat), .ref tk])
      have eo : P56.on hs i g = inV (.int g) ((hs[i]).map V.int) := by
        rw [inV_ints]
        unfold P56.on
        simp [List.getD_eq_getElem?_getD, hi']
      refine ⟨t, _, rfl, SqT.of upd_same, rfl, _, _, rfl, _, _, rfl, rfl, rfl, ?_⟩
      refine ⟨_, rfl, _, rfl, tk, _, rfl, .inr (SqT.of (st _ _ (sm _ _ eTk))), rfl, flat_ints _, ?_⟩
      refine ⟨_, rfl, ite2 (fun e => ?_) (fun e => ?_)⟩
      · refine ⟨_, rfl, _, st _ _ eD, ?_, fun c o q => ?_, ns ++ [(i : Int)], by rw [upd_same, List.map_append]; rfl, by rw [List.length_append]; exact Nat.add_le_add_right ln 1, ?_, ?_⟩
        · rw [List.length_map]
          exact Nat.lt_of_le_of_lt (show ns.length ≤ 1000 by omega) (by decide)
        · rw [upd_ne (ne_of_none q nD)]
          exact st _ _ (sm _ _ q)
        · rw [List.range_succ, List.all_append, List.all_cons, eo]
          simp at e
          simp [e]
        · have e' : P56.on hs i g = true := by rw [eo]; simpa using e
          rw [List.range_succ, List.filter_append, List.filter_cons, if_pos e', ef]
          simp [P56.toI]
      · refine ⟨sm.trans st, ns, st _ _ eD, Nat.le_succ_of_le ln, ?_, ?_⟩
        · rw [List.range_succ, List.all_append, List.all_cons, eo, en]
          simp at e
          simp [e]
        · have e' : ¬ P56.on hs i g = true := by rw [eo]; simpa using e
          rw [List.range_succ, List.filter_append, List.filter_cons, if_neg e', ef]
          simp
    · rintro He ⟨sm, ns, eD, ln, en, ef⟩
      rw [lh] at en ef
      exact q D ns He sm eD en ef
theorem ok_na {f : Addr} {fd : FuncData} (D : Df K mg "not_among" ["things", "wishes"] sNotAmong f fd) (T : Txt mg) : FnOk P w K mg base CX0 1 f fd ["things", "wishes"] (spNA K) := by
  refine D.fn.ok scNotAmong (fun vs H Q E h => ?_) (fun cdv A outer s H vs Q E hr h => ?_)
  · obtain ⟨a, b, gs, ms, rfl, ea, eb, l20, q⟩ := h
    rfl
  · obtain ⟨a, b, gs, ms, rfl, ea, eb, l20, q⟩ := h
    refine ⟨_, (pss_one (ps_ret (pe_callTy call_tuple_of (by rfl) T.tuple (by decide +kernel) (pa_cons (pe_lc (own := [("wish", 2)]) (g := gName 2) (tt := tTest (tOp (rIn K true) (tVar 2) (tVar 0))) (by rfl) scNotAmong.nd (pi_tup (pv 1)) (blkOk_by (own := [("wish", 2)]) (N := ["things", "wishes", "wish"]) (sc := defScope sNotAmong) (by decide +kernel)) (fun _ _ _ _ _ => pg_name (i := 2) scNotAmong.nd rfl (.inl rfl)) (fun _ _ _ _ _ => (pts_one (pt_cmpR op_notIn_seq (pv 2) (pv 0) (by rfl)))) (fun _ _ _ _ _ => pv 2)) pa_nil)))), ?_⟩
    refine ⟨_, rfl, b, rfl, ⟨_, SqT.of eb⟩, fun D nD => ?_⟩
    refine lc_tup (K := K) (a := b) (xs := ms.map V.int) (fun i Hi => L2.Same H Hi ∧ Hi D = some (.lst ((P56.rest gs (ms.take i)).map V.int))) ⟨same_upd nD, upd_same⟩ (fun i Hi _ z => SqT.of (z.1 _ _ eb)) ?_ ?_
    · rintro i x Hi hx ⟨sm, eD⟩
      rw [List.getElem?_map] at hx
      obtain ⟨g, eg, rfl⟩ := Option.map_eq_some_iff.mp hx
      have il : i < ms.length := (List.getElem?_eq_some_iff.mp eg).1
      have tk : P56.rest gs (ms.take (i + 1)) = P56.rest gs (ms.take i) ++ (if inV (.int g) (gs.map V.int) = true then [] else [g]) := by
        unfold P56.rest
        rw [List.take_add_one, eg, List.filter_append, inV_ints]
        by_cases c : g ∈ gs <;> simp [c]
      refine ⟨rfl, ?_⟩
      refine ⟨_, rfl, _, rfl, a, _, rfl, .inr (SqT.of (sm _ _ ea)), rfl, flat_ints _, ?_⟩
      refine ⟨_, rfl, ite2 (fun e => ?_) (fun e => ?_)⟩
      · have e' : inV (.int g) (gs.map V.int) = false := by simpa using e
        refine ⟨_, rfl, _, eD, ?_, fun c o q => ?_, ?_⟩
        · rw [List.length_map]
          refine Nat.lt_of_le_of_lt (Nat.le_trans (List.length_filter_le _ _) (show (ms.take i).length ≤ 1000 from ?_)) (by decide)
          rw [List.length_take]; omega
        · rw [upd_ne (ne_of_none q nD)]
          exact sm _ _ q
        · rw [upd_same, tk, e', if_neg Bool.false_ne_true, List.map_append]
          rfl
      · have e' : inV (.int g) (gs.map V.int) = true := by simpa using e
        refine ⟨sm, ?_⟩
        rw [tk, e', if_pos rfl, List.append_nil]
        exact eD
    · rintro He ⟨sm, eD⟩
      rw [List.length_map, List.take_length] at eD
      refine ⟨D, _, rfl, .inl ⟨SqL.of eD, fun p np => ?_⟩⟩
      exact q p _ (sm.trans (same_upd np)) upd_same
end
end K60
set_option Elab.async false
set_option linter.all false
set_option maxRecDepth 100000
set_option maxHeartbeats 4000000
set_option pp.maxSteps 400
set_option pp.deepTerms false
namespace K60
open PySem PySem.Spec PyProof.Rows L2
open Xk Az
section
variable {P : Program} {w : World} {K : PySem.W.Frag} {mg : Str → Option Value} {base : Heap}
open P56 in
theorem ibk2 {hs : List (List Int)} {ms : List Int} {n : Nat} {x : Str} {w : PyData} : ibk hs n ms (.tuple [.str x, w]) = endB hs ms n x w := by cases n <;> rfl
def tkN (hs : List (List Int)) : Nat → List Int → PyData → PyData → Bool
  | 0, _, _, _ => false
  | n + 1, ms, w, b => P56.tkB hs (P56.ibk hs n) ms w b
open P56 in
theorem ibk3 {hs : List (List Int)} {ms : List Int} {n : Nat} {x : Str} {w b : PyData} : ibk hs n ms (.tuple [.str x, w, b]) = (decide (x = "take") && tkN hs n ms w b) := by
  cases n with
  | zero => simp [ibk, tkN]
  | succ n => rfl
open P56 in
theorem ibkN {hs : List (List Int)} {ms : List Int} {n : Nat} {d : PyData} (h2 : ∀ x w, d ≠ .tuple [.str x, w]) (h3 : ∀ x w b, d ≠ .tuple [.str x, w, b]) : ibk hs n ms d = false := by
  cases n with
  | zero =>
    unfold ibk
    split
    · exact absurd rfl (h2 _ _)
    · rfl
  | succ n =>
    unfold ibk
    split
    · exact absurd rfl (h2 _ _)
    · exact absurd rfl (h3 _ _ _)
    · rfl
def isTup : PyData → Bool
  | .tuple _ => true
  | _ => false
theorem z_tup : ∀ d : PyData, PySem.W.kitOne K (.type (kindD d)) (.type "tuple") = some (isTup d)
  | .none => kit_ty (a := "NoneType") (b := "tuple") (r := false) (by decide +kernel)
  | .bool _ => kit_ty (a := "bool") (b := "tuple") (r := false) (by decide +kernel)
  | .int _ => kit_ty (a := "int") (b := "tuple") (r := false) (by decide +kernel)
  | .str _ => kit_ty (a := "str") (b := "tuple") (r := false) (by decide +kernel)
  | .list _ => kit_ty (a := "list") (b := "tuple") (r := false) (by decide +kernel)
  | .tuple _ => kit_ty (a := "tuple") (b := "tuple") (r := true) (by decide +kernel)
  | .dict _ => kit_ty (a := "dict") (b := "tuple") (r := false) (by decide +kernel)
def isStr : PyData → Bool
  | .str _ => true
  | _ => false
theorem z_str : ∀ d : PyData, PySem.W.kitOne K (.type (kindD d)) (.type "str") = some (isStr d)
  | .none => kit_ty (a := "NoneType") (b := "str") (r := false) (by decide +kernel)
  | .bool _ => kit_ty (a := "bool") (b := "str") (r := false) (by decide +kernel)
  | .int _ => kit_ty (a := "int") (b := "str") (r := false) (by decide +kernel)
  | .str _ => kit_ty (a := "str") (b := "str") (r := true) (by decide +kernel)
  | .list _ => kit_ty (a := "list") (b := "str") (r := false) (by decide +kernel)
  | .tuple _ => kit_ty (a := "tuple") (b := "str") (r := false) (by decide +kernel)
  | .dict _ => kit_ty (a := "dict") (b := "str") (r := false) (by decide +kernel)
def wh : PyData → Option Int
  | .int i => some i
  | _ => none
theorem dz_len {H : Hp} : ∀ {xs : List V} {ds : List PyData}, DzAll K H xs ds → xs.length = ds.length
  | [], _, .nil => rfl
  | _ :: _, _, .cons _ hr => by rw [List.length_cons, List.length_cons, dz_len hr]
theorem dz_get {H : Hp} : ∀ {xs : List V} {ds : List PyData} {i : Nat} {v : V}, DzAll K H xs ds → xs[i]? = some v → ∃ d, ds[i]? = some d ∧ Dz K H v d
  | [], _, _, _, .nil, e => by simp at e
  | _ :: _, _, 0, _, .cons hd _, e => by
    cases e
    exact ⟨_, rfl, hd⟩
  | _ :: _, _, i + 1, _, .cons _ hr, e => dz_get (i := i) hr e
theorem ints_of {H : Hp} {ms : List Int} : ∀ {xs : List V} {ds : List PyData}, DzAll K H xs ds → ds.all (P56.mis ms) = true → xs = (ds.map P56.num).map V.int ∧ ∀ k ∈ ds.map P56.num, k ∈ ms
  | [], _, .nil, _ => ⟨rfl, by simp⟩
  | _ :: _, _, .cons (d := d) hd hr, h => by
    rw [List.all_cons, Bool.and_eq_true] at h
    obtain ⟨i, rfl, h1⟩ := P56.mis_int h.1
    obtain ⟨e, q⟩ := ints_of hr h.2
    cases hd
    refine ⟨by rw [List.map_cons, List.map_cons, ← e]; rfl, fun k hk => ?_⟩
    rw [List.map_cons] at hk
    rcases List.mem_cons.mp hk with z | z
    · rw [z]; exact h1
    · exact q k z
def rLn (K : PySem.W.Frag) : List V → Hp → VK → Prop := fun xs H Q => ∃ p ys, xs = [V.ref p] ∧ (SqL K H p ys ∨ SqT K H p ys) ∧ Q (V.int ys.length) H
def spWholeG (K : PySem.W.Frag) : Sp := fun vs H Q _ => ∃ (v : V) (d : PyData), vs = [v] ∧ Dz K H v d ∧ Q (.bl (wh d).isSome) H
def spMisG (K : PySem.W.Frag) : Sp := fun vs H Q _ => ∃ (b : Addr) (v : V) (d : PyData) (ms : List Int), vs = [.ref b, v] ∧ H b = some (.tup (ms.map V.int)) ∧ Dz K H v d ∧ Q (.bl (P56.mis ms d)) H
def spSomG (K : PySem.W.Frag) : Sp := fun vs H Q _ => ∃ (a b : Addr) (xs : List V) (hs : List (List Int)) (ms : List Int) (n k : Nat) (v : V) (d : PyData), vs = [.ref a, .ref b, .int (n : Int), v] ∧ H a = some (.tup xs) ∧ Hl H xs hs ∧ hs.length ≤ 12 ∧ H b = some (.tup (ms.map V.int)) ∧ ms.length ≤ 20 ∧ Dz K H v d ∧ P56.Wd k d ∧ ∀ H', L2.Same H H' → Q (.bl (P56.som hs ms n d)) H'
def spIBG (K : PySem.W.Frag) (n : Nat) : Sp := fun vs H Q _ => ∃ (a b : Addr) (xs : List V) (hs : List (List Int)) (ms : List Int) (k : Nat) (v : V) (d : PyData), vs = [.ref a, .ref b, .int (n : Int), v] ∧ H a = some (.tup xs) ∧ Hl H xs hs ∧ hs.length ≤ 12 ∧ H b = some (.tup (ms.map V.int)) ∧ ms.length ≤ 20 ∧ Dz K H v d ∧ P56.Wd k d ∧ ∀ H', L2.Same H H' → Q (.bl (P56.ibk hs n ms d)) H'
def spIBb (K : PySem.W.Frag) : Nat → Sp
  | 0 => fun _ _ _ _ => False
  | n + 1 => spIBG K n
def spTkG (K : PySem.W.Frag) (n : Nat) : Sp := fun vs H Q _ => ∃ (a b : Addr) (xs : List V) (hs : List (List Int)) (ms : List Int) (k : Nat) (v u : V) (d e : PyData), vs = [.ref a, .ref b, .int (n : Int), v, u] ∧ H a = some (.tup xs) ∧ Hl H xs hs ∧ hs.length ≤ 12 ∧ H b = some (.tup (ms.map V.int)) ∧ ms.length ≤ 20 ∧ Dz K H v d ∧ Dz K H u e ∧ P56.Wd k e ∧ ∀ H', L2.Same H H' → Q (.bl (tkN hs n ms d e)) H'
def spSNG (K : PySem.W.Frag) : Sp := fun vs H Q _ => ∃ (a b : Addr) (xs : List V) (hs : List (List Int)) (ms : List Int) (n k : Nat) (v : V) (d : PyData), vs = [.ref a, .ref b, .int (n : Int), v] ∧ H a = some (.tup xs) ∧ Hl H xs hs ∧ hs.length ≤ 12 ∧ H b = some (.tup (ms.map V.int)) ∧ ms.length ≤ 20 ∧ n ≤ 14 ∧ Dz K H v d ∧ P56.Wd k d ∧ ∀ H', L2.Same H H' → Q (.bl (P56.ibk hs n ms d)) H'
theorem ok_wholeG {f : Addr} {fd : FuncData} (D : Df K mg "is_whole" ["thing"] sIsWhole f fd) (T : Txt mg) : FnOk P w K mg base CX0 1 f fd ["thing"] (spWholeG K) := by
  refine D.fn.ok scIsWhole (fun vs H Q E h => ?_) (fun cdv A outer s H vs Q E hr h => ?_)
  · obtain ⟨v, d, rfl, h, q⟩ := h
    rfl
  · obtain ⟨v, d, rfl, h, q⟩ := h
    refine ⟨_, (pss_one (ps_ret (pe_and (pe_callB call_isi (by rfl) T.isi (by decide +kernel) (pa_cons (pv 0) (pa_cons (pe_bltn (v := .ty "int") (by rfl) T.int (by decide +kernel) rfl) pa_nil))) (pe_one (pe_not (pe_callB call_isi (by rfl) T.isi (by decide +kernel) (pa_cons (pv 0) (pa_cons (pe_bltn (v := .ty "bool") (by rfl) T.bool (by decide +kernel) rfl) pa_nil)))))))), ?_⟩
    cases d with
    | int i =>
      have ty : TyX K H v (.type "int") := h.ty
      refine ⟨_, rfl, _, _, _, _, true, rfl, .ty _, ty, kit_ty (by decide +kernel), true, rfl, iteT ?_⟩
      exact ⟨_, rfl, _, _, _, _, false, rfl, .ty _, ty, kit_ty (by decide +kernel), false, rfl, q⟩
    | bool b =>
      have ty : TyX K H v (.type "bool") := h.ty
      refine ⟨_, rfl, _, _, _, _, true, rfl, .ty _, ty, kit_ty (by decide +kernel), true, rfl, iteT ?_⟩
      exact ⟨_, rfl, _, _, _, _, true, rfl, .ty _, ty, kit_ty (by decide +kernel), true, rfl, q⟩
    | none  =>
      have ty : TyX K H v (.type "NoneType") := h.ty
      exact ⟨_, rfl, _, _, _, _, false, rfl, .ty _, ty, kit_ty (by decide +kernel), false, rfl, iteF q⟩
    | str x =>
      have ty : TyX K H v (.type "str") := h.ty
      exact ⟨_, rfl, _, _, _, _, false, rfl, .ty _, ty, kit_ty (by decide +kernel), false, rfl, iteF q⟩
    | list ds =>
      have ty : TyX K H v (.type "list") := h.ty
      exact ⟨_, rfl, _, _, _, _, false, rfl, .ty _, ty, kit_ty (by decide +kernel), false, rfl, iteF q⟩
    | tuple ds =>
      have ty : TyX K H v (.type "tuple") := h.ty
      exact ⟨_, rfl, _, _, _, _, false, rfl, .ty _, ty, kit_ty (by decide +kernel), false, rfl, iteF q⟩
    | dict ds =>
      have ty : TyX K H v (.type "dict") := h.ty
      exact ⟨_, rfl, _, _, _, _, false, rfl, .ty _, ty, kit_ty (by decide +kernel), false, rfl, iteF q⟩
theorem ok_misG {f : Addr} {fd : FuncData} (D : Df K mg "is_missing" ["missing", "thing"] sIsMissing f fd) (cWG : Ca P w K mg base 1 "is_whole" ["thing"] (spWholeG K)) : FnOk P w K mg base CX0 2 f fd ["missing", "thing"] (spMisG K) := by
  refine D.fn.ok scIsMissing (fun vs H Q E h => ?_) (fun cdv A outer s H vs Q E hr h => ?_)
  · obtain ⟨b, v, d, ms, rfl, eb, h, q⟩ := h
    rfl
  · obtain ⟨b, v, d, ms, rfl, eb, h, q⟩ := h
    refine ⟨_, (pss_one (ps_ret (pe_and (pe_ca cWG hr (by decide) (by rfl) (pa_cons (pv 1) pa_nil)) (pe_one (pe_cmpR op_in_seq (pv 1) (pv 0) (by rfl)))))), ?_⟩
    refine ⟨_, rfl, v, d, rfl, h, _, rfl, ?_⟩
    cases h with
    | int g =>
      refine iteT ⟨_, rfl, _, rfl, b, _, rfl, .inr (SqT.of eb), rfl, flat_ints _, ?_⟩
      show Q (.bl (inV (.int g) (ms.map V.int))) H
      rw [inV_ints]
      exact q
    | _ => exact iteF q
section
variable {X : Cx}
def rSlU : V → Option Int → Option Int → Hp → VK → Prop := fun x lo hi H Q => ∃ a xs, x = .ref a ∧ H a = some (.tup xs) ∧ ∀ p H', L2.Same H H' → H' p = some (.tup (cutV xs lo hi)) → Q (.ref p) H'
theorem sl_tupU : SlR X rSlU := by
  intro pins s σ H x v vl vu lo hi sl Q I rx hs pl pu h
  obtain ⟨a, xs, rfl, e, q⟩ := h
  refine sl_tupA pins s σ H _ v vl vu lo hi sl Q I rx hs pl pu ⟨a, xs, rfl, SqT.of e, fun w => q a H (Same.refl H) ?_, fun _ p np => q p _ (same_upd np) upd_same⟩
  rw [e]
  unfold cutV
  rw [w.1, w.2, List.drop_zero, Nat.sub_zero, List.take_length]
def rCatU : R2 := fun x y H Q => ∃ a b xs ys, x = .ref a ∧ y = .ref b ∧ H a = some (.tup xs) ∧ H b = some (.tup ys) ∧ xs.length + ys.length ≤ sizeLine ∧ ∀ p H', L2.Same H H' → H' p = some (.tup (xs ++ ys)) → Q (.ref p) H'
theorem op_catU : OpR X (binaryOp .Add) rCatU := by
  intro pins s σ H x y v u Q I rx ry h
  obtain ⟨a, b, xs, ys, rfl, rfl, ea, eb, hz, q⟩ := h
  refine op_catA pins s σ H _ _ v u Q I rx ry ⟨a, b, xs, ys, rfl, rfl, SqT.of ea, SqT.of eb, hz, fun z => q b H (Same.refl H) ?_, fun _ z => q a H (Same.refl H) ?_, fun _ _ p np => q p _ (same_upd np) upd_same⟩
  · rw [z]; exact eb
  · rw [z, List.append_nil]; exact ea
end
theorem walk_zipM {a b : Addr} {xs ys : List V} {n : Nat} (l1 : n ≤ xs.length) (hn : n = ys.length) : Walk (RZ.ItzT K a b) n (fun H => SqT K H a xs ∧ SqT K H b ys) (YPair (fun i => xs[i]?) (fun i => ys[i]?)) := by
  refine ⟨fun i H hi s => ?_, fun H s => ⟨xs, ys, s.1, s.2, .inr (by omega)⟩, fun i H v H' hi s y => ?_⟩
  · exact ⟨xs, ys, xs[i]'(by omega), ys[i]'(by omega), s.1, s.2, List.getElem?_eq_getElem (by omega), List.getElem?_eq_getElem (by omega)⟩
  · obtain ⟨T, x, z, h1, h2, h3, h4, h5⟩ := y
    exact ⟨T, x, z, h1, h2, h3, h4 xs s.1, h5 ys s.2⟩
theorem cut1 (xs : List V) : cutV xs (some 1) none = xs.drop 1 := by
  unfold cutV
  have e1 : HT.sIx xs.length 0 (some 1) = min 1 xs.length := HT.sIx_nat xs.length 0 1
  have e2 : HT.sIx xs.length xs.length none = xs.length := rfl
  rw [e1, e2]
  cases xs with
  | nil => rfl
  | cons x r =>
    rw [show min 1 (x :: r).length = 1 by simp]
    exact List.take_of_length_le (by simp)
def spRis : Sp := fun vs H Q _ => ∃ (a : Addr) (ns : List Int), vs = [.ref a] ∧ H a = some (.tup (ns.map V.int)) ∧ ns.length ≤ 1000 ∧ ∀ H', L2.Same H H' → Q (.bl (P56.ris ns)) H'
theorem ok_ris {f : Addr} {fd : FuncData} (D : Df K mg "are_rising" ["things"] sAreRising f fd) (T : Txt mg) : FnOk P w K mg base CX0 1 f fd ["things"] spRis := by
  refine D.fn.ok scAreRising (fun vs H Q E h => ?_) (fun cdv A outer s H vs Q E hr h => ?_)
  · obtain ⟨a, ns, rfl, e, l1000, q⟩ := h
    rfl
  · obtain ⟨a, ns, rfl, e, l1000, q⟩ := h
    refine ⟨_, (pss_one (ps_ret (pe_callB (cr_all (by rfl)) (by rfl) T.all (by decide +kernel) (pa_cons (pe_lc (own := [("one", 1), ("other", 2)]) (g := (gTup K 2 (gCons (gName 1) (gCons (gName 2) gNil)))) (tt := tYes) (by rfl) scAreRising.nd (RZ.pi_zipA (by rfl) T.zip (pa_cons (pv 0) (pa_cons (pe_slice sl_tupU (pv 0) (po_some pe_int) po_none) pa_nil))) (blkOk_by (own := [("one", 1), ("other", 2)]) (N := ["things", "one", "other"]) (sc := defScope sAreRising) (by decide +kernel)) (fun _ _ _ _ _ => pg_tup (by rfl) (pgs_cons (pg_name (i := 1) scAreRising.nd rfl (.inl rfl)) (pgs_cons (pg_name (i := 2) scAreRising.nd rfl (.inl rfl)) pgs_nil))) (fun _ _ _ _ _ => pts_nil) (fun _ _ _ _ _ => pe_cmpR op_lt (pv 1) (pv 2) (nomark _))) pa_nil)))), ?_⟩
    refine ⟨_, rfl, _, rfl, 1, rfl, a, _, rfl, e, fun pz Hz sz ez => ?_⟩
    rw [cut1, ← List.map_drop] at ez
    refine ⟨a, pz, _, _, rfl, .inr ⟨SqT.of (sz _ _ e), SqT.of ez, fun Lz nLz => ?_⟩⟩
    refine lc_it (walk_zipM (K := K) (a := a) (b := pz) (xs := ns.map V.int) (ys := (ns.drop 1).map V.int) (n := ns.length - 1) (by rw [List.length_map]; omega) (by rw [List.length_map, List.length_drop])) (fun i Hi => L2.Same Hz Hi ∧ Hi Lz = some (.lst (((P56.bsR ns).take i).map V.bl))) ⟨same_upd nLz, upd_same⟩ (fun i Hi _ p => ⟨SqT.of (p.1 _ _ (sz _ _ e)), SqT.of (p.1 _ _ ez)⟩) ?_ ?_
    · rintro i v Hi H' hi ⟨sm, hL⟩ ⟨t, x, z, rfl, nt, rfl, ex, ez'⟩
      have sm2 : L2.Same Hz (upd Hi t (.tup [x, z])) := sm.trans (same_upd nt)
      have hL2 : (upd Hi t (.tup [x, z])) Lz = some (.lst (((P56.bsR ns).take i).map V.bl)) := same_upd nt _ _ hL
      replace ex : (ns.map V.int)[i]? = some x := ex
      replace ez' : ((ns.drop 1).map V.int)[i]? = some z := ez'
      rw [List.getElem?_map] at ex ez'
      obtain ⟨p, ep, rfl⟩ := Option.map_eq_some_iff.mp ex
      obtain ⟨r, er, rfl⟩ := Option.map_eq_some_iff.mp ez'
      refine ⟨t, _, rfl, SqT.of upd_same, rfl, _, _, rfl, _, _, rfl, rfl, rfl, ?_⟩
      unfold tYes
      refine iteT ⟨_, rfl, _, rfl, p, r, rfl, rfl, _, hL2, ?_, fun c o e => ?_, ?_⟩
      · rw [List.length_map, List.length_take]
        exact Nat.lt_of_le_of_lt (Nat.le_trans (Nat.min_le_left _ _) (show i ≤ 1000 by omega)) (by decide)
      · rw [upd_ne (ne_of_none e nLz)]
        exact sm2 _ _ e
      · rw [upd_same, List.take_add_one, P56.bsR_at ep er, List.map_append]
        rfl
    · rintro He ⟨sm, hL⟩
      have tk : (P56.bsR ns).take (ns.length - 1) = P56.bsR ns := List.take_of_length_le (by unfold P56.bsR; simp)
      rw [tk] at hL
      refine ⟨Lz, P56.bsR ns, rfl, SqL.of hL, ?_⟩
      exact q He (sz.trans sm)
end
end K60
set_option Elab.async false
set_option linter.all false
set_option maxRecDepth 100000
set_option maxHeartbeats 4000000
set_option pp.maxSteps 400
set_option pp.deepTerms false
namespace K60
open PySem PySem.Spec PyProof.Rows L2
open Xk Az
section
variable {P : Program} {w : World} {K : PySem.W.Frag} {mg : Str → Option Value} {base : Heap}
theorem ok_somG {f : Addr} {fd : FuncData} (D : Df K mg "shows_by_some" ["held", "missing", "left", "some"] sShowsBySome f fd) (T : Txt mg) (cMG : Ca P w K mg base 2 "is_missing" ["missing", "thing"] (spMisG K)) (cR : Ca P w K mg base 1 "are_rising" ["things"] spRis) : FnOk P w K mg base CX0 3 f fd ["held", "missing", "left", "some"] (spSomG K) := by
  refine D.fn.ok scShowsBySome (fun vs H Q E h => ?_) (fun cdv A outer s H vs Q E hr h => ?_)
  · obtain ⟨a, b, xs, hs, ms, n, k, v, d, rfl, ea, hl, l12, eb, l20, hz, hw, q⟩ := h
    rfl
  · obtain ⟨a, b, xs, hs, ms, n, k, v, d, rfl, ea, hl, l12, eb, l20, hz, hw, q⟩ := h
    refine ⟨_, (pss_cons (ps_if (PW.pt (pw_or (pt_not (pt_val (pe_callB call_isi (by rfl) T.isi (by decide +kernel) (pa_cons (pv 3) (pa_cons (pe_bltn (v := .ty "tuple") (by rfl) T.tuple (by decide +kernel) rfl) pa_nil))))) (pw_or1 (pt_not (pt_val (pe_callB (cr_all (by rfl)) (by rfl) T.all (by decide +kernel) (pa_cons (pe_lc (own := [("wish", 5)]) (g := gName 5) (tt := tYes) (te := tCall (spMisG K) [] E0 (tCons (tVar 1) (tCons (tVar 5) tNil))) (by rfl) scShowsBySome.nd (pi_tup (pv 3)) (blkOk_by (own := [("wish", 5)]) (N := ["held", "missing", "left", "some", "on_one_disc", "wish", "known", "things", "shared"]) (sc := defScope sShowsBySome) (by decide +kernel)) (fun _ _ _ _ _ => pg_name (i := 5) scShowsBySome.nd rfl (.inl rfl)) (fun _ _ _ _ _ => pts_nil) (fun _ _ _ _ _ => pe_ca cMG hr (by decide) (by rfl) (pa_cons (pv 1) (pa_cons (pv 5) pa_nil)))) pa_nil))))))) (pss_one (ps_ret pe_bl)) pss_nil)
      (pss_cons (ps_setLc (i := 4) (own := [("things", 7)]) (g := gName 7) (tt := tYes) (te := tLc (iTup K (tVar 3)) (gName 6) (tTest (tOp (rIn K false) (tVar 6) (tVar 7))) (tVar 6) [6]) (by rfl) scShowsBySome.nd rfl rfl (sw_true rfl rfl rfl (by decide +kernel)) (pi_tup (pv 0)) (blkOk_by (own := [("things", 7)]) (N := ["held", "missing", "left", "some", "on_one_disc", "wish", "known", "things", "shared"]) (sc := defScope sShowsBySome) (by decide +kernel)) (fun _ _ _ _ _ => pg_name (i := 7) scShowsBySome.nd rfl (.inr rfl)) (fun _ _ _ _ _ => pts_nil) (fun _ _ _ _ _ => pe_lc (own := [("known", 6)]) (g := gName 6) (tt := tTest (tOp (rIn K false) (tVar 6) (tVar 7))) (by rfl) scShowsBySome.nd (pi_tup (pv 3)) (blkOk_by (own := [("known", 6)]) (N := ["held", "missing", "left", "some", "on_one_disc", "wish", "known", "things", "shared"]) (sc := relS ⟨.function, [(".0", .local), ("things", .cell), ("some", .free)], false, false, []⟩ (defScope sShowsBySome)) (by decide +kernel)) (fun _ _ _ _ _ => pg_name (i := 6) scShowsBySome.nd rfl (.inl rfl)) (fun _ _ _ _ _ => (pts_one (pt_cmpR op_in_seq (pv 6) (pv 7) (by rfl)))) (fun _ _ _ _ _ => pv 6)))
      (pss_one (ps_ret (pe_and (pe_ca cR hr (by decide) (by rfl) (pa_cons (pv 3) pa_nil)) (pe_and (pe_cmpR op_gt (pe_callB call_len_seq (by rfl) T.len PySem.boot_len (pa_cons (pv 3) pa_nil)) (pv 2) (nomark _)) (pe_one (pe_callB (cr_all (by rfl)) (by rfl) T.all (by decide +kernel) (pa_cons (pe_lc (own := [("shared", 8)]) (g := gName 8) (tt := tYes) (te := tOp (rI0 fun i j => V.bl (decide (i < j))) (tCB (rLn K) (tCons (tVar 8) tNil)) (tC (V.int 2))) (by rfl) scShowsBySome.nd (pi_list (pv 4)) (blkOk_by (own := [("shared", 8)]) (N := ["held", "missing", "left", "some", "on_one_disc", "wish", "known", "things", "shared"]) (sc := defScope sShowsBySome) (by decide +kernel)) (fun _ _ _ _ _ => pg_name (i := 8) scShowsBySome.nd rfl (.inl rfl)) (fun _ _ _ _ _ => pts_nil) (fun _ _ _ _ _ => pe_cmpR op_lt (pe_callB call_len_seq (by rfl) T.len PySem.boot_len (pa_cons (pv 8) pa_nil)) pe_int (nomark _))) pa_nil))))))))), ?_⟩
    have lh := hl.len
    have q' : ∀ b H', P56.som hs ms n d = b → L2.Same H H' → Q (.bl b) H' := fun b H' e s => e ▸ q H' s
    refine ⟨_, rfl, _, _, _, _, isTup d, rfl, .ty _, hz.ty, z_tup d, _, rfl, ?_⟩
    cases hz with
    | @tup t ys ds et ra =>
      obtain ⟨l60, _⟩ := hw.of
      have ly := dz_len ra
      refine iteF ⟨_, rfl, t, rfl, ⟨_, SqT.of et⟩, fun D nD => ?_⟩
      refine lc_tup (K := K) (a := t) (xs := ys) (fun i Hi => L2.Same H Hi ∧ Hi D = some (.lst (((ds.map (P56.mis ms)).take i).map V.bl))) ⟨same_upd nD, upd_same⟩ (fun i Hi _ z => SqT.of (z.1 _ _ et)) ?_ ?_
      · rintro i x Hi hx ⟨sm, eD⟩
        have il : i < ys.length := (List.getElem?_eq_some_iff.mp hx).1
        obtain ⟨di, edi, dzi⟩ := dz_get ra hx
        refine ⟨rfl, ?_⟩
        unfold tYes
        refine iteT ⟨_, rfl, _, rfl, b, x, di, ms, rfl, sm _ _ eb, dzi.same sm, _, eD, ?_, fun c o e => ?_, ?_⟩
        · rw [List.length_map, List.length_take]
          exact Nat.lt_of_le_of_lt (Nat.le_trans (Nat.min_le_left _ _) (show i ≤ 1000 by omega)) (by decide)
        · rw [upd_ne (ne_of_none e nD)]
          exact sm _ _ e
        · rw [upd_same, List.take_add_one, List.getElem?_map, edi, List.map_append]
          rfl
      · rintro H2 ⟨s2, eD⟩
        rw [List.take_of_length_le (by rw [List.length_map]; omega)] at eD
        refine ⟨D, _, rfl, SqL.of eD, _, rfl, ?_⟩
        rw [show (ds.map (P56.mis ms)).all id = ds.all (P56.mis ms) by rw [List.all_map]; rfl]
        cases c : ds.all (P56.mis ms) with
        | false => exact iteT (q' false H2 (by unfold P56.som; dsimp only; rw [c]; rfl) s2)
        | true =>
          obtain ⟨ey, rng⟩ := ints_of ra c
          have hq : P56.som hs ms n (.tuple ds) = (P56.ris (ds.map P56.num) && (decide (n < (ds.map P56.num).length) && P56.shr hs (ds.map P56.num))) := by unfold P56.som; dsimp only; rw [c, List.length_map]; rfl
          have ln : (ds.map P56.num).length ≤ 1000 := by rw [List.length_map]; exact l60
          rw [hq] at q'
          subst ey
          clear hq rng q hw ra eD ly c
          generalize ds.map P56.num = ns at *
          have et2 := s2 _ _ et
          have ea2 := s2 _ _ ea
          refine iteF ⟨_, rfl, a, rfl, ⟨_, SqT.of ea2⟩, fun L nL => ?_⟩
          refine lc_tup (K := K) (a := a) (xs := xs) (fun i Hi => L2.Same H2 Hi ∧ ∃ Ls : List V, Ls.length = i ∧ Hi L = some (.lst Ls) ∧ ∀ (j : Nat) (v : V), Ls[j]? = some v → ∃ p, v = .ref p ∧ p ≠ L ∧ Hi p = some (.lst ((ns.filter fun g => decide (g ∈ hs.getD j [])).map V.int))) ⟨same_upd nL, [], rfl, upd_same, fun j v h => by simp at h⟩ (fun i Hi _ z => SqT.of (z.1 _ _ ea2)) ?_ ?_
          · rintro i x Hi hx ⟨sm, Ls, lL, eL, hL⟩
            have il : i < hs.length := by have := (List.getElem?_eq_some_iff.mp hx).1; omega
            obtain ⟨tk, etk, eTk⟩ := hl.get il
            obtain rfl : V.ref tk = x := Option.some.inj (etk.symm.trans hx)
            have eg : hs.getD i [] = hs[i] := by rw [List.getD_eq_getElem?_getD, List.getElem?_eq_getElem il]; rfl
            have eTk2 := sm _ _ (s2 _ _ eTk)
            refine ⟨rfl, ?_⟩
            refine ⟨_, rfl, t, rfl, ⟨_, SqT.of (sm _ _ et2)⟩, fun Di nDi => ?_⟩
            refine lc_tup (K := K) (a := t) (xs := ns.map V.int) (fun j Hj => L2.Same Hi Hj ∧ Hj Di = some (.lst (((ns.take j).filter fun g => decide (g ∈ hs[i])).map V.int))) ⟨same_upd nDi, upd_same⟩ (fun j Hj _ z => SqT.of (z.1 _ _ (sm _ _ et2))) ?_ ?_
            · rintro j y Hj hy ⟨sj, eDi⟩
              rw [List.getElem?_map] at hy
              obtain ⟨g, ek, rfl⟩ := Option.map_eq_some_iff.mp hy
              have jl : j < ns.length := (List.getElem?_eq_some_iff.mp ek).1
              have tke : (ns.take (j + 1)).filter (fun g => decide (g ∈ hs[i])) = (ns.take j).filter (fun g => decide (g ∈ hs[i])) ++ (if inV (.int g) ((hs[i]).map V.int) = true then [g] else []) := by
                rw [List.take_add_one, ek, List.filter_append, inV_ints]
                by_cases c : g ∈ hs[i] <;> simp [c]
              refine ⟨rfl, ?_⟩
              refine ⟨_, rfl, _, rfl, tk, _, rfl, .inr (SqT.of (sj _ _ eTk2)), rfl, flat_ints _, ?_⟩
              refine ⟨_, rfl, ite2 (fun e => ?_) (fun e => ?_)⟩
              · have e' : inV (.int g) ((hs[i]).map V.int) = true := by simpa using e
                refine ⟨_, rfl, _, eDi, ?_, fun c o q => ?_, ?_⟩
                · rw [List.length_map]
                  refine Nat.lt_of_le_of_lt (Nat.le_trans (List.length_filter_le _ _) (show (ns.take j).length ≤ 1000 from ?_)) (by decide)
                  rw [List.length_take]; omega
                · rw [upd_ne (ne_of_none q nDi)]
                  exact sj _ _ q
                · rw [upd_same, tke, e', if_pos rfl, List.map_append]
                  rfl
              · have e' : inV (.int g) ((hs[i]).map V.int) = false := by simpa using e
                refine ⟨sj, ?_⟩
                rw [tke, e', if_neg Bool.false_ne_true, List.append_nil]
                exact eDi
            · rintro He ⟨sj, eDi⟩
              rw [List.length_map, List.take_length] at eDi
              refine ⟨Ls, sj _ _ eL, ?_, fun c o e => ?_, Ls ++ [.ref Di], by rw [List.length_append, lL]; rfl, upd_same, fun j v h => ?_⟩
              · exact Nat.lt_of_le_of_lt (show Ls.length ≤ 1000 by omega) (by decide)
              · rw [upd_ne (ne_of_none e nL)]
                exact sj _ _ (sm _ _ e)
              · have nDL : Di ≠ L := fun z => by rw [z, eL] at nDi; cases nDi
                rcases Nat.lt_or_ge j Ls.length with hj | hj
                · rw [List.getElem?_append_left hj] at h
                  obtain ⟨p, rfl, np, ep⟩ := hL j v h
                  refine ⟨p, rfl, np, ?_⟩
                  rw [upd_ne np]
                  exact sj _ _ ep
                · rw [List.getElem?_append_right hj] at h
                  have hj0 : j - Ls.length = 0 := by
                    have := (List.getElem?_eq_some_iff.mp h).1
                    simp at this
                    omega
                  rw [hj0] at h
                  cases h
                  obtain rfl : j = i := by omega
                  refine ⟨Di, rfl, nDL, ?_⟩
                  rw [upd_ne nDL, eg]
                  exact eDi
          rintro H3 ⟨s3, Ls, lL, eL, hL⟩
          have s23 := s2.trans s3
          refine ⟨_, rfl, t, ns, rfl, s3 _ _ et2, by omega, fun H4 s4 => ⟨_, rfl, ?_⟩⟩
          cases r : P56.ris ns with
          | false => exact iteF (q' false H4 (by rw [r]; rfl) (s23.trans s4))
          | true =>
            refine iteT ⟨_, rfl, t, _, rfl, .inr (SqT.of (s4 _ _ (s3 _ _ et2))), _, rfl, _, _, rfl, rfl, _, rfl, ?_⟩
            rw [show decide (((ns.map V.int).length : Int) > (n : Int)) = decide (n < ns.length) by rw [List.length_map]; simp]
            cases c : decide (n < ns.length) with
            | false => exact iteF (q' false H4 (by rw [r, c]; rfl) (s23.trans s4))
            | true =>
              have eL4 := s4 _ _ eL
              refine iteT ⟨_, rfl, L, rfl, ⟨_, SqL.of eL4⟩, fun Dl nDl => ?_⟩
              refine lc_list (K := K) (a := L) (xs := Ls) (fun i Hi => L2.Same H4 Hi ∧ Hi Dl = some (.lst (((hs.map fun gs => decide ((ns.filter fun g => decide (g ∈ gs)).length < 2)).take i).map V.bl))) ⟨same_upd nDl, upd_same⟩ (fun i Hi _ z => SqL.of (z.1 _ _ eL4)) ?_ ?_
              · rintro i x Hi hx ⟨sm, eD⟩
                have il : i < Ls.length := (List.getElem?_eq_some_iff.mp hx).1
                have ih : i < hs.length := by omega
                obtain ⟨p, rfl, np, ep⟩ := hL i x hx
                have ep2 := sm _ _ (s4 _ _ ep)
                refine ⟨rfl, ?_⟩
                unfold tYes
                refine iteT ⟨_, rfl, p, _, rfl, .inl (SqL.of ep2), _, _, rfl, rfl, _, eD, ?_, fun c o e => ?_, ?_⟩
                · rw [List.length_map, List.length_take]
                  exact Nat.lt_of_le_of_lt (Nat.le_trans (Nat.min_le_left _ _) (show i ≤ 1000 by omega)) (by decide)
                · rw [upd_ne (ne_of_none e nDl)]
                  exact sm _ _ e
                · rw [upd_same, List.take_add_one, List.getElem?_map, List.getElem?_eq_getElem ih, List.map_append]
                  simp [List.getD_eq_getElem?_getD, List.getElem?_eq_getElem ih]
                  omega
              · rintro H5 ⟨s5, eD⟩
                rw [List.take_of_length_le (by rw [List.length_map]; omega)] at eD
                refine ⟨Dl, _, rfl, SqL.of eD, ?_⟩
                refine q' _ H5 ?_ ((s23.trans s4).trans s5)
                rw [r, c, List.all_map]
                rfl
    | _ => exact iteT (q' false H rfl (Same.refl H))
end
end K60
set_option Elab.async false
set_option linter.all false
set_option maxRecDepth 100000
set_option maxHeartbeats 4000000
set_option pp.maxSteps 400
set_option pp.deepTerms false
namespace K60
open PySem PySem.Spec PyProof.Rows L2
open Xk Az
section
variable {P : Program} {w : World} {K : PySem.W.Frag} {mg : Str → Option Value} {base : Heap}
def tkR (hs : List (List Int)) (n : Nat) (ms : List Int) (g : Int) : PyData → Bool
  | .tuple us => decide (us.length = (P56.hold hs g).length) && ((P56.hold hs g).zip us).all fun p => P56.ibk hs n (P56.rest (hs.getD p.1 []) ms) p.2
  | _ => false
theorem ok_tkG {f : Addr} {fd : FuncData} {n : Nat} (D : Df K mg "shows_by_taking" ["held", "missing", "left", "wish", "books"] sShowsByTaking f fd) (T : Txt mg) (cHo : Ca P w K mg base 1 "holders" ["held", "wish"] spHolders) (cNA : Ca P w K mg base 1 "not_among" ["things", "wishes"] (spNA K)) (cMG : Ca P w K mg base 2 "is_missing" ["missing", "thing"] (spMisG K)) (cIB : Ca P w K mg base (2 * n + 2) "is_book" ["held", "missing", "left", "thing"] (spIBb K n)) : FnOk P w K mg base CX0 (2 * n + 3) f fd ["held", "missing", "left", "wish", "books"] (spTkG K n) := by
  refine D.fn.ok scShowsByTaking (fun vs H Q E h => ?_) (fun cdv A outer s H vs Q E hr h => ?_)
  · obtain ⟨a, b, xs, hs, ms, k, v, u, d, e, rfl, ea, hl, l12, eb, l20, hz, hu, hw, q⟩ := h
    rfl
  · obtain ⟨a, b, xs, hs, ms, k, v, u, d, e, rfl, ea, hl, l12, eb, l20, hz, hu, hw, q⟩ := h
    refine ⟨_, (pss_cons (ps_if (PW.pt (pw_or (pt_cmpR op_lt (pv 2) pe_int (nomark _)) (pw_or (pt_not (pt_val (pe_ca cMG hr (by omega) (by rfl) (pa_cons (pv 1) (pa_cons (pv 3) pa_nil))))) (pw_or1 (pt_not (pt_val (pe_callB call_isi (by rfl) T.isi (by decide +kernel) (pa_cons (pv 4) (pa_cons (pe_bltn (v := .ty "tuple") (by rfl) T.tuple (by decide +kernel) rfl) pa_nil))))))))) (pss_one (ps_ret pe_bl)) pss_nil)
      (pss_cons (ps_set (i := 5) scShowsByTaking.nd rfl (.inl rfl) (pe_ca cHo hr (by omega) (by rfl) (pa_cons (pv 0) (pa_cons (pv 3) pa_nil))))
      (pss_one (ps_ret (pe_and (pe_cmpR op_eq (pe_callB call_len_seq (by rfl) T.len PySem.boot_len (pa_cons (pv 4) pa_nil)) (pe_callB call_len_seq (by rfl) T.len PySem.boot_len (pa_cons (pv 5) pa_nil)) (nomark _)) (pe_one (pe_callB (cr_all (by rfl)) (by rfl) T.all (by decide +kernel) (pa_cons (pe_lc (own := [("disc", 6), ("book", 7)]) (g := (gTup K 2 (gCons (gName 6) (gCons (gName 7) gNil)))) (tt := tYes) (te := tCall (spIBb K n) [] E0 (tCons (tVar 0) (tCons (tCall (spNA K) [] E0 (tCons (tOp (rIxT K) (tVar 0) (tVar 6)) (tCons (tVar 1) tNil))) (tCons (tOp (rI0 fun i j => V.int (i - j)) (tVar 2) (tC (V.int 1))) (tCons (tVar 7) tNil))))) (by rfl) scShowsByTaking.nd (Xt.pi_zipLT (by rfl) T.zip (pa_cons (pv 5) (pa_cons (pv 4) pa_nil))) (blkOk_by (own := [("disc", 6), ("book", 7)]) (N := ["held", "missing", "left", "wish", "books", "discs", "disc", "book"]) (sc := defScope sShowsByTaking) (by decide +kernel)) (fun _ _ _ _ _ => pg_tup (by rfl) (pgs_cons (pg_name (i := 6) scShowsByTaking.nd rfl (.inl rfl)) (pgs_cons (pg_name (i := 7) scShowsByTaking.nd rfl (.inl rfl)) pgs_nil))) (fun _ _ _ _ _ => pts_nil) (fun _ _ _ _ _ => pe_ca cIB hr (by omega) (by rfl) (pa_cons (pv 0) (pa_cons (pe_ca cNA hr (by omega) (by rfl) (pa_cons (pe_ix ix_tup (pv 0) (pv 6) (fun _ _ => rfl)) (pa_cons (pv 1) pa_nil))) (pa_cons (pe_op op_sub (pv 2) pe_int) (pa_cons (pv 7) pa_nil)))))) pa_nil)))))))), ?_⟩
    have lh := hl.len
    have q' : ∀ r H', tkN hs n ms d e = r → L2.Same H H' → Q (.bl r) H' := fun r H' z s => z ▸ q H' s
    refine ⟨_, rfl, _, _, rfl, rfl, _, rfl, ?_⟩
    cases n with
    | zero => exact iteT (q' false H rfl (Same.refl H))
    | succ n =>
      rw [show decide (((n + 1 : Nat) : Int) < 1) = false by rw [decide_eq_false_iff_not]; omega]
      refine iteF ?_
      refine ⟨_, rfl, _, rfl, b, v, d, ms, rfl, eb, hz, _, rfl, ?_⟩
      cases c : P56.mis ms d with
      | false => exact iteT (q' false H (by show P56.tkB _ _ _ _ _ = _; unfold P56.tkB; rw [c]; rfl) (Same.refl H))
      | true =>
        obtain ⟨g, rfl, hg⟩ := P56.mis_int c
        cases hz
        refine iteF ⟨_, rfl, _, _, _, _, isTup e, rfl, .ty _, hu.ty, z_tup e, _, rfl, ?_⟩
        have q2 : ∀ r H', tkR hs n ms g e = r → L2.Same H H' → Q (.bl r) H' := fun r H' z s => q' r H' (by show P56.tkB _ _ _ _ _ = _; unfold P56.tkB; rw [c]; exact z) s
        clear q q'
        cases hu with
        | @tup c us es ec ra =>
          have ly := dz_len ra
          refine iteF ⟨_, rfl, _, rfl, a, g, xs, hs, rfl, ea, hl, l12, fun L ns H2 s2 eL en ens => ?_⟩
          subst ens
          refine ⟨_, rfl, c, _, rfl, .inr (SqT.of (s2 _ _ ec)), _, rfl, L, _, rfl, .inl (SqL.of eL), rfl, _, rfl, ?_⟩
          have lt : ((P56.toI (P56.hold hs g)).map V.int).length = (P56.hold hs g).length := by
            rw [List.length_map]
            unfold P56.toI
            rw [List.length_map]
          rw [lt]
          by_cases lu : us.length = (P56.hold hs g).length
          · rw [show decide (V.int (us.length : Nat) = V.int ((P56.hold hs g).length : Nat)) = true by rw [decide_eq_true_iff, lu]]
            refine iteT ?_
            refine ⟨_, rfl, _, rfl, L, c, _, us, rfl, SqL.of eL, SqT.of (s2 _ _ ec), fun D nD => ?_⟩
            have lz : ((P56.toI (P56.hold hs g)).map V.int).length = us.length := by rw [lt, lu]
            have hlen := P56.hold_len (held := hs) g
            have le : es.length = (P56.hold hs g).length := by omega
            refine lc_it (Xt.walk_zipLT (K := K) (a := L) (b := c) lz) (fun i Hi => L2.Same H2 Hi ∧ Hi D = some (.lst (((((P56.hold hs g).zip es).map fun p => P56.ibk hs n (P56.rest (hs.getD p.1 []) ms) p.2).take i).map V.bl))) ⟨same_upd nD, upd_same⟩ (fun i Hi _ z => ⟨SqL.of (z.1 _ _ eL), SqT.of (z.1 _ _ (s2 _ _ ec))⟩) ?_ ?_
            · rintro i v Hi H' hi ⟨sm, eD⟩ ⟨t, x, z, rfl, nt, rfl, ex, ez⟩
              replace ex : ((P56.toI (P56.hold hs g)).map V.int)[i]? = some x := ex
              replace ez : us[i]? = some z := ez
              unfold P56.toI at ex
              rw [List.map_map, List.getElem?_map] at ex
              obtain ⟨k', ek, rfl⟩ := Option.map_eq_some_iff.mp ex
              obtain ⟨kl, _⟩ := P56.mem_hold.mp (List.mem_of_getElem? ek)
              obtain ⟨tk, etk, eTk⟩ := hl.get kl
              have il : i < us.length := (List.getElem?_eq_some_iff.mp ez).1
              obtain ⟨di, edi, dzi⟩ := dz_get ra ez
              obtain ⟨wj, hwj⟩ := hw.of.2 di (List.mem_of_getElem? edi)
              have st := same_upd nt (o := .tup [.int (k' : Int), z])
              have sa := (s2.trans sm).trans st
              have e0 : hs.getD k' [] = hs[k'] := by rw [List.getD_eq_getElem?_getD, List.getElem?_eq_getElem kl]; rfl
              refine ⟨t, _, rfl, SqT.of upd_same, rfl, _, _, rfl, _, _, rfl, rfl, rfl, ?_⟩
              unfold tYes
              refine iteT ⟨_, rfl, _, rfl, _, rfl, a, _, _, .ref tk, rfl, rfl, SqT.of (sa _ _ ea), atI_nat (j := k') etk, _, rfl, tk, b, hs[k'], ms, rfl, sa _ _ eTk, sa _ _ eb, l20, fun t2 H3 s3 et => ⟨_, rfl, _, 1, rfl, rfl, _, rfl, a, t2, xs, hs, _, wj, z, di, (by show [V.ref a, V.ref t2, V.int (((n + 1 : Nat) : Int) - 1), z] = _; rw [show ((n + 1 : Nat) : Int) - 1 = (n : Int) by omega]), s3 _ _ (sa _ _ ea), hl.map (fun _ _ e => s3 _ _ (sa _ _ e)), l12, et, Nat.le_trans (List.length_filter_le _ _) l20, (dzi.same sa).same s3, hwj, fun H4 s4 => ?_⟩⟩
              refine ⟨_, s4 _ _ (s3 _ _ (st _ _ eD)), ?_, fun c o e => ?_, ?_⟩
              · rw [List.length_map, List.length_take]
                exact Nat.lt_of_le_of_lt (Nat.le_trans (Nat.min_le_left _ _) (show i ≤ 1000 by omega)) (by decide)
              · rw [upd_ne (ne_of_none e nD)]
                exact s4 _ _ (s3 _ _ (st _ _ (sm _ _ e)))
              · have ezip : ((P56.hold hs g).zip es)[i]? = some (k', di) := by rw [List.getElem?_zip_eq_some]; exact ⟨ek, edi⟩
                rw [upd_same, List.take_add_one, List.getElem?_map, ezip, List.map_append, ← e0]
                rfl
            · rintro He ⟨sm, eD⟩
              rw [List.take_of_length_le (by rw [List.length_map, List.length_zip]; omega)] at eD
              refine ⟨D, _, rfl, SqL.of eD, ?_⟩
              refine q2 _ He ?_ (s2.trans sm)
              unfold tkR
              dsimp only
              rw [decide_eq_true le, List.all_map]
              rfl
          · rw [show decide (V.int (us.length : Nat) = V.int ((P56.hold hs g).length : Nat)) = false by rw [decide_eq_false_iff_not]; intro z; injection z with z; omega]
            refine iteF (q2 false H2 ?_ s2)
            unfold tkR
            dsimp only
            rw [decide_eq_false (by omega)]
            rfl
        | _ => exact iteT (q2 false H rfl (Same.refl H))
theorem ok_ibG {f : Addr} {fd : FuncData} {n : Nat} (D : Df K mg "is_book" ["held", "missing", "left", "thing"] sIsBook f fd) (T : Txt mg) (cMG : Ca P w K mg base 2 "is_missing" ["missing", "thing"] (spMisG K)) (cTk : Ca P w K mg base (2 * n + 3) "shows_by_taking" ["held", "missing", "left", "wish", "books"] (spTkG K n)) (cSo : Ca P w K mg base 3 "shows_by_some" ["held", "missing", "left", "some"] (spSomG K)) : FnOk P w K mg base CX0 (2 * n + 4) f fd ["held", "missing", "left", "thing"] (spIBG K n) := by
  refine D.fn.ok scIsBook (fun vs H Q E h => ?_) (fun cdv A outer s H vs Q E hr h => ?_)
  · obtain ⟨a, b, xs, hs, ms, k, v, d, rfl, ea, hl, l12, eb, l20, hz, hw, q⟩ := h
    rfl
  · obtain ⟨a, b, xs, hs, ms, k, v, d, rfl, ea, hl, l12, eb, l20, hz, hw, q⟩ := h
    refine ⟨_, (pss_cons (ps_if (PW.pt (pw_or (pt_not (pt_val (pe_callB call_isi (by rfl) T.isi (by decide +kernel) (pa_cons (pv 3) (pa_cons (pe_bltn (v := .ty "tuple") (by rfl) T.tuple (by decide +kernel) rfl) pa_nil))))) (pw_or (pt_cmpR op_lt (pe_callB call_len_seq (by rfl) T.len PySem.boot_len (pa_cons (pv 3) pa_nil)) pe_int (nomark _)) (pw_or1 (pt_not (pt_val (pe_callB call_isi (by rfl) T.isi (by decide +kernel) (pa_cons (pe_ix ix_tup (pv 3) pe_int (fun _ _ => rfl)) (pa_cons (pe_bltn (v := .ty "str") (by rfl) T.str (by decide +kernel) rfl) pa_nil))))))))) (pss_one (ps_ret pe_bl)) pss_nil)
      (pss_cons (ps_if (PW.pt (pw_and (pt_cmpR op_eq (pe_ix ix_tup (pv 3) pe_int (fun _ _ => rfl)) pe_str (nomark _)) (pw_and1 (pt_cmpR op_eq (pe_callB call_len_seq (by rfl) T.len PySem.boot_len (pa_cons (pv 3) pa_nil)) pe_int (nomark _))))) (pss_one (ps_ret (pe_ca cTk hr (by omega) (by rfl) (pa_cons (pv 0) (pa_cons (pv 1) (pa_cons (pv 2) (pa_cons (pe_ix ix_tup (pv 3) pe_int (fun _ _ => rfl)) (pa_cons (pe_ix ix_tup (pv 3) pe_int (fun _ _ => rfl)) pa_nil)))))))) pss_nil)
      (pss_cons (ps_if (PW.pt (pw_and (pt_cmpR op_eq (pe_ix ix_tup (pv 3) pe_int (fun _ _ => rfl)) pe_str (nomark _)) (pw_and1 (pt_cmpR op_eq (pe_callB call_len_seq (by rfl) T.len PySem.boot_len (pa_cons (pv 3) pa_nil)) pe_int (nomark _))))) (pss_one (ps_ret (pe_and (pe_cmpR op_eq (pv 2) pe_int (nomark _)) (pe_one (pe_ca cMG hr (by omega) (by rfl) (pa_cons (pv 1) (pa_cons (pe_ix ix_tup (pv 3) pe_int (fun _ _ => rfl)) pa_nil))))))) pss_nil)
      (pss_one (ps_ret (pe_and (pe_cmpR op_eq (pe_ix ix_tup (pv 3) pe_int (fun _ _ => rfl)) pe_str (nomark _)) (pe_and (pe_cmpR op_eq (pe_callB call_len_seq (by rfl) T.len PySem.boot_len (pa_cons (pv 3) pa_nil)) pe_int (nomark _)) (pe_one (pe_ca cSo hr (by omega) (by rfl) (pa_cons (pv 0) (pa_cons (pv 1) (pa_cons (pv 2) (pa_cons (pe_ix ix_tup (pv 3) pe_int (fun _ _ => rfl)) pa_nil))))))))))))), ?_⟩
    have q' : ∀ r H', P56.ibk hs n ms d = r → L2.Same H H' → Q (.bl r) H' := fun r H' z s => z ▸ q H' s
    refine ⟨_, rfl, _, _, _, _, isTup d, rfl, .ty _, hz.ty, z_tup d, _, rfl, ?_⟩
    cases hz with
    | @tup t ys ds et ra =>
      refine iteF ⟨_, rfl, t, _, rfl, .inr (SqT.of et), _, _, rfl, rfl, _, rfl, ?_⟩
      cases ra with
      | nil => exact iteT (q' false H (ibkN (fun _ _ z => by cases z) fun _ _ _ z => by cases z) (Same.refl H))
      | @cons v0 vs0 d0 ds0 h0 ra =>
      cases ra with
      | nil => exact iteT (q' false H (ibkN (fun _ _ z => by cases z) fun _ _ _ z => by cases z) (Same.refl H))
      | @cons v1 vs d1 ds h1 ra =>
      rw [show decide (((v0 :: v1 :: vs).length : Int) < 2) = false by rw [decide_eq_false_iff_not]; simp; omega]
      have e1 : (v0 :: v1 :: vs)[1]? = some v1 := rfl
      have w1 : ∃ j, P56.Wd j d1 := hw.of.2 d1 (by simp)
      refine iteF ⟨_, rfl, t, _, _, _, rfl, rfl, SqT.of et, atI_nat (j := 0) rfl, _, _, _, _, isStr d0, rfl, .ty _, h0.ty, z_str d0, _, rfl, ?_⟩
      cases h0 with
      | str x =>
        refine iteF ⟨_, rfl, t, _, _, _, rfl, rfl, SqT.of et, atI_nat (j := 0) rfl, rfl, _, rfl, ?_⟩
        by_cases xt : x = "take"
        · subst xt
          rw [show decide (V.str "take" = V.str "take") = true by simp]
          refine iteT ⟨_, rfl, t, _, rfl, .inr (SqT.of et), rfl, _, rfl, ?_⟩
          cases ra with
          | nil =>
            refine iteF ⟨_, rfl, t, _, _, _, rfl, rfl, SqT.of et, atI_nat (j := 0) rfl, rfl, _, rfl, ?_⟩
            refine iteF (iteF ⟨_, rfl, t, _, _, _, rfl, rfl, SqT.of et, atI_nat (j := 0) rfl, rfl, _, rfl, ?_⟩)
            exact iteF (q' false H (by rw [ibk2]; rfl) (Same.refl H))
          | @cons v2 vs2 d2 ds2 h2 ra =>
            cases ra with
            | nil =>
              obtain ⟨j2, w2⟩ := hw.of.2 d2 (by simp)
              refine iteT ⟨_, rfl, _, rfl, _, rfl, _, rfl, t, _, _, v1, rfl, rfl, SqT.of et, atI_nat (j := 1) rfl, _, rfl, t, _, _, v2, rfl, rfl, SqT.of et, atI_nat (j := 2) rfl, a, b, xs, hs, ms, j2, v1, v2, d1, d2, rfl, ea, hl, l12, eb, l20, h1, h2, w2, fun H' s => q' _ H' ?_ s⟩
              rw [ibk3]
              rfl
            | @cons v3 vs3 d3 ds3 h3 ra =>
              rw [show decide (V.int (((V.str "take") :: v1 :: v2 :: v3 :: vs3).length : Nat) = V.int 3) = false by rw [decide_eq_false_iff_not]; intro z; injection z with z; simp at z; omega]
              refine iteF ⟨_, rfl, t, _, _, _, rfl, rfl, SqT.of et, atI_nat (j := 0) rfl, rfl, _, rfl, ?_⟩
              refine iteF (iteF ⟨_, rfl, t, _, _, _, rfl, rfl, SqT.of et, atI_nat (j := 0) rfl, rfl, _, rfl, ?_⟩)
              exact iteF (q' false H (ibkN (fun _ _ z => by cases z) fun _ _ _ z => by cases z) (Same.refl H))
        · rw [show decide (V.str x = V.str "take") = false by rw [decide_eq_false_iff_not]; intro z; injection z with z; exact xt z]
          refine iteF (iteF ⟨_, rfl, t, _, _, _, rfl, rfl, SqT.of et, atI_nat (j := 0) rfl, rfl, _, rfl, ?_⟩)
          by_cases xl : x = "left"
          · subst xl
            rw [show decide (V.str "left" = V.str "left") = true by simp]
            refine iteT ⟨_, rfl, t, _, rfl, .inr (SqT.of et), rfl, _, rfl, ?_⟩
            cases ra with
            | nil =>
              refine iteT ⟨_, rfl, rfl, _, rfl, ?_⟩
              by_cases n0 : n = 0
              · subst n0
                refine iteT ⟨_, rfl, _, rfl, t, _, _, v1, rfl, rfl, SqT.of et, atI_nat (j := 1) rfl, b, v1, d1, ms, rfl, eb, h1, q' _ H ?_ (Same.refl H)⟩
                rw [ibk2]
                unfold P56.endB
                rw [if_pos rfl]
                rfl
              · rw [show decide (V.int (n : Int) = V.int 0) = false by rw [decide_eq_false_iff_not]; intro z; injection z with z; omega]
                refine iteF (q' false H ?_ (Same.refl H))
                rw [ibk2]
                unfold P56.endB
                rw [if_pos rfl, decide_eq_false n0]
                rfl
            | @cons v2 vs2 d2 ds2 h2 ra =>
              rw [show decide (V.int (((V.str "left") :: v1 :: v2 :: vs2).length : Nat) = V.int 2) = false by rw [decide_eq_false_iff_not]; intro z; injection z with z; simp at z; omega]
              refine iteF ⟨_, rfl, t, _, _, _, rfl, rfl, SqT.of et, atI_nat (j := 0) rfl, rfl, _, rfl, ?_⟩
              refine iteF (q' false H ?_ (Same.refl H))
              cases ds2 with
              | nil => rw [ibk3]; rfl
              | cons d3 ds3 => exact ibkN (fun _ _ z => by cases z) fun _ _ _ z => by cases z
          · rw [show decide (V.str x = V.str "left") = false by rw [decide_eq_false_iff_not]; intro z; injection z with z; exact xl z]
            refine iteF (iteF ⟨_, rfl, t, _, _, _, rfl, rfl, SqT.of et, atI_nat (j := 0) rfl, rfl, _, rfl, ?_⟩)
            by_cases xa : x = "apart"
            · subst xa
              rw [show decide (V.str "apart" = V.str "apart") = true by simp]
              refine iteT ⟨_, rfl, t, _, rfl, .inr (SqT.of et), rfl, _, rfl, ?_⟩
              cases ra with
              | nil =>
                obtain ⟨j1, w1⟩ := w1
                refine iteT ⟨_, rfl, _, rfl, _, rfl, _, rfl, t, _, _, v1, rfl, rfl, SqT.of et, atI_nat (j := 1) rfl, a, b, xs, hs, ms, n, j1, v1, d1, rfl, ea, hl, l12, eb, l20, h1, w1, fun H' s => q' _ H' ?_ s⟩
                rw [ibk2]
                rfl
              | @cons v2 vs2 d2 ds2 h2 ra =>
                rw [show decide (V.int (((V.str "apart") :: v1 :: v2 :: vs2).length : Nat) = V.int 2) = false by rw [decide_eq_false_iff_not]; intro z; injection z with z; simp at z; omega]
                refine iteF (q' false H ?_ (Same.refl H))
                cases ds2 with
                | nil => rw [ibk3]; rfl
                | cons d3 ds3 => exact ibkN (fun _ _ z => by cases z) fun _ _ _ z => by cases z
            · rw [show decide (V.str x = V.str "apart") = false by rw [decide_eq_false_iff_not]; intro z; injection z with z; exact xa z]
              refine iteF (q' false H ?_ (Same.refl H))
              cases ds with
              | nil =>
                rw [ibk2]
                unfold P56.endB
                rw [if_neg xl, decide_eq_false xa]
                rfl
              | cons d2 ds2 =>
                cases ds2 with
                | nil => rw [ibk3, decide_eq_false xt]; rfl
                | cons d3 ds3 => exact ibkN (fun _ _ z => by cases z) fun _ _ _ z => by cases z
      | _ => exact iteT (q' false H (ibkN (fun _ _ z => by cases z) fun _ _ _ z => by cases z) (Same.refl H))
    | _ => exact iteT (q' false H (ibkN (fun _ _ z => by cases z) fun _ _ _ z => by cases z) (Same.refl H))
theorem ok_snG {f : Addr} {fd : FuncData} (D : Df K mg "shows_none" ["held", "wishes", "many", "thing"] sShowsNone f fd) (cIB : ∀ n : Nat, n ≤ 14 → Ca P w K mg base 32 "is_book" ["held", "missing", "left", "thing"] (spIBG K n)) : FnOk P w K mg base CX0 33 f fd ["held", "wishes", "many", "thing"] (spSNG K) := by
  refine D.fn.ok scShowsNone (fun vs H Q E h => ?_) (fun cdv A outer s H vs Q E hr h => ?_)
  · obtain ⟨a, b, xs, hs, ms, n, k, v, d, rfl, ea, hl, l12, eb, l20, n14, hz, hw, q⟩ := h
    rfl
  · obtain ⟨a, b, xs, hs, ms, n, k, v, d, rfl, ea, hl, l12, eb, l20, n14, hz, hw, q⟩ := h
    refine ⟨_, (pss_one (ps_ret (pe_ca (cIB n n14) hr (by decide) (by rfl) (pa_cons (pv 0) (pa_cons (pv 1) (pa_cons (pv 2) (pa_cons (pv 3) pa_nil))))))), ?_⟩
    exact ⟨_, rfl, _, rfl, _, rfl, _, rfl, a, b, xs, hs, ms, k, v, d, rfl, ea, hl, l12, eb, l20, hz, hw, q⟩
end
end K60
set_option Elab.async false
set_option linter.all false
set_option maxRecDepth 100000
set_option maxHeartbeats 4000000
set_option pp.maxSteps 400
set_option pp.deepTerms false
namespace K60
open PySem PySem.Spec PyProof.Rows L2
open Xk Az
section
variable {P : Program} {w : World} {K : PySem.W.Frag} {mg : Str → Option Value} {base : Heap}
theorem nodup_len : ∀ {a b : List Int}, a.Nodup → (∀ k ∈ a, k ∈ b) → a.length ≤ b.length
  | [], _, _, _ => Nat.zero_le _
  | x :: a, b, nd, h => by
    rw [List.nodup_cons] at nd
    have hx := h x List.mem_cons_self
    have := nodup_len (a := a) (b := b.erase x) nd.2 fun k hk => (List.mem_erase_of_ne (fun z : k = x => nd.1 (z ▸ hk))).mpr (h k (List.mem_cons_of_mem _ hk))
    rw [List.length_erase_of_mem hx] at this
    have := List.length_pos_of_mem hx
    rw [List.length_cons]
    omega
section
variable {X : Cx}
def rSetTI (K : PySem.W.Frag) (w : World) : List V → Hp → VK → Prop := fun xs H Q => ∃ (p : Addr) (ns : List Int), xs = [.ref p] ∧ SqT K H p (ns.map V.int) ∧ ns.length ≤ 1000 ∧ ∀ a c, H a = none → (∀ ms : List Int, (∀ k ∈ ns, k ∈ ms) → c ≤ ms.length) → Q (.ref a) (upd H a (SetO w a (fun j => decide (j ∈ ns)) c))
theorem cr_setTI (hc : X.calm = true) : CallR X (.type "set") (rSetTI X.K X.w) := by
  intro pins s σ H xs us Q I r h
  obtain ⟨p0, ns, rfl, hq, hl, q⟩ := h
  cases r with
  | cons r rr =>
    cases rr
    cases r
    obtain ⟨its, rv, pt, hz⟩ := I.tuple hq
    have hi : IntsAre its.toArray.toList ns := ints_of_vals rv
    refine call_set_tupI ns (I.ok.hd hc) (show s.heap.IsTuple p0 its.toArray from pt) hi (by unfold scanBound; omega) fun h' tk c R1 hcn k => ?_
    exact ⟨.ref _, upd H s.heap.objs.size (SetO X.w s.heap.objs.size _ c), I.laid (t' := tk) k (Nat.le_refl _) (setO_new R1), rfl, q _ _ (I.hok.fresh (Nat.le_refl _)) fun ms hms => by
      obtain ⟨o, es, ep, t, ho, hex, hdt, g, nd, hm2, hb, hf, hn, hr, hl2⟩ := R1
      have := nodup_len nd (b := ms) fun k hk => hms k (of_decide_eq_true ((hm2 k).mpr hk))
      rw [List.length_map, Array.length_toList] at this
      omega⟩
end
theorem cutK (xs : List V) (k : Nat) : cutV xs none (some (k : Int)) = xs.take k := by
  unfold cutV
  rw [HT.sIx_nat, show HT.sIx xs.length 0 none = 0 from rfl, List.drop_zero, Nat.sub_zero]
  rcases Nat.le_total k xs.length with h | h
  · rw [Nat.min_eq_left h]
  · rw [Nat.min_eq_right h, List.take_length, List.take_of_length_le h]
def okP (hs : List (List Int)) (x y : Int) : Bool := hs.any fun gs => decide (x ∈ gs) && decide (y ∈ gs)
theorem shr_iff {hs : List (List Int)} {ns : List Int} : P56.shr hs ns = true ↔ ∀ i j (hj : j < ns.length) (h : i < j), okP hs ns[j] (ns[i]'(by omega)) = false := by
  unfold P56.shr
  rw [List.all_eq_true]
  refine ⟨fun h i j hj hij => ?_, fun h gs hg => ?_⟩
  · unfold okP
    rw [List.any_eq_false]
    intro gs hg c
    have := List.pairwise_iff_getElem.mp (P56.two_iff.mp (of_decide_eq_true (h gs hg))) i j (by omega) hj hij
    simp at c
    exact this ⟨c.2, c.1⟩
  · refine decide_eq_true (P56.two_iff.mpr (List.pairwise_iff_getElem.mpr fun i j hi hj hij => ?_))
    intro c
    have := h i j hj hij
    unfold okP at this
    rw [List.any_eq_false] at this
    exact this gs hg (by simp [c.1, c.2])
theorem srt_ext : ∀ {a b : List Int}, a.Pairwise (· < ·) → b.Pairwise (· < ·) → (∀ k, k ∈ a ↔ k ∈ b) → a = b
  | [], [], _, _, _ => rfl
  | [], y :: _, _, _, h => absurd ((h y).mpr List.mem_cons_self) (by simp)
  | x :: _, [], _, _, h => absurd ((h x).mp List.mem_cons_self) (by simp)
  | x :: a, y :: b, ha, hb, h => by
    rw [List.pairwise_cons] at ha hb
    have e : x = y := by
      rcases List.mem_cons.mp ((h x).mp List.mem_cons_self) with z | z
      · exact z
      · rcases List.mem_cons.mp ((h y).mpr List.mem_cons_self) with u | u
        · exact u.symm
        · have h1 := hb.1 x z
          have h2 := ha.1 y u
          omega
    subst e
    congr 1
    refine srt_ext ha.2 hb.2 fun k => ⟨fun hk => ?_, fun hk => ?_⟩
    · rcases List.mem_cons.mp ((h k).mp (List.mem_cons_of_mem _ hk)) with z | z
      · have := ha.1 k hk
        omega
      · exact z
    · rcases List.mem_cons.mp ((h k).mpr (List.mem_cons_of_mem _ hk)) with z | z
      · have := hb.1 k hk
        omega
      · exact z
def spApt : Sp := fun vs H Q _ => ∃ (a c : Addr) (xs : List V) (hs : List (List Int)) (ns : List Int), vs = [.ref a, .ref c] ∧ H a = some (.tup xs) ∧ Hl H xs hs ∧ hs.length ≤ 12 ∧ H c = some (.tup (ns.map V.int)) ∧ ns.length ≤ 1000 ∧ ∀ H', L2.Same H H' → Q (.bl (P56.shr hs ns)) H'
def spEndG (K : PySem.W.Frag) : Sp := fun vs H Q _ => ∃ (a b t : Addr) (xs : List V) (hs : List (List Int)) (ms : List Int) (n k : Nat) (x : Str) (v : V) (d : PyData), vs = [.ref a, .ref b, .int (n : Int), .ref t] ∧ H a = some (.tup xs) ∧ Hl H xs hs ∧ hs.length ≤ 12 ∧ H b = some (.tup (ms.map V.int)) ∧ ms.length ≤ 20 ∧ H t = some (.tup [.str x, v]) ∧ Dz K H v d ∧ P56.Wd k d ∧ ∀ H', L2.Same H H' → Q (.bl (P56.endB hs ms n x d)) H'
theorem ok_lackG {f : Addr} {fd : FuncData} (D : Df K mg "_law_lacks" ["_law_wishes", "_law_thing"] sLacks f fd) (T : Txt mg) : FnOk P w K mg base CX0 1 f fd ["_law_wishes", "_law_thing"] (spMisG K) := by
  refine D.fn.ok scLacks (fun vs H Q E h => ?_) (fun cdv A outer s H vs Q E hr h => ?_)
  · obtain ⟨b, v, d, ms, rfl, eb, h, q⟩ := h
    rfl
  · obtain ⟨b, v, d, ms, rfl, eb, h, q⟩ := h
    refine ⟨_, (pss_one (ps_ret (pe_and (pe_callB call_isi (by rfl) T.isi (by decide +kernel) (pa_cons (pv 1) (pa_cons (pe_bltn (v := .ty "int") (by rfl) T.int (by decide +kernel) rfl) pa_nil))) (pe_and (pe_not (pe_callB call_isi (by rfl) T.isi (by decide +kernel) (pa_cons (pv 1) (pa_cons (pe_bltn (v := .ty "bool") (by rfl) T.bool (by decide +kernel) rfl) pa_nil)))) (pe_one (pe_cmpR op_in_seq (pv 1) (pv 0) (by rfl))))))), ?_⟩
    cases d with
    | int i =>
      have ty : TyX K H v (.type "int") := h.ty
      refine ⟨_, rfl, _, _, _, _, true, rfl, .ty _, ty, kit_ty (by decide +kernel), true, rfl, iteT ?_⟩
      refine ⟨_, rfl, _, _, _, _, false, rfl, .ty _, ty, kit_ty (by decide +kernel), false, rfl, _, rfl, iteT ?_⟩
      cases h
      refine ⟨_, rfl, _, rfl, b, _, rfl, .inr (SqT.of eb), rfl, flat_ints _, ?_⟩
      show Q (.bl (inV (.int i) (ms.map V.int))) H
      rw [inV_ints]
      exact q
    | bool b =>
      have ty : TyX K H v (.type "bool") := h.ty
      refine ⟨_, rfl, _, _, _, _, true, rfl, .ty _, ty, kit_ty (by decide +kernel), true, rfl, iteT ?_⟩
      exact ⟨_, rfl, _, _, _, _, true, rfl, .ty _, ty, kit_ty (by decide +kernel), true, rfl, _, rfl, iteF q⟩
    | none  =>
      have ty : TyX K H v (.type "NoneType") := h.ty
      exact ⟨_, rfl, _, _, _, _, false, rfl, .ty _, ty, kit_ty (by decide +kernel), false, rfl, iteF q⟩
    | str x =>
      have ty : TyX K H v (.type "str") := h.ty
      exact ⟨_, rfl, _, _, _, _, false, rfl, .ty _, ty, kit_ty (by decide +kernel), false, rfl, iteF q⟩
    | list ds =>
      have ty : TyX K H v (.type "list") := h.ty
      exact ⟨_, rfl, _, _, _, _, false, rfl, .ty _, ty, kit_ty (by decide +kernel), false, rfl, iteF q⟩
    | tuple ds =>
      have ty : TyX K H v (.type "tuple") := h.ty
      exact ⟨_, rfl, _, _, _, _, false, rfl, .ty _, ty, kit_ty (by decide +kernel), false, rfl, iteF q⟩
    | dict ds =>
      have ty : TyX K H v (.type "dict") := h.ty
      exact ⟨_, rfl, _, _, _, _, false, rfl, .ty _, ty, kit_ty (by decide +kernel), false, rfl, iteF q⟩
theorem ok_apt {f : Addr} {fd : FuncData} (D : Df K mg "_law_are_apart" ["_law_held", "_law_some"] sAreApart f fd) (T : Txt mg) : FnOk P w K mg base CX0 1 f fd ["_law_held", "_law_some"] spApt := by
  refine D.fn.ok scAreApart (fun vs H Q E h => ?_) (fun cdv A outer s H vs Q E hr h => ?_)
  · obtain ⟨a, c, xs, hs, ns, rfl, ea, hl, l12, ec, l60, q⟩ := h
    rfl
  · obtain ⟨a, c, xs, hs, ns, rfl, ea, hl, l12, ec, l60, q⟩ := h
    refine ⟨_, (pss_cons (ps_for PassesOwn.never rfl (pi_range1 (by rfl) T.range (pa_cons (pe_callB call_len_seq (by rfl) T.len PySem.boot_len (pa_cons (pv 1) pa_nil)) pa_nil)) (pg_name (i := 2) scAreApart.nd rfl (.inr rfl)) (pss_one (ps_for PassesOwn.never rfl (pi_tup (pe_slice sl_tupU (pv 1) po_none (po_some (pv 2)))) (pg_name (i := 3) scAreApart.nd rfl (.inr rfl)) (pss_one (ps_if (pt_val (pe_callB (cr_any (by rfl)) (by rfl) T.any (by decide +kernel) (pa_cons (pe_lc (own := [("_law_things", 4)]) (g := gName 4) (tt := tYes) (te := tAndV (tOp (rIn K false) (tOp (rIxT K) (tVar 1) (tVar 2)) (tVar 4)) (tOp (rIn K false) (tVar 3) (tVar 4))) (by rfl) scAreApart.nd (pi_tup (pv 0)) (blkOk_by (own := [("_law_things", 4)]) (N := ["_law_held", "_law_some", "_law_k", "_law_other", "_law_things"]) (sc := defScope sAreApart) (by decide +kernel)) (fun _ _ _ _ _ => pg_name (i := 4) scAreApart.nd rfl (.inl rfl)) (fun _ _ _ _ _ => pts_nil) (fun _ _ _ _ _ => pe_and (pe_cmpR op_in_seq (pe_ix ix_tup (pv 1) (pv 2) (fun _ _ => rfl)) (pv 4) (by rfl)) (pe_one (pe_cmpR op_in_seq (pv 3) (pv 4) (by rfl))))) pa_nil))) (pss_one (ps_ret pe_bl)) pss_nil)))))
      (pss_one (ps_ret pe_bl))), ?_⟩
    have lh := hl.len
    have q' : ∀ r H', P56.shr hs ns = r → L2.Same H H' → Q (.bl r) H' := fun r H' z s => z ▸ q H' s
    refine ⟨_, rfl, c, _, rfl, .inr (SqT.of ec), _, rfl, ?_, ?_, ?_⟩
    · rw [List.length_map]; omega
    · rw [List.length_map]; omega
    have tn : (((ns.map V.int).length : Nat) : Int).toNat = ns.length := by rw [List.length_map, Int.toNat_natCast]
    refine for_range (lo := 0) (n := (((ns.map V.int).length : Nat) : Int).toNat) (fun m σ Hi => ∃ c2 c3 : Option V, σ = [some (.ref a), some (.ref c), c2, c3, none] ∧ L2.Same H Hi ∧ ∀ i j (hj : j < ns.length) (h : i < j), j < m → okP hs ns[j] (ns[i]'(by omega)) = false) ?_ ?_ ?_
    · exact ⟨_, _, rfl, Same.refl H, fun i j hj h z => absurd z (Nat.not_lt_zero _)⟩
    · rintro m σ Hi hm ⟨c2, c3, rfl, sm, inv⟩
      rw [tn] at hm
      have ecm := sm _ _ ec
      refine ⟨_, rfl, _, rfl, _, rfl, c, _, rfl, ecm, fun pz Hz sz ez => ?_⟩
      rw [Int.zero_add, cutK, ← List.map_take] at ez
      have s1 := sm.trans sz
      refine ⟨pz, rfl, ⟨_, SqT.of ez⟩, ?_⟩
      refine for_tup (K := K) (a := pz) (xs := (ns.take m).map V.int) (fun i σ Hj => ∃ c3 : Option V, σ = [some (.ref a), some (.ref c), some (.int (0 + (m : Int))), c3, none] ∧ L2.Same Hz Hj ∧ ∀ j (h : j < i) (hj : j < m), okP hs ns[m] (ns[j]'(by omega)) = false) ⟨_, rfl, Same.refl Hz, fun j h => absurd h (Nat.not_lt_zero _)⟩ (fun i σ Hj _ z => SqT.of (z.choose_spec.2.1 _ _ ez)) ?_ ?_
      · rintro i y σ Hj hy ⟨c3, rfl, sj, inv2⟩
        rw [List.getElem?_map] at hy
        obtain ⟨g, eg, rfl⟩ := Option.map_eq_some_iff.mp hy
        have im : i < m := by have := (List.getElem?_eq_some_iff.mp eg).1; rw [List.length_take] at this; omega
        have eg' : ns[i]'(by omega) = g := by
          rw [List.getElem?_take_of_lt im, List.getElem?_eq_getElem (by omega)] at eg
          exact Option.some.inj eg
        have s2 := s1.trans sj
        refine ⟨_, rfl, a, rfl, ⟨_, SqT.of (s2 _ _ ea)⟩, fun D nD => ?_⟩
        refine lc_tup (K := K) (a := a) (xs := xs) (fun k Hk => L2.Same Hj Hk ∧ Hk D = some (.lst (((hs.map fun gs => decide (ns[m] ∈ gs) && decide (g ∈ gs)).take k).map V.bl))) ⟨same_upd nD, upd_same⟩ (fun k Hk _ z => SqT.of (z.1 _ _ (s2 _ _ ea))) ?_ ?_
        · rintro k x Hk hk ⟨sk, eD⟩
          have il : k < hs.length := by have := (List.getElem?_eq_some_iff.mp hk).1; omega
          obtain ⟨tk, etk, eTk⟩ := hl.get il
          obtain rfl : V.ref tk = x := Option.some.inj (etk.symm.trans hk)
          have s3 := s2.trans sk
          have fin : ∀ r : Bool, (decide (ns[m] ∈ hs[k]) && decide (g ∈ hs[k])) = r → ∃ us : List V, Hk D = some (.lst us) ∧ us.length < sizeLine ∧ L2.Same Hj (upd Hk D (.lst (us ++ [.bl r]))) ∧ upd Hk D (.lst (us ++ [.bl r])) D = some (.lst (((hs.map fun gs => decide (ns[m] ∈ gs) && decide (g ∈ gs)).take (k + 1)).map V.bl)) := fun r er => by
            refine ⟨_, eD, ?_, fun c o e => ?_, ?_⟩
            · rw [List.length_map, List.length_take]
              exact Nat.lt_of_le_of_lt (Nat.le_trans (Nat.min_le_left _ _) (show k ≤ 1000 by omega)) (by decide)
            · rw [upd_ne (ne_of_none e nD)]
              exact sk _ _ e
            · rw [upd_same, List.take_add_one, List.getElem?_map, List.getElem?_eq_getElem il, List.map_append, ← er]
              rfl
          refine ⟨rfl, ?_⟩
          unfold tYes
          refine iteT ⟨_, rfl, _, rfl, c, _, _, .int ns[m], rfl, rfl, SqT.of (s3 _ _ ec), (by rw [Int.zero_add]; exact atI_nat (j := m) (by rw [List.getElem?_map, List.getElem?_eq_getElem hm]; rfl)), _, rfl, tk, _, rfl, .inr (SqT.of (s3 _ _ eTk)), rfl, flat_ints _, _, rfl, ?_⟩
          rw [inV_ints]
          by_cases h1 : ns[m] ∈ hs[k]
          · rw [decide_eq_true h1]
            refine iteT ⟨_, rfl, _, rfl, tk, _, rfl, .inr (SqT.of (s3 _ _ eTk)), rfl, flat_ints _, ?_⟩
            rw [inV_ints]
            exact fin _ (by rw [decide_eq_true h1]; simp)
          · rw [decide_eq_false h1]
            exact iteF (fin _ (by rw [decide_eq_false h1]; rfl))
        · rintro He ⟨se, eD⟩
          rw [List.take_of_length_le (by rw [List.length_map]; omega)] at eD
          refine ⟨D, _, rfl, SqL.of eD, _, rfl, ?_⟩
          rw [show (hs.map fun gs => decide (ns[m] ∈ gs) && decide (g ∈ gs)).any id = okP hs ns[m] g by rw [List.any_map]; rfl]
          cases r : okP hs ns[m] g with
          | true =>
            refine iteT (q' false He ?_ (s2.trans se))
            cases z : P56.shr hs ns with
            | false => rfl
            | true =>
              have := shr_iff.mp z i m hm im
              rw [eg', r] at this
              cases this
          | false =>
            refine iteF ⟨_, rfl, sj.trans se, fun j hj hjm => ?_⟩
            rcases Nat.lt_or_ge j i with z | z
            · exact inv2 j z hjm
            · obtain rfl : j = i := by omega
              rw [eg']
              exact r
      · rintro σ He ⟨c3, rfl, se, inv2⟩
        refine ⟨_, _, rfl, s1.trans se, fun i j hj h z => ?_⟩
        rcases Nat.lt_or_ge j m with y | y
        · exact inv i j hj h y
        · obtain rfl : j = m := by omega
          exact inv2 i (by rw [List.length_map, List.length_take]; omega) h
    · rintro σ He ⟨c2, c3, rfl, se, inv⟩
      rw [tn] at inv
      exact q' true He (shr_iff.mpr fun i j hj h => inv i j hj h hj) se
end
end K60
set_option Elab.async false
set_option linter.all false
set_option maxRecDepth 100000
set_option maxHeartbeats 4000000
set_option pp.maxSteps 400
set_option pp.deepTerms false
namespace K60
open PySem PySem.Spec PyProof.Rows L2
open Xk Az
section
variable {P : Program} {w : World} {K : PySem.W.Frag} {mg : Str → Option Value} {base : Heap}
theorem ok_endG {f : Addr} {fd : FuncData} (D : Df K mg "_law_end_right" ["_law_held", "_law_wishes", "_law_many", "_law_thing"] sEndRight f fd) (T : Txt mg) (cLk : Ca P w K mg base 1 "_law_lacks" ["_law_wishes", "_law_thing"] (spMisG K)) (cApt : Ca P w K mg base 1 "_law_are_apart" ["_law_held", "_law_some"] spApt) : FnOk P w K mg base CX0 2 f fd ["_law_held", "_law_wishes", "_law_many", "_law_thing"] (spEndG K) := by
  refine D.fn.ok scEndRight (fun vs H Q E h => ?_) (fun cdv A outer s H vs Q E hr h => ?_)
  · obtain ⟨a, b, t, xs, hs, ms, n, k, x, v, d, rfl, ea, hl, l12, eb, l20, et, hz, hw, q⟩ := h
    rfl
  · obtain ⟨a, b, t, xs, hs, ms, n, k, x, v, d, rfl, ea, hl, l12, eb, l20, et, hz, hw, q⟩ := h
    refine ⟨_, (pss_cons (ps_if (pt_cmpR op_eq (pe_ix ix_tup (pv 3) pe_int (fun _ _ => rfl)) pe_str (nomark _)) (pss_one (ps_ret (pe_and (pe_cmpR op_eq (pv 2) pe_int (nomark _)) (pe_one (pe_ca cLk hr (by decide) (by rfl) (pa_cons (pv 1) (pa_cons (pe_ix ix_tup (pv 3) pe_int (fun _ _ => rfl)) pa_nil))))))) pss_nil)
      (pss_cons (ps_if (PW.pt (pw_or (pt_cmpR op_ne (pe_ix ix_tup (pv 3) pe_int (fun _ _ => rfl)) pe_str (nomark _)) (pw_or (pt_not (pt_val (pe_callB call_isi (by rfl) T.isi (by decide +kernel) (pa_cons (pe_ix ix_tup (pv 3) pe_int (fun _ _ => rfl)) (pa_cons (pe_bltn (v := .ty "tuple") (by rfl) T.tuple (by decide +kernel) rfl) pa_nil))))) (pw_or1 (pt_cmpR op_le (pe_callB call_len_seq (by rfl) T.len PySem.boot_len (pa_cons (pe_ix ix_tup (pv 3) pe_int (fun _ _ => rfl)) pa_nil)) (pv 2) (nomark _)))))) (pss_one (ps_ret pe_bl)) pss_nil)
      (pss_cons (ps_if (PW.pt (pw_or (pt_not (pt_val (pe_callB (cr_all (by rfl)) (by rfl) T.all (by decide +kernel) (pa_cons (pe_lc (own := [("_law_wish", 4)]) (g := gName 4) (tt := tYes) (te := tCall (spMisG K) [] E0 (tCons (tVar 1) (tCons (tVar 4) tNil))) (by rfl) scEndRight.nd (pi_tup (pe_ix ix_tup (pv 3) pe_int (fun _ _ => rfl))) (blkOk_by (own := [("_law_wish", 4)]) (N := ["_law_held", "_law_wishes", "_law_many", "_law_thing", "_law_wish"]) (sc := defScope sEndRight) (by decide +kernel)) (fun _ _ _ _ _ => pg_name (i := 4) scEndRight.nd rfl (.inl rfl)) (fun _ _ _ _ _ => pts_nil) (fun _ _ _ _ _ => pe_ca cLk hr (by decide) (by rfl) (pa_cons (pv 1) (pa_cons (pv 4) pa_nil)))) pa_nil)))) (pw_or1 (pt_cmpR (op_neD hr.units) (pe_callTy call_list_of (by rfl) T.list (by decide +kernel) (pa_cons (pe_ix ix_tup (pv 3) pe_int (fun _ _ => rfl)) pa_nil)) (pe_callB (cr_sortedSet (by rfl)) (by rfl) T.sorted (by decide +kernel) (pa_cons (pe_callTy (cr_setTI (by rfl)) (by rfl) T.set (by decide +kernel) (pa_cons (pe_ix ix_tup (pv 3) pe_int (fun _ _ => rfl)) pa_nil)) pa_nil)) (nomark _))))) (pss_one (ps_ret pe_bl)) pss_nil)
      (pss_one (ps_ret (pe_ca cApt hr (by decide) (by rfl) (pa_cons (pv 0) (pa_cons (pe_ix ix_tup (pv 3) pe_int (fun _ _ => rfl)) pa_nil)))))))), ?_⟩
    have q' : ∀ r H', P56.endB hs ms n x d = r → L2.Same H H' → Q (.bl r) H' := fun r H' z s => z ▸ q H' s
    refine ⟨_, rfl, t, _, _, _, rfl, rfl, SqT.of et, atI_nat (j := 0) rfl, rfl, _, rfl, ?_⟩
    by_cases xl : x = "left"
    · subst xl
      rw [show decide (V.str "left" = V.str "left") = true by simp]
      refine iteT ⟨_, rfl, rfl, _, rfl, ?_⟩
      by_cases n0 : n = 0
      · subst n0
        refine iteT ⟨_, rfl, _, rfl, t, _, _, v, rfl, rfl, SqT.of et, atI_nat (j := 1) rfl, b, v, d, ms, rfl, eb, hz, q' _ H ?_ (Same.refl H)⟩
        unfold P56.endB
        rw [if_pos rfl]
        rfl
      · rw [show decide (V.int (n : Int) = V.int 0) = false by rw [decide_eq_false_iff_not]; intro z; injection z with z; omega]
        refine iteF (q' false H ?_ (Same.refl H))
        unfold P56.endB
        rw [if_pos rfl, decide_eq_false n0]
        rfl
    rw [show decide (V.str x = V.str "left") = false by rw [decide_eq_false_iff_not]; intro z; injection z with z; exact xl z]
    have q2 : ∀ r H', (decide (x = "apart") && P56.som hs ms n d) = r → L2.Same H H' → Q (.bl r) H' := fun r H' z s => q' r H' (by unfold P56.endB; rw [if_neg xl]; exact z) s
    clear q q'
    refine iteF ⟨_, rfl, t, _, _, _, rfl, rfl, SqT.of et, atI_nat (j := 0) rfl, rfl, _, rfl, ?_⟩
    by_cases xa : x = "apart"
    case neg =>
      rw [show (!decide (V.str x = V.str "apart")) = true by rw [Bool.not_eq_true', decide_eq_false_iff_not]; intro z; injection z with z; exact xa z]
      exact iteT (q2 false H (by rw [decide_eq_false xa]; rfl) (Same.refl H))
    subst xa
    rw [show (!decide (V.str "apart" = V.str "apart")) = false by simp]
    have q3 : ∀ r H', P56.som hs ms n d = r → L2.Same H H' → Q (.bl r) H' := fun r H' z s => q2 r H' (by rw [z]; rfl) s
    clear q2
    refine iteF ⟨_, rfl, t, _, _, v, rfl, rfl, SqT.of et, atI_nat (j := 1) rfl, _, _, _, _, isTup d, rfl, .ty _, hz.ty, z_tup d, _, rfl, ?_⟩
    cases hz with
    | @tup c ys ds ec ra =>
      have l60 := hw.of.1
      have ly := dz_len ra
      refine iteF ⟨_, rfl, t, _, _, .ref c, rfl, rfl, SqT.of et, atI_nat (j := 1) rfl, c, _, rfl, .inr (SqT.of ec), _, rfl, _, _, rfl, rfl, _, rfl, ?_⟩
      by_cases nl : n < ds.length
      case neg =>
        rw [show decide ((ys.length : Int) ≤ (n : Int)) = true by rw [decide_eq_true_iff]; omega]
        refine iteT (q3 false H ?_ (Same.refl H))
        unfold P56.som
        dsimp only
        rw [decide_eq_false nl]
        simp
      rw [show decide ((ys.length : Int) ≤ (n : Int)) = false by rw [decide_eq_false_iff_not]; omega]
      refine iteF ?_
      refine ⟨_, rfl, t, _, _, .ref c, rfl, rfl, SqT.of et, atI_nat (j := 1) rfl, c, rfl, ⟨_, SqT.of ec⟩, fun D nD => ?_⟩
      refine lc_tup (K := K) (a := c) (xs := ys) (fun i Hi => L2.Same H Hi ∧ Hi D = some (.lst (((ds.map (P56.mis ms)).take i).map V.bl))) ⟨same_upd nD, upd_same⟩ (fun i Hi _ z => SqT.of (z.1 _ _ ec)) ?_ ?_
      · rintro i x Hi hx ⟨sm, eD⟩
        have il : i < ys.length := (List.getElem?_eq_some_iff.mp hx).1
        obtain ⟨di, edi, dzi⟩ := dz_get ra hx
        refine ⟨rfl, ?_⟩
        unfold tYes
        refine iteT ⟨_, rfl, _, rfl, b, x, di, ms, rfl, sm _ _ eb, dzi.same sm, _, eD, ?_, fun c o e => ?_, ?_⟩
        · rw [List.length_map, List.length_take]
          exact Nat.lt_of_le_of_lt (Nat.le_trans (Nat.min_le_left _ _) (show i ≤ 1000 by omega)) (by decide)
        · rw [upd_ne (ne_of_none e nD)]
          exact sm _ _ e
        · rw [upd_same, List.take_add_one, List.getElem?_map, edi, List.map_append]
          rfl
      rintro H2 ⟨s2, eD⟩
      rw [List.take_of_length_le (by rw [List.length_map]; omega)] at eD
      refine ⟨D, _, rfl, SqL.of eD, _, rfl, ?_⟩
      rw [show (ds.map (P56.mis ms)).all id = ds.all (P56.mis ms) by rw [List.all_map]; rfl]
      cases cm : ds.all (P56.mis ms) with
      | false => exact iteT (q3 false H2 (by unfold P56.som; dsimp only; rw [cm]; rfl) s2)
      | true =>
        obtain ⟨ey, rng⟩ := ints_of ra cm
        have hq : P56.som hs ms n (.tuple ds) = (P56.ris (ds.map P56.num) && P56.shr hs (ds.map P56.num)) := by unfold P56.som; dsimp only; rw [cm, decide_eq_true nl]; rfl
        have ln : (ds.map P56.num).length ≤ 1000 := by rw [List.length_map]; exact l60
        rw [hq] at q3
        subst ey
        clear hq hw ra eD ly cm nl
        generalize ds.map P56.num = ns at *
        have et2 := s2 _ _ et
        have ec2 := s2 _ _ ec
        refine iteF ?_
        refine ⟨_, rfl, t, _, _, .ref c, rfl, rfl, SqT.of et2, atI_nat (j := 1) rfl, c, _, rfl, .inr (SqT.of ec2), fun L nL => ?_⟩
        have s3 := same_upd nL (o := .lst (ns.map V.int))
        have eL : upd H2 L (.lst (ns.map V.int)) L = some (.lst (ns.map V.int)) := upd_same
        generalize upd H2 L (.lst (ns.map V.int)) = H3 at *
        refine ⟨_, rfl, t, _, _, .ref c, rfl, rfl, SqT.of (s3 _ _ et2), atI_nat (j := 1) rfl, c, ns, rfl, SqT.of (s3 _ _ ec2), by omega, fun S m nS hm => ?_⟩
        have s4 := same_upd nS (o := SetO w S (fun j => decide (j ∈ ns)) m)
        refine ⟨S, _, m, rfl, upd_same, (by have := hm ms rng; omega), fun ns' p pw mem _ np => ?_⟩
        have s5 := same_upd np (o := .lst (ns'.map V.int))
        have s45 := s4.trans s5
        refine ⟨_, _, .lst (SqL.of (s45 _ _ eL)) (dpAll_ints _), .lst (SqL.of upd_same) (dpAll_ints _), shaped_list (lay_ints _) (Nat.le_trans (depth_ints _) (by decide)), shaped_list (lay_ints _) (Nat.le_trans (depth_ints _) (by decide)), _, rfl, ?_⟩
        have s25 := (s2.trans s3).trans s45
        have er : PyData.eqv (.list (ns.map PyData.int)) (.list (ns'.map PyData.int)) = P56.ris ns := by
          simp only [PyData.eqv]
          rw [Xt.eqv_ints]
          cases r : P56.ris ns with
          | true => exact decide_eq_true (srt_ext (P56.ris_iff.mp r) pw fun k => by rw [mem]; simp)
          | false =>
            refine decide_eq_false fun z => ?_
            rw [z, P56.ris_iff.mpr pw] at r
            cases r
        rw [er]
        cases r : P56.ris ns with
        | false => exact iteT (q3 false _ (by rw [r]; rfl) s25)
        | true =>
          refine iteF ⟨_, rfl, _, rfl, t, _, _, .ref c, rfl, rfl, SqT.of (s25 _ _ et), atI_nat (j := 1) rfl, a, c, xs, hs, ns, rfl, s25 _ _ ea, hl.map (fun _ _ e => s25 _ _ e), l12, s25 _ _ ec, ln, fun H6 s6 => q3 _ H6 ?_ (s25.trans s6)⟩
          rw [r]
          rfl
    | _ => exact iteT (q3 false H rfl (Same.refl H))
end
end K60
set_option Elab.async false
set_option linter.all false
set_option maxRecDepth 100000
set_option maxHeartbeats 4000000
set_option pp.maxSteps 400
set_option pp.deepTerms false
namespace K60
open PySem PySem.Spec PyProof.Rows L2
open Xk Az
section
variable {P : Program} {w : World} {K : PySem.W.Frag} {mg : Str → Option Value} {base : Heap}
abbrev En := PyData × List Int × Nat
def wts (es : List En) : Nat := (es.map fun e => 13 ^ e.2.2).sum
def alE (hs : List (List Int)) (es : List En) : Bool := es.all fun e => P56.ibk hs e.2.2 e.2.1 e.1
/-- what is still to be looked at -/
inductive Stk (K : PySem.W.Frag) (H0 H : Hp) : List V → List En → Prop
  | nil : Stk K H0 H [] []
  | cons {q m : Addr} {v : V} {d : PyData} {ms : List Int} {n k : Nat} {xs : List V} {es : List En} (e1 : H q = some (.tup [v, .ref m, .int (n : Int)])) (e2 : H m = some (.tup (ms.map V.int))) (l : ms.length ≤ 20) (b : Dz K H0 v d) (wd : P56.Wd k d) (r : Stk K H0 H xs es) : Stk K H0 H (.ref q :: xs) ((d, ms, n) :: es)
theorem Stk.keep {H0 H H' : Hp} {xs : List V} {es : List En} (h : Stk K H0 H xs es) (k : ∀ b ys, H b = some (.tup ys) → H' b = some (.tup ys)) : Stk K H0 H' xs es := by
  induction h with
  | nil => exact .nil
  | cons e1 e2 l b w _ ih => exact .cons (k _ _ e1) (k _ _ e2) l b w ih
theorem Stk.len {H0 H : Hp} {xs : List V} {es : List En} (h : Stk K H0 H xs es) : xs.length = es.length := by
  induction h with
  | nil => rfl
  | cons _ _ _ _ _ _ ih => rw [List.length_cons, List.length_cons, ih]
theorem Stk.app {H0 H : Hp} {xs ys : List V} {es fs : List En} (h : Stk K H0 H xs es) (h' : Stk K H0 H ys fs) : Stk K H0 H (xs ++ ys) (es ++ fs) := by
  induction h with
  | nil => exact h'
  | cons e1 e2 l b w _ ih => exact .cons e1 e2 l b w ih
theorem Stk.last {H0 H : Hp} {xs : List V} {es : List En} (h : Stk K H0 H xs es) (ne : xs ≠ []) : ∃ (q m : Addr) (v : V) (d : PyData) (ms : List Int) (n k : Nat) (ys : List V) (fs : List En), xs = ys ++ [.ref q] ∧ es = fs ++ [(d, ms, n)] ∧ Stk K H0 H ys fs ∧ H q = some (.tup [v, .ref m, .int (n : Int)]) ∧ H m = some (.tup (ms.map V.int)) ∧ ms.length ≤ 20 ∧ Dz K H0 v d ∧ P56.Wd k d := by
  induction h with
  | nil => exact absurd rfl ne
  | @cons q m v d ms n k xs es e1 e2 l b w r ih =>
    cases r with
    | nil => exact ⟨q, m, v, d, ms, n, k, [], [], rfl, rfl, .nil, e1, e2, l, b, w⟩
    | cons f1 f2 l' b' w' r' =>
      obtain ⟨q', m', v', d', ms', n', k', ys, fs, h1, h2, h3, h4, h5, h6, h7, h8⟩ := ih (by simp)
      exact ⟨q', m', v', d', ms', n', k', .ref q :: ys, (d, ms, n) :: fs, by rw [h1]; rfl, by rw [h2]; rfl, .cons e1 e2 l b w h3, h4, h5, h6, h7, h8⟩
theorem wts_app (es fs : List En) : wts (es ++ fs) = wts es + wts fs := by
  unfold wts
  rw [List.map_append, List.sum_append]
theorem wts_le {n : Nat} : ∀ (fs : List En), (∀ e ∈ fs, e.2.2 = n) → wts fs = fs.length * 13 ^ n
  | [], _ => by simp [wts]
  | e :: fs, h => by
    have ih := wts_le fs fun x hx => h x (List.mem_cons_of_mem _ hx)
    have e0 := h e List.mem_cons_self
    show wts ([e] ++ fs) = _
    rw [wts_app, ih, List.length_cons, Nat.succ_mul, Nat.add_comm]
    simp [wts, e0]
theorem none_of {H H' : Hp} {a : Addr} (s : L2.Same H H') (n : H' a = none) : H a = none := by
  cases z : H a with
  | none => rfl
  | some x => rw [s _ _ z] at n; cases n
def spLBG (K : PySem.W.Frag) : Sp := fun vs H Q _ => ∃ (a b : Addr) (xs : List V) (hs : List (List Int)) (ms : List Int) (N k : Nat) (v : V) (d : PyData), vs = [.ref a, .ref b, .int (N : Int), v] ∧ H a = some (.tup xs) ∧ Hl H xs hs ∧ hs.length ≤ 12 ∧ H b = some (.tup (ms.map V.int)) ∧ ms.length ≤ 20 ∧ N ≤ 14 ∧ Dz K H v d ∧ P56.Wd k d ∧ ∀ H', L2.Same H H' → Q (.bl (P56.ibk hs N ms d)) H'
theorem ok_lbG {f : Addr} {fd : FuncData} (D : Df K mg "_law_is_book" ["_law_held", "_law_wishes", "_law_many", "_law_thing"] sLwIsBook f fd) (T : Txt mg) (cLk : Ca P w K mg base 1 "_law_lacks" ["_law_wishes", "_law_thing"] (spMisG K)) (cEn : Ca P w K mg base 2 "_law_end_right" ["_law_held", "_law_wishes", "_law_many", "_law_thing"] (spEndG K)) : FnOk P w K mg base CX0 3 f fd ["_law_held", "_law_wishes", "_law_many", "_law_thing"] (spLBG K) := by
  refine D.fn.ok scLwIsBook (fun vs H Q E h => ?_) (fun cdv A outer s H vs Q E hr h => ?_)
  · obtain ⟨a, b, xs, hs, ms, N, k0, v, d, rfl, ea, hl, l12, eb, l20, n14, hz, hw, q⟩ := h
    rfl
  · obtain ⟨a, b, xs, hs, ms, N, k0, v, d, rfl, ea, hl, l12, eb, l20, n14, hz, hw, q⟩ := h
    refine ⟨_, (pss_cons (ps_set (i := 4) scLwIsBook.nd rfl (.inl rfl) (pe_lst (pa_cons (pe_tup (pa_cons (pv 3) (pa_cons (pv 1) (pa_cons (pv 2) pa_nil)))) pa_nil)))
      (pss_cons (ps_while PassesOwn.never (pt_cmpR (Xt.op_neL0 hr.units) (pv 4) (pe_lst pa_nil) (nomark _)) (pss_cons (ps_asg (pe_bm0 PySem.F.plainAttrs_list PySem.F.slot_list_pop PySem.F.type_list_pop mt_pop (pv 4)) (pg_tup (by rfl) (pgs_cons (pg_name (i := 5) scLwIsBook.nd rfl (.inr rfl)) (pgs_cons (pg_name (i := 6) scLwIsBook.nd rfl (.inl rfl)) (pgs_cons (pg_name (i := 7) scLwIsBook.nd rfl (.inl rfl)) pgs_nil)))))
      (pss_cons (ps_if (PW.pt (pw_or (pt_not (pt_val (pe_callB call_isi (by rfl) T.isi (by decide +kernel) (pa_cons (pv 5) (pa_cons (pe_bltn (v := .ty "tuple") (by rfl) T.tuple (by decide +kernel) rfl) pa_nil))))) (pw_or (pt_cmpR op_notIn_seq (pe_callB call_len_seq (by rfl) T.len PySem.boot_len (pa_cons (pv 5) pa_nil)) (pe_tup (pa_cons pe_int (pa_cons pe_int pa_nil))) (by rfl)) (pw_or1 (pt_not (pt_val (pe_callB call_isi (by rfl) T.isi (by decide +kernel) (pa_cons (pe_ix ix_tup (pv 5) pe_int (fun _ _ => rfl)) (pa_cons (pe_bltn (v := .ty "str") (by rfl) T.str (by decide +kernel) rfl) pa_nil))))))))) (pss_one (ps_ret pe_bl)) pss_nil)
      (pss_one (ps_if (pt_cmpR op_eq (pe_callB call_len_seq (by rfl) T.len PySem.boot_len (pa_cons (pv 5) pa_nil)) pe_int (nomark _)) (pss_one (ps_if (pt_not (pt_val (pe_ca cEn hr (by decide) (by rfl) (pa_cons (pv 0) (pa_cons (pv 6) (pa_cons (pv 7) (pa_cons (pv 5) pa_nil))))))) (pss_one (ps_ret pe_bl)) pss_nil)) (pss_cons (ps_if (PW.pt (pw_or (pt_cmpR op_ne (pe_ix ix_tup (pv 5) pe_int (fun _ _ => rfl)) pe_str (nomark _)) (pw_or (pt_cmpR op_lt (pv 7) pe_int (nomark _)) (pw_or (pt_not (pt_val (pe_ca cLk hr (by decide) (by rfl) (pa_cons (pv 6) (pa_cons (pe_ix ix_tup (pv 5) pe_int (fun _ _ => rfl)) pa_nil))))) (pw_or1 (pt_not (pt_val (pe_callB call_isi (by rfl) T.isi (by decide +kernel) (pa_cons (pe_ix ix_tup (pv 5) pe_int (fun _ _ => rfl)) (pa_cons (pe_bltn (v := .ty "tuple") (by rfl) T.tuple (by decide +kernel) rfl) pa_nil)))))))))) (pss_one (ps_ret pe_bl)) pss_nil)
      (pss_cons (ps_set (i := 8) scLwIsBook.nd rfl (.inr rfl) (pe_lc (own := [("_law_things", 10)]) (g := gName 10) (tt := tTest (tOp (rIn K false) (tOp (rIxT K) (tVar 5) (tC (V.int 1))) (tVar 10))) (by rfl) scLwIsBook.nd (pi_tup (pv 0)) (blkOk_by (own := [("_law_things", 10)]) (N := ["_law_held", "_law_wishes", "_law_many", "_law_thing", "_law_rest", "_law_book", "_law_lacking", "_law_few", "_law_some", "_law_k", "_law_things", "_law_wish"]) (sc := defScope sLwIsBook) (by decide +kernel)) (fun _ _ _ _ _ => pg_name (i := 10) scLwIsBook.nd rfl (.inl rfl)) (fun _ _ _ _ _ => (pts_one (pt_cmpR op_in_seq (pe_ix ix_tup (pv 5) pe_int (fun _ _ => rfl)) (pv 10) (by rfl)))) (fun _ _ _ _ _ => pv 10)))
      (pss_cons (ps_if (pt_cmpR op_ne (pe_callB call_len_seq (by rfl) T.len PySem.boot_len (pa_cons (pv 8) pa_nil)) (pe_callB call_len_seq (by rfl) T.len PySem.boot_len (pa_cons (pe_ix ix_tup (pv 5) pe_int (fun _ _ => rfl)) pa_nil)) (nomark _)) (pss_one (ps_ret pe_bl)) pss_nil)
      (pss_one (ps_for PassesOwn.never rfl (pi_range1 (by rfl) T.range (pa_cons (pe_callB call_len_seq (by rfl) T.len PySem.boot_len (pa_cons (pv 8) pa_nil)) pa_nil)) (pg_name (i := 9) scLwIsBook.nd rfl (.inr rfl)) (pss_one (ps_expr (pe_bm PySem.F.plainAttrs_list PySem.F.slot_list_append PySem.F.type_list_append mt_append (pv 4) (pa_cons (pe_tup (pa_cons (pe_ix ix_tup (pe_ix ix_tup (pv 5) pe_int (fun _ _ => rfl)) (pv 9) (fun _ _ => rfl)) (pa_cons (pe_callTy call_tuple_of (by rfl) T.tuple (by decide +kernel) (pa_cons (pe_lc (own := [("_law_wish", 11)]) (g := gName 11) (tt := tTest (tOp (rIn K true) (tVar 11) (tOp (rIxL K) (tVar 8) (tVar 9)))) (by rfl) scLwIsBook.nd (pi_tup (pv 6)) (blkOk_by (own := [("_law_wish", 11)]) (N := ["_law_held", "_law_wishes", "_law_many", "_law_thing", "_law_rest", "_law_book", "_law_lacking", "_law_few", "_law_some", "_law_k", "_law_things", "_law_wish"]) (sc := defScope sLwIsBook) (by decide +kernel)) (fun _ _ _ _ _ => pg_name (i := 11) scLwIsBook.nd rfl (.inl rfl)) (fun _ _ _ _ _ => (pts_one (pt_cmpR op_notIn_seq (pv 11) (pe_ix ix_list (pv 8) (pv 9) (fun _ _ => rfl)) (by rfl)))) (fun _ _ _ _ _ => pv 11)) pa_nil)) (pa_cons (pe_op op_sub (pv 7) pe_int) pa_nil)))) pa_nil))))))))))))))
      (pss_one (ps_ret pe_bl)))), ?_⟩
    have lh := hl.len
    have q' : ∀ r H', P56.ibk hs N ms d = r → L2.Same H H' → Q (.bl r) H' := fun r H' z s => z ▸ q H' s
    refine ⟨_, rfl, _, rfl, _, rfl, (by show 3 ≤ sizeLine; decide), fun t0 n0 => ⟨(by show 1 ≤ sizeLine; decide), fun L nL => ?_⟩⟩
    have z0 := same_upd n0 (o := .tup [v, .ref b, .int (N : Int)])
    have z1 := same_upd nL (o := .lst [.ref t0])
    have z2 := z0.trans z1
    refine ⟨fun m σ Hi => ∃ (items : List V) (es : List En) (c5 c6 c7 c8 c9 : Option V), σ = [some (.ref a), some (.ref b), some (.int (N : Int)), some v, some (.ref L), c5, c6, c7, c8, c9, none, none] ∧ L2.Same H Hi ∧ Hi L = some (.lst items) ∧ Stk K H Hi items es ∧ (∀ i e, es[i]? = some e → i + 12 * e.2.2 ≤ 12 * N) ∧ P56.ibk hs N ms d = alE hs es ∧ m = wts es,
      ⟨_, [.ref t0], [(d, ms, N)], _, _, _, _, _, rfl, z2, upd_same, .cons (z1 _ _ upd_same) (z2 _ _ eb) l20 hz hw .nil, fun i e h => ?_, (by unfold alE; simp), rfl⟩, ?_⟩
    · cases i with
      | zero => cases h; show 0 + 12 * N ≤ 12 * N; omega
      | succ i => simp at h
    rintro m σ Hi ⟨items, es, c5, c6, c7, c8, c9, rfl, sm, eL, sk, pos, al, rfl⟩
    refine ⟨_, rfl, (by show 0 ≤ sizeLine; decide), fun l0 nl0 => ?_⟩
    have sl := same_upd nl0 (o := .lst [])
    have e0 : upd Hi l0 (.lst []) l0 = some (.lst []) := upd_same
    have sm := sm.trans sl
    have eL := sl _ _ eL
    have sk := sk.keep (fun c ys e => sl _ _ e)
    generalize upd Hi l0 (.lst []) = Hj at *
    refine ⟨L, l0, items, rfl, rfl, eL, e0, _, rfl, ?_⟩
    by_cases ne : items = []
    · subst ne
      cases sk
      exact iteF (q' true Hj (by rw [al]; rfl) sm)
    have nb : (!items.isEmpty) = true := by
      cases items with
      | nil => exact absurd rfl ne
      | cons _ _ => rfl
    rw [nb]
    refine iteT ?_
    obtain ⟨qq, mm, bv, bd, mz, n, kd, ys, fs, rfl, rfl, sk', eq, em, lm, bz, wz⟩ := sk.last ne
    have ly := sk'.len
    have pl : fs.length + 12 * n ≤ 12 * N := pos fs.length (bd, mz, n) (by rw [List.getElem?_append_right (Nat.le_refl _)]; simp)
    have wl : wts (fs ++ [(bd, mz, n)]) = wts fs + 13 ^ n := by rw [wts_app]; simp [wts]
    refine ⟨fun σ' H' => ∃ m', m' < wts (fs ++ [(bd, mz, n)]) ∧ ∃ (items : List V) (es : List En) (c5 c6 c7 c8 c9 : Option V), σ' = [some (.ref a), some (.ref b), some (.int (N : Int)), some v, some (.ref L), c5, c6, c7, c8, c9, none, none] ∧ L2.Same H H' ∧ H' L = some (.lst items) ∧ Stk K H H' items es ∧ (∀ i e, es[i]? = some e → i + 12 * e.2.2 ≤ 12 * N) ∧ P56.ibk hs N ms d = alE hs es ∧ m' = wts es, fun σ' H' z => z, ?_⟩
    refine ⟨_, rfl, .inl ⟨rfl, _, SqL.of eL⟩, L, _, _, rfl, rfl, eL, (by rw [List.length_append, List.length_singleton, Nat.add_sub_cancel, List.getElem?_append_right (Nat.le_refl _), Nat.sub_self]; rfl), ?_⟩
    rw [List.dropLast_concat]
    have nLH : H L = none := none_of z0 nL
    have kt : ∀ c zs, Hj c = some (.tup zs) → upd Hj L (.lst ys) c = some (.tup zs) := fun c zs e => by rw [upd_ne (ne_of e eL (by intro z; cases z))]; exact e
    have sm1 : L2.Same H (upd Hj L (.lst ys)) := fun c o e => by rw [upd_ne (ne_of_none e nLH)]; exact sm _ _ e
    have eL1 : upd Hj L (.lst ys) L = some (.lst ys) := upd_same
    have sk1 := sk'.keep kt
    have eq1 := kt _ _ eq
    have em1 := kt _ _ em
    generalize upd Hj L (.lst ys) = H1 at *
    refine ⟨qq, _, rfl, SqT.of eq1, rfl, _, _, rfl, _, _, rfl, _, _, rfl, rfl, ?_⟩
    have pos' : ∀ i e, fs[i]? = some e → i + 12 * e.2.2 ≤ 12 * N := fun i e h => pos i e (by
      have := (List.getElem?_eq_some_iff.mp h).1
      rw [List.getElem?_append_left this]; exact h)
    have alz : alE hs (fs ++ [(bd, mz, n)]) = (alE hs fs && P56.ibk hs n mz bd) := by unfold alE; rw [List.all_append]; simp
    rw [alz] at al
    have no : ∀ H', P56.ibk hs n mz bd = false → L2.Same H H' → Q (.bl false) H' := fun H' z s => q' false H' (by rw [al, z, Bool.and_false]) s
    have dn : ∀ Hx c5 c6 c7 c8 c9, P56.ibk hs n mz bd = true → L2.Same H1 Hx → ∃ m', m' < wts (fs ++ [(bd, mz, n)]) ∧ ∃ (items : List V) (es : List En) (d5 d6 d7 d8 d9 : Option V), [some (.ref a), some (.ref b), some (.int (N : Int)), some v, some (.ref L), c5, c6, c7, c8, c9, none, none] = [some (.ref a), some (.ref b), some (.int (N : Int)), some v, some (.ref L), d5, d6, d7, d8, d9, none, none] ∧ L2.Same H Hx ∧ Hx L = some (.lst items) ∧ Stk K H Hx items es ∧ (∀ i e, es[i]? = some e → i + 12 * e.2.2 ≤ 12 * N) ∧ P56.ibk hs N ms d = alE hs es ∧ m' = wts es := fun Hx c5 c6 c7 c8 c9 z s =>
      ⟨wts fs, by rw [wl]; have := Nat.pow_pos (n := n) (show 0 < 13 by decide); omega, ys, fs, _, _, _, _, _, rfl, sm1.trans s, s _ _ eL1, sk1.keep fun c zs e => s _ _ e, pos', by rw [al, z, Bool.and_true], rfl⟩
    refine ⟨_, rfl, _, _, _, _, isTup bd, rfl, .ty _, (bz.same sm1).ty, z_tup bd, _, rfl, ?_⟩
    cases bz with
    | @tup t zs ds et ra =>
      refine iteF ?_
      refine ⟨_, rfl, t, _, rfl, .inr (SqT.of (sm1 _ _ et)), (by show 2 ≤ sizeLine; decide), fun t2 nt2 => ⟨t2, _, rfl, .inr (SqT.of upd_same), rfl, rfl, _, rfl, ?_⟩⟩
      have s2 := same_upd nt2 (o := .tup [.int 2, .int 3])
      generalize upd H1 t2 (.tup [.int 2, .int 3]) = H2 at *
      have em1 := s2 _ _ em1
      have sa := sm1.trans s2
      have et := sa _ _ et
      cases ra with
      | nil => exact iteT (no H2 (ibkN (fun _ _ z => by cases z) fun _ _ _ z => by cases z) sa)
      | @cons v0 vs0 d0 ds0 h0 ra =>
      cases ra with
      | nil => exact iteT (no H2 (ibkN (fun _ _ z => by cases z) fun _ _ _ z => by cases z) sa)
      | @cons v1 vs1 d1 ds1 h1 ra =>
      cases ra with
      | nil =>
        obtain ⟨j1, w1⟩ := wz.of.2 d1 (by simp)
        refine iteF ⟨_, rfl, t, _, _, _, rfl, rfl, SqT.of et, atI_nat (j := 0) rfl, _, _, _, _, isStr d0, rfl, .ty _, (h0.same sa).ty, z_str d0, _, rfl, ?_⟩
        cases h0 with
        | str x =>
          refine iteF ?_
          refine ⟨_, rfl, t, _, rfl, .inr (SqT.of et), rfl, _, rfl, ite2 (fun _ => ?_) (fun e => absurd (by simp) e)⟩
          refine ⟨_, rfl, _, rfl, _, rfl, _, rfl, a, mm, t, xs, hs, mz, n, j1, x, v1, d1, rfl, sa _ _ ea, hl.map (fun _ _ e => sa _ _ e), l12, em1, lm, et, h1.same sa, w1, fun H3 s3 => ?_⟩
          rw [ibk2] at no dn
          refine ⟨_, rfl, ?_⟩
          cases r : P56.endB hs mz n x d1 with
          | false => exact iteT (no H3 r (sa.trans s3))
          | true => exact iteF (dn H3 _ _ _ _ _ r (s2.trans s3))
        | _ => exact iteT (no H2 (ibkN (fun _ _ z => by cases z) fun _ _ _ z => by cases z) sa)
      | @cons v2 vs2 d2 ds2 h2 ra =>
      cases ra with
      | @cons v3 vs3 d3 ds3 h3 ra =>
        rw [show (!inV (V.int ((v0 :: v1 :: v2 :: v3 :: vs3).length : Nat)) [V.int 2, V.int 3]) = true by
          rw [Bool.not_eq_true', show [V.int 2, V.int 3] = ([2, 3] : List Int).map V.int from rfl, inV_ints, decide_eq_false_iff_not]; simp; omega]
        exact iteT (no H2 (ibkN (fun _ _ z => by cases z) fun _ _ _ z => by cases z) sa)
      | nil =>
        refine iteF ⟨_, rfl, t, _, _, _, rfl, rfl, SqT.of et, atI_nat (j := 0) rfl, _, _, _, _, isStr d0, rfl, .ty _, (h0.same sa).ty, z_str d0, _, rfl, ?_⟩
        cases h0 with
        | str x =>
          refine iteF ?_
          rw [ibk3] at no
          have al3 : P56.ibk hs N ms d = (alE hs fs && (decide (x = "take") && tkN hs n mz d1 d2)) := by rw [al, ibk3]
          refine ⟨_, rfl, t, _, rfl, .inr (SqT.of et), rfl, _, rfl, ite2 (fun e => absurd e (by simp)) (fun _ => ?_)⟩
          refine ⟨_, rfl, t, _, _, _, rfl, rfl, SqT.of et, atI_nat (j := 0) rfl, rfl, _, rfl, ?_⟩
          by_cases xt : x = "take"
          case neg =>
            rw [show (!decide (V.str x = V.str "take")) = true by rw [Bool.not_eq_true', decide_eq_false_iff_not]; intro z; injection z with z; exact xt z]
            exact iteT (no H2 (by rw [decide_eq_false xt]; rfl) sa)
          subst xt
          rw [show (!decide (V.str "take" = V.str "take")) = false by simp]
          refine iteF ⟨_, rfl, _, _, rfl, rfl, _, rfl, ?_⟩
          cases n with
          | zero => exact iteT (no H2 rfl sa)
          | succ n =>
          rw [show decide (((n + 1 : Nat) : Int) < 1) = false by rw [decide_eq_false_iff_not]; omega]
          refine iteF ⟨_, rfl, _, rfl, t, _, _, v1, rfl, rfl, SqT.of et, atI_nat (j := 1) rfl, mm, v1, d1, mz, rfl, em1, h1.same sa, _, rfl, ?_⟩
          cases cm : P56.mis mz d1 with
          | false => exact iteT (no H2 (by show (true && P56.tkB _ _ _ _ _) = _; unfold P56.tkB; rw [cm]; rfl) sa)
          | true =>
          obtain ⟨g, rfl, hg⟩ := P56.mis_int cm
          cases h1
          have al4 : P56.ibk hs N ms d = (alE hs fs && tkR hs n mz g d2) := by rw [al3]; show (alE hs fs && (true && P56.tkB _ _ _ _ _)) = _; unfold P56.tkB; rw [cm, Bool.true_and, Bool.true_and]; rfl
          refine iteF ⟨_, rfl, t, _, _, v2, rfl, rfl, SqT.of et, atI_nat (j := 2) rfl, _, _, _, _, isTup d2, rfl, .ty _, (h2.same sa).ty, z_tup d2, _, rfl, ?_⟩
          cases h2 with
          | @tup c us es ec ra =>
            obtain ⟨w2, hw2⟩ := wz.of.2 (.tuple es) (by simp)
            have lue := dz_len ra
            refine iteF ?_
            have ec := sa _ _ ec
            refine ⟨_, rfl, a, rfl, ⟨_, SqT.of (sa _ _ ea)⟩, fun D nD => ?_⟩
            refine lc_tup (K := K) (a := a) (xs := xs) (fun i Hi => L2.Same H2 Hi ∧ Hi D = some (.lst (((List.range i).filter fun k => P56.on hs k g).map fun k => xs.getD k .non))) ⟨same_upd nD, upd_same⟩ (fun i Hi _ z => SqT.of (z.1 _ _ (sa _ _ ea))) ?_ ?_
            · rintro k x Hi hx ⟨si, eD⟩
              have kl : k < hs.length := by have := (List.getElem?_eq_some_iff.mp hx).1; omega
              obtain ⟨tk, etk, eTk⟩ := hl.get kl
              obtain rfl : V.ref tk = x := Option.some.inj (etk.symm.trans hx)
              have eo : P56.on hs k g = inV (.int g) ((hs[k]).map V.int) := by
                rw [inV_ints]
                unfold P56.on
                simp [List.getD_eq_getElem?_getD, kl]
              refine ⟨rfl, ?_⟩
              refine ⟨_, rfl, t, _, _, .int g, rfl, rfl, SqT.of (si _ _ et), atI_nat (j := 1) rfl, _, rfl, tk, _, rfl, .inr (SqT.of (si _ _ (sa _ _ eTk))), rfl, flat_ints _, ?_⟩
              refine ⟨_, rfl, ite2 (fun e => ?_) (fun e => ?_)⟩
              · have e' : P56.on hs k g = true := by rw [eo]; simpa using e
                refine ⟨_, rfl, _, eD, ?_, fun c o q => ?_, ?_⟩
                · rw [List.length_map]
                  refine Nat.lt_of_le_of_lt (Nat.le_trans (List.length_filter_le _ _) (show (List.range k).length ≤ 1000 from ?_)) (by decide)
                  rw [List.length_range]; omega
                · rw [upd_ne (ne_of_none q nD)]
                  exact si _ _ q
                · rw [upd_same, List.range_succ, List.filter_append, List.filter_cons, if_pos e', List.map_append]
                  simp [List.getD_eq_getElem?_getD, etk]
              · have e' : ¬ P56.on hs k g = true := by rw [eo]; simpa using e
                refine ⟨si, ?_⟩
                rw [List.range_succ, List.filter_append, List.filter_cons, if_neg e']
                simpa using eD
            rintro H3 ⟨s3, eD⟩
            rw [lh] at eD
            replace eD : H3 D = some (.lst ((P56.hold hs g).map fun k => xs.getD k .non)) := eD
            have sa := sa.trans s3
            have et := s3 _ _ et
            have ec := s3 _ _ ec
            have em1 := s3 _ _ em1
            have eL3 := s3 _ _ (s2 _ _ eL1)
            have hlen := P56.hold_len (held := hs) g
            refine ⟨_, rfl, D, _, rfl, .inl (SqL.of eD), _, rfl, t, _, _, .ref c, rfl, rfl, SqT.of et, atI_nat (j := 2) rfl, c, _, rfl, .inr (SqT.of ec), rfl, _, rfl, ?_⟩
            rw [List.length_map]
            by_cases lu : us.length = (P56.hold hs g).length
            case neg =>
              rw [show (!decide (V.int ((P56.hold hs g).length : Nat) = V.int (us.length : Nat))) = true by rw [Bool.not_eq_true', decide_eq_false_iff_not]; intro z; injection z with z; omega]
              refine iteT (q' false H3 ?_ sa)
              rw [al4]
              unfold tkR
              dsimp only
              rw [decide_eq_false (by omega), Bool.false_and, Bool.and_false]
            rw [show (!decide (V.int ((P56.hold hs g).length : Nat) = V.int (us.length : Nat))) = false by rw [lu]; simp]
            have al5 : P56.ibk hs N ms d = (alE hs fs && ((P56.hold hs g).zip es).all fun p => P56.ibk hs n (P56.rest (hs.getD p.1 []) mz) p.2) := by
              rw [al4]
              unfold tkR
              dsimp only
              rw [decide_eq_true (by omega), Bool.true_and]
            refine iteF ?_
            refine ⟨_, rfl, D, _, rfl, .inl (SqL.of eD), _, rfl, ?_, ?_, ?_⟩
            · rw [List.length_map]; omega
            · rw [List.length_map]; omega
            have tn : (((P56.hold hs g).map fun k => xs.getD k V.non).length : Int).toNat = (P56.hold hs g).length := by rw [List.length_map, Int.toNat_natCast]
            refine for_range (lo := 0) (n := (((P56.hold hs g).map fun k => xs.getD k V.non).length : Int).toNat) (fun j σ Hk => ∃ (c9 : Option V) (add : List V), σ = [some (.ref a), some (.ref b), some (.int (N : Int)), some v, some (.ref L), some (.ref t), some (.ref mm), some (.int ((n + 1 : Nat) : Int)), some (.ref D), c9, none, none] ∧ (∀ c zs, H3 c = some (.tup zs) → Hk c = some (.tup zs)) ∧ L2.Same H Hk ∧ Hk D = some (.lst ((P56.hold hs g).map fun k => xs.getD k .non)) ∧ Hk L = some (.lst (ys ++ add)) ∧ add.length = j ∧ Stk K H Hk (ys ++ add) (fs ++ (((P56.hold hs g).zip es).take j).map fun p => (p.2, P56.rest (hs.getD p.1 []) mz, n))) ?_ ?_ ?_
            · exact ⟨_, [], rfl, fun c zs e => e, sa, eD, by rw [List.append_nil]; exact eL3, rfl, by simpa using sk1.keep fun c zs e => s3 _ _ (s2 _ _ e)⟩
            · rintro j σ Hk hj ⟨c9, add, rfl, kk, sk0, eDk, eLk, la, stk⟩
              rw [tn] at hj
              have hj' : j < us.length := by omega
              obtain ⟨k, ek⟩ : ∃ k, (P56.hold hs g)[j]? = some k := ⟨_, List.getElem?_eq_getElem hj⟩
              obtain ⟨u, eu⟩ : ∃ u, us[j]? = some u := ⟨_, List.getElem?_eq_getElem hj'⟩
              obtain ⟨kl, _⟩ := P56.mem_hold.mp (List.mem_of_getElem? ek)
              obtain ⟨tk, etk, eTk⟩ := hl.get kl
              have esx : ((P56.hold hs g).map fun k => xs.getD k V.non)[j]? = some (.ref tk) := by rw [List.getElem?_map, ek]; simp [List.getD_eq_getElem?_getD, etk]
              have e0 : hs.getD k [] = hs[k] := by rw [List.getD_eq_getElem?_getD, List.getElem?_eq_getElem kl]; rfl
              have eTk' := kk _ _ (sa _ _ eTk)
              have emk := kk _ _ em1
              rw [Int.zero_add]
              refine ⟨_, rfl, .inl ⟨rfl, _, SqL.of eLk⟩, _, rfl, t, _, _, .ref c, rfl, rfl, SqT.of (kk _ _ et), atI_nat (j := 2) rfl, _, rfl, c, _, _, u, rfl, rfl, SqT.of (kk _ _ ec), atI_nat (j := j) eu, _, rfl, mm, rfl, ⟨_, SqT.of emk⟩, fun Dw nDw => ?_⟩
              refine lc_tup (K := K) (a := mm) (xs := mz.map V.int) (fun i Hi => L2.Same Hk Hi ∧ Hi Dw = some (.lst ((P56.rest hs[k] (mz.take i)).map V.int))) ⟨same_upd nDw, upd_same⟩ (fun i Hi _ z => SqT.of (z.1 _ _ emk)) ?_ ?_
              · rintro i x Hi hx ⟨si, eDw⟩
                rw [List.getElem?_map] at hx
                obtain ⟨g', eg, rfl⟩ := Option.map_eq_some_iff.mp hx
                have il : i < mz.length := (List.getElem?_eq_some_iff.mp eg).1
                have tke : P56.rest hs[k] (mz.take (i + 1)) = P56.rest hs[k] (mz.take i) ++ (if inV (.int g') ((hs[k]).map V.int) = true then [] else [g']) := by
                  unfold P56.rest
                  rw [List.take_add_one, eg, List.filter_append, inV_ints]
                  by_cases c : g' ∈ hs[k] <;> simp [c]
                refine ⟨rfl, ?_⟩
                refine ⟨_, rfl, _, rfl, _, rfl, D, _, _, .ref tk, rfl, rfl, SqL.of (si _ _ eDk), atI_nat (j := j) esx, tk, _, rfl, .inr (SqT.of (si _ _ eTk')), rfl, flat_ints _, ?_⟩
                refine ⟨_, rfl, ite2 (fun e => ?_) (fun e => ?_)⟩
                · have e' : inV (.int g') ((hs[k]).map V.int) = false := by simpa using e
                  refine ⟨_, rfl, _, eDw, ?_, fun c o q => ?_, ?_⟩
                  · rw [List.length_map]
                    refine Nat.lt_of_le_of_lt (Nat.le_trans (List.length_filter_le _ _) (show (mz.take i).length ≤ 1000 from ?_)) (by decide)
                    rw [List.length_take]; omega
                  · rw [upd_ne (ne_of_none q nDw)]
                    exact si _ _ q
                  · rw [upd_same, tke, e', if_neg Bool.false_ne_true, List.map_append]
                    rfl
                · have e' : inV (.int g') ((hs[k]).map V.int) = true := by simpa using e
                  refine ⟨si, ?_⟩
                  rw [tke, e', if_pos rfl, List.append_nil]
                  exact eDw
              rintro Hw ⟨sw, eDw⟩
              rw [List.length_map, List.take_length] at eDw
              refine ⟨Dw, _, rfl, .inl ⟨SqL.of eDw, fun p np => ⟨_, rfl, _, 1, rfl, rfl, (by show 3 ≤ sizeLine; decide), fun tt ntt => ?_⟩⟩⟩
              have sp := same_upd np (o := .tup ((P56.rest hs[k] mz).map V.int))
              have st := same_upd ntt (o := .tup [u, .ref p, .int (((n + 1 : Nat) : Int) - 1)])
              have sx := (sw.trans sp).trans st
              have eL4 := sx _ _ eLk
              have nn : ((n + 1 : Nat) : Int) - 1 = (n : Int) := by omega
              have kx : ∀ c zs, Hk c = some (.tup zs) → upd (upd (upd Hw p (.tup ((P56.rest hs[k] mz).map V.int))) tt (.tup [u, .ref p, .int (((n + 1 : Nat) : Int) - 1)])) L (.lst ((ys ++ add) ++ [.ref tt])) c = some (.tup zs) := fun c zs e => by
                rw [upd_ne (ne_of e eLk (by intro z; cases z))]
                exact sx _ _ e
              have up : ∀ c zs, upd (upd Hw p (.tup ((P56.rest hs[k] mz).map V.int))) tt (.tup [u, .ref p, .int (((n + 1 : Nat) : Int) - 1)]) c = some (.tup zs) → upd (upd (upd Hw p (.tup ((P56.rest hs[k] mz).map V.int))) tt (.tup [u, .ref p, .int (((n + 1 : Nat) : Int) - 1)])) L (.lst ((ys ++ add) ++ [.ref tt])) c = some (.tup zs) := fun c zs e => by
                rw [upd_ne (ne_of e eL4 (by intro z; cases z))]
                exact e
              refine ⟨L, _, _, rfl, rfl, eL4, ?_, _, add ++ [.ref tt], rfl, fun c zs e => kx _ _ (kk _ _ e), fun c o e => ?_, ?_, by rw [upd_same, List.append_assoc], by rw [List.length_append, la]; rfl, ?_⟩
              · refine Nat.lt_of_le_of_lt (show (ys ++ add).length ≤ 1000 from ?_) (by decide)
                rw [List.length_append]
                omega
              · rw [upd_ne (ne_of_none e nLH)]
                exact sx _ _ (sk0 _ _ e)
              · rw [upd_ne (ne_of_none (s2 _ _ eL1) nD).symm]
                exact sx _ _ eDk
              · obtain ⟨du, edu, dzu⟩ := dz_get ra eu
                obtain ⟨wu, hwu⟩ := hw2.of.2 du (List.mem_of_getElem? edu)
                have ezip : ((P56.hold hs g).zip es)[j]? = some (k, du) := by rw [List.getElem?_zip_eq_some]; exact ⟨ek, edu⟩
                have e1 : (((P56.hold hs g).zip es).take (j + 1)).map (fun p => ((p.2, P56.rest (hs.getD p.1 []) mz, n) : En)) = (((P56.hold hs g).zip es).take j).map (fun p => ((p.2, P56.rest (hs.getD p.1 []) mz, n) : En)) ++ [(du, P56.rest hs[k] mz, n)] := by
                  rw [List.take_add_one, ezip, List.map_append, ← e0]
                  rfl
                rw [e1, ← List.append_assoc, ← List.append_assoc]
                exact (stk.keep kx).app (.cons (q := tt) (m := p) (v := u) (up _ _ (by rw [upd_same, nn])) (up _ _ (st _ _ upd_same)) (Nat.le_trans (List.length_filter_le _ _) lm) dzu hwu .nil)
            · rintro σ He ⟨c9, add, rfl, kk, sk0, eDk, eLk, la, stk⟩
              rw [tn] at la stk
              have lzz : ((P56.hold hs g).zip es).length = (P56.hold hs g).length := by rw [List.length_zip]; omega
              rw [List.take_of_length_le (by omega)] at stk
              refine ⟨wts (fs ++ ((P56.hold hs g).zip es).map fun p => (p.2, P56.rest (hs.getD p.1 []) mz, n)), ?_, ys ++ add, _, _, _, _, _, _, rfl, sk0, eLk, stk, fun i e h => ?_, ?_, rfl⟩
              · rw [wl, wts_app, wts_le (n := n) (((P56.hold hs g).zip es).map fun p => (p.2, P56.rest (hs.getD p.1 []) mz, n)) (fun e he => by obtain ⟨k, _, rfl⟩ := List.mem_map.mp he; rfl), List.length_map, lzz, Nat.pow_succ]
                have p13 : 0 < 13 ^ n := Nat.pow_pos (by decide)
                have : (P56.hold hs g).length * 13 ^ n ≤ 12 * 13 ^ n := Nat.mul_le_mul_right _ (by omega)
                omega
              · rcases Nat.lt_or_ge i fs.length with hi | hi
                · rw [List.getElem?_append_left hi] at h
                  exact pos' i e h
                · rw [List.getElem?_append_right hi, List.getElem?_map] at h
                  obtain ⟨p, ep, rfl⟩ := Option.map_eq_some_iff.mp h
                  have := (List.getElem?_eq_some_iff.mp ep).1
                  show i + 12 * n ≤ 12 * N
                  omega
              · rw [al5]
                unfold alE
                rw [List.all_append, List.all_map]
                rfl
          | _ => exact iteT (q' false H2 (by rw [al4]; show (_ && false) = false; rw [Bool.and_false]) sa)
        | _ => exact iteT (no H2 (ibkN (fun _ _ z => by cases z) fun _ _ _ z => by cases z) sa)
    | _ => exact iteT (no H1 (ibkN (fun _ _ z => by cases z) fun _ _ _ z => by cases z) sm1)
end
end K60
set_option Elab.async false
set_option linter.all false
set_option maxRecDepth 100000
set_option maxHeartbeats 4000000
set_option pp.maxSteps 400
set_option pp.deepTerms false
namespace K60
open PySem PySem.Spec PyProof.Rows L2
open Xk Az
section
variable {P : Program} {w : World} {K : PySem.W.Frag} {mg : Str → Option Value} {base : Heap}
mutual
/-- things of numbers, texts and tuples -/
inductive Tz (H : Hp) : V → PyData → Prop
  | int (i : Int) : Tz H (.int i) (.int i)
  | str (x : Str) : Tz H (.str x) (.str x)
  | tup {a : Addr} {xs : List V} {ds : List PyData} : H a = some (.tup xs) → TzAll H xs ds → Tz H (.ref a) (.tuple ds)
inductive TzAll (H : Hp) : List V → List PyData → Prop
  | nil : TzAll H [] []
  | cons {v : V} {vs : List V} {d : PyData} {ds : List PyData} : Tz H v d → TzAll H vs ds → TzAll H (v :: vs) (d :: ds)
end
mutual
theorem Tz.keep {H H' : Hp} (k : ∀ b ys, H b = some (.tup ys) → H' b = some (.tup ys)) : ∀ {v : V} {d : PyData}, Tz H v d → Tz H' v d
  | _, _, .int i => .int i
  | _, _, .str x => .str x
  | _, _, .tup e r => .tup (k _ _ e) (TzAll.keep k r)
theorem TzAll.keep {H H' : Hp} (k : ∀ b ys, H b = some (.tup ys) → H' b = some (.tup ys)) : ∀ {v : List V} {d : List PyData}, TzAll H v d → TzAll H' v d
  | _, _, .nil => .nil
  | _, _, .cons h r => .cons (Tz.keep k h) (TzAll.keep k r)
end
mutual
theorem Tz.dz {H : Hp} : ∀ {v : V} {d : PyData}, Tz H v d → Dz K H v d
  | _, _, .int i => .int i
  | _, _, .str x => .str x
  | _, _, .tup e r => .tup e (TzAll.dz r)
theorem TzAll.dz {H : Hp} : ∀ {v : List V} {d : List PyData}, TzAll H v d → DzAll K H v d
  | _, _, .nil => .nil
  | _, _, .cons h r => .cons (Tz.dz h) (TzAll.dz r)
end
theorem TzAll.snoc {H : Hp} : ∀ {vs : List V} {ds : List PyData} {v : V} {d : PyData}, TzAll H vs ds → Tz H v d → TzAll H (vs ++ [v]) (ds ++ [d])
  | [], _, _, _, .nil, q => .cons q .nil
  | _ :: _, _, _, _, .cons h r, q => .cons h (TzAll.snoc r q)
theorem TzAll.len {H : Hp} : ∀ {vs : List V} {ds : List PyData}, TzAll H vs ds → vs.length = ds.length
  | [], _, .nil => rfl
  | _ :: _, _, .cons _ r => by rw [List.length_cons, List.length_cons, TzAll.len r]
theorem tz_ints {H : Hp} : ∀ ns : List Int, TzAll H (ns.map V.int) (ns.map PyData.int)
  | [] => .nil
  | i :: r => .cons (.int i) (tz_ints r)
theorem ob_ref {hs : List (List Int)} {n : Nat} {ms : List Int} {d : PyData} {H : Hp} {v : V} (h : P56.OB hs n ms d) (z : Tz H v d) : ∃ t, v = .ref t := by
  cases z with
  | tup _ _ => exact ⟨_, rfl⟩
  | int i =>
    cases n with
    | zero => obtain ⟨g, _, e⟩ := h; cases e
    | succ n =>
      rcases h with ⟨_, _, _, _, e⟩ | ⟨_, _, _, e, _⟩ <;> cases e
  | str i =>
    cases n with
    | zero => obtain ⟨g, _, e⟩ := h; cases e
    | succ n =>
      rcases h with ⟨_, _, _, _, e⟩ | ⟨_, _, _, e, _⟩ <;> cases e
def cst (b : Nat) : Nat → Nat
  | 0 => 1
  | n + 1 => 2 + b * cst b n
theorem shaped_tup {ds : List PyData} (q1 : PyData.canLayAll0 ds = true) (q2 : PyData.depthAll ds ≤ 3) : SeqAt.shaped (.tuple ds) = true := by
  unfold SeqAt.shaped
  have h1 : (PyData.tuple ds).canLay0 = true := by simp only [PyData.canLay0]; exact q1
  have h2 : (PyData.tuple ds).depth ≤ 64 := by simp only [PyData.depth]; omega
  rw [h1, decide_eq_true h2]
  rfl
def spPickT : Sp := fun vs H Q _ => ∃ (h t : Addr) (n : Int) (xs : List V), vs = [.ref h, .ref t] ∧ Hand n H h ∧ n ≤ far ∧ H t = some (.tup xs) ∧ t ≠ h ∧ xs ≠ [] ∧ xs.length < 1000 ∧ ∀ v H', v ∈ xs → Hand (n + 1) H' h → But h H H' → Q v H'
def spOwn (n : Nat) : Sp := fun vs H Q _ => ∃ (h a b : Addr) (m : Int) (xs : List V) (hs : List (List Int)) (ms : List Int) (bb : Nat), vs = [.ref h, .ref a, .ref b, .int (n : Int)] ∧ H a = some (.tup xs) ∧ Hl H xs hs ∧ hs.length ≤ bb ∧ bb ≤ 12 ∧ H b = some (.tup (ms.map V.int)) ∧ ms.length ≤ 20 ∧ Hand m H h ∧ m + cst bb n ≤ far ∧
  (∀ H', ¬ P56.NoN hs ms n → Hand (m + cst bb n) H' h → But h H H' → Q .non H') ∧ ∀ v d H', P56.OB hs n ms d → Tz H' v d → Hand (m + cst bb n) H' h → But h H H' → Q v H'
def spOwnb : Nat → Sp
  | 0 => fun _ _ _ _ => False
  | n + 1 => spOwn n
/-- the discs with a wish on them -/
theorem inner_read {a : Addr} {xs : List V} {hs : List (List Int)} {g : Int} {c0 c2 c3 c4 c6 c7 c8 c9 c10 c11 c12 : Option V} {Hi : Hp} {Q : VK} (ea : Hi a = some (.tup xs)) (hl : Hl Hi xs hs) (l12 : hs.length ≤ 12)
    (q : ∀ D H', L2.Same Hi H' → H' D = some (.lst ((P56.hold hs g).map fun k => xs.getD k .non)) → Q (.ref D) H') :
    tLc (iTup K (tVar 1)) (gName 6) (tTest (tOp (rIn K false) (tVar 5) (tVar 6))) (tVar 6) [6] [c0, some (.ref a), c2, c3, c4, some (.int g), c6, c7, c8, c9, c10, c11, c12] Hi Q := by
  have lh := hl.len
  refine ⟨_, rfl, a, rfl, ⟨_, SqT.of ea⟩, fun D nD => ?_⟩
  refine lc_tup (K := K) (a := a) (xs := xs) (fun i Hj => L2.Same Hi Hj ∧ Hj D = some (.lst (((List.range i).filter fun k => P56.on hs k g).map fun k => xs.getD k .non))) ⟨same_upd nD, upd_same⟩ (fun i Hj _ z => SqT.of (z.1 _ _ ea)) ?_ ?_
  · rintro k x Hj hx ⟨si, eD⟩
    have kl : k < hs.length := by have := (List.getElem?_eq_some_iff.mp hx).1; omega
    obtain ⟨tk, etk, eTk⟩ := hl.get kl
    obtain rfl : V.ref tk = x := Option.some.inj (etk.symm.trans hx)
    have eo : P56.on hs k g = inV (.int g) ((hs[k]).map V.int) := by
      rw [inV_ints]
      unfold P56.on
      simp [List.getD_eq_getElem?_getD, kl]
    refine ⟨rfl, ?_⟩
    refine ⟨_, rfl, _, rfl, tk, _, rfl, .inr (SqT.of (si _ _ eTk)), rfl, flat_ints _, ?_⟩
    refine ⟨_, rfl, ite2 (fun e => ?_) (fun e => ?_)⟩
    · have e' : P56.on hs k g = true := by rw [eo]; simpa using e
      refine ⟨_, rfl, _, eD, ?_, fun c o q => ?_, ?_⟩
      · rw [List.length_map]
        refine Nat.lt_of_le_of_lt (Nat.le_trans (List.length_filter_le _ _) (show (List.range k).length ≤ 1000 from ?_)) (by decide)
        rw [List.length_range]; omega
      · rw [upd_ne (ne_of_none q nD)]
        exact si _ _ q
      · rw [upd_same, List.range_succ, List.filter_append, List.filter_cons, if_pos e', List.map_append]
        simp [List.getD_eq_getElem?_getD, etk]
    · have e' : ¬ P56.on hs k g = true := by rw [eo]; simpa using e
      refine ⟨si, ?_⟩
      rw [List.range_succ, List.filter_append, List.filter_cons, if_neg e']
      simpa using eD
  · rintro He ⟨se, eD⟩
    rw [lh] at eD
    exact q D He se eD
theorem ok_pickT {f : Addr} {fd : FuncData} (D : Df K mg "_law_pick" ["_law_hand_here", "_law_some"] sPick f fd) (T : Txt mg) (cT : Ca P w K mg base 1 "_law_take" ["_law_hand_here", "_law_many"] spTake) : FnOk P w K mg base CX0 2 f fd ["_law_hand_here", "_law_some"] spPickT := by
  refine D.fn.ok scPick (fun vs H Q E h => ?_) (fun cdv A outer s H vs Q E hr h => ?_)
  · obtain ⟨h, t, n, xs, rfl, hh, hn, et, nth, ne, few, q⟩ := h
    rfl
  · obtain ⟨h, t, n, xs, rfl, hh, hn, et, nth, ne, few, q⟩ := h
    refine ⟨_, (pss_one (ps_ret (pe_ix ix_tup (pv 1) (pe_ca cT hr (by decide) (by rfl) (pa_cons (pv 0) (pa_cons (pe_callB call_len_seq (by rfl) T.len PySem.boot_len (pa_cons (pv 1) pa_nil)) pa_nil))) (fun _ _ => rfl)))), ?_⟩
    have pos : 0 < xs.length := List.length_pos_iff.mpr ne
    refine ⟨_, rfl, _, rfl, _, rfl, t, xs, rfl, .inr (SqT.of et), h, (xs.length : Int), n, rfl, by omega, lt30 few, hh, hn, fun d H' d0 d1 hh' bt => ?_⟩
    obtain ⟨j, rfl⟩ : ∃ j : Nat, d = (j : Int) := ⟨d.toNat, by omega⟩
    have hj : j < xs.length := by omega
    exact ⟨t, xs, _, xs[j], rfl, rfl, SqT.of (bt _ _ nth et), atI_nat (List.getElem?_eq_getElem hj), q _ H' (List.getElem_mem hj) hh' bt⟩
theorem ok_own {f : Addr} {fd : FuncData} {n : Nat} (D : Df K mg "_law_own_book" ["_law_hand_here", "_law_held", "_law_wishes", "_law_many"] sOwnBook f fd) (T : Txt mg) (cT : Ca P w K mg base 1 "_law_take" ["_law_hand_here", "_law_many"] spTake) (cP : Ca P w K mg base 2 "_law_pick" ["_law_hand_here", "_law_some"] spPick) (cPT : Ca P w K mg base 2 "_law_pick" ["_law_hand_here", "_law_some"] spPickT) (cApt : Ca P w K mg base 1 "_law_are_apart" ["_law_held", "_law_some"] spApt) (cOB : Ca P w K mg base (n + 3) "_law_own_book" ["_law_hand_here", "_law_held", "_law_wishes", "_law_many"] (spOwnb n)) : FnOk P w K mg base CX0 (n + 4) f fd ["_law_hand_here", "_law_held", "_law_wishes", "_law_many"] (spOwn n) := by
  refine D.fn.ok scOwnBook (fun vs H Q E h => ?_) (fun cdv A outer s H vs Q E hr h => ?_)
  · obtain ⟨h, a, b, m, xs, hs, ms, bb, rfl, ea, hl, lb, b12, eb, l20, hh, hm, q1, q2⟩ := h
    rfl
  · obtain ⟨h, a, b, m, xs, hs, ms, bb, rfl, ea, hl, lb, b12, eb, l20, hh, hm, q1, q2⟩ := h
    refine ⟨_, (pss_cons (ps_if (pt_cmpR (op_eqD hr.units) (pv 2) (pe_tup pa_nil) (nomark _)) (pss_one (ps_ret pe_non)) pss_nil)
      (pss_cons (ps_if (pt_cmpR op_eq (pv 3) pe_int (nomark _)) (pss_one (ps_ret (pe_tup (pa_cons pe_str (pa_cons (pe_ca cPT hr (by omega) (by rfl) (pa_cons (pv 0) (pa_cons (pv 2) pa_nil))) pa_nil))))) pss_nil)
      (pss_cons (ps_set (i := 4) scOwnBook.nd rfl (.inl rfl) (pe_tup pa_nil))
      (pss_cons (ps_for PassesOwn.never rfl (pi_tup (pv 2)) (pg_name (i := 5) scOwnBook.nd rfl (.inl rfl)) (pss_one (ps_if (pt_val (pe_ca cApt hr (by omega) (by rfl) (pa_cons (pv 1) (pa_cons (pe_op op_catU (pv 4) (pe_tup (pa_cons (pv 5) pa_nil))) pa_nil)))) (pss_one (ps_set (i := 4) scOwnBook.nd rfl (.inl rfl) (pe_op op_catU (pv 4) (pe_tup (pa_cons (pv 5) pa_nil))))) pss_nil)))
      (C8.pss_cut (ps_if (PW.pt (pw_and (pt_cmpR op_gt (pe_callB call_len_seq (by rfl) T.len PySem.boot_len (pa_cons (pv 4) pa_nil)) (pv 3) (nomark _)) (pw_and1 (pt_cmpR op_eq (pe_ca cT hr (by omega) (by rfl) (pa_cons (pv 0) (pa_cons pe_int pa_nil))) pe_int (nomark _))))) (pss_one (ps_ret (pe_tup (pa_cons pe_str (pa_cons (pv 4) pa_nil))))) pss_nil)
      (pss_cons (ps_set (i := 7) scOwnBook.nd rfl (.inr rfl) (pe_callB (cr_min (by rfl)) (by rfl) T.min (by decide +kernel) (pa_cons (pe_lc (own := [("_law_wish", 5)]) (g := gName 5) (tt := tYes) (te := tCB (rLn K) (tCons (tLc (iTup K (tVar 1)) (gName 6) (tTest (tOp (rIn K false) (tVar 5) (tVar 6))) (tVar 6) [6]) tNil)) (by rfl) scOwnBook.nd (pi_tup (pv 2)) (blkOk_by (own := [("_law_wish", 5)]) (N := ["_law_hand_here", "_law_held", "_law_wishes", "_law_many", "_law_apart_ones", "_law_wish", "_law_things", "_law_few", "_law_some", "_law_books", "_law_rest", "_law_book", "_law_one"]) (sc := defScope sOwnBook) (by decide +kernel)) (fun _ _ _ _ _ => pg_name (i := 5) scOwnBook.nd rfl (.inr rfl)) (fun _ _ _ _ _ => pts_nil) (fun _ _ _ _ _ => pe_callB call_len_seq (by rfl) T.len PySem.boot_len (pa_cons (pe_lc (own := [("_law_things", 6)]) (g := gName 6) (tt := tTest (tOp (rIn K false) (tVar 5) (tVar 6))) (by rfl) scOwnBook.nd (pi_tup (pv 1)) (blkOk_by (own := [("_law_things", 6)]) (N := ["_law_hand_here", "_law_held", "_law_wishes", "_law_many", "_law_apart_ones", "_law_wish", "_law_things", "_law_few", "_law_some", "_law_books", "_law_rest", "_law_book", "_law_one"]) (sc := relS ⟨.function, [(".0", .local), ("_law_wish", .cell), ("len", .globalImplicit), ("_law_held", .free)], false, false, []⟩ (defScope sOwnBook)) (by decide +kernel)) (fun _ _ _ _ _ => pg_name (i := 6) scOwnBook.nd rfl (.inl rfl)) (fun _ _ _ _ _ => (pts_one (pt_cmpR op_in_seq (pv 5) (pv 6) (by rfl)))) (fun _ _ _ _ _ => pv 6)) pa_nil))) pa_nil)))
      (pss_cons (ps_setLc (i := 8) (own := [("_law_wish", 5)]) (g := gName 5) (tt := tTest (tOp (rI0 fun i j => V.bl (decide (i ≤ j))) (tCB (rLn K) (tCons (tLc (iTup K (tVar 1)) (gName 6) (tTest (tOp (rIn K false) (tVar 5) (tVar 6))) (tVar 6) [6]) tNil)) (tOp (rI0 fun i j => V.int (i + j)) (tVar 7) (tC (V.int 1))))) (by rfl) scOwnBook.nd rfl rfl (sw_true rfl rfl rfl (by decide +kernel)) (pi_tup (pv 2)) (blkOk_by (own := [("_law_wish", 5)]) (N := ["_law_hand_here", "_law_held", "_law_wishes", "_law_many", "_law_apart_ones", "_law_wish", "_law_things", "_law_few", "_law_some", "_law_books", "_law_rest", "_law_book", "_law_one"]) (sc := defScope sOwnBook) (by decide +kernel)) (fun _ _ _ _ _ => pg_name (i := 5) scOwnBook.nd rfl (.inr rfl)) (fun _ _ _ _ _ => (pts_one (pt_cmpR op_le (pe_callB call_len_seq (by rfl) T.len PySem.boot_len (pa_cons (pe_lc (own := [("_law_things", 6)]) (g := gName 6) (tt := tTest (tOp (rIn K false) (tVar 5) (tVar 6))) (by rfl) scOwnBook.nd (pi_tup (pv 1)) (blkOk_by (own := [("_law_things", 6)]) (N := ["_law_hand_here", "_law_held", "_law_wishes", "_law_many", "_law_apart_ones", "_law_wish", "_law_things", "_law_few", "_law_some", "_law_books", "_law_rest", "_law_book", "_law_one"]) (sc := relS ⟨.function, [(".0", .local), ("_law_wish", .cell), ("len", .globalImplicit), ("_law_few", .free), ("_law_held", .free)], false, false, []⟩ (defScope sOwnBook)) (by decide +kernel)) (fun _ _ _ _ _ => pg_name (i := 6) scOwnBook.nd rfl (.inl rfl)) (fun _ _ _ _ _ => (pts_one (pt_cmpR op_in_seq (pv 5) (pv 6) (by rfl)))) (fun _ _ _ _ _ => pv 6)) pa_nil)) (pe_op op_add (pv 7) pe_int) (nomark _)))) (fun _ _ _ _ _ => pv 5))
      (pss_cons (ps_par (i := 5) (j := 9) (by rfl) scOwnBook.nd rfl rfl (by decide) rfl rfl (pa_cons (pe_ca cP hr (by omega) (by rfl) (pa_cons (pv 0) (pa_cons (pv 8) pa_nil))) (pa_cons (pe_lst pa_nil) pa_nil)) (by rfl))
      (pss_cons (ps_for PassesOwn.never rfl (pi_tup (pv 1)) (pg_name (i := 6) scOwnBook.nd rfl (.inr rfl)) (pss_one (ps_if (pt_cmpR op_in_seq (pv 5) (pv 6) (by rfl)) (pss_cons (ps_set (i := 10) scOwnBook.nd rfl (.inl rfl) (pe_callTy call_tuple_of (by rfl) T.tuple (by decide +kernel) (pa_cons (pe_lc (own := [("_law_one", 12)]) (g := gName 12) (tt := tTest (tOp (rIn K true) (tVar 12) (tVar 6))) (by rfl) scOwnBook.nd (pi_tup (pv 2)) (blkOk_by (own := [("_law_one", 12)]) (N := ["_law_hand_here", "_law_held", "_law_wishes", "_law_many", "_law_apart_ones", "_law_wish", "_law_things", "_law_few", "_law_some", "_law_books", "_law_rest", "_law_book", "_law_one"]) (sc := defScope sOwnBook) (by decide +kernel)) (fun _ _ _ _ _ => pg_name (i := 12) scOwnBook.nd rfl (.inl rfl)) (fun _ _ _ _ _ => (pts_one (pt_cmpR op_notIn_seq (pv 12) (pv 6) (by rfl)))) (fun _ _ _ _ _ => pv 12)) pa_nil)))
      (pss_cons (ps_set (i := 11) scOwnBook.nd rfl (.inl rfl) (pe_ca cOB hr (by omega) (by rfl) (pa_cons (pv 0) (pa_cons (pv 1) (pa_cons (pv 10) (pa_cons (pe_op op_sub (pv 3) pe_int) pa_nil))))))
      (pss_cons (ps_if (pt_cmpR op_isN (pv 11) pe_non (nomark _)) (pss_one (ps_ret pe_non)) pss_nil)
      (pss_one (ps_expr (pe_bm PySem.F.plainAttrs_list PySem.F.slot_list_append PySem.F.type_list_append mt_append (pv 9) (pa_cons (pv 11) pa_nil))))))) pss_nil)))
      (pss_one (ps_ret (pe_tup (pa_cons pe_str (pa_cons (pv 5) (pa_cons (pe_callTy call_tuple_of (by rfl) T.tuple (by decide +kernel) (pa_cons (pv 9) pa_nil)) pa_nil))))))))))))))), ?_⟩
    have lh := hl.len
    have l12 : hs.length ≤ 12 := by omega
    have nah := hh.ne_tup (K := K) ea
    have nbh := hh.ne_tup (K := K) eb
    refine ⟨_, rfl, (by show 0 ≤ sizeLine; decide), fun z0 nz0 => ?_⟩
    have s0 := same_upd nz0 (o := .tup [])
    refine ⟨_, _, .tup (SqT.of (s0 _ _ eb)) (dpAll_ints _), .tup (SqT.of upd_same) .nil, shaped_tup (lay_ints _) (Nat.le_trans (depth_ints _) (by decide)), shaped_tup (by simp [PyData.canLayAll0]) (by simp [PyData.depthAll]), _, rfl, ?_⟩
    generalize upd H z0 (.tup []) = H1 at *
    have hh1 := hh.same s0
    have bt1 : But h H H1 := Same.but s0 h
    by_cases m0 : ms = []
    · subst m0
      rw [show PyData.eqv (.tuple (([] : List Int).map PyData.int)) (.tuple []) = true by simp [PyData.eqv, PyData.eqvAll]]
      refine iteT (q1 H1 (fun z => z.ne rfl) (hh1.mono ?_) bt1)
      omega
    rw [show PyData.eqv (.tuple (ms.map PyData.int)) (.tuple []) = false by cases ms with | nil => exact absurd rfl m0 | cons g r => simp [PyData.eqv, PyData.eqvAll]]
    refine iteF ⟨_, rfl, rfl, _, rfl, ?_⟩
    have mp : ms.map V.int ≠ [] := by simpa using m0
    cases n with
    | zero =>
      have c0 : ((cst bb 0 : Nat) : Int) = 1 := rfl
      refine iteT ⟨_, rfl, _, rfl, h, b, m, _, rfl, hh1, by omega, s0 _ _ eb, nbh, mp, by rw [List.length_map]; omega, fun v H2 mv hh2 bt2 => ⟨(by show 2 ≤ sizeLine; decide), fun t nt => ?_⟩⟩
      obtain ⟨g, hg, rfl⟩ := List.mem_map.mp mv
      have st := same_upd nt (o := .tup [.str "left", .int g])
      exact q2 (.ref t) _ _ ⟨g, hg, rfl⟩ (.tup upd_same (.cons (.str _) (.cons (.int g) .nil))) ((hh2.same st).mono (by omega)) ((bt1.trans bt2).trans (Same.but st h))
    | succ n =>
    have cs : ((cst bb (n + 1) : Nat) : Int) = 2 + (bb : Int) * (cst bb n : Nat) := by show ((2 + bb * cst bb n : Nat) : Int) = _; push_cast; rfl
    have pc : (0 : Int) ≤ (bb : Int) * (cst bb n : Nat) := by exact_mod_cast Nat.zero_le _
    rw [show decide (V.int ((n + 1 : Nat) : Int) = V.int 0) = false by rw [decide_eq_false_iff_not]; intro z; injection z with z; omega]
    refine iteF ⟨(by show 0 ≤ sizeLine; decide), fun z1 nz1 => ?_⟩
    have s1 := same_upd nz1 (o := .tup [])
    have ez1 : upd H1 z1 (.tup []) z1 = some (.tup ([].map V.int)) := upd_same
    generalize upd H1 z1 (.tup []) = H2 at *
    have s2 := s0.trans s1
    have eb2 := s2 _ _ eb
    refine ⟨_, rfl, b, rfl, ⟨_, SqT.of eb2⟩, ?_⟩
    refine for_tup (K := K) (a := b) (xs := ms.map V.int) (fun i σ Hi => ∃ (t4 : Addr) (ns : List Int) (c5 : Option V), σ = [some (.ref h), some (.ref a), some (.ref b), some (.int ((n + 1 : Nat) : Int)), some (.ref t4), c5, none, none, none, none, none, none, none] ∧ L2.Same H2 Hi ∧ Hi t4 = some (.tup (ns.map V.int)) ∧ ns.Sublist (ms.take i) ∧ P56.shr hs ns = true) ⟨z1, [], _, rfl, Same.refl H2, ez1, by simp, by unfold P56.shr; simp⟩ (fun i σ Hi _ z => by obtain ⟨_, _, _, _, z, _⟩ := z; exact SqT.of (z _ _ eb2)) ?_ ?_
    · rintro i x σ Hi hx ⟨t4, ns, c5, rfl, sm, e4, sub, sh⟩
      rw [List.getElem?_map] at hx
      obtain ⟨g, eg, rfl⟩ := Option.map_eq_some_iff.mp hx
      have il : i < ms.length := (List.getElem?_eq_some_iff.mp eg).1
      have lns : ns.length ≤ i := Nat.le_trans sub.length_le (by rw [List.length_take]; omega)
      have sA := s2.trans sm
      have emap : ns.map V.int ++ [V.int g] = (ns ++ [g]).map V.int := by rw [List.map_append]; rfl
      have sub1 : ns.Sublist (ms.take (i + 1)) := by rw [List.take_add_one]; exact sub.trans (List.sublist_append_left _ _)
      refine ⟨_, rfl, _, rfl, _, rfl, (by show 1 ≤ sizeLine; decide), fun t1 nt1 => ⟨t4, t1, _, _, rfl, rfl, same_upd nt1 _ _ e4, upd_same, ?_, fun p Hp sp ep => ?_⟩⟩
      · rw [List.length_map]
        exact Nat.le_trans (show ns.length + 1 ≤ 100 by omega) (by decide)
      rw [emap] at ep
      have st1 := same_upd nt1 (o := .tup [.int g])
      have sB := (sA.trans st1).trans sp
      refine ⟨a, p, xs, hs, ns ++ [g], rfl, sB _ _ ea, hl.map (fun _ _ e => sB _ _ e), l12, ep, by rw [List.length_append, List.length_singleton]; omega, fun H3 s3 => ⟨_, rfl, ?_⟩⟩
      have sC := (st1.trans sp).trans s3
      cases r : P56.shr hs (ns ++ [g]) with
      | false => exact iteF ⟨t4, ns, _, rfl, sm.trans sC, sC _ _ e4, sub1, sh⟩
      | true =>
        refine iteT ⟨_, rfl, _, rfl, (by show 1 ≤ sizeLine; decide), fun t2 nt2 => ⟨t4, t2, _, _, rfl, rfl, same_upd nt2 _ _ (sC _ _ e4), upd_same, ?_, fun p2 Hp2 sp2 ep2 => ?_⟩⟩
        · rw [List.length_map]
          exact Nat.le_trans (show ns.length + 1 ≤ 100 by omega) (by decide)
        rw [emap] at ep2
        refine ⟨p2, ns ++ [g], _, rfl, ((sm.trans sC).trans (same_upd nt2)).trans sp2, ep2, ?_, r⟩
        rw [List.take_add_one, eg]
        exact sub.append (List.Sublist.refl _)
    rintro σ H3 ⟨t4, ns, c5, rfl, s3, e4, sub, sh⟩
    rw [List.length_map, List.take_length] at sub
    have sA := s2.trans s3
    have hh3 := hh.same sA
    have bt3 : But h H H3 := Same.but sA h
    refine ⟨fun σ Hx => σ = [some (.ref h), some (.ref a), some (.ref b), some (.int ((n + 1 : Nat) : Int)), some (.ref t4), c5, none, none, none, none, none, none, none] ∧ But h H Hx ∧ Hand (m + 1) Hx h, ?_, ?_⟩
    · refine ⟨_, rfl, t4, _, rfl, .inr (SqT.of e4), _, rfl, _, _, rfl, rfl, _, rfl, ite2 (fun e => ?_) (fun _ => iteF ⟨rfl, bt3, hh3.mono (by omega)⟩)⟩
      have ln : n + 1 < ns.length := by
        have := of_decide_eq_true e
        rw [List.length_map] at this
        omega
      refine ⟨_, rfl, h, 2, m, rfl, by decide, by decide, hh3, by omega, fun d Hd d0 d2 hhd btd => ⟨rfl, _, rfl, ite2 (fun _ => ?_) (fun _ => ⟨rfl, bt3.trans btd, hhd⟩)⟩⟩
      refine ⟨_, rfl, (by show 2 ≤ sizeLine; decide), fun t nt => ?_⟩
      have st := same_upd nt (o := .tup [.str "apart", .ref t4])
      have n4 := hh3.ne_tup (K := K) e4
      exact q2 (.ref t) _ _ (.inl ⟨ns, sub, ln, sh, rfl⟩) (.tup upd_same (.cons (.str _) (.cons (.tup (st _ _ (btd _ _ n4 e4)) (tz_ints _)) .nil))) ((hhd.same st).mono (by omega)) ((bt3.trans btd).trans (Same.but st h))
    rintro σ H4 ⟨rfl, bt4, hh4⟩
    have ea4 := bt4 _ _ nah ea
    have eb4 := bt4 _ _ nbh eb
    have hl4 : Hl H4 xs hs := hl.map fun b ys e => bt4 _ _ (hh.ne_tup (K := K) e) e
    clear e4 sub sh s3 hh3 bt3 sA eb2 s2 s1 ez1 hh1 bt1 s0
    refine ⟨_, rfl, b, rfl, ⟨_, SqT.of eb4⟩, fun D nD => ?_⟩
    refine lc_tup (K := K) (a := b) (xs := ms.map V.int) (fun i Hi => L2.Same H4 Hi ∧ Hi D = some (.lst (((ms.map fun g => (((P56.hold hs g).length : Nat) : Int)).take i).map V.int))) ⟨same_upd nD, upd_same⟩ (fun i Hi _ z => SqT.of (z.1 _ _ eb4)) ?_ ?_
    · rintro i x Hi hx ⟨sm, eD⟩
      rw [List.getElem?_map] at hx
      obtain ⟨g, eg, rfl⟩ := Option.map_eq_some_iff.mp hx
      have il : i < ms.length := (List.getElem?_eq_some_iff.mp eg).1
      refine ⟨rfl, ?_⟩
      unfold tYes
      refine iteT ?_
      unfold tCB tCons
      show tLc (iTup K (tVar 1)) (gName 6) (tTest (tOp (rIn K false) (tVar 5) (tVar 6))) (tVar 6) [6] [some (V.ref h), some (V.ref a), some (V.ref b), some (V.int ((n + 1 : Nat) : Int)), some (V.ref t4), some (V.int g), none, none, none, none, none, none, none] Hi _
      refine inner_read (K := K) (sm _ _ ea4) (hl4.map fun _ _ e => sm _ _ e) l12 fun D2 H5 s5 e5 => ⟨D2, _, rfl, .inl (SqL.of e5), _, s5 _ _ eD, ?_, fun c o e => ?_, ?_⟩
      · rw [List.length_map, List.length_take]
        exact Nat.lt_of_le_of_lt (Nat.le_trans (Nat.min_le_left _ _) (show i ≤ 1000 by omega)) (by decide)
      · rw [upd_ne (ne_of_none e nD)]
        exact s5 _ _ (sm _ _ e)
      · rw [upd_same, List.take_add_one, List.getElem?_map, eg, List.map_append, List.length_map]
        rfl
    rintro H5 ⟨s5, eD⟩
    rw [List.take_of_length_le (by rw [List.length_map, List.length_map]; omega)] at eD
    refine ⟨D, _, rfl, SqL.of eD, by rw [List.length_map]; exact List.length_pos_iff.mpr m0, fun mn hmn _ => ?_⟩
    obtain ⟨g0, hg0, eg0⟩ := List.mem_map.mp hmn
    have eb5 := s5 _ _ eb4
    refine ⟨_, rfl, b, rfl, ⟨_, SqT.of eb5⟩, fun S nS => ?_⟩
    refine lc_tup (K := K) (a := b) (xs := ms.map V.int) (fun i Hi => L2.Same H5 Hi ∧ Hi S = some (.lst (((ms.take i).filter fun g => decide ((((P56.hold hs g).length : Nat) : Int) ≤ mn + 1)).map V.int))) ⟨same_upd nS, upd_same⟩ (fun i Hi _ z => SqT.of (z.1 _ _ eb5)) ?_ ?_
    · rintro i x Hi hx ⟨sm, eS⟩
      rw [List.getElem?_map] at hx
      obtain ⟨g, eg, rfl⟩ := Option.map_eq_some_iff.mp hx
      have il : i < ms.length := (List.getElem?_eq_some_iff.mp eg).1
      have sB := s5.trans sm
      refine ⟨rfl, ?_⟩
      rw [tTest.eq_1, tOp.eq_1, tCB.eq_1, tCons.eq_1]
      show tLc (iTup K (tVar 1)) (gName 6) (tTest (tOp (rIn K false) (tVar 5) (tVar 6))) (tVar 6) [6] [some (V.ref h), some (V.ref a), some (V.ref b), some (V.int ((n + 1 : Nat) : Int)), some (V.ref t4), some (V.int g), none, some (V.int mn), none, none, none, none, none] Hi _
      refine inner_read (K := K) (sB _ _ ea4) (hl4.map fun _ _ e => sB _ _ e) l12 fun D2 H6 s6 e6 => ⟨D2, _, rfl, .inl (SqL.of e6), _, rfl, _, 1, rfl, rfl, _, _, rfl, rfl, _, rfl, ?_⟩
      rw [List.length_map]
      by_cases ce : (((P56.hold hs g).length : Nat) : Int) ≤ mn + 1
      · rw [decide_eq_true ce]
        refine iteT ⟨_, rfl, _, s6 _ _ eS, ?_, fun c o e => ?_, ?_⟩
        · rw [List.length_map]
          refine Nat.lt_of_le_of_lt (Nat.le_trans (List.length_filter_le _ _) (show (ms.take i).length ≤ 1000 from ?_)) (by decide)
          rw [List.length_take]; omega
        · rw [upd_ne (ne_of_none e nS)]
          exact s6 _ _ (sm _ _ e)
        · rw [upd_same, List.take_add_one, eg, List.filter_append, List.map_append]
          simp [ce]
      · rw [decide_eq_false ce]
        refine iteF ⟨sm.trans s6, ?_⟩
        rw [List.take_add_one, eg, List.filter_append]
        simpa [ce] using s6 _ _ eS
    rintro H6 ⟨s6, eS⟩
    rw [List.length_map, List.take_length] at eS
    generalize hss : (ms.filter fun g => decide ((((P56.hold hs g).length : Nat) : Int) ≤ mn + 1)) = ss at *
    have ssm : ∀ g ∈ ss, g ∈ ms := fun g hg => by rw [← hss] at hg; exact (List.mem_filter.mp hg).1
    have ssn : ss.map V.int ≠ [] := by
      have : g0 ∈ ss := by rw [← hss]; exact List.mem_filter.mpr ⟨hg0, by rw [eg0]; simp; omega⟩
      intro z
      rw [List.map_eq_nil_iff] at z
      rw [z] at this
      cases this
    have ssl : ss.length ≤ 20 := by rw [← hss]; exact Nat.le_trans (List.length_filter_le _ _) l20
    have s46 := s5.trans s6
    have hh6 := hh4.same s46
    have bt6 : But h H H6 := bt4.trans (Same.but s46 h)
    have nSh : S ≠ h := fun z => by
      obtain ⟨ys, e⟩ := (hh4.same s5).at_
      rw [z, e] at nS
      cases nS
    refine ⟨_, rfl, _, rfl, h, m + 1, .ref S, rfl, hh6, by omega, .inl ⟨S, _, rfl, eS, nSh, ssn, by rw [List.length_map]; omega, fun v H7 mv hh7 bt7 => ⟨(by show 0 ≤ sizeLine; decide), fun L nL => ?_⟩⟩⟩
    obtain ⟨g, hg', rfl⟩ := List.mem_map.mp mv
    have hg := ssm g hg'
    have sL := same_upd nL (o := .lst [])
    have eL0 : upd H7 L (.lst []) L = some (.lst []) := upd_same
    have bt7 := (bt6.trans bt7)
    have nLH : H L = none := by
      cases z : H L with
      | none => rfl
      | some o =>
        by_cases c : L = h
        · rw [c] at nL
          obtain ⟨ys, e⟩ := hh7.at_
          rw [e] at nL
          cases nL
        · rw [bt7 _ _ c z] at nL
          cases nL
    have nLh : L ≠ h := fun z => by
      obtain ⟨ys, e⟩ := hh7.at_
      rw [z, e] at nL
      cases nL
    have bt8 : But h H (upd H7 L (.lst [])) := bt7.trans (Same.but sL h)
    have hh8 := hh7.same sL
    generalize upd H7 L (.lst []) = H8 at *
    have ea8 := bt8 _ _ nah ea
    refine ⟨_, _, rfl, _, rfl, a, rfl, ⟨_, SqT.of ea8⟩, ?_⟩
    refine for_tup (K := K) (a := a) (xs := xs) (fun i σ Hi => ∃ (vs : List V) (ds : List PyData) (c6 c10 c11 : Option V), σ = [some (.ref h), some (.ref a), some (.ref b), some (.int ((n + 1 : Nat) : Int)), some (.ref t4), some (.int g), c6, some (.int mn), some (.ref S), some (.ref L), c10, c11, none] ∧ But h H Hi ∧ Hand (m + 2 + (i : Int) * (cst bb n : Nat)) Hi h ∧ Hi L = some (.lst vs) ∧ TzAll Hi vs ds ∧ P56.Al2 (fun k u => P56.OB hs n (P56.rest (hs.getD k []) ms) u) ((List.range i).filter fun k => P56.on hs k g) ds) ⟨[], [], _, _, _, rfl, bt8, hh8.mono (by simp; omega), eL0, .nil, .nil⟩ (fun i σ Hi _ z => by obtain ⟨_, _, _, _, _, _, z, _⟩ := z; exact SqT.of (z _ _ nah ea)) ?_ ?_
    · rintro i x σ Hi hx ⟨vs, ds, c6, c10, c11, rfl, bi, hi, eL, tz, al⟩
      have il : i < hs.length := by have := (List.getElem?_eq_some_iff.mp hx).1; omega
      have ib : (i : Int) + 1 ≤ (bb : Int) := by omega
      have mul1 : (((i : Int) + 1) * ((cst bb n : Nat) : Int)) = (i : Int) * ((cst bb n : Nat) : Int) + ((cst bb n : Nat) : Int) := by rw [Int.add_mul, Int.one_mul]
      have mul2 : (((i : Int) + 1) * ((cst bb n : Nat) : Int)) ≤ (bb : Int) * ((cst bb n : Nat) : Int) := Int.mul_le_mul_of_nonneg_right ib (Int.natCast_nonneg _)
      have cn : (0 : Int) ≤ ((cst bb n : Nat) : Int) := Int.natCast_nonneg _
      have mul0 : (0 : Int) ≤ (i : Int) * ((cst bb n : Nat) : Int) := Int.mul_nonneg (Int.natCast_nonneg _) cn
      obtain ⟨tk, etk, eTk⟩ := hl.get il
      obtain rfl : V.ref tk = x := Option.some.inj (etk.symm.trans hx)
      have nth := hh.ne_tup (K := K) eTk
      have eTi := bi _ _ nth eTk
      have ebi := bi _ _ nbh eb
      have e0 : hs.getD i [] = hs[i] := by rw [List.getD_eq_getElem?_getD, List.getElem?_eq_getElem il]; rfl
      have eo : P56.on hs i g = inV (.int g) ((hs[i]).map V.int) := by
        rw [inV_ints]
        unfold P56.on
        rw [e0]
      refine ⟨_, rfl, _, rfl, tk, _, rfl, .inr (SqT.of eTi), rfl, flat_ints _, _, rfl, ?_⟩
      rw [← eo]
      cases on : P56.on hs i g with
      | false =>
        refine iteF ⟨vs, ds, _, _, _, rfl, bi, hi.mono (by push_cast; omega), eL, tz, ?_⟩
        rw [List.range_succ, List.filter_append, List.filter_cons, if_neg (by rw [on]; exact Bool.false_ne_true)]
        simpa using al
      | true =>
        refine iteT ?_
        refine ⟨_, rfl, b, rfl, ⟨_, SqT.of ebi⟩, fun Dw nDw => ?_⟩
        refine lc_tup (K := K) (a := b) (xs := ms.map V.int) (fun j Hj => L2.Same Hi Hj ∧ Hj Dw = some (.lst ((P56.rest hs[i] (ms.take j)).map V.int))) ⟨same_upd nDw, upd_same⟩ (fun j Hj _ z => SqT.of (z.1 _ _ ebi)) ?_ ?_
        · rintro j x Hj hx ⟨si, eDw⟩
          rw [List.getElem?_map] at hx
          obtain ⟨g', eg, rfl⟩ := Option.map_eq_some_iff.mp hx
          have jl : j < ms.length := (List.getElem?_eq_some_iff.mp eg).1
          have tke : P56.rest hs[i] (ms.take (j + 1)) = P56.rest hs[i] (ms.take j) ++ (if inV (.int g') ((hs[i]).map V.int) = true then [] else [g']) := by
            unfold P56.rest
            rw [List.take_add_one, eg, List.filter_append, inV_ints]
            by_cases c : g' ∈ hs[i] <;> simp [c]
          refine ⟨rfl, ?_⟩
          refine ⟨_, rfl, _, rfl, tk, _, rfl, .inr (SqT.of (si _ _ eTi)), rfl, flat_ints _, ?_⟩
          refine ⟨_, rfl, ite2 (fun e => ?_) (fun e => ?_)⟩
          · have e' : inV (.int g') ((hs[i]).map V.int) = false := by simpa using e
            refine ⟨_, rfl, _, eDw, ?_, fun c o q => ?_, ?_⟩
            · rw [List.length_map]
              refine Nat.lt_of_le_of_lt (Nat.le_trans (List.length_filter_le _ _) (show (ms.take j).length ≤ 1000 from ?_)) (by decide)
              rw [List.length_take]; omega
            · rw [upd_ne (ne_of_none q nDw)]
              exact si _ _ q
            · rw [upd_same, tke, e', if_neg Bool.false_ne_true, List.map_append]
              rfl
          · have e' : inV (.int g') ((hs[i]).map V.int) = true := by simpa using e
            refine ⟨si, ?_⟩
            rw [tke, e', if_pos rfl, List.append_nil]
            exact eDw
        rintro Hw ⟨sw, eDw⟩
        rw [List.length_map, List.take_length] at eDw
        refine ⟨Dw, _, rfl, .inl ⟨SqL.of eDw, fun p np => ?_⟩⟩
        have sp := same_upd np (o := .tup ((P56.rest hs[i] ms).map V.int))
        have ep : upd Hw p (.tup ((P56.rest hs[i] ms).map V.int)) p = some (.tup ((P56.rest hs[i] ms).map V.int)) := upd_same
        have sx := sw.trans sp
        generalize upd Hw p (.tup ((P56.rest hs[i] ms).map V.int)) = H9 at *
        have b9 : But h H H9 := bi.trans (Same.but sx h)
        have h9 := hi.same sx
        refine ⟨_, rfl, _, rfl, _, rfl, _, rfl, _, 1, rfl, rfl, h, a, p, m + 2 + (i : Int) * (cst bb n : Nat), xs, hs, P56.rest hs[i] ms, bb, (by show [V.ref h, V.ref a, V.ref p, V.int (((n + 1 : Nat) : Int) - 1)] = _; rw [show ((n + 1 : Nat) : Int) - 1 = (n : Int) by omega]), b9 _ _ nah ea, hl.map (fun _ _ e => b9 _ _ (hh.ne_tup (K := K) e) e), lb, b12, ep, Nat.le_trans P56.rest_len l20, h9, by omega, fun H' nn hh' bt' => ?_, fun v d H' ob tzv hh' bt' => ?_⟩
        · refine ⟨_, rfl, rfl, _, rfl, ite2 (fun _ => ?_) (fun e => absurd (by simp) e)⟩
          refine q1 H' (fun z => nn ?_) (hh'.mono (by omega)) (b9.trans bt')
          rw [← e0]
          exact z.less il
        · obtain ⟨tv, rfl⟩ := ob_ref ob tzv
          refine ⟨_, rfl, rfl, _, rfl, ite2 (fun e => absurd e (by simp)) (fun _ => ?_)⟩
          have eL9 := bt' _ _ nLh (sx _ _ eL)
          refine ⟨_, rfl, .inl ⟨rfl, _, SqL.of eL9⟩, _, rfl, L, _, _, rfl, rfl, eL9, ?_, vs ++ [.ref tv], ds ++ [d], _, _, _, rfl, fun c o ne e => ?_, ?_, upd_same, ?_, ?_⟩
          · have h1 := tz.len
            have h2 := al.len
            have h3 := List.length_filter_le (fun k => P56.on hs k g) (List.range i)
            rw [List.length_range] at h3
            exact Nat.lt_of_le_of_lt (show vs.length ≤ 1000 by omega) (by decide)
          · rw [upd_ne (ne_of_none e nLH)]
            exact bt' _ _ ne (b9 _ _ ne e)
          · refine Hand.upd (hh'.mono ?_) (Ne.symm nLh)
            push_cast
            omega
          · have kx : ∀ c zs, H' c = some (.tup zs) → upd H' L (.lst (vs ++ [.ref tv])) c = some (.tup zs) := fun c zs e => by
              rw [upd_ne (ne_of e eL9 (by intro z; cases z))]
              exact e
            have k9 : ∀ c zs, Hi c = some (.tup zs) → H' c = some (.tup zs) := fun c zs e => bt' _ _ (hi.ne_tup (K := K) e) (sx _ _ e)
            exact (tz.keep fun c zs e => kx _ _ (k9 _ _ e)).snoc (tzv.keep kx)
          · rw [List.range_succ, List.filter_append, List.filter_cons, if_pos on]
            exact al.snoc (by rw [e0]; exact ob)
    rintro σ He ⟨vs, ds, c6, c10, c11, rfl, be, he, eL, tz, al⟩
    rw [lh] at al he
    refine ⟨_, rfl, _, rfl, L, _, rfl, .inl ⟨SqL.of eL, fun p np => ⟨(by show 3 ≤ sizeLine; decide), fun t nt => ?_⟩⟩⟩
    have sp := same_upd np (o := .tup vs)
    have st := same_upd nt (o := .tup [.str "take", .int g, .ref p])
    have sx := sp.trans st
    refine q2 (.ref t) _ _ (.inr ⟨g, hg, ds, rfl, al⟩) (.tup upd_same (.cons (.str _) (.cons (.int g) (.cons (.tup (st _ _ upd_same) (tz.keep fun c zs e => sx _ _ e)) .nil)))) ((he.same sx).mono ?_) (be.trans (Same.but sx h))
    have : ((hs.length : Int)) * ((cst bb n : Nat) : Int) ≤ (bb : Int) * ((cst bb n : Nat) : Int) := Int.mul_le_mul_of_nonneg_right (by omega) (Int.natCast_nonneg _)
    omega
end
end K60
set_option Elab.async false
set_option linter.all false
set_option maxRecDepth 100000
set_option maxHeartbeats 4000000
set_option pp.maxSteps 400
set_option pp.deepTerms false
namespace K60
open PySem PySem.Spec PyProof.Rows L2
open Xk Az
section
variable {P : Program} {w : World} {K : PySem.W.Frag} {mg : Str → Option Value} {base : Heap}
theorem off_all {h : Addr} {H : Hp} : L2.Same (del H h) H := fun b o e => by
  by_cases z : b = h
  · rw [z, del_same] at e
    cases e
  · rw [del_ne z] at e
    exact e
theorem off_but {h : Addr} {H H' : Hp} (s : But h H H') : L2.Same (del H h) (del H' h) := fun b o e => by
  by_cases z : b = h
  · rw [z, del_same] at e
    cases e
  · rw [del_ne z] at e
    rw [del_ne z]
    exact s b o z e
theorem off_new {h p : Addr} {H : Hp} {o : HO} (ne : p ≠ h) : del (upd H p o) h p = some o := by rw [del_ne ne, upd_same]
theorem off_at {h p : Addr} {H : Hp} {o : HO} (ne : p ≠ h) (e : H p = some o) : del H h p = some o := by rw [del_ne ne, e]
section
variable {prog : Program} {w : World} {A : Around} {E : Value → Shared → Prop} {s : Shared}
theorem turnN {sl : Addr} {u : Tok} {n : Nat} {Q : Int × Int × Nat → Shared → Prop} (hs : s.heap.IsSliceOf sl .none .none (.int (-1) u)) (h : Q ((n : Int) - 1, -1, n) s) : wpAny (model prog w) A (Builtin.Slice.sliceApplied (.ref sl) (pure (n : Int))) Q E s := by
  obtain ⟨os, a1, a2, a3⟩ := id hs
  unfold Builtin.Slice.sliceApplied Builtin.Slice.sliceFields
  refine wpAny_bind (wpAny_bind (wpAny_field a1 a3 (x := .none) rfl (wpAny_bind (wpAny_field a1 a3 (x := .none) rfl (wpAny_bind (wpAny_field a1 a3 (x := .int (-1) u) rfl (wpAny_pure ?_)))))))
  refine wpAny_bind (slicePart_int ?_)
  show wpAny _ _ (if ((-1 : Int) == 0) = true then _ else _) _ _ s
  rw [if_neg (by decide)]
  have pl : Builtin.Slice.slicePlaces ((n : Int) - 1) (-1) (-1) = n := by
    unfold Builtin.Slice.slicePlaces
    have h1 : ¬ ((-1 : Int) > 0) := by decide
    simp only [h1, if_false, show (- -1 : Int) = 1 by decide, Int.ediv_one]
    split <;> omega
  refine wpAny_bind (slicePart_none (wpAny_bind (slicePart_none (wpAny_bind (wpAny_pure ?_)))))
  show wpAny _ _ (pure ((n : Int) - 1, (-1 : Int), Builtin.Slice.slicePlaces ((n : Int) - 1) (-1) (-1))) _ _ s
  rw [pl]
  exact wpAny_pure h
theorem fm_congr {α β : Type} {f g : α → Option β} : ∀ l : List α, (∀ m ∈ l, f m = g m) → l.filterMap f = l.filterMap g
  | [], _ => rfl
  | a :: r, h => by
    rw [List.filterMap_cons, List.filterMap_cons, h a List.mem_cons_self, fm_congr r fun m hm => h m (List.mem_cons_of_mem _ hm)]
theorem turn_all (xs : Array Value) : ((List.range xs.size).filterMap fun (m : Nat) => xs[((xs.size : Int) - 1 + (m : Int) * -1).toNat]?).toArray = xs.toList.reverse.toArray := by
  have e : ((List.range xs.size).filterMap fun (m : Nat) => xs[((xs.size : Int) - 1 + (m : Int) * -1).toNat]?) = ((List.range xs.size).map fun k => xs.size - 1 - k).filterMap (xs[·]?) := by
    rw [List.filterMap_map]
    refine fm_congr _ fun m hm => ?_
    have := List.mem_range.mp hm
    show xs[((xs.size : Int) - 1 + (m : Int) * -1).toNat]? = xs[xs.size - 1 - m]?
    congr 1
    omega
  rw [e, PySem.W.krv_range, List.filterMap_reverse, PySem.W.krv_all]
theorem itemN {t sl : Addr} {items : Array Value} {u : Tok} {Q : Value → Shared → Prop} (ht : IsTup s.heap t items) (hs : s.heap.IsSliceOf sl .none .none (.int (-1) u)) (hz : items.size ≤ sizeLine)
    (h : Q (.ref s.heap.objs.size) { s with heap := s.heap.push { cls := .type "tuple", data := .seq items.toList.reverse.toArray } }) : wpAny (model prog w) A (getItem (.ref t) (.ref sl)) Q E s := by
  have fits : sizeOk (.seq items.toList.reverse.toArray) := by
    show items.toList.reverse.toArray.size ≤ sizeLine
    rw [List.size_toArray, List.length_reverse, Array.length_toList]
    exact hz
  obtain ⟨os, a1, a2, a3⟩ := id hs
  have ty : s.TypeIs (.ref sl) "slice" := ⟨os, a1, a2⟩
  unfold getItem; try with_reducible refine wpAny_holding ?_
  (first | refine wpAny_bind (wpAny_pure ?_) | skip); refine wpAny_bind (wpAny_sequenceKey ht.typeIs (by decide) ?_)
  refine wpAny_bind (wpAny_callSpecial?_slot (name := Str.ofString "__getitem__") ht.typeIs PyProof.Rows.slot_tuple_getitem (wpAny_call_entry PyProof.Rows.slot_tuple_getitem ht.typeIs entry_tuple_getitem ?_ (args_tuple_getitem _ _)))
  show wpAny _ _ (Builtin.Tuple.tupleItemsOf (.ref t) >>= _) _ _ s; refine wpAny_bind (tupleItemsOf_ ht ?_)
  refine wpAny_bind (wpAny_typeOf ty ?_); rw [if_pos (by decide)]
  refine wpAny_bind (turnN hs ?_)
  show wpAny _ _ (if (((items.size : Int) - 1) == 0 && (-1 : Int) == 1 && (items.size == items.size)) = true then _ else _) _ _ s
  rw [if_neg (by simp), turn_all]
  (first
    | exact wpAny_bind (m := Builtin.Tuple.tupleExact _) (wpAny_newObj_type (wpAny_pure ⟨_, rfl, wpAny_pure h⟩) fits)
    | exact wpAny_bind (m := Builtin.Tuple.tupleExact _) (wpAny_newObj_type (wpAny_bind (wpAny_pure (wpAny_pure ⟨_, rfl, wpAny_pure h⟩))) fits)
    | exact wpAny_bind (wpAny_bind (m := Builtin.Tuple.tupleExact _) (wpAny_newObj_type (wpAny_pure (wpAny_pure ⟨_, rfl, wpAny_pure h⟩)) fits)))
end
section
variable {X : Cx}
def tRevN (K : PySem.W.Frag) (te : TE) : TE := fun σ H Q => te σ H fun x H1 => ∃ (a : Addr) (xs : List V), x = .ref a ∧ H1 a = some (.tup xs) ∧ ∀ p H', L2.Same H1 H' → H' p = some (.tup xs.reverse) → Q (.ref p) H'
theorem pe_revN {e : Expr} {te : TE} {k : Nat} {p1 p2 p3 pos : Pos} (he : PE X e te) : PE X (.Subscript e (.Slice none none (some (.UnaryOp .USub (.Constant (.int 1) k p1) p2)) p3) pos) (tRevN X.K te) := by
  refine ⟨fun pins s σ H Q I h => Subscript_ (thn (he.run pins s σ H _ I h) fun v s1 ⟨x, H1, I1, r1, a, xs, ex, hx, q⟩ => ?_)⟩
  subst ex; cases r1
  have hst : PO X (some (.UnaryOp .USub (.Constant (.int 1) k p1) p2)) (tPart (tUn (rU fun i => .int (-i)) (tC (.int 1)))) := po_some (pe_un un_neg pe_int)
  refine wpAny_Slice (thn (po_none.run pins s1 σ H1 (fun o G => o = none ∧ G = H1) I1 ⟨rfl, rfl⟩) fun vl s2 ⟨l, G, I2, pl, el, e2⟩ => ?_)
  subst el e2
  refine thn (po_none.run pins s2 σ G (fun o G2 => o = none ∧ G2 = G) I2 ⟨rfl, rfl⟩) fun vu s3 ⟨u, G2, I3, pu, eu, e3⟩ => ?_
  subst eu e3
  refine thn (hst.run pins s3 σ G2 (fun o G3 => o = some (-1) ∧ G3 = G2) I3 ⟨1, rfl, -1, rfl, rfl, rfl⟩) fun vs s4 ⟨o, G3, I4, ps, eo, e4⟩ => ?_
  subst eo e4
  cases pl; cases pu
  cases ps with
  | int _ tk =>
  have I5 : Inv X pins σ G3 { s4 with heap := s4.heap.push { cls := .type "slice", data := .fields #[.none, .none, .int (-1) tk] } } := I4.kept (t' := s4.toks) fun b ob q => Heap.get?_push_of_some _ q
  obtain ⟨its, r, ht, hz⟩ := I5.tuple (SqT.of hx)
  have hlen := r.length
  show wpAny (model X.prog X.w) X.A (subscriptTail e (.Slice none none (some (.UnaryOp .USub (.Constant (.int 1) k p1) p2)) p3) (.ref a) (.ref s4.heap.objs.size)) (EP X pins σ Q) X.xe { s4 with heap := s4.heap.push { cls := .type "slice", data := .fields #[.none, .none, .int (-1) tk] } }
  refine tail_any (ops := [.ref a, .ref s4.heap.objs.size]) ht.typeIs PyProof.Rows.slot_tuple_getitem.lookup ?_ (by with_unfolding_all rfl)
  refine itemN ht (Heap.IsSliceOf.new _ _ _ _) (by rw [List.size_toArray]; omega) ?_
  have nw := I5.hok.fresh (Nat.le_refl _)
  refine ⟨.ref _, _, I5.laid (t' := s4.toks) (o := .tup xs.reverse) (fun b ob q => Heap.get?_push_of_some _ q) (Nat.le_refl _) ?_, rfl, q _ _ (same_upd nw) upd_same⟩
  exact ⟨by rw [List.length_reverse]; exact hz, _, r.reverse, IsTup.new _ _⟩
/-- a list of a tuple's things, new -/
theorem cr_listT : CallR X (.type "list") (fun xs H Q => ∃ p ys, xs = [.ref p] ∧ SqT X.K H p ys ∧ ∀ l, H l = none → l ≠ sysModules → Q (.ref l) (upd H l (.lst ys))) := by
  intro pins s σ H xs us Q I r h
  obtain ⟨p, ys, rfl, hq, q⟩ := h
  obtain ⟨u, rfl, rx⟩ := vals1 r; cases rx
  obtain ⟨its, r', ⟨o, ho, hc, n, hd⟩, hz⟩ := I.tuple hq
  have hlen := r'.length
  exact call_list_seq p (.inr rfl) ho hc hd (fun h' c' kp e => ⟨.ref s.heap.objs.size, _, I.laid (t' := s.toks) kp (Nat.le_refl _) (show ObjOk X.prog X.w _ h' _ (.lst ys) from ⟨hz, its, c', r', e⟩), rfl, q _ (I.hok.fresh (Nat.le_refl _)) (Nat.ne_of_gt I.big)⟩) (by simp only [List.size_toArray]; omega)
end
section
variable {X : Cx}
theorem op_neT0 (hu : X.A.units + 64 < cLine) : OpR X (compareOp .NotEq) (fun x y H Q => ∃ a b xs, x = .ref a ∧ y = .ref b ∧ H a = some (.tup xs) ∧ H b = some (.tup []) ∧ Q (.bl (!xs.isEmpty)) H) := by
  intro pins s σ H x y v u Q I rx ry h
  obtain ⟨a, b, xs, rfl, rfl, ea, eb, q⟩ := h
  cases rx; cases ry
  obtain ⟨its, r1, ⟨o1, g1, c1, n1, d1⟩, _⟩ := I.tuple (SqT.of ea)
  obtain ⟨its2, r2, ⟨o2, g2, c2, n2, d2⟩, _⟩ := I.tuple (SqT.of eb)
  cases r2
  have l := r1.length
  have k : (!((List.range (min its.toArray.size ([] : List Value).toArray.size)).all (fun _ => true) && its.toArray.size == ([] : List Value).toArray.size)) = !xs.isEmpty := by
    cases xs with
    | nil =>
      cases r1
      rfl
    | cons z zs =>
      cases r1 with
      | cons _ _ => simp
  have w := PySem.SeqAt.RcNeAt.tuples (A := X.A) (s := s) (l := a) (b := b) (items := its.toArray) (items2 := ([] : List Value).toArray) (e := fun _ => true) ⟨o1, g1, c1, n1, d1⟩ ⟨o2, g2, c2, n2, d2⟩ (Nat.lt_of_le_of_lt (Nat.le_add_right _ 64) hu) (fun j h1 h2 => absurd h2 (by simp))
  rw [k] at w
  exact w X.prog X.w _ _ ⟨.bl _, H, I, rfl, q⟩
end
theorem cut_mem {xs : List V} {lo hi : Option Int} {z : V} (h : z ∈ cutV xs lo hi) : z ∈ xs := List.mem_of_mem_drop (List.mem_of_mem_take h)
theorem nice_all {k n : Nat} : ∀ ds : List PyData, (∀ d ∈ ds, Nice d k n) → PyData.showableAll ds = true ∧ PyData.depthAll ds ≤ k ∧ piled (PyData.shownAll ds) ≤ ds.length * (n + 2)
  | [], _ => ⟨by simp [PyData.showableAll], by simp [PyData.depthAll], by simp [PyData.shownAll, piled_nil]⟩
  | d :: r, h => by
    obtain ⟨h1, h2, h3⟩ := nice_all r fun x hx => h x (List.mem_cons_of_mem _ hx)
    have hd := h d List.mem_cons_self
    refine ⟨by simp [PyData.showableAll, hd.sh, h1], ?_, ?_⟩
    · simp only [PyData.depthAll]
      have := hd.dp
      omega
    · simp only [PyData.shownAll, piled_cons, List.length_cons, Nat.succ_mul]
      have := hd.sz
      omega
theorem nice_tups {k n : Nat} (ds : List PyData) (h : ∀ d ∈ ds, Nice d k n) : Nice (.tuple ds) (k + 1) (ds.length * (n + 2) + 4) := by
  obtain ⟨h1, h2, h3⟩ := nice_all ds h
  refine ⟨by simp [PyData.showable, h1], ?_, ?_⟩
  · simp only [PyData.depth]
    omega
  · simp only [PyData.shown]
    have a := fmt_text (PyData.shownAll ds)
    omega
theorem lg {i : Int} (h0 : -(10 ^ 31) < i) (h1 : i < 10 ^ 31) : i.natAbs.log2 < 1920 := by
  have h2 : i.natAbs < 2 ^ 110 := by
    have : (10 : Int) ^ 31 < 2 ^ 110 := by decide
    omega
  exact Nat.lt_of_lt_of_le (PySem.Flt.log2_lt_of (by decide) h2) (by decide)
theorem tx_le {i : Int} (h0 : 0 ≤ i) (h1 : i < 10 ^ 31) : (Str.ofString (toString i)).length ≤ 40 := by
  have b : (10 : Int) ^ 31 < 10 ^ 39 := by decide
  exact Nat.le_trans (toString_length_le (v := i) h0 (k := 39) (by decide) (by omega)) (by decide)
theorem nice_sm {ns : List Int} (h : Sm ns) : Nice (.tuple (ns.map PyData.int)) 1 (ns.length * 42 + 4) := by
  have := nice_tups (k := 0) (n := 40) (ns.map PyData.int) fun d hd => by
    obtain ⟨i, hi, rfl⟩ := List.mem_map.mp hd
    obtain ⟨h0, h1⟩ := h i hi
    exact nice_int (lg (Int.lt_of_lt_of_le (by decide) h0) h1) (tx_le h0 h1)
  rw [List.length_map] at this
  exact this
theorem nice_lsts {k n : Nat} (ds : List PyData) (h : ∀ d ∈ ds, Nice d k n) : Nice (.list ds) (k + 1) (ds.length * (n + 2) + 4) := by
  obtain ⟨h1, h2, h3⟩ := nice_all ds h
  refine ⟨by simp [PyData.showable, h1], ?_, ?_⟩
  · simp only [PyData.depth]
    omega
  · simp only [PyData.shown]
    have a := list_le (PyData.shownAll ds)
    omega
theorem nice_left {d : PyData} {k n : Nat} (h : Nice d k n) : Nice (.tuple [.str "left", d]) (k + 1) (n + 40) := by
  refine ⟨by simp [PyData.showable, PyData.showableAll, h.sh], ?_, ?_⟩
  · simp only [PyData.depth, PyData.depthAll]
    have := h.dp
    omega
  · simp only [PyData.shown, PyData.shownAll]
    have z := fmt_text [reprText "left", d.shown]
    simp only [piled_cons, piled_nil] at z
    have := h.sz
    have l : (reprText ("left" : Str)).length ≤ 10 := by decide +kernel
    omega
theorem nice_take {d : PyData} {k n : Nat} (h : Nice d k n) : Nice (.tuple [.str "take", .int 0, .tuple [d]]) (k + 2) (n + 60) := by
  have t := nice_tup1 h
  refine ⟨by simp [PyData.showable, PyData.showableAll, h.sh], ?_, ?_⟩
  · have := t.dp
    simp only [PyData.depth, PyData.depthAll] at this ⊢
    omega
  · have t2 := t.sz
    have z := fmt_text [reprText "take", (PyData.int 0).shown, (PyData.tuple [d]).shown]
    simp only [piled_cons, piled_nil] at z
    have l : (reprText ("take" : Str)).length ≤ 10 := by decide +kernel
    have l2 : ((PyData.int 0).shown).length ≤ 4 := by simp only [PyData.shown]; decide +kernel
    have e : (PyData.tuple [.str "take", .int 0, .tuple [d]]).shown = tupleText [reprText "take", (PyData.int 0).shown, (PyData.tuple [d]).shown] := by simp only [PyData.shown, PyData.shownAll]
    rw [e]
    omega
theorem wd_up : ∀ {k k' : Nat} {d : PyData}, k ≤ k' → P56.Wd k d → P56.Wd k' d
  | 0, 0, d, _, h => h
  | 0, k' + 1, d, _, h => by
    cases d with
    | tuple ds => exact h.elim
    | _ => trivial
  | k + 1, 0, d, hk, _ => by omega
  | k + 1, k' + 1, d, hk, h => by
    cases d with
    | tuple ds => exact ⟨h.1, fun e he => wd_up (by omega) (h.2 e he)⟩
    | _ => trivial
/-- a thing of any kind, k deep, shown in n signs -/
def Td (K : PySem.W.Frag) (H : Hp) (k n : Nat) (v : V) : Prop := ∃ d, Dz K H v d ∧ Nice d k n ∧ P56.Wd k d
theorem Td.mono {H : Hp} {k k' n n' : Nat} {v : V} (h : Td K H k n v) (hk : k ≤ k') (hn : n ≤ n') : Td K H k' n' v := by
  obtain ⟨d, z, c, w⟩ := h
  exact ⟨d, z, c.mono hk hn, wd_up hk w⟩
theorem Td.same {H H' : Hp} {k n : Nat} {v : V} (h : Td K H k n v) (s : L2.Same H H') : Td K H' k n v := by
  obtain ⟨d, z, c⟩ := h
  exact ⟨d, z.same s, c⟩
theorem td_int {H : Hp} {k : Nat} {i : Int} (h0 : -(10 ^ 31) < i) (h1 : i < 10 ^ 31) : Td K H k 50 (.int i) := by
  refine ⟨_, .int i, (nice_int (lg h0 h1) ?_).mono (Nat.zero_le _) (Nat.le_refl _), by cases k <;> trivial⟩
  rcases Int.lt_or_le i 0 with c | c
  · have e : i = Int.negSucc (i.natAbs - 1) := by omega
    rw [e]
    have z := toString_length_le (v := ((i.natAbs : Nat) : Int)) (by omega) (k := 39) (by decide) (by
      have : (10 : Int) ^ 31 < 10 ^ 39 := by decide
      omega)
    rw [PySem.ofString_length] at z ⊢
    have z2 : (toString (i.natAbs - 1 + 1)).length ≤ 39 := by
      rw [show i.natAbs - 1 + 1 = i.natAbs by omega]
      exact z
    show ("-" ++ toString (i.natAbs - 1 + 1)).length ≤ 50
    rw [String.length_append]
    have : "-".length = 1 := rfl
    omega
  · exact Nat.le_trans (tx_le c h1) (by decide)
theorem td_str {H : Hp} {k : Nat} {x : Str} (h : (reprText x).length ≤ 50) : Td K H k 50 (.str x) := ⟨_, .str x, (nice_str h).mono (Nat.zero_le _) (Nat.le_refl _), by cases k <;> trivial⟩
theorem td_non {H : Hp} {k : Nat} : Td K H k 50 .non := ⟨_, .non, nice_none.mono (Nat.zero_le _) (by decide), by cases k <;> trivial⟩
theorem td_bl {H : Hp} {k : Nat} (b : Bool) : Td K H k 50 (.bl b) := ⟨_, .bl b, (nice_bool b).mono (Nat.zero_le _) (by decide), by cases k <;> trivial⟩
theorem td_all {H : Hp} {k n : Nat} : ∀ zs : List V, (∀ z ∈ zs, Td K H k n z) → ∃ ds, DzAll K H zs ds ∧ ds.length = zs.length ∧ ∀ e ∈ ds, Nice e k n ∧ P56.Wd k e
  | [], _ => ⟨[], .nil, rfl, by simp⟩
  | z :: r, h => by
    obtain ⟨ds, q1, q2, q3⟩ := td_all r fun x hx => h x (List.mem_cons_of_mem _ hx)
    obtain ⟨d, z1, z2⟩ := h z List.mem_cons_self
    refine ⟨d :: ds, .cons z1 q1, by rw [List.length_cons, List.length_cons, q2], fun e he => ?_⟩
    rcases List.mem_cons.mp he with w | w
    · rw [w]; exact z2
    · exact q3 e w
def szT : Nat → Nat
  | 0 => 50
  | k + 1 => 40 * (szT k + 2) + 4
theorem td_tup {H : Hp} {h p : Addr} {k : Nat} {zs : List V} (ph : p ≠ h) (e : H p = some (.tup zs)) (l : zs.length ≤ 40) (q : ∀ z ∈ zs, Td K (del H h) k (szT k) z) : Td K (del H h) (k + 1) (szT (k + 1)) (.ref p) := by
  obtain ⟨ds, q1, q2, q3⟩ := td_all zs q
  refine ⟨.tuple ds, .tup (off_at ph e) q1, (nice_tups ds fun d hd => (q3 d hd).1).mono (Nat.le_refl _) ?_, by rw [q2]; omega, fun d hd => (q3 d hd).2⟩
  show ds.length * (szT k + 2) + 4 ≤ 40 * (szT k + 2) + 4
  exact Nat.add_le_add_right (Nat.mul_le_mul_right _ (by omega)) 4
theorem td_lst {H : Hp} {h p : Addr} {k : Nat} {zs : List V} (ph : p ≠ h) (ps : p ≠ sysModules) (e : H p = some (.lst zs)) (l : zs.length ≤ 40) (q : ∀ z ∈ zs, Td K (del H h) k (szT k) z) : Td K (del H h) (k + 1) (szT (k + 1)) (.ref p) := by
  obtain ⟨ds, q1, q2, q3⟩ := td_all zs q
  refine ⟨.list ds, .lst (off_at ph e) ps q1, (nice_lsts ds fun d hd => (q3 d hd).1).mono (Nat.le_refl _) ?_, trivial⟩
  show ds.length * (szT k + 2) + 4 ≤ 40 * (szT k + 2) + 4
  exact Nat.add_le_add_right (Nat.mul_le_mul_right _ (by omega)) 4
theorem td_dct {H : Hp} {h p : Addr} {k : Nat} (ph : p ≠ h) (e : H p = some (.dK [])) : Td K (del H h) (k + 1) 50 (.ref p) := ⟨.dict [], .dct (off_at ph e) .nil, nice_dct0.mono (by omega) (by decide), trivial⟩
theorem td_up {H : Hp} {v : V} {j k : Nat} (h : Td K H j (szT j) v) (l : j ≤ k) : Td K H k (szT k) v := by
  refine h.mono l ?_
  induction l with
  | refl => exact Nat.le_refl _
  | step _ ih => exact Nat.le_trans ih (by show _ ≤ 40 * (_ + 2) + 4; omega)
theorem Hand.del {n : Int} {H : Hp} {a p : Addr} (h : Hand n H a) (ne : a ≠ p) : Hand n (L2.del H p) a := by
  obtain ⟨g, m, c, e, r⟩ := h
  exact ⟨g, m, c, by rw [del_ne ne]; exact e, r⟩
theorem del_upd {H : Hp} {L : Addr} {o : HO} : del (L2.upd H L o) L = del H L := by
  funext b
  by_cases c : b = L
  · rw [c, del_same, del_same]
  · rw [del_ne c, del_ne c, upd_ne c]
theorem del_none {H : Hp} {L : Addr} (h : H L = none) : del H L = H := by
  funext b
  by_cases c : b = L
  · rw [c, del_same, h]
  · rw [del_ne c]
def spDeep (K : PySem.W.Frag) : Sp := fun vs H Q _ => ∃ (h : Addr) (m : Int) (v : V) (k n : Nat), vs = [.ref h, v] ∧ Td K (del H h) k n v ∧ Hand m H h ∧ m + 100 ≤ far ∧
  ∀ v' H', Td K (del H' h) (k + 24) (n + 1200) v' → Hand (m + 20) H' h → But h H H' → Q v' H'
theorem ok_deep {f : Addr} {fd : FuncData} (D : Df K mg "_law_deep" ["_law_hand_here", "_law_thing"] sDeep f fd) (T : Txt mg) (cP : Ca P w K mg base 2 "_law_pick" ["_law_hand_here", "_law_some"] spPick) : FnOk P w K mg base CX0 3 f fd ["_law_hand_here", "_law_thing"] (spDeep K) := by
  refine D.fn.ok scDeep (fun vs H Q E h => ?_) (fun cdv A outer s H vs Q E hr h => ?_)
  · obtain ⟨h, m, v, k, n, rfl, td, hh, hm, q⟩ := h
    rfl
  · obtain ⟨h, m, v, k, n, rfl, td, hh, hm, q⟩ := h
    refine ⟨_, (pss_cons (ps_for PassesOwn.never rfl (pi_range1 (by rfl) T.range (pa_cons (pe_ca cP hr (by decide) (by rfl) (pa_cons (pv 0) (pa_cons (pe_lst (pa_cons pe_int (pa_cons pe_int (pa_cons pe_int (pa_cons pe_int pa_nil))))) pa_nil))) pa_nil)) (pg_name (i := 2) scDeep.nd rfl (.inl rfl)) (pss_one (ps_set (i := 1) scDeep.nd rfl (.inl rfl) (pe_ca cP hr (by decide) (by rfl) (pa_cons (pv 0) (pa_cons (pe_lst (pa_cons (pe_tup (pa_cons (pv 1) pa_nil)) (pa_cons (pe_lstZ (pa_cons (pv 1) pa_nil)) (pa_cons (pe_tup (pa_cons pe_str (pa_cons pe_int (pa_cons (pe_tup (pa_cons (pv 1) pa_nil)) pa_nil)))) (pa_cons (pe_disp (pps_cons pe_str (pv 1) pps_nil) rfl rfl (by simp) (by decide)) (pa_cons (pe_tup (pa_cons pe_str (pa_cons (pv 1) pa_nil))) pa_nil)))))) pa_nil))))))
      (pss_one (ps_ret (pv 1)))), ?_⟩
    have fr : m + 100 ≤ 1000000 := hm
    refine ⟨_, rfl, (by show 4 ≤ sizeLine; decide), fun l0 n0 => ?_⟩
    have s0 := same_upd n0 (o := .lst [.int 0, .int 1, .int 3, .int 12])
    refine ⟨h, m, _, rfl, hh.same s0, by show m ≤ 1000000; omega, .inl ⟨l0, _, rfl, upd_same, hh.fresh n0, by simp, by show 4 < 1000; decide, fun v0 H1 mv h1 b1 => ?_⟩⟩
    obtain ⟨c, rfl, c0, c12⟩ : ∃ c : Int, v0 = .int c ∧ 0 ≤ c ∧ c ≤ 12 := by
      simp only [List.mem_cons, List.not_mem_nil, or_false] at mv
      rcases mv with e | e | e | e <;> exact ⟨_, e, by decide, by decide⟩
    have b01 : But h H H1 := (Same.but s0 h).trans b1
    refine ⟨c, rfl, by omega, by omega, for_range (lo := 0) (n := c.toNat) (fun i σ Hi => ∃ (v : V) (c2 : Option V), σ = [some (.ref h), some v, c2] ∧ Td K (del Hi h) (k + 2 * i) (n + 100 * i) v ∧ Hand (m + 1 + i) Hi h ∧ But h H Hi) ?_ ?_ ?_⟩
    · exact ⟨v, none, rfl, td.same (off_but b01), h1.mono (by omega), b01⟩
    · rintro i σ Hi hi ⟨v, c2, rfl, td, hdi, bi⟩
      have i12 : i < 12 := by omega
      refine ⟨_, rfl, _, rfl, (by show 1 ≤ sizeLine; decide), fun p1 n1 => ?_⟩
      have q1 := same_upd n1 (o := .tup [v])
      have e1 : upd Hi p1 (.tup [v]) p1 = some (.tup [v]) := upd_same
      have a1 := hdi.fresh n1
      have d1 := hdi.same q1
      generalize upd Hi p1 (.tup [v]) = G1 at *
      refine ⟨_, rfl, (by show 1 ≤ sizeLine; decide), fun p2 n2 ne2 => ?_⟩
      have q2 := same_upd n2 (o := .lst [v])
      have e2 : upd G1 p2 (.lst [v]) p2 = some (.lst [v]) := upd_same
      have a2 := d1.fresh n2
      have d2 := d1.same q2
      generalize upd G1 p2 (.lst [v]) = G2 at *
      refine ⟨_, rfl, (by show 1 ≤ sizeLine; decide), fun p3 n3 => ?_⟩
      have q3 := same_upd n3 (o := .tup [v])
      have e3 : upd G2 p3 (.tup [v]) p3 = some (.tup [v]) := upd_same
      have a3 := d2.fresh n3
      have d3 := d2.same q3
      generalize upd G2 p3 (.tup [v]) = G3 at *
      refine ⟨(by show 3 ≤ sizeLine; decide), fun p4 n4 => ?_⟩
      have q4 := same_upd n4 (o := .tup [.str "take", .int 0, .ref p3])
      have e4 : upd G3 p4 (.tup [.str "take", .int 0, .ref p3]) p4 = some (.tup [.str "take", .int 0, .ref p3]) := upd_same
      have a4 := d3.fresh n4
      have d4 := d3.same q4
      generalize upd G3 p4 (.tup [.str "take", .int 0, .ref p3]) = G4 at *
      intro p5 n5
      have a5 := d4.fresh n5
      refine ⟨_, rfl, upd_same, [(Sum.inr "take", v)], rfl, (by show 1 ≤ 15; decide), ?_⟩
      have q5 : L2.Same G4 (upd (upd G4 p5 (.dK [])) p5 (.dK (mergeK [] [(Sum.inr "take", v)]))) := by
        rw [upd_upd]
        exact same_upd n5
      have e5 : (upd (upd G4 p5 (.dK [])) p5 (.dK (mergeK [] [(Sum.inr "take", v)]))) p5 = some (.dK [(Sum.inr "take", v)]) := upd_same
      have d5 := d4.same q5
      generalize upd (upd G4 p5 (.dK [])) p5 (.dK (mergeK [] [(Sum.inr "take", v)])) = G5 at *
      refine ⟨_, rfl, (by show 2 ≤ sizeLine; decide), fun p6 n6 => ?_⟩
      have q6 := same_upd n6 (o := .tup [.str "left", v])
      have e6 : upd G5 p6 (.tup [.str "left", v]) p6 = some (.tup [.str "left", v]) := upd_same
      have a6 := d5.fresh n6
      have d6 := d5.same q6
      generalize upd G5 p6 (.tup [.str "left", v]) = G6 at *
      refine ⟨(by show 5 ≤ sizeLine; decide), fun l2 nl2 => ?_⟩
      have q7 := same_upd nl2 (o := .lst [.ref p1, .ref p2, .ref p4, .ref p5, .ref p6])
      refine ⟨h, m + 1 + i, _, rfl, d6.same q7, by show m + 1 + (i : Int) ≤ 1000000; omega, .inl ⟨l2, _, rfl, upd_same, d6.fresh nl2, by simp, by show 5 < 1000; decide, fun v2 H5 mv h5 b5 => ?_⟩⟩
      have al := (((((q1.trans q2).trans q3).trans q4).trans q5).trans q6).trans q7
      have bt : But h Hi H5 := (Same.but al h).trans b5
      obtain ⟨d, dz, nc, wd⟩ := td.same (off_but bt)
      have f1 := off_at a1 (b5 _ _ a1 (q7 _ _ (q6 _ _ (q5 _ _ (q4 _ _ (q3 _ _ (q2 _ _ e1)))))))
      have f2 := off_at a2 (b5 _ _ a2 (q7 _ _ (q6 _ _ (q5 _ _ (q4 _ _ (q3 _ _ e2))))))
      have f3 := off_at a3 (b5 _ _ a3 (q7 _ _ (q6 _ _ (q5 _ _ (q4 _ _ e3)))))
      have f4 := off_at a4 (b5 _ _ a4 (q7 _ _ (q6 _ _ (q5 _ _ e4))))
      have f5 := off_at a5 (b5 _ _ a5 (q7 _ _ (q6 _ _ e5)))
      have f6 := off_at a6 (b5 _ _ a6 (q7 _ _ e6))
      have hl : (reprText ("take" : Str)).length ≤ 10 := by decide +kernel
      have w0 : P56.Wd (k + 2 * i) d := wd
      have one : ∀ {j : Nat} {ds : List PyData}, ds.length ≤ 3 → (∀ e ∈ ds, P56.Wd j e) → P56.Wd (j + 1) (.tuple ds) := fun l q => ⟨by omega, q⟩
      refine ⟨v2, _, rfl, ?_, h5.mono (by push_cast; omega), bi.trans bt⟩
      simp only [List.mem_cons, List.not_mem_nil, or_false] at mv
      rcases mv with e | e | e | e | e
      · subst e
        exact ⟨.tuple [d], .tup f1 (.cons dz .nil), (nice_tup1 nc).mono (by omega) (by omega), wd_up (k := k + 2 * i + 1) (by omega) (one (by simp) fun e he => by rw [List.mem_singleton.mp he]; exact w0)⟩
      · subst e
        exact ⟨.list [d], .lst f2 ne2 (.cons dz .nil), (nice_lst1 nc).mono (by omega) (by omega), by show P56.Wd (k + 2 * (i + 1)) (.list [d]); rw [show k + 2 * (i + 1) = (k + 2 * i + 1) + 1 by omega]; trivial⟩
      · subst e
        refine ⟨.tuple [.str "take", .int 0, .tuple [d]], .tup f4 (.cons (.str _) (.cons (.int 0) (.cons (.tup f3 (.cons dz .nil)) .nil))), (nice_take nc).mono (by omega) (by omega), wd_up (k := k + 2 * i + 2) (by omega) (one (by simp) fun e he => ?_)⟩
        simp only [List.mem_cons, List.not_mem_nil, or_false] at he
        rcases he with rfl | rfl | rfl
        · trivial
        · trivial
        · exact one (by simp) fun e he => by rw [List.mem_singleton.mp he]; exact w0
      · subst e
        exact ⟨.dict [(.str "take", d)], .dct f5 (.cons (k := Sum.inr "take") dz .nil), (nice_dct1 hl nc).mono (by omega) (by omega), by show P56.Wd (k + 2 * (i + 1)) (.dict [(.str "take", d)]); rw [show k + 2 * (i + 1) = (k + 2 * i + 1) + 1 by omega]; trivial⟩
      · subst e
        refine ⟨.tuple [.str "left", d], .tup f6 (.cons (.str _) (.cons dz .nil)), (nice_left nc).mono (by omega) (by omega), wd_up (k := k + 2 * i + 1) (by omega) (one (by simp) fun e he => ?_)⟩
        simp only [List.mem_cons, List.not_mem_nil, or_false] at he
        rcases he with rfl | rfl
        · cases (k + 2 * i) <;> trivial
        · exact w0
    rintro σ He ⟨v, c2, rfl, td, hde, be⟩
    exact ⟨_, rfl, q v He (td.mono (by omega) (by omega)) (hde.mono (by omega)) be⟩
theorem rep_mem {z y : V} {n : Nat} (h : z ∈ (List.replicate n [y]).flatten) : z = y := by
  rw [List.mem_flatten] at h
  obtain ⟨l, hl, hz⟩ := h
  rw [(List.mem_replicate.mp hl).2] at hz
  exact List.mem_singleton.mp hz
theorem rep_len {y : V} {n : Nat} : ((List.replicate n [y]).flatten).length = n := by
  rw [List.flatten_replicate_singleton, List.length_replicate]
def spOddT (K : PySem.W.Frag) : Sp := fun vs H Q _ => ∃ (h a b : Addr) (m : Int) (xs : List V) (hs : List (List Int)) (ms : List Int), vs = [.ref h, .ref a, .ref b] ∧ H a = some (.tup xs) ∧ Hl H xs hs ∧ hs.length ≤ 6 ∧ H b = some (.tup (ms.map V.int)) ∧ ms.length ≤ 20 ∧ Sm ms ∧ Hand m H h ∧ m + 2000 ≤ far ∧
  ∀ L ys H', H' L = some (.lst ys) → L ≠ h → H L = none → ys.length ≤ 40 → (∀ y ∈ ys, Td K (del (del H' L) h) 27 (szT 3 + 1200) y) → Hand (m + 2000) H' h → But h H H' → Q (.ref L) H'
end
end K60
set_option Elab.async false
set_option linter.all false
set_option maxRecDepth 100000
set_option maxHeartbeats 4000000
set_option pp.maxSteps 400
set_option pp.deepTerms false
namespace K60
open PySem PySem.Spec PyProof.Rows L2
open Xk Az
section
variable {P : Program} {w : World} {K : PySem.W.Frag} {mg : Str → Option Value} {base : Heap}
theorem ok_oddT {f : Addr} {fd : FuncData} (D : Df K mg "_law_odd_things" ["_law_hand_here", "_law_held", "_law_wishes"] sOddThings f fd) (T : Txt mg) (cT : Ca P w K mg base 1 "_law_take" ["_law_hand_here", "_law_many"] spTake) (cP : Ca P w K mg base 2 "_law_pick" ["_law_hand_here", "_law_some"] spPick) (cPT : Ca P w K mg base 2 "_law_pick" ["_law_hand_here", "_law_some"] spPickT) (cDp : Ca P w K mg base 3 "_law_deep" ["_law_hand_here", "_law_thing"] (Xfr.spF (spDeep K))) : FnOk P w K mg base CX0 4 f fd ["_law_hand_here", "_law_held", "_law_wishes"] (spOddT K) := by
  refine D.fn.ok scOddThings (fun vs H Q E h => ?_) (fun cdv A outer s H vs Q E hr h => ?_)
  · obtain ⟨h, a, b, m, xs, hs, ms, rfl, ea, hl, l6, eb, l20, sm, hh, hm, q⟩ := h
    rfl
  · obtain ⟨h, a, b, m, xs, hs, ms, rfl, ea, hl, l6, eb, l20, sm, hh, hm, q⟩ := h
    refine ⟨_, (C8.pss_cut (ps_set (i := 3) scOddThings.nd rfl (.inl rfl) (pe_ifExp (pt_cmpR (op_neT0 hr.units) (pv 2) (pe_tup pa_nil) (nomark _)) (pe_ca cPT hr (by decide) (by rfl) (pa_cons (pv 0) (pa_cons (pv 2) pa_nil))) pe_int))
      (pss_cons (ps_par (i := 4) (j := 5) (by rfl) scOddThings.nd rfl rfl (by decide) rfl rfl (pa_cons (pe_ca cP hr (by decide) (by rfl) (pa_cons (pv 0) (pa_cons (pe_lst (pa_cons pe_str (pa_cons pe_str (pa_cons pe_str (pa_cons pe_str (pa_cons pe_str (pa_cons pe_str pa_nil))))))) pa_nil))) (pa_cons (pe_ca cT hr (by decide) (by rfl) (pa_cons (pv 0) (pa_cons (pe_op op_add (pe_callB call_len_seq (by rfl) T.len PySem.boot_len (pa_cons (pv 1) pa_nil)) pe_int) pa_nil))) pa_nil)) (by rfl))
      (pss_cons (ps_set (i := 6) scOddThings.nd rfl (.inl rfl) (pe_lst (pa_cons pe_non (pa_cons pe_bl (pa_cons pe_int (pa_cons pe_str (pa_cons (pe_tup pa_nil) (pa_cons (pe_lstZ pa_nil) (pa_cons pe_dnewK (pa_cons (pe_tup (pa_cons (pv 4) pa_nil)) (pa_cons (pe_tup (pa_cons (pv 4) (pa_cons (pv 3) pa_nil))) (pa_cons (pe_tup (pa_cons (pv 4) (pa_cons (pe_tup (pa_cons (pv 3) pa_nil)) pa_nil))) (pa_cons (pe_tup (pa_cons (pv 4) (pa_cons (pv 3) (pa_cons (pe_tup pa_nil) pa_nil)))) (pa_cons (pe_lstZ (pa_cons (pv 4) (pa_cons (pv 3) pa_nil))) pa_nil))))))))))))))
      (pss_cons (ps_set (i := 6) scOddThings.nd rfl (.inl rfl) (pe_op op_cat (pv 6) (pe_lst (pa_cons (pe_tup (pa_cons (pv 4) (pa_cons (pv 3) (pa_cons (pe_op Xrp.op_repU (pe_tup (pa_cons (pe_tup (pa_cons pe_str (pa_cons (pv 3) pa_nil))) pa_nil)) (pv 5)) pa_nil)))) (pa_cons (pe_tup (pa_cons (pv 4) (pa_cons (pv 3) (pa_cons (pe_op Xrp.op_repZ (pe_lst (pa_cons (pe_tup (pa_cons pe_str (pa_cons (pv 3) pa_nil))) pa_nil)) (pv 5)) pa_nil)))) (pa_cons (pe_tup (pa_cons (pv 4) (pa_cons (pv 2) pa_nil))) pa_nil))))))
      (pss_cons (ps_set (i := 6) scOddThings.nd rfl (.inl rfl) (pe_op op_cat (pv 6) (pe_lst (pa_cons (pe_tup (pa_cons (pv 4) (pa_cons (pe_callTy cr_listT (by rfl) T.list (by decide +kernel) (pa_cons (pv 2) pa_nil)) pa_nil))) (pa_cons (pe_tup (pa_cons (pv 4) (pa_cons (pv 3) (pa_cons (pe_op Xrp.op_repU (pe_tup (pa_cons pe_non pa_nil)) (pv 5)) pa_nil)))) (pa_cons (pe_tup (pa_cons (pv 4) (pa_cons pe_bl pa_nil))) (pa_cons (pe_tup (pa_cons (pv 4) (pa_cons (pe_tup (pa_cons pe_bl pa_nil)) pa_nil))) pa_nil)))))))
      (pss_cons (ps_set (i := 6) scOddThings.nd rfl (.inl rfl) (pe_op op_cat (pv 6) (pe_lst (pa_cons (pe_tup (pa_cons (pv 3) (pa_cons (pv 4) pa_nil))) (pa_cons (pe_tup (pa_cons (pv 4) (pa_cons (pv 4) pa_nil))) (pa_cons (pe_tup (pa_cons (pv 4) (pa_cons (pe_revN (pv 2)) pa_nil))) (pa_cons (pe_tup (pa_cons (pv 4) (pa_cons (pe_op op_catU (pv 2) (pe_slice sl_tupU (pv 2) (po_some (pe_un un_neg pe_int)) po_none)) pa_nil))) (pa_cons (pe_tup (pa_cons (pv 4) (pa_cons (pe_un un_neg pe_int) pa_nil))) pa_nil))))))))
      (pss_cons (ps_set (i := 6) scOddThings.nd rfl (.inl rfl) (pe_op op_cat (pv 6) (pe_lst (pa_cons (pe_tup (pa_cons (pv 4) (pa_cons (pv 3) (pa_cons (pe_tup pa_nil) (pa_cons (pe_tup pa_nil) pa_nil))))) (pa_cons (pe_tup (pa_cons (pv 4) (pa_cons (pv 3) (pa_cons (pv 3) pa_nil)))) pa_nil)))))
      (pss_one (ps_ret (pe_lc (own := [("_law_one", 7)]) (g := gName 7) (tt := tYes) (te := tIf (tTest (tOp rEq (tCall spTake [] E0 (tCons (tVar 0) (tCons (tC (V.int 3)) tNil))) (tC (V.int 0)))) (tCall (Xfr.spF (spDeep K)) [] E0 (tCons (tVar 0) (tCons (tVar 7) tNil))) (tVar 7)) (by rfl) scOddThings.nd (pi_list (pv 6)) (blkOk_by (own := [("_law_one", 7)]) (N := ["_law_hand_here", "_law_held", "_law_wishes", "_law_wish", "_law_word", "_law_many", "_law_some", "_law_one"]) (sc := defScope sOddThings) (by decide +kernel)) (fun _ _ _ _ _ => pg_name (i := 7) scOddThings.nd rfl (.inl rfl)) (fun _ _ _ _ _ => pts_nil) (fun _ _ _ _ _ => pe_ifExp (pt_cmpR op_eq (pe_ca cT hr (by decide) (by rfl) (pa_cons (pv 0) (pa_cons pe_int pa_nil))) pe_int (nomark _)) (pe_ca cDp hr (by decide) (by rfl) (pa_cons (pv 0) (pa_cons (pv 7) pa_nil))) (pv 7)))))))))))), ?_⟩
    have fr : m + 2000 ≤ 1000000 := hm
    have nah := hh.ne_tup (K := K) ea
    have nbh := hh.ne_tup (K := K) eb
    have lh := hl.len
    refine ⟨fun σ Hx => ∃ g : Int, σ = [some (.ref h), some (.ref a), some (.ref b), some (.int g), none, none, none, none] ∧ 0 ≤ g ∧ g < 10 ^ 31 ∧ But h H Hx ∧ Hand (m + 1) Hx h, ?_, ?_⟩
    · refine ⟨_, rfl, (by show 0 ≤ sizeLine; decide), fun z nz => ?_⟩
      have sz := same_upd nz (o := .tup [])
      refine ⟨b, z, _, rfl, rfl, sz _ _ eb, upd_same, _, rfl, ?_⟩
      generalize upd H z (.tup []) = H1 at *
      by_cases m0 : ms = []
      · subst m0
        exact iteF ⟨0, rfl, by decide, by decide, Same.but sz h, (hh.same sz).mono (by omega)⟩
      · have mp : ms.map V.int ≠ [] := by simpa using m0
        rw [show (!(ms.map V.int).isEmpty) = true by cases ms with | nil => exact absurd rfl m0 | cons _ _ => rfl]
        refine iteT ⟨_, rfl, _, rfl, h, b, m, _, rfl, hh.same sz, (by show _ ≤ (1000000 : Int); omega), sz _ _ eb, nbh, mp, by rw [List.length_map]; omega, fun u H2 mu h2 b2 => ?_⟩
        obtain ⟨g, hg, rfl⟩ := List.mem_map.mp mu
        exact ⟨g, rfl, (sm g hg).1, (sm g hg).2, (Same.but sz h).trans b2, h2⟩
    rintro σ H1 ⟨g, rfl, g0, g1, b1, h1⟩
    refine ⟨_, rfl, (by show 6 ≤ sizeLine; decide), fun l1 n1 => ?_⟩
    have s1 := same_upd n1 (o := .lst [.str "take", .str "left", .str "apart", .str "Take", .str "", .str "fewest"])
    refine ⟨h, m + 1, _, rfl, h1.same s1, (by show _ ≤ (1000000 : Int); omega), .inl ⟨l1, _, rfl, upd_same, h1.fresh n1, by simp, by show 6 < 1000; decide, fun v H2 mv h2 b2 => ?_⟩⟩
    obtain ⟨x, rfl, hx⟩ : ∃ x : Str, v = .str x ∧ (reprText x).length ≤ 50 := by
      simp only [List.mem_cons, List.not_mem_nil, or_false] at mv
      rcases mv with e | e | e | e | e | e <;> exact ⟨_, e, by decide +kernel⟩
    have b12 : But h H H2 := (b1.trans (Same.but s1 h)).trans b2
    refine ⟨_, rfl, _, rfl, a, xs, rfl, .inr (SqT.of (b12 _ _ nah ea)), _, 2, rfl, rfl, h, (xs.length : Int) + 2, m + 1 + 1, rfl, by omega, lt30' (by omega), h2, (by show _ ≤ (1000000 : Int); omega), fun d H3 d0 d1 h3 b3 => ⟨_, _, rfl, ?_⟩⟩
    have b13 : But h H H3 := b12.trans b3
    have eb3 := b13 _ _ nbh eb
    clear b12 b3 b2 s1 n1 mv h2 h1 b1
    have cutsz : ((ms.map V.int).length + (cutV (ms.map V.int) (some (-1)) none).length) ≤ sizeLine := by
      have := cutV_length (ms.map V.int) (some (-1)) none
      rw [List.length_map] at this ⊢
      exact Nat.le_trans (show _ ≤ 100 by omega) (by decide)
    refine ⟨(by show 0 ≤ sizeLine; decide), fun p1 n2 => ?_⟩
    have s3 := same_upd n2 (o := .tup [])
    have e4 : (upd H3 p1 (.tup [])) p1 = some (.tup []) := upd_same
    generalize upd H3 p1 (.tup []) = G5 at s3 e4 ⊢
    refine ⟨(by show 0 ≤ sizeLine; decide), fun p6 n7 ne11 => ?_⟩
    have a12 := (h3.same s3).fresh n7
    have s8 := same_upd n7 (o := .lst [])
    have e9 : (upd G5 p6 (.lst [])) p6 = some (.lst []) := upd_same
    generalize upd G5 p6 (.lst []) = G10 at s8 e9 ⊢
    intro p13 n14
    have a18 := ((h3.same s3).same s8).fresh n14
    have s15 := same_upd n14 (o := .dK [])
    have e16 : (upd G10 p13 (.dK [])) p13 = some (.dK []) := upd_same
    generalize upd G10 p13 (.dK []) = G17 at s15 e16 ⊢
    refine ⟨_, rfl, (by show 1 ≤ sizeLine; decide), fun p19 n20 => ?_⟩
    have s21 := same_upd n20 (o := .tup [.str x])
    have e22 : (upd G17 p19 (.tup [.str x])) p19 = some (.tup [.str x]) := upd_same
    generalize upd G17 p19 (.tup [.str x]) = G23 at s21 e22 ⊢
    refine ⟨_, rfl, _, rfl, (by show 2 ≤ sizeLine; decide), fun p24 n25 => ?_⟩
    have s26 := same_upd n25 (o := .tup [.str x, .int g])
    have e27 : (upd G23 p24 (.tup [.str x, .int g])) p24 = some (.tup [.str x, .int g]) := upd_same
    generalize upd G23 p24 (.tup [.str x, .int g]) = G28 at s26 e27 ⊢
    refine ⟨_, rfl, _, rfl, (by show 1 ≤ sizeLine; decide), fun p29 n30 => ?_⟩
    have s31 := same_upd n30 (o := .tup [.int g])
    have e32 : (upd G28 p29 (.tup [.int g])) p29 = some (.tup [.int g]) := upd_same
    generalize upd G28 p29 (.tup [.int g]) = G33 at s31 e32 ⊢
    refine ⟨(by show 2 ≤ sizeLine; decide), fun p34 n35 => ?_⟩
    have s36 := same_upd n35 (o := .tup [.str x, .ref p29])
    have e37 : (upd G33 p34 (.tup [.str x, .ref p29])) p34 = some (.tup [.str x, .ref p29]) := upd_same
    generalize upd G33 p34 (.tup [.str x, .ref p29]) = G38 at s36 e37 ⊢
    refine ⟨_, rfl, _, rfl, (by show 0 ≤ sizeLine; decide), fun p39 n40 => ?_⟩
    have s41 := same_upd n40 (o := .tup [])
    have e42 : (upd G38 p39 (.tup [])) p39 = some (.tup []) := upd_same
    generalize upd G38 p39 (.tup []) = G43 at s41 e42 ⊢
    refine ⟨(by show 3 ≤ sizeLine; decide), fun p44 n45 => ?_⟩
    have s46 := same_upd n45 (o := .tup [.str x, .int g, .ref p39])
    have e47 : (upd G43 p44 (.tup [.str x, .int g, .ref p39])) p44 = some (.tup [.str x, .int g, .ref p39]) := upd_same
    generalize upd G43 p44 (.tup [.str x, .int g, .ref p39]) = G48 at s46 e47 ⊢
    refine ⟨_, rfl, _, rfl, (by show 2 ≤ sizeLine; decide), fun p49 n50 ne54 => ?_⟩
    have a55 := (((((((((h3.same s3).same s8).same s15).same s21).same s26).same s31).same s36).same s41).same s46).fresh n50
    have s51 := same_upd n50 (o := .lst [.str x, .int g])
    have e52 : (upd G48 p49 (.lst [.str x, .int g])) p49 = some (.lst [.str x, .int g]) := upd_same
    generalize upd G48 p49 (.lst [.str x, .int g]) = G53 at s51 e52 ⊢
    refine ⟨(by show 12 ≤ sizeLine; decide), fun p56 n57 => ?_⟩
    have s58 := same_upd n57 (o := .lst [.non, .bl true, .int 0, .str "left", .ref p1, .ref p6, .ref p13, .ref p19, .ref p24, .ref p34, .ref p44, .ref p49])
    have e59 : (upd G53 p56 (.lst [.non, .bl true, .int 0, .str "left", .ref p1, .ref p6, .ref p13, .ref p19, .ref p24, .ref p34, .ref p44, .ref p49])) p56 = some (.lst [.non, .bl true, .int 0, .str "left", .ref p1, .ref p6, .ref p13, .ref p19, .ref p24, .ref p34, .ref p44, .ref p49]) := upd_same
    generalize upd G53 p56 (.lst [.non, .bl true, .int 0, .str "left", .ref p1, .ref p6, .ref p13, .ref p19, .ref p24, .ref p34, .ref p44, .ref p49]) = G60 at s58 e59 ⊢
    refine ⟨_, rfl, _, rfl, _, rfl, _, rfl, (by show 2 ≤ sizeLine; decide), fun p61 n62 => ?_⟩
    have s63 := same_upd n62 (o := .tup [.str "left", .int g])
    have e64 : (upd G60 p61 (.tup [.str "left", .int g])) p61 = some (.tup [.str "left", .int g]) := upd_same
    generalize upd G60 p61 (.tup [.str "left", .int g]) = G65 at s63 e64 ⊢
    refine ⟨(by show 1 ≤ sizeLine; decide), fun p66 n67 => ?_⟩
    have s68 := same_upd n67 (o := .tup [.ref p61])
    have e69 : (upd G65 p66 (.tup [.ref p61])) p66 = some (.tup [.ref p61]) := upd_same
    generalize upd G65 p66 (.tup [.ref p61]) = G70 at s68 e69 ⊢
    refine ⟨_, rfl, p66, d, _, rfl, rfl, e69, by simp, by omega, by omega, by simp, fun p71 G72 s73 e74 => ?_⟩
    refine ⟨(by show 3 ≤ sizeLine; decide), fun p75 n76 => ?_⟩
    have s77 := same_upd n76 (o := .tup [.str x, .int g, .ref p71])
    have e78 : (upd G72 p75 (.tup [.str x, .int g, .ref p71])) p75 = some (.tup [.str x, .int g, .ref p71]) := upd_same
    generalize upd G72 p75 (.tup [.str x, .int g, .ref p71]) = G79 at s77 e78 ⊢
    refine ⟨_, rfl, _, rfl, _, rfl, (by show 2 ≤ sizeLine; decide), fun p80 n81 => ?_⟩
    have s82 := same_upd n81 (o := .tup [.str "left", .int g])
    have e83 : (upd G79 p80 (.tup [.str "left", .int g])) p80 = some (.tup [.str "left", .int g]) := upd_same
    generalize upd G79 p80 (.tup [.str "left", .int g]) = G84 at s82 e83 ⊢
    refine ⟨(by show 1 ≤ sizeLine; decide), fun p85 n86 => ?_⟩
    have s87 := same_upd n86 (o := .lst [.ref p80])
    have e88 : (upd G84 p85 (.lst [.ref p80])) p85 = some (.lst [.ref p80]) := upd_same
    generalize upd G84 p85 (.lst [.ref p80]) = G89 at s87 e88 ⊢
    refine ⟨_, rfl, p85, d, _, rfl, rfl, e88, by omega, by omega, by simp, fun p90 n91 ne95 => ?_⟩
    have a96 := (((((((((((((((((h3.same s3).same s8).same s15).same s21).same s26).same s31).same s36).same s41).same s46).same s51).same s58).same s63).same s68).same s73).same s77).same s82).same s87).fresh n91
    have s92 := same_upd n91 (o := .lst (List.replicate d.toNat [.ref p80]).flatten)
    have e93 : (upd G89 p90 (.lst (List.replicate d.toNat [.ref p80]).flatten)) p90 = some (.lst (List.replicate d.toNat [.ref p80]).flatten) := upd_same
    generalize upd G89 p90 (.lst (List.replicate d.toNat [.ref p80]).flatten) = G94 at s92 e93 ⊢
    refine ⟨(by show 3 ≤ sizeLine; decide), fun p97 n98 => ?_⟩
    have s99 := same_upd n98 (o := .tup [.str x, .int g, .ref p90])
    have e100 : (upd G94 p97 (.tup [.str x, .int g, .ref p90])) p97 = some (.tup [.str x, .int g, .ref p90]) := upd_same
    generalize upd G94 p97 (.tup [.str x, .int g, .ref p90]) = G101 at s99 e100 ⊢
    refine ⟨_, rfl, _, rfl, (by show 2 ≤ sizeLine; decide), fun p102 n103 => ?_⟩
    have s104 := same_upd n103 (o := .tup [.str x, .ref b])
    have e105 : (upd G101 p102 (.tup [.str x, .ref b])) p102 = some (.tup [.str x, .ref b]) := upd_same
    generalize upd G101 p102 (.tup [.str x, .ref b]) = G106 at s104 e105 ⊢
    refine ⟨(by show 3 ≤ sizeLine; decide), fun p107 n108 => ?_⟩
    have s109 := same_upd n108 (o := .lst [.ref p75, .ref p97, .ref p102])
    have e110 : (upd G106 p107 (.lst [.ref p75, .ref p97, .ref p102])) p107 = some (.lst [.ref p75, .ref p97, .ref p102]) := upd_same
    generalize upd G106 p107 (.lst [.ref p75, .ref p97, .ref p102]) = G111 at s109 e110 ⊢
    refine ⟨p56, p107, _, _, rfl, rfl, (s109 _ _ (s104 _ _ (s99 _ _ (s92 _ _ (s87 _ _ (s82 _ _ (s77 _ _ (s73 _ _ (s68 _ _ (s63 _ _ e59)))))))))), e110, (by show 12 + 3 ≤ sizeLine; decide), fun p112 n113 => ?_⟩
    have s114 := same_upd n113 (o := .lst ([.non, .bl true, .int 0, .str "left", .ref p1, .ref p6, .ref p13, .ref p19, .ref p24, .ref p34, .ref p44, .ref p49] ++ [.ref p75, .ref p97, .ref p102]))
    have e115 : (upd G111 p112 (.lst ([.non, .bl true, .int 0, .str "left", .ref p1, .ref p6, .ref p13, .ref p19, .ref p24, .ref p34, .ref p44, .ref p49] ++ [.ref p75, .ref p97, .ref p102]))) p112 = some (.lst ([.non, .bl true, .int 0, .str "left", .ref p1, .ref p6, .ref p13, .ref p19, .ref p24, .ref p34, .ref p44, .ref p49] ++ [.ref p75, .ref p97, .ref p102])) := upd_same
    generalize upd G111 p112 (.lst ([.non, .bl true, .int 0, .str "left", .ref p1, .ref p6, .ref p13, .ref p19, .ref p24, .ref p34, .ref p44, .ref p49] ++ [.ref p75, .ref p97, .ref p102])) = G116 at s114 e115 ⊢
    refine ⟨_, rfl, _, rfl, _, rfl, b, _, rfl, SqT.of (s114 _ _ (s109 _ _ (s104 _ _ (s99 _ _ (s92 _ _ (s87 _ _ (s82 _ _ (s77 _ _ (s73 _ _ (s68 _ _ (s63 _ _ (s58 _ _ (s51 _ _ (s46 _ _ (s41 _ _ (s36 _ _ (s31 _ _ (s26 _ _ (s21 _ _ (s15 _ _ (s8 _ _ (s3 _ _ eb3)))))))))))))))))))))), fun p117 n118 ne122 => ?_⟩
    have a123 := ((((((((((((((((((((((h3.same s3).same s8).same s15).same s21).same s26).same s31).same s36).same s41).same s46).same s51).same s58).same s63).same s68).same s73).same s77).same s82).same s87).same s92).same s99).same s104).same s109).same s114).fresh n118
    have s119 := same_upd n118 (o := .lst (ms.map V.int))
    have e120 : (upd G116 p117 (.lst (ms.map V.int))) p117 = some (.lst (ms.map V.int)) := upd_same
    generalize upd G116 p117 (.lst (ms.map V.int)) = G121 at s119 e120 ⊢
    refine ⟨(by show 2 ≤ sizeLine; decide), fun p124 n125 => ?_⟩
    have s126 := same_upd n125 (o := .tup [.str x, .ref p117])
    have e127 : (upd G121 p124 (.tup [.str x, .ref p117])) p124 = some (.tup [.str x, .ref p117]) := upd_same
    generalize upd G121 p124 (.tup [.str x, .ref p117]) = G128 at s126 e127 ⊢
    refine ⟨_, rfl, _, rfl, (by show 1 ≤ sizeLine; decide), fun p129 n130 => ?_⟩
    have s131 := same_upd n130 (o := .tup [.non])
    have e132 : (upd G128 p129 (.tup [.non])) p129 = some (.tup [.non]) := upd_same
    generalize upd G128 p129 (.tup [.non]) = G133 at s131 e132 ⊢
    refine ⟨_, rfl, p129, d, _, rfl, rfl, e132, by simp, by omega, by omega, by simp, fun p134 G135 s136 e137 => ?_⟩
    refine ⟨(by show 3 ≤ sizeLine; decide), fun p138 n139 => ?_⟩
    have s140 := same_upd n139 (o := .tup [.str x, .int g, .ref p134])
    have e141 : (upd G135 p138 (.tup [.str x, .int g, .ref p134])) p138 = some (.tup [.str x, .int g, .ref p134]) := upd_same
    generalize upd G135 p138 (.tup [.str x, .int g, .ref p134]) = G142 at s140 e141 ⊢
    refine ⟨_, rfl, (by show 2 ≤ sizeLine; decide), fun p143 n144 => ?_⟩
    have s145 := same_upd n144 (o := .tup [.str x, .bl true])
    have e146 : (upd G142 p143 (.tup [.str x, .bl true])) p143 = some (.tup [.str x, .bl true]) := upd_same
    generalize upd G142 p143 (.tup [.str x, .bl true]) = G147 at s145 e146 ⊢
    refine ⟨_, rfl, (by show 1 ≤ sizeLine; decide), fun p148 n149 => ?_⟩
    have s150 := same_upd n149 (o := .tup [.bl true])
    have e151 : (upd G147 p148 (.tup [.bl true])) p148 = some (.tup [.bl true]) := upd_same
    generalize upd G147 p148 (.tup [.bl true]) = G152 at s150 e151 ⊢
    refine ⟨(by show 2 ≤ sizeLine; decide), fun p153 n154 => ?_⟩
    have s155 := same_upd n154 (o := .tup [.str x, .ref p148])
    have e156 : (upd G152 p153 (.tup [.str x, .ref p148])) p153 = some (.tup [.str x, .ref p148]) := upd_same
    generalize upd G152 p153 (.tup [.str x, .ref p148]) = G157 at s155 e156 ⊢
    refine ⟨(by show 4 ≤ sizeLine; decide), fun p158 n159 => ?_⟩
    have s160 := same_upd n159 (o := .lst [.ref p124, .ref p138, .ref p143, .ref p153])
    have e161 : (upd G157 p158 (.lst [.ref p124, .ref p138, .ref p143, .ref p153])) p158 = some (.lst [.ref p124, .ref p138, .ref p143, .ref p153]) := upd_same
    generalize upd G157 p158 (.lst [.ref p124, .ref p138, .ref p143, .ref p153]) = G162 at s160 e161 ⊢
    refine ⟨p112, p158, _, _, rfl, rfl, (s160 _ _ (s155 _ _ (s150 _ _ (s145 _ _ (s140 _ _ (s136 _ _ (s131 _ _ (s126 _ _ (s119 _ _ e115))))))))), e161, (by show 15 + 4 ≤ sizeLine; decide), fun p163 n164 => ?_⟩
    have s165 := same_upd n164 (o := .lst (([.non, .bl true, .int 0, .str "left", .ref p1, .ref p6, .ref p13, .ref p19, .ref p24, .ref p34, .ref p44, .ref p49] ++ [.ref p75, .ref p97, .ref p102]) ++ [.ref p124, .ref p138, .ref p143, .ref p153]))
    have e166 : (upd G162 p163 (.lst (([.non, .bl true, .int 0, .str "left", .ref p1, .ref p6, .ref p13, .ref p19, .ref p24, .ref p34, .ref p44, .ref p49] ++ [.ref p75, .ref p97, .ref p102]) ++ [.ref p124, .ref p138, .ref p143, .ref p153]))) p163 = some (.lst (([.non, .bl true, .int 0, .str "left", .ref p1, .ref p6, .ref p13, .ref p19, .ref p24, .ref p34, .ref p44, .ref p49] ++ [.ref p75, .ref p97, .ref p102]) ++ [.ref p124, .ref p138, .ref p143, .ref p153])) := upd_same
    generalize upd G162 p163 (.lst (([.non, .bl true, .int 0, .str "left", .ref p1, .ref p6, .ref p13, .ref p19, .ref p24, .ref p34, .ref p44, .ref p49] ++ [.ref p75, .ref p97, .ref p102]) ++ [.ref p124, .ref p138, .ref p143, .ref p153])) = G167 at s165 e166 ⊢
    refine ⟨_, rfl, _, rfl, _, rfl, (by show 2 ≤ sizeLine; decide), fun p168 n169 => ?_⟩
    have s170 := same_upd n169 (o := .tup [.int g, .str x])
    have e171 : (upd G167 p168 (.tup [.int g, .str x])) p168 = some (.tup [.int g, .str x]) := upd_same
    generalize upd G167 p168 (.tup [.int g, .str x]) = G172 at s170 e171 ⊢
    refine ⟨_, rfl, _, rfl, (by show 2 ≤ sizeLine; decide), fun p173 n174 => ?_⟩
    have s175 := same_upd n174 (o := .tup [.str x, .str x])
    have e176 : (upd G172 p173 (.tup [.str x, .str x])) p173 = some (.tup [.str x, .str x]) := upd_same
    generalize upd G172 p173 (.tup [.str x, .str x]) = G177 at s175 e176 ⊢
    refine ⟨_, rfl, _, rfl, b, _, rfl, (s175 _ _ (s170 _ _ (s165 _ _ (s160 _ _ (s155 _ _ (s150 _ _ (s145 _ _ (s140 _ _ (s136 _ _ (s131 _ _ (s126 _ _ (s119 _ _ (s114 _ _ (s109 _ _ (s104 _ _ (s99 _ _ (s92 _ _ (s87 _ _ (s82 _ _ (s77 _ _ (s73 _ _ (s68 _ _ (s63 _ _ (s58 _ _ (s51 _ _ (s46 _ _ (s41 _ _ (s36 _ _ (s31 _ _ (s26 _ _ (s21 _ _ (s15 _ _ (s8 _ _ (s3 _ _ eb3)))))))))))))))))))))))))))))))))), fun p178 G179 s180 e181 => ?_⟩
    refine ⟨(by show 2 ≤ sizeLine; decide), fun p182 n183 => ?_⟩
    have s184 := same_upd n183 (o := .tup [.str x, .ref p178])
    have e185 : (upd G179 p182 (.tup [.str x, .ref p178])) p182 = some (.tup [.str x, .ref p178]) := upd_same
    generalize upd G179 p182 (.tup [.str x, .ref p178]) = G186 at s184 e185 ⊢
    refine ⟨_, rfl, _, rfl, _, rfl, 1, rfl, -1, rfl, b, _, rfl, (s184 _ _ (s180 _ _ (s175 _ _ (s170 _ _ (s165 _ _ (s160 _ _ (s155 _ _ (s150 _ _ (s145 _ _ (s140 _ _ (s136 _ _ (s131 _ _ (s126 _ _ (s119 _ _ (s114 _ _ (s109 _ _ (s104 _ _ (s99 _ _ (s92 _ _ (s87 _ _ (s82 _ _ (s77 _ _ (s73 _ _ (s68 _ _ (s63 _ _ (s58 _ _ (s51 _ _ (s46 _ _ (s41 _ _ (s36 _ _ (s31 _ _ (s26 _ _ (s21 _ _ (s15 _ _ (s8 _ _ (s3 _ _ eb3)))))))))))))))))))))))))))))))))))), fun p187 G188 s189 e190 => ?_⟩
    refine ⟨b, p187, _, _, rfl, rfl, (s189 _ _ (s184 _ _ (s180 _ _ (s175 _ _ (s170 _ _ (s165 _ _ (s160 _ _ (s155 _ _ (s150 _ _ (s145 _ _ (s140 _ _ (s136 _ _ (s131 _ _ (s126 _ _ (s119 _ _ (s114 _ _ (s109 _ _ (s104 _ _ (s99 _ _ (s92 _ _ (s87 _ _ (s82 _ _ (s77 _ _ (s73 _ _ (s68 _ _ (s63 _ _ (s58 _ _ (s51 _ _ (s46 _ _ (s41 _ _ (s36 _ _ (s31 _ _ (s26 _ _ (s21 _ _ (s15 _ _ (s8 _ _ (s3 _ _ eb3))))))))))))))))))))))))))))))))))))), e190, cutsz, fun p191 G192 s193 e194 => ?_⟩
    refine ⟨(by show 2 ≤ sizeLine; decide), fun p195 n196 => ?_⟩
    have s197 := same_upd n196 (o := .tup [.str x, .ref p191])
    have e198 : (upd G192 p195 (.tup [.str x, .ref p191])) p195 = some (.tup [.str x, .ref p191]) := upd_same
    generalize upd G192 p195 (.tup [.str x, .ref p191]) = G199 at s197 e198 ⊢
    refine ⟨_, rfl, 1, rfl, (by show 2 ≤ sizeLine; decide), fun p200 n201 => ?_⟩
    have s202 := same_upd n201 (o := .tup [.str x, .int (-1)])
    have e203 : (upd G199 p200 (.tup [.str x, .int (-1)])) p200 = some (.tup [.str x, .int (-1)]) := upd_same
    generalize upd G199 p200 (.tup [.str x, .int (-1)]) = G204 at s202 e203 ⊢
    refine ⟨(by show 5 ≤ sizeLine; decide), fun p205 n206 => ?_⟩
    have s207 := same_upd n206 (o := .lst [.ref p168, .ref p173, .ref p182, .ref p195, .ref p200])
    have e208 : (upd G204 p205 (.lst [.ref p168, .ref p173, .ref p182, .ref p195, .ref p200])) p205 = some (.lst [.ref p168, .ref p173, .ref p182, .ref p195, .ref p200]) := upd_same
    generalize upd G204 p205 (.lst [.ref p168, .ref p173, .ref p182, .ref p195, .ref p200]) = G209 at s207 e208 ⊢
    refine ⟨p163, p205, _, _, rfl, rfl, (s207 _ _ (s202 _ _ (s197 _ _ (s193 _ _ (s189 _ _ (s184 _ _ (s180 _ _ (s175 _ _ (s170 _ _ e166))))))))), e208, (by show 19 + 5 ≤ sizeLine; decide), fun p210 n211 => ?_⟩
    have s212 := same_upd n211 (o := .lst ((([.non, .bl true, .int 0, .str "left", .ref p1, .ref p6, .ref p13, .ref p19, .ref p24, .ref p34, .ref p44, .ref p49] ++ [.ref p75, .ref p97, .ref p102]) ++ [.ref p124, .ref p138, .ref p143, .ref p153]) ++ [.ref p168, .ref p173, .ref p182, .ref p195, .ref p200]))
    have e213 : (upd G209 p210 (.lst ((([.non, .bl true, .int 0, .str "left", .ref p1, .ref p6, .ref p13, .ref p19, .ref p24, .ref p34, .ref p44, .ref p49] ++ [.ref p75, .ref p97, .ref p102]) ++ [.ref p124, .ref p138, .ref p143, .ref p153]) ++ [.ref p168, .ref p173, .ref p182, .ref p195, .ref p200]))) p210 = some (.lst ((([.non, .bl true, .int 0, .str "left", .ref p1, .ref p6, .ref p13, .ref p19, .ref p24, .ref p34, .ref p44, .ref p49] ++ [.ref p75, .ref p97, .ref p102]) ++ [.ref p124, .ref p138, .ref p143, .ref p153]) ++ [.ref p168, .ref p173, .ref p182, .ref p195, .ref p200])) := upd_same
    generalize upd G209 p210 (.lst ((([.non, .bl true, .int 0, .str "left", .ref p1, .ref p6, .ref p13, .ref p19, .ref p24, .ref p34, .ref p44, .ref p49] ++ [.ref p75, .ref p97, .ref p102]) ++ [.ref p124, .ref p138, .ref p143, .ref p153]) ++ [.ref p168, .ref p173, .ref p182, .ref p195, .ref p200])) = G214 at s212 e213 ⊢
    refine ⟨_, rfl, _, rfl, _, rfl, (by show 0 ≤ sizeLine; decide), fun p215 n216 => ?_⟩
    have s217 := same_upd n216 (o := .tup [])
    have e218 : (upd G214 p215 (.tup [])) p215 = some (.tup []) := upd_same
    generalize upd G214 p215 (.tup []) = G219 at s217 e218 ⊢
    refine ⟨(by show 0 ≤ sizeLine; decide), fun p220 n221 => ?_⟩
    have s222 := same_upd n221 (o := .tup [])
    have e223 : (upd G219 p220 (.tup [])) p220 = some (.tup []) := upd_same
    generalize upd G219 p220 (.tup []) = G224 at s222 e223 ⊢
    refine ⟨(by show 4 ≤ sizeLine; decide), fun p225 n226 => ?_⟩
    have s227 := same_upd n226 (o := .tup [.str x, .int g, .ref p215, .ref p220])
    have e228 : (upd G224 p225 (.tup [.str x, .int g, .ref p215, .ref p220])) p225 = some (.tup [.str x, .int g, .ref p215, .ref p220]) := upd_same
    generalize upd G224 p225 (.tup [.str x, .int g, .ref p215, .ref p220]) = G229 at s227 e228 ⊢
    refine ⟨_, rfl, _, rfl, _, rfl, (by show 3 ≤ sizeLine; decide), fun p230 n231 => ?_⟩
    have s232 := same_upd n231 (o := .tup [.str x, .int g, .int g])
    have e233 : (upd G229 p230 (.tup [.str x, .int g, .int g])) p230 = some (.tup [.str x, .int g, .int g]) := upd_same
    generalize upd G229 p230 (.tup [.str x, .int g, .int g]) = G234 at s232 e233 ⊢
    refine ⟨(by show 2 ≤ sizeLine; decide), fun p235 n236 => ?_⟩
    have s237 := same_upd n236 (o := .lst [.ref p225, .ref p230])
    have e238 : (upd G234 p235 (.lst [.ref p225, .ref p230])) p235 = some (.lst [.ref p225, .ref p230]) := upd_same
    generalize upd G234 p235 (.lst [.ref p225, .ref p230]) = G239 at s237 e238 ⊢
    refine ⟨p210, p235, _, _, rfl, rfl, (s237 _ _ (s232 _ _ (s227 _ _ (s222 _ _ (s217 _ _ e213))))), e238, (by show 24 + 2 ≤ sizeLine; decide), fun p240 n241 => ?_⟩
    have s242 := same_upd n241 (o := .lst (((([.non, .bl true, .int 0, .str "left", .ref p1, .ref p6, .ref p13, .ref p19, .ref p24, .ref p34, .ref p44, .ref p49] ++ [.ref p75, .ref p97, .ref p102]) ++ [.ref p124, .ref p138, .ref p143, .ref p153]) ++ [.ref p168, .ref p173, .ref p182, .ref p195, .ref p200]) ++ [.ref p225, .ref p230]))
    have e243 : (upd G239 p240 (.lst (((([.non, .bl true, .int 0, .str "left", .ref p1, .ref p6, .ref p13, .ref p19, .ref p24, .ref p34, .ref p44, .ref p49] ++ [.ref p75, .ref p97, .ref p102]) ++ [.ref p124, .ref p138, .ref p143, .ref p153]) ++ [.ref p168, .ref p173, .ref p182, .ref p195, .ref p200]) ++ [.ref p225, .ref p230]))) p240 = some (.lst (((([.non, .bl true, .int 0, .str "left", .ref p1, .ref p6, .ref p13, .ref p19, .ref p24, .ref p34, .ref p44, .ref p49] ++ [.ref p75, .ref p97, .ref p102]) ++ [.ref p124, .ref p138, .ref p143, .ref p153]) ++ [.ref p168, .ref p173, .ref p182, .ref p195, .ref p200]) ++ [.ref p225, .ref p230])) := upd_same
    generalize upd G239 p240 (.lst (((([.non, .bl true, .int 0, .str "left", .ref p1, .ref p6, .ref p13, .ref p19, .ref p24, .ref p34, .ref p44, .ref p49] ++ [.ref p75, .ref p97, .ref p102]) ++ [.ref p124, .ref p138, .ref p143, .ref p153]) ++ [.ref p168, .ref p173, .ref p182, .ref p195, .ref p200]) ++ [.ref p225, .ref p230])) = G244 at s242 e243 ⊢
    have hF := ((((((((((((((((((((((((((((((((((((((((((((((((h3.same s3).same s8).same s15).same s21).same s26).same s31).same s36).same s41).same s46).same s51).same s58).same s63).same s68).same s73).same s77).same s82).same s87).same s92).same s99).same s104).same s109).same s114).same s119).same s126).same s131).same s136).same s140).same s145).same s150).same s155).same s160).same s165).same s170).same s175).same s180).same s184).same s189).same s193).same s197).same s202).same s207).same s212).same s217).same s222).same s227).same s232).same s237).same s242)
    have sAll := (((((((((((((((((((((((((((((((((((((((((((((((s3.trans s8).trans s15).trans s21).trans s26).trans s31).trans s36).trans s41).trans s46).trans s51).trans s58).trans s63).trans s68).trans s73).trans s77).trans s82).trans s87).trans s92).trans s99).trans s104).trans s109).trans s114).trans s119).trans s126).trans s131).trans s136).trans s140).trans s145).trans s150).trans s155).trans s160).trans s165).trans s170).trans s175).trans s180).trans s184).trans s189).trans s193).trans s197).trans s202).trans s207).trans s212).trans s217).trans s222).trans s227).trans s232).trans s237).trans s242)
    have f_p1 := (s242 _ _ (s237 _ _ (s232 _ _ (s227 _ _ (s222 _ _ (s217 _ _ (s212 _ _ (s207 _ _ (s202 _ _ (s197 _ _ (s193 _ _ (s189 _ _ (s184 _ _ (s180 _ _ (s175 _ _ (s170 _ _ (s165 _ _ (s160 _ _ (s155 _ _ (s150 _ _ (s145 _ _ (s140 _ _ (s136 _ _ (s131 _ _ (s126 _ _ (s119 _ _ (s114 _ _ (s109 _ _ (s104 _ _ (s99 _ _ (s92 _ _ (s87 _ _ (s82 _ _ (s77 _ _ (s73 _ _ (s68 _ _ (s63 _ _ (s58 _ _ (s51 _ _ (s46 _ _ (s41 _ _ (s36 _ _ (s31 _ _ (s26 _ _ (s21 _ _ (s15 _ _ (s8 _ _ e4)))))))))))))))))))))))))))))))))))))))))))))))
    have f_p6 := (s242 _ _ (s237 _ _ (s232 _ _ (s227 _ _ (s222 _ _ (s217 _ _ (s212 _ _ (s207 _ _ (s202 _ _ (s197 _ _ (s193 _ _ (s189 _ _ (s184 _ _ (s180 _ _ (s175 _ _ (s170 _ _ (s165 _ _ (s160 _ _ (s155 _ _ (s150 _ _ (s145 _ _ (s140 _ _ (s136 _ _ (s131 _ _ (s126 _ _ (s119 _ _ (s114 _ _ (s109 _ _ (s104 _ _ (s99 _ _ (s92 _ _ (s87 _ _ (s82 _ _ (s77 _ _ (s73 _ _ (s68 _ _ (s63 _ _ (s58 _ _ (s51 _ _ (s46 _ _ (s41 _ _ (s36 _ _ (s31 _ _ (s26 _ _ (s21 _ _ (s15 _ _ e9))))))))))))))))))))))))))))))))))))))))))))))
    have f_p13 := (s242 _ _ (s237 _ _ (s232 _ _ (s227 _ _ (s222 _ _ (s217 _ _ (s212 _ _ (s207 _ _ (s202 _ _ (s197 _ _ (s193 _ _ (s189 _ _ (s184 _ _ (s180 _ _ (s175 _ _ (s170 _ _ (s165 _ _ (s160 _ _ (s155 _ _ (s150 _ _ (s145 _ _ (s140 _ _ (s136 _ _ (s131 _ _ (s126 _ _ (s119 _ _ (s114 _ _ (s109 _ _ (s104 _ _ (s99 _ _ (s92 _ _ (s87 _ _ (s82 _ _ (s77 _ _ (s73 _ _ (s68 _ _ (s63 _ _ (s58 _ _ (s51 _ _ (s46 _ _ (s41 _ _ (s36 _ _ (s31 _ _ (s26 _ _ (s21 _ _ e16)))))))))))))))))))))))))))))))))))))))))))))
    have f_p19 := (s242 _ _ (s237 _ _ (s232 _ _ (s227 _ _ (s222 _ _ (s217 _ _ (s212 _ _ (s207 _ _ (s202 _ _ (s197 _ _ (s193 _ _ (s189 _ _ (s184 _ _ (s180 _ _ (s175 _ _ (s170 _ _ (s165 _ _ (s160 _ _ (s155 _ _ (s150 _ _ (s145 _ _ (s140 _ _ (s136 _ _ (s131 _ _ (s126 _ _ (s119 _ _ (s114 _ _ (s109 _ _ (s104 _ _ (s99 _ _ (s92 _ _ (s87 _ _ (s82 _ _ (s77 _ _ (s73 _ _ (s68 _ _ (s63 _ _ (s58 _ _ (s51 _ _ (s46 _ _ (s41 _ _ (s36 _ _ (s31 _ _ (s26 _ _ e22))))))))))))))))))))))))))))))))))))))))))))
    have f_p24 := (s242 _ _ (s237 _ _ (s232 _ _ (s227 _ _ (s222 _ _ (s217 _ _ (s212 _ _ (s207 _ _ (s202 _ _ (s197 _ _ (s193 _ _ (s189 _ _ (s184 _ _ (s180 _ _ (s175 _ _ (s170 _ _ (s165 _ _ (s160 _ _ (s155 _ _ (s150 _ _ (s145 _ _ (s140 _ _ (s136 _ _ (s131 _ _ (s126 _ _ (s119 _ _ (s114 _ _ (s109 _ _ (s104 _ _ (s99 _ _ (s92 _ _ (s87 _ _ (s82 _ _ (s77 _ _ (s73 _ _ (s68 _ _ (s63 _ _ (s58 _ _ (s51 _ _ (s46 _ _ (s41 _ _ (s36 _ _ (s31 _ _ e27)))))))))))))))))))))))))))))))))))))))))))
    have f_p29 := (s242 _ _ (s237 _ _ (s232 _ _ (s227 _ _ (s222 _ _ (s217 _ _ (s212 _ _ (s207 _ _ (s202 _ _ (s197 _ _ (s193 _ _ (s189 _ _ (s184 _ _ (s180 _ _ (s175 _ _ (s170 _ _ (s165 _ _ (s160 _ _ (s155 _ _ (s150 _ _ (s145 _ _ (s140 _ _ (s136 _ _ (s131 _ _ (s126 _ _ (s119 _ _ (s114 _ _ (s109 _ _ (s104 _ _ (s99 _ _ (s92 _ _ (s87 _ _ (s82 _ _ (s77 _ _ (s73 _ _ (s68 _ _ (s63 _ _ (s58 _ _ (s51 _ _ (s46 _ _ (s41 _ _ (s36 _ _ e32))))))))))))))))))))))))))))))))))))))))))
    have f_p34 := (s242 _ _ (s237 _ _ (s232 _ _ (s227 _ _ (s222 _ _ (s217 _ _ (s212 _ _ (s207 _ _ (s202 _ _ (s197 _ _ (s193 _ _ (s189 _ _ (s184 _ _ (s180 _ _ (s175 _ _ (s170 _ _ (s165 _ _ (s160 _ _ (s155 _ _ (s150 _ _ (s145 _ _ (s140 _ _ (s136 _ _ (s131 _ _ (s126 _ _ (s119 _ _ (s114 _ _ (s109 _ _ (s104 _ _ (s99 _ _ (s92 _ _ (s87 _ _ (s82 _ _ (s77 _ _ (s73 _ _ (s68 _ _ (s63 _ _ (s58 _ _ (s51 _ _ (s46 _ _ (s41 _ _ e37)))))))))))))))))))))))))))))))))))))))))
    have f_p39 := (s242 _ _ (s237 _ _ (s232 _ _ (s227 _ _ (s222 _ _ (s217 _ _ (s212 _ _ (s207 _ _ (s202 _ _ (s197 _ _ (s193 _ _ (s189 _ _ (s184 _ _ (s180 _ _ (s175 _ _ (s170 _ _ (s165 _ _ (s160 _ _ (s155 _ _ (s150 _ _ (s145 _ _ (s140 _ _ (s136 _ _ (s131 _ _ (s126 _ _ (s119 _ _ (s114 _ _ (s109 _ _ (s104 _ _ (s99 _ _ (s92 _ _ (s87 _ _ (s82 _ _ (s77 _ _ (s73 _ _ (s68 _ _ (s63 _ _ (s58 _ _ (s51 _ _ (s46 _ _ e42))))))))))))))))))))))))))))))))))))))))
    have f_p44 := (s242 _ _ (s237 _ _ (s232 _ _ (s227 _ _ (s222 _ _ (s217 _ _ (s212 _ _ (s207 _ _ (s202 _ _ (s197 _ _ (s193 _ _ (s189 _ _ (s184 _ _ (s180 _ _ (s175 _ _ (s170 _ _ (s165 _ _ (s160 _ _ (s155 _ _ (s150 _ _ (s145 _ _ (s140 _ _ (s136 _ _ (s131 _ _ (s126 _ _ (s119 _ _ (s114 _ _ (s109 _ _ (s104 _ _ (s99 _ _ (s92 _ _ (s87 _ _ (s82 _ _ (s77 _ _ (s73 _ _ (s68 _ _ (s63 _ _ (s58 _ _ (s51 _ _ e47)))))))))))))))))))))))))))))))))))))))
    have f_p49 := (s242 _ _ (s237 _ _ (s232 _ _ (s227 _ _ (s222 _ _ (s217 _ _ (s212 _ _ (s207 _ _ (s202 _ _ (s197 _ _ (s193 _ _ (s189 _ _ (s184 _ _ (s180 _ _ (s175 _ _ (s170 _ _ (s165 _ _ (s160 _ _ (s155 _ _ (s150 _ _ (s145 _ _ (s140 _ _ (s136 _ _ (s131 _ _ (s126 _ _ (s119 _ _ (s114 _ _ (s109 _ _ (s104 _ _ (s99 _ _ (s92 _ _ (s87 _ _ (s82 _ _ (s77 _ _ (s73 _ _ (s68 _ _ (s63 _ _ (s58 _ _ e52))))))))))))))))))))))))))))))))))))))
    have f_p56 := (s242 _ _ (s237 _ _ (s232 _ _ (s227 _ _ (s222 _ _ (s217 _ _ (s212 _ _ (s207 _ _ (s202 _ _ (s197 _ _ (s193 _ _ (s189 _ _ (s184 _ _ (s180 _ _ (s175 _ _ (s170 _ _ (s165 _ _ (s160 _ _ (s155 _ _ (s150 _ _ (s145 _ _ (s140 _ _ (s136 _ _ (s131 _ _ (s126 _ _ (s119 _ _ (s114 _ _ (s109 _ _ (s104 _ _ (s99 _ _ (s92 _ _ (s87 _ _ (s82 _ _ (s77 _ _ (s73 _ _ (s68 _ _ (s63 _ _ e59)))))))))))))))))))))))))))))))))))))
    have f_p61 := (s242 _ _ (s237 _ _ (s232 _ _ (s227 _ _ (s222 _ _ (s217 _ _ (s212 _ _ (s207 _ _ (s202 _ _ (s197 _ _ (s193 _ _ (s189 _ _ (s184 _ _ (s180 _ _ (s175 _ _ (s170 _ _ (s165 _ _ (s160 _ _ (s155 _ _ (s150 _ _ (s145 _ _ (s140 _ _ (s136 _ _ (s131 _ _ (s126 _ _ (s119 _ _ (s114 _ _ (s109 _ _ (s104 _ _ (s99 _ _ (s92 _ _ (s87 _ _ (s82 _ _ (s77 _ _ (s73 _ _ (s68 _ _ e64))))))))))))))))))))))))))))))))))))
    have f_p66 := (s242 _ _ (s237 _ _ (s232 _ _ (s227 _ _ (s222 _ _ (s217 _ _ (s212 _ _ (s207 _ _ (s202 _ _ (s197 _ _ (s193 _ _ (s189 _ _ (s184 _ _ (s180 _ _ (s175 _ _ (s170 _ _ (s165 _ _ (s160 _ _ (s155 _ _ (s150 _ _ (s145 _ _ (s140 _ _ (s136 _ _ (s131 _ _ (s126 _ _ (s119 _ _ (s114 _ _ (s109 _ _ (s104 _ _ (s99 _ _ (s92 _ _ (s87 _ _ (s82 _ _ (s77 _ _ (s73 _ _ e69)))))))))))))))))))))))))))))))))))
    have f_p71 := (s242 _ _ (s237 _ _ (s232 _ _ (s227 _ _ (s222 _ _ (s217 _ _ (s212 _ _ (s207 _ _ (s202 _ _ (s197 _ _ (s193 _ _ (s189 _ _ (s184 _ _ (s180 _ _ (s175 _ _ (s170 _ _ (s165 _ _ (s160 _ _ (s155 _ _ (s150 _ _ (s145 _ _ (s140 _ _ (s136 _ _ (s131 _ _ (s126 _ _ (s119 _ _ (s114 _ _ (s109 _ _ (s104 _ _ (s99 _ _ (s92 _ _ (s87 _ _ (s82 _ _ (s77 _ _ e74))))))))))))))))))))))))))))))))))
    have f_p75 := (s242 _ _ (s237 _ _ (s232 _ _ (s227 _ _ (s222 _ _ (s217 _ _ (s212 _ _ (s207 _ _ (s202 _ _ (s197 _ _ (s193 _ _ (s189 _ _ (s184 _ _ (s180 _ _ (s175 _ _ (s170 _ _ (s165 _ _ (s160 _ _ (s155 _ _ (s150 _ _ (s145 _ _ (s140 _ _ (s136 _ _ (s131 _ _ (s126 _ _ (s119 _ _ (s114 _ _ (s109 _ _ (s104 _ _ (s99 _ _ (s92 _ _ (s87 _ _ (s82 _ _ e78)))))))))))))))))))))))))))))))))
    have f_p80 := (s242 _ _ (s237 _ _ (s232 _ _ (s227 _ _ (s222 _ _ (s217 _ _ (s212 _ _ (s207 _ _ (s202 _ _ (s197 _ _ (s193 _ _ (s189 _ _ (s184 _ _ (s180 _ _ (s175 _ _ (s170 _ _ (s165 _ _ (s160 _ _ (s155 _ _ (s150 _ _ (s145 _ _ (s140 _ _ (s136 _ _ (s131 _ _ (s126 _ _ (s119 _ _ (s114 _ _ (s109 _ _ (s104 _ _ (s99 _ _ (s92 _ _ (s87 _ _ e83))))))))))))))))))))))))))))))))
    have f_p85 := (s242 _ _ (s237 _ _ (s232 _ _ (s227 _ _ (s222 _ _ (s217 _ _ (s212 _ _ (s207 _ _ (s202 _ _ (s197 _ _ (s193 _ _ (s189 _ _ (s184 _ _ (s180 _ _ (s175 _ _ (s170 _ _ (s165 _ _ (s160 _ _ (s155 _ _ (s150 _ _ (s145 _ _ (s140 _ _ (s136 _ _ (s131 _ _ (s126 _ _ (s119 _ _ (s114 _ _ (s109 _ _ (s104 _ _ (s99 _ _ (s92 _ _ e88)))))))))))))))))))))))))))))))
    have f_p90 := (s242 _ _ (s237 _ _ (s232 _ _ (s227 _ _ (s222 _ _ (s217 _ _ (s212 _ _ (s207 _ _ (s202 _ _ (s197 _ _ (s193 _ _ (s189 _ _ (s184 _ _ (s180 _ _ (s175 _ _ (s170 _ _ (s165 _ _ (s160 _ _ (s155 _ _ (s150 _ _ (s145 _ _ (s140 _ _ (s136 _ _ (s131 _ _ (s126 _ _ (s119 _ _ (s114 _ _ (s109 _ _ (s104 _ _ (s99 _ _ e93))))))))))))))))))))))))))))))
    have f_p97 := (s242 _ _ (s237 _ _ (s232 _ _ (s227 _ _ (s222 _ _ (s217 _ _ (s212 _ _ (s207 _ _ (s202 _ _ (s197 _ _ (s193 _ _ (s189 _ _ (s184 _ _ (s180 _ _ (s175 _ _ (s170 _ _ (s165 _ _ (s160 _ _ (s155 _ _ (s150 _ _ (s145 _ _ (s140 _ _ (s136 _ _ (s131 _ _ (s126 _ _ (s119 _ _ (s114 _ _ (s109 _ _ (s104 _ _ e100)))))))))))))))))))))))))))))
    have f_p102 := (s242 _ _ (s237 _ _ (s232 _ _ (s227 _ _ (s222 _ _ (s217 _ _ (s212 _ _ (s207 _ _ (s202 _ _ (s197 _ _ (s193 _ _ (s189 _ _ (s184 _ _ (s180 _ _ (s175 _ _ (s170 _ _ (s165 _ _ (s160 _ _ (s155 _ _ (s150 _ _ (s145 _ _ (s140 _ _ (s136 _ _ (s131 _ _ (s126 _ _ (s119 _ _ (s114 _ _ (s109 _ _ e105))))))))))))))))))))))))))))
    have f_p107 := (s242 _ _ (s237 _ _ (s232 _ _ (s227 _ _ (s222 _ _ (s217 _ _ (s212 _ _ (s207 _ _ (s202 _ _ (s197 _ _ (s193 _ _ (s189 _ _ (s184 _ _ (s180 _ _ (s175 _ _ (s170 _ _ (s165 _ _ (s160 _ _ (s155 _ _ (s150 _ _ (s145 _ _ (s140 _ _ (s136 _ _ (s131 _ _ (s126 _ _ (s119 _ _ (s114 _ _ e110)))))))))))))))))))))))))))
    have f_p112 := (s242 _ _ (s237 _ _ (s232 _ _ (s227 _ _ (s222 _ _ (s217 _ _ (s212 _ _ (s207 _ _ (s202 _ _ (s197 _ _ (s193 _ _ (s189 _ _ (s184 _ _ (s180 _ _ (s175 _ _ (s170 _ _ (s165 _ _ (s160 _ _ (s155 _ _ (s150 _ _ (s145 _ _ (s140 _ _ (s136 _ _ (s131 _ _ (s126 _ _ (s119 _ _ e115))))))))))))))))))))))))))
    have f_b := (s242 _ _ (s237 _ _ (s232 _ _ (s227 _ _ (s222 _ _ (s217 _ _ (s212 _ _ (s207 _ _ (s202 _ _ (s197 _ _ (s193 _ _ (s189 _ _ (s184 _ _ (s180 _ _ (s175 _ _ (s170 _ _ (s165 _ _ (s160 _ _ (s155 _ _ (s150 _ _ (s145 _ _ (s140 _ _ (s136 _ _ (s131 _ _ (s126 _ _ (s119 _ _ (s114 _ _ (s109 _ _ (s104 _ _ (s99 _ _ (s92 _ _ (s87 _ _ (s82 _ _ (s77 _ _ (s73 _ _ (s68 _ _ (s63 _ _ (s58 _ _ (s51 _ _ (s46 _ _ (s41 _ _ (s36 _ _ (s31 _ _ (s26 _ _ (s21 _ _ (s15 _ _ (s8 _ _ (s3 _ _ eb3))))))))))))))))))))))))))))))))))))))))))))))))
    have f_p117 := (s242 _ _ (s237 _ _ (s232 _ _ (s227 _ _ (s222 _ _ (s217 _ _ (s212 _ _ (s207 _ _ (s202 _ _ (s197 _ _ (s193 _ _ (s189 _ _ (s184 _ _ (s180 _ _ (s175 _ _ (s170 _ _ (s165 _ _ (s160 _ _ (s155 _ _ (s150 _ _ (s145 _ _ (s140 _ _ (s136 _ _ (s131 _ _ (s126 _ _ e120)))))))))))))))))))))))))
    have f_p124 := (s242 _ _ (s237 _ _ (s232 _ _ (s227 _ _ (s222 _ _ (s217 _ _ (s212 _ _ (s207 _ _ (s202 _ _ (s197 _ _ (s193 _ _ (s189 _ _ (s184 _ _ (s180 _ _ (s175 _ _ (s170 _ _ (s165 _ _ (s160 _ _ (s155 _ _ (s150 _ _ (s145 _ _ (s140 _ _ (s136 _ _ (s131 _ _ e127))))))))))))))))))))))))
    have f_p129 := (s242 _ _ (s237 _ _ (s232 _ _ (s227 _ _ (s222 _ _ (s217 _ _ (s212 _ _ (s207 _ _ (s202 _ _ (s197 _ _ (s193 _ _ (s189 _ _ (s184 _ _ (s180 _ _ (s175 _ _ (s170 _ _ (s165 _ _ (s160 _ _ (s155 _ _ (s150 _ _ (s145 _ _ (s140 _ _ (s136 _ _ e132)))))))))))))))))))))))
    have f_p134 := (s242 _ _ (s237 _ _ (s232 _ _ (s227 _ _ (s222 _ _ (s217 _ _ (s212 _ _ (s207 _ _ (s202 _ _ (s197 _ _ (s193 _ _ (s189 _ _ (s184 _ _ (s180 _ _ (s175 _ _ (s170 _ _ (s165 _ _ (s160 _ _ (s155 _ _ (s150 _ _ (s145 _ _ (s140 _ _ e137))))))))))))))))))))))
    have f_p138 := (s242 _ _ (s237 _ _ (s232 _ _ (s227 _ _ (s222 _ _ (s217 _ _ (s212 _ _ (s207 _ _ (s202 _ _ (s197 _ _ (s193 _ _ (s189 _ _ (s184 _ _ (s180 _ _ (s175 _ _ (s170 _ _ (s165 _ _ (s160 _ _ (s155 _ _ (s150 _ _ (s145 _ _ e141)))))))))))))))))))))
    have f_p143 := (s242 _ _ (s237 _ _ (s232 _ _ (s227 _ _ (s222 _ _ (s217 _ _ (s212 _ _ (s207 _ _ (s202 _ _ (s197 _ _ (s193 _ _ (s189 _ _ (s184 _ _ (s180 _ _ (s175 _ _ (s170 _ _ (s165 _ _ (s160 _ _ (s155 _ _ (s150 _ _ e146))))))))))))))))))))
    have f_p148 := (s242 _ _ (s237 _ _ (s232 _ _ (s227 _ _ (s222 _ _ (s217 _ _ (s212 _ _ (s207 _ _ (s202 _ _ (s197 _ _ (s193 _ _ (s189 _ _ (s184 _ _ (s180 _ _ (s175 _ _ (s170 _ _ (s165 _ _ (s160 _ _ (s155 _ _ e151)))))))))))))))))))
    have f_p153 := (s242 _ _ (s237 _ _ (s232 _ _ (s227 _ _ (s222 _ _ (s217 _ _ (s212 _ _ (s207 _ _ (s202 _ _ (s197 _ _ (s193 _ _ (s189 _ _ (s184 _ _ (s180 _ _ (s175 _ _ (s170 _ _ (s165 _ _ (s160 _ _ e156))))))))))))))))))
    have f_p158 := (s242 _ _ (s237 _ _ (s232 _ _ (s227 _ _ (s222 _ _ (s217 _ _ (s212 _ _ (s207 _ _ (s202 _ _ (s197 _ _ (s193 _ _ (s189 _ _ (s184 _ _ (s180 _ _ (s175 _ _ (s170 _ _ (s165 _ _ e161)))))))))))))))))
    have f_p163 := (s242 _ _ (s237 _ _ (s232 _ _ (s227 _ _ (s222 _ _ (s217 _ _ (s212 _ _ (s207 _ _ (s202 _ _ (s197 _ _ (s193 _ _ (s189 _ _ (s184 _ _ (s180 _ _ (s175 _ _ (s170 _ _ e166))))))))))))))))
    have f_p168 := (s242 _ _ (s237 _ _ (s232 _ _ (s227 _ _ (s222 _ _ (s217 _ _ (s212 _ _ (s207 _ _ (s202 _ _ (s197 _ _ (s193 _ _ (s189 _ _ (s184 _ _ (s180 _ _ (s175 _ _ e171)))))))))))))))
    have f_p173 := (s242 _ _ (s237 _ _ (s232 _ _ (s227 _ _ (s222 _ _ (s217 _ _ (s212 _ _ (s207 _ _ (s202 _ _ (s197 _ _ (s193 _ _ (s189 _ _ (s184 _ _ (s180 _ _ e176))))))))))))))
    have f_p178 := (s242 _ _ (s237 _ _ (s232 _ _ (s227 _ _ (s222 _ _ (s217 _ _ (s212 _ _ (s207 _ _ (s202 _ _ (s197 _ _ (s193 _ _ (s189 _ _ (s184 _ _ e181)))))))))))))
    have f_p182 := (s242 _ _ (s237 _ _ (s232 _ _ (s227 _ _ (s222 _ _ (s217 _ _ (s212 _ _ (s207 _ _ (s202 _ _ (s197 _ _ (s193 _ _ (s189 _ _ e185))))))))))))
    have f_p187 := (s242 _ _ (s237 _ _ (s232 _ _ (s227 _ _ (s222 _ _ (s217 _ _ (s212 _ _ (s207 _ _ (s202 _ _ (s197 _ _ (s193 _ _ e190)))))))))))
    have f_p191 := (s242 _ _ (s237 _ _ (s232 _ _ (s227 _ _ (s222 _ _ (s217 _ _ (s212 _ _ (s207 _ _ (s202 _ _ (s197 _ _ e194))))))))))
    have f_p195 := (s242 _ _ (s237 _ _ (s232 _ _ (s227 _ _ (s222 _ _ (s217 _ _ (s212 _ _ (s207 _ _ (s202 _ _ e198)))))))))
    have f_p200 := (s242 _ _ (s237 _ _ (s232 _ _ (s227 _ _ (s222 _ _ (s217 _ _ (s212 _ _ (s207 _ _ e203))))))))
    have f_p205 := (s242 _ _ (s237 _ _ (s232 _ _ (s227 _ _ (s222 _ _ (s217 _ _ (s212 _ _ e208)))))))
    have f_p210 := (s242 _ _ (s237 _ _ (s232 _ _ (s227 _ _ (s222 _ _ (s217 _ _ e213))))))
    have f_p215 := (s242 _ _ (s237 _ _ (s232 _ _ (s227 _ _ (s222 _ _ e218)))))
    have f_p220 := (s242 _ _ (s237 _ _ (s232 _ _ (s227 _ _ e223))))
    have f_p225 := (s242 _ _ (s237 _ _ (s232 _ _ e228)))
    have f_p230 := (s242 _ _ (s237 _ _ e233))
    have f_p235 := (s242 _ _ e238)
    have f_p240 := e243
    have ints0 : ∀ z ∈ ms.map V.int, Td K (del G244 h) 0 (szT 0) z := fun z hz => by
      obtain ⟨i, hi, rfl⟩ := List.mem_map.mp hz
      obtain ⟨i0, i1⟩ := sm i hi
      exact td_int (by omega) i1
    have wish1 : Td K (del G244 h) 1 (szT 1) (.ref b) := td_tup (k := 0) nbh f_b (by rw [List.length_map]; omega) ints0
    have t0 : Td K (del G244 h) 3 (szT 3) (.non) := (td_non.mono (Nat.le_refl _) (by decide))
    have t1 : Td K (del G244 h) 3 (szT 3) (.bl true) := ((td_bl true).mono (Nat.le_refl _) (by decide))
    have t2 : Td K (del G244 h) 3 (szT 3) (.int 0) := ((td_int (by decide) (by decide)).mono (Nat.le_refl _) (by decide))
    have t3 : Td K (del G244 h) 3 (szT 3) (.str "left") := ((td_str (by decide +kernel)).mono (Nat.le_refl _) (by decide))
    have t4 : Td K (del G244 h) 3 (szT 3) (.ref p1) := (td_tup (k := 2) (hF.ne_tup (K := K) f_p1) f_p1 (by simp) (fun z hz => by cases hz))
    have t5 : Td K (del G244 h) 3 (szT 3) (.ref p6) := (td_lst (k := 2) a12 ne11 f_p6 (by simp) (fun z hz => by cases hz))
    have t6 : Td K (del G244 h) 3 (szT 3) (.ref p13) := ((td_dct (k := 2) a18 f_p13).mono (Nat.le_refl _) (by decide))
    have t7 : Td K (del G244 h) 3 (szT 3) (.ref p19) := (td_tup (k := 2) (hF.ne_tup (K := K) f_p19) f_p19 (by simp) (fun z hz => by
            simp only [List.mem_cons, List.not_mem_nil, or_false] at hz
            rcases hz with rfl
            · exact ((td_str hx).mono (Nat.le_refl _) (by decide))))
    have t8 : Td K (del G244 h) 3 (szT 3) (.ref p24) := (td_tup (k := 2) (hF.ne_tup (K := K) f_p24) f_p24 (by simp) (fun z hz => by
            simp only [List.mem_cons, List.not_mem_nil, or_false] at hz
            rcases hz with rfl | rfl
            · exact ((td_str hx).mono (Nat.le_refl _) (by decide))
            · exact ((td_int (by omega) g1).mono (Nat.le_refl _) (by decide))))
    have t9 : Td K (del G244 h) 3 (szT 3) (.ref p34) := (td_tup (k := 2) (hF.ne_tup (K := K) f_p34) f_p34 (by simp) (fun z hz => by
            simp only [List.mem_cons, List.not_mem_nil, or_false] at hz
            rcases hz with rfl | rfl
            · exact ((td_str hx).mono (Nat.le_refl _) (by decide))
            · exact (td_tup (k := 1) (hF.ne_tup (K := K) f_p29) f_p29 (by simp) (fun z hz => by
            simp only [List.mem_cons, List.not_mem_nil, or_false] at hz
            rcases hz with rfl
            · exact ((td_int (by omega) g1).mono (Nat.le_refl _) (by decide))))))
    have t10 : Td K (del G244 h) 3 (szT 3) (.ref p44) := (td_tup (k := 2) (hF.ne_tup (K := K) f_p44) f_p44 (by simp) (fun z hz => by
            simp only [List.mem_cons, List.not_mem_nil, or_false] at hz
            rcases hz with rfl | rfl | rfl
            · exact ((td_str hx).mono (Nat.le_refl _) (by decide))
            · exact ((td_int (by omega) g1).mono (Nat.le_refl _) (by decide))
            · exact (td_tup (k := 1) (hF.ne_tup (K := K) f_p39) f_p39 (by simp) (fun z hz => by cases hz))))
    have t11 : Td K (del G244 h) 3 (szT 3) (.ref p49) := (td_lst (k := 2) a55 ne54 f_p49 (by simp) (fun z hz => by
            simp only [List.mem_cons, List.not_mem_nil, or_false] at hz
            rcases hz with rfl | rfl
            · exact ((td_str hx).mono (Nat.le_refl _) (by decide))
            · exact ((td_int (by omega) g1).mono (Nat.le_refl _) (by decide))))
    have t12 : Td K (del G244 h) 3 (szT 3) (.ref p75) := (td_tup (k := 2) (hF.ne_tup (K := K) f_p75) f_p75 (by simp) (fun z hz => by
            simp only [List.mem_cons, List.not_mem_nil, or_false] at hz
            rcases hz with rfl | rfl | rfl
            · exact ((td_str hx).mono (Nat.le_refl _) (by decide))
            · exact ((td_int (by omega) g1).mono (Nat.le_refl _) (by decide))
            · exact (td_tup (k := 1) (hF.ne_tup (K := K) f_p71) f_p71 (by rw [rep_len]; omega) (fun z hz => by rw [rep_mem hz]; exact (td_tup (k := 0) (hF.ne_tup (K := K) f_p61) f_p61 (by simp) (fun z hz => by
            simp only [List.mem_cons, List.not_mem_nil, or_false] at hz
            rcases hz with rfl | rfl
            · exact ((td_str (by decide +kernel)).mono (Nat.le_refl _) (by decide))
            · exact ((td_int (by omega) g1).mono (Nat.le_refl _) (by decide))))))))
    have t13 : Td K (del G244 h) 3 (szT 3) (.ref p97) := (td_tup (k := 2) (hF.ne_tup (K := K) f_p97) f_p97 (by simp) (fun z hz => by
            simp only [List.mem_cons, List.not_mem_nil, or_false] at hz
            rcases hz with rfl | rfl | rfl
            · exact ((td_str hx).mono (Nat.le_refl _) (by decide))
            · exact ((td_int (by omega) g1).mono (Nat.le_refl _) (by decide))
            · exact (td_lst (k := 1) a96 ne95 f_p90 (by rw [rep_len]; omega) (fun z hz => by rw [rep_mem hz]; exact (td_tup (k := 0) (hF.ne_tup (K := K) f_p80) f_p80 (by simp) (fun z hz => by
            simp only [List.mem_cons, List.not_mem_nil, or_false] at hz
            rcases hz with rfl | rfl
            · exact ((td_str (by decide +kernel)).mono (Nat.le_refl _) (by decide))
            · exact ((td_int (by omega) g1).mono (Nat.le_refl _) (by decide))))))))
    have t14 : Td K (del G244 h) 3 (szT 3) (.ref p102) := (td_tup (k := 2) (hF.ne_tup (K := K) f_p102) f_p102 (by simp) (fun z hz => by
            simp only [List.mem_cons, List.not_mem_nil, or_false] at hz
            rcases hz with rfl | rfl
            · exact ((td_str hx).mono (Nat.le_refl _) (by decide))
            · exact (td_up wish1 (by decide) : Td K (del G244 h) 2 (szT 2) (.ref b))))
    have t15 : Td K (del G244 h) 3 (szT 3) (.ref p124) := (td_tup (k := 2) (hF.ne_tup (K := K) f_p124) f_p124 (by simp) (fun z hz => by
            simp only [List.mem_cons, List.not_mem_nil, or_false] at hz
            rcases hz with rfl | rfl
            · exact ((td_str hx).mono (Nat.le_refl _) (by decide))
            · exact (td_lst (k := 1) a123 ne122 f_p117 (by rw [List.length_map]; omega) (fun z hz => td_up (ints0 z hz) (by decide)))))
    have t16 : Td K (del G244 h) 3 (szT 3) (.ref p138) := (td_tup (k := 2) (hF.ne_tup (K := K) f_p138) f_p138 (by simp) (fun z hz => by
            simp only [List.mem_cons, List.not_mem_nil, or_false] at hz
            rcases hz with rfl | rfl | rfl
            · exact ((td_str hx).mono (Nat.le_refl _) (by decide))
            · exact ((td_int (by omega) g1).mono (Nat.le_refl _) (by decide))
            · exact (td_tup (k := 1) (hF.ne_tup (K := K) f_p134) f_p134 (by rw [rep_len]; omega) (fun z hz => by rw [rep_mem hz]; exact (td_non.mono (Nat.le_refl _) (by decide))))))
    have t17 : Td K (del G244 h) 3 (szT 3) (.ref p143) := (td_tup (k := 2) (hF.ne_tup (K := K) f_p143) f_p143 (by simp) (fun z hz => by
            simp only [List.mem_cons, List.not_mem_nil, or_false] at hz
            rcases hz with rfl | rfl
            · exact ((td_str hx).mono (Nat.le_refl _) (by decide))
            · exact ((td_bl true).mono (Nat.le_refl _) (by decide))))
    have t18 : Td K (del G244 h) 3 (szT 3) (.ref p153) := (td_tup (k := 2) (hF.ne_tup (K := K) f_p153) f_p153 (by simp) (fun z hz => by
            simp only [List.mem_cons, List.not_mem_nil, or_false] at hz
            rcases hz with rfl | rfl
            · exact ((td_str hx).mono (Nat.le_refl _) (by decide))
            · exact (td_tup (k := 1) (hF.ne_tup (K := K) f_p148) f_p148 (by simp) (fun z hz => by
            simp only [List.mem_cons, List.not_mem_nil, or_false] at hz
            rcases hz with rfl
            · exact ((td_bl true).mono (Nat.le_refl _) (by decide))))))
    have t19 : Td K (del G244 h) 3 (szT 3) (.ref p168) := (td_tup (k := 2) (hF.ne_tup (K := K) f_p168) f_p168 (by simp) (fun z hz => by
            simp only [List.mem_cons, List.not_mem_nil, or_false] at hz
            rcases hz with rfl | rfl
            · exact ((td_int (by omega) g1).mono (Nat.le_refl _) (by decide))
            · exact ((td_str hx).mono (Nat.le_refl _) (by decide))))
    have t20 : Td K (del G244 h) 3 (szT 3) (.ref p173) := (td_tup (k := 2) (hF.ne_tup (K := K) f_p173) f_p173 (by simp) (fun z hz => by
            simp only [List.mem_cons, List.not_mem_nil, or_false] at hz
            rcases hz with rfl | rfl
            · exact ((td_str hx).mono (Nat.le_refl _) (by decide))
            · exact ((td_str hx).mono (Nat.le_refl _) (by decide))))
    have t21 : Td K (del G244 h) 3 (szT 3) (.ref p182) := (td_tup (k := 2) (hF.ne_tup (K := K) f_p182) f_p182 (by simp) (fun z hz => by
            simp only [List.mem_cons, List.not_mem_nil, or_false] at hz
            rcases hz with rfl | rfl
            · exact ((td_str hx).mono (Nat.le_refl _) (by decide))
            · exact (td_tup (k := 1) (hF.ne_tup (K := K) f_p178) f_p178 (by rw [List.length_reverse, List.length_map]; omega) (fun z hz => td_up (ints0 z (List.mem_reverse.mp hz)) (by decide)))))
    have t22 : Td K (del G244 h) 3 (szT 3) (.ref p195) := (td_tup (k := 2) (hF.ne_tup (K := K) f_p195) f_p195 (by simp) (fun z hz => by
            simp only [List.mem_cons, List.not_mem_nil, or_false] at hz
            rcases hz with rfl | rfl
            · exact ((td_str hx).mono (Nat.le_refl _) (by decide))
            · exact (td_tup (k := 1) (hF.ne_tup (K := K) f_p191) f_p191 (by rw [List.length_append]; have := cutV_length (ms.map V.int) (some (-1)) none; rw [List.length_map] at this ⊢; omega) (fun z hz => td_up (ints0 z ((List.mem_append.mp hz).elim id cut_mem)) (by decide)))))
    have t23 : Td K (del G244 h) 3 (szT 3) (.ref p200) := (td_tup (k := 2) (hF.ne_tup (K := K) f_p200) f_p200 (by simp) (fun z hz => by
            simp only [List.mem_cons, List.not_mem_nil, or_false] at hz
            rcases hz with rfl | rfl
            · exact ((td_str hx).mono (Nat.le_refl _) (by decide))
            · exact ((td_int (by decide) (by decide)).mono (Nat.le_refl _) (by decide))))
    have t24 : Td K (del G244 h) 3 (szT 3) (.ref p225) := (td_tup (k := 2) (hF.ne_tup (K := K) f_p225) f_p225 (by simp) (fun z hz => by
            simp only [List.mem_cons, List.not_mem_nil, or_false] at hz
            rcases hz with rfl | rfl | rfl | rfl
            · exact ((td_str hx).mono (Nat.le_refl _) (by decide))
            · exact ((td_int (by omega) g1).mono (Nat.le_refl _) (by decide))
            · exact (td_tup (k := 1) (hF.ne_tup (K := K) f_p215) f_p215 (by simp) (fun z hz => by cases hz))
            · exact (td_tup (k := 1) (hF.ne_tup (K := K) f_p220) f_p220 (by simp) (fun z hz => by cases hz))))
    have t25 : Td K (del G244 h) 3 (szT 3) (.ref p230) := (td_tup (k := 2) (hF.ne_tup (K := K) f_p230) f_p230 (by simp) (fun z hz => by
            simp only [List.mem_cons, List.not_mem_nil, or_false] at hz
            rcases hz with rfl | rfl | rfl
            · exact ((td_str hx).mono (Nat.le_refl _) (by decide))
            · exact ((td_int (by omega) g1).mono (Nat.le_refl _) (by decide))
            · exact ((td_int (by omega) g1).mono (Nat.le_refl _) (by decide))))
    have all3 : ∀ z ∈ ((((([.non, .bl true, .int 0, .str "left", .ref p1, .ref p6, .ref p13, .ref p19, .ref p24, .ref p34, .ref p44, .ref p49] ++ [.ref p75, .ref p97, .ref p102]) ++ [.ref p124, .ref p138, .ref p143, .ref p153]) ++ [.ref p168, .ref p173, .ref p182, .ref p195, .ref p200]) ++ [.ref p225, .ref p230]) : List V), Td K (del G244 h) 3 (szT 3) z := fun z hz => by
      simp only [List.cons_append, List.nil_append, List.mem_cons, List.not_mem_nil, or_false] at hz
      rcases hz with rfl | rfl | rfl | rfl | rfl | rfl | rfl | rfl | rfl | rfl | rfl | rfl | rfl | rfl | rfl | rfl | rfl | rfl | rfl | rfl | rfl | rfl | rfl | rfl | rfl | rfl
      · exact t0
      · exact t1
      · exact t2
      · exact t3
      · exact t4
      · exact t5
      · exact t6
      · exact t7
      · exact t8
      · exact t9
      · exact t10
      · exact t11
      · exact t12
      · exact t13
      · exact t14
      · exact t15
      · exact t16
      · exact t17
      · exact t18
      · exact t19
      · exact t20
      · exact t21
      · exact t22
      · exact t23
      · exact t24
      · exact t25
    have eF := e243
    have lF : ((((([.non, .bl true, .int 0, .str "left", .ref p1, .ref p6, .ref p13, .ref p19, .ref p24, .ref p34, .ref p44, .ref p49] ++ [.ref p75, .ref p97, .ref p102]) ++ [.ref p124, .ref p138, .ref p143, .ref p153]) ++ [.ref p168, .ref p173, .ref p182, .ref p195, .ref p200]) ++ [.ref p225, .ref p230]) : List V).length = 26 := rfl
    generalize ((((([.non, .bl true, .int 0, .str "left", .ref p1, .ref p6, .ref p13, .ref p19, .ref p24, .ref p34, .ref p44, .ref p49] ++ [.ref p75, .ref p97, .ref p102]) ++ [.ref p124, .ref p138, .ref p143, .ref p153]) ++ [.ref p168, .ref p173, .ref p182, .ref p195, .ref p200]) ++ [.ref p225, .ref p230]) : List V) = ys at eF all3 lF ⊢
    have bF : But h H G244 := b13.trans (Same.but sAll h)
    refine ⟨_, rfl, p240, rfl, ⟨_, SqL.of eF⟩, fun D nD => ?_⟩
    have nDh : D ≠ h := hF.fresh nD
    have nDH : H D = none := by
      cases z : H D with
      | none => rfl
      | some o => rw [bF _ _ nDh z] at nD; cases nD
    refine lc_list (K := K) (a := p240) (xs := ys) (fun i Hi => ∃ zs : List V, Hi D = some (.lst zs) ∧ zs.length = i ∧ (∀ y ∈ zs, Td K (del (del Hi D) h) 27 (szT 3 + 1200) y) ∧ Hand (m + 1 + 1 + 1 + 30 * (i : Int)) Hi h ∧ But h G244 Hi ∧ But h G244 (del Hi D)) ⟨[], upd_same, rfl, (by intro y hy; cases hy), (hF.same (same_upd nD)).mono (by omega), Same.but (same_upd nD) h, by rw [del_upd, del_none nD]; exact But.refl h _⟩ (fun i Hi _ z => ?_) ?_ ?_
    · obtain ⟨_, _, _, _, _, bz, _⟩ := z
      exact SqL.of (bz _ _ (by intro z; rw [z] at eF; obtain ⟨g1, m1, c1, e1, _⟩ := hF; rw [e1] at eF; injection eF with eF; injection eF with eF; rw [← eF] at lF; cases lF) eF)
    · rintro i x' Hi hx' ⟨zs, eD, lz, hz, hdi, bi, bd⟩
      have il : i < 26 := by have := (List.getElem?_eq_some_iff.mp hx').1; omega
      have tx := all3 x' (List.mem_of_getElem? hx')
      refine ⟨rfl, ?_⟩
      unfold tYes
      refine iteT ⟨_, rfl, h, 3, _, rfl, by decide, by decide, hdi, (by show _ ≤ (1000000 : Int); omega), fun dd H5 dd0 dd3 h5 b5 => ⟨rfl, _, rfl, ?_⟩⟩
      have e5 := b5 _ _ nDh eD
      have bd5 : But h (del Hi D) (del H5 D) := fun c o ne e => by
        by_cases z : c = D
        · rw [z, del_same] at e
          cases e
        · rw [del_ne z] at e ⊢
          exact b5 c o ne e
      have fin : ∀ (v2 : V) (H7 : Hp), Td K (del (del H7 D) h) 27 (szT 3 + 1200) v2 → H7 D = some (.lst zs) → Hand (m + 1 + 1 + 1 + 30 * (i : Int) + 25) H7 h → But h G244 H7 → But h (del H5 D) (del H7 D) → ∃ acc : List V, H7 D = some (.lst acc) ∧ acc.length < sizeLine ∧ ∃ zs' : List V, upd H7 D (.lst (acc ++ [v2])) D = some (.lst zs') ∧ zs'.length = i + 1 ∧ (∀ y ∈ zs', Td K (del (del (upd H7 D (.lst (acc ++ [v2]))) D) h) 27 (szT 3 + 1200) y) ∧ Hand (m + 1 + 1 + 1 + 30 * ((i + 1 : Nat) : Int)) (upd H7 D (.lst (acc ++ [v2]))) h ∧ But h G244 (upd H7 D (.lst (acc ++ [v2]))) ∧ But h G244 (del (upd H7 D (.lst (acc ++ [v2]))) D) := fun v2 H7 t7 e7 h7 b7 k7 => by
        refine ⟨zs, e7, Nat.lt_of_le_of_lt (show zs.length ≤ 1000 by omega) (by decide), zs ++ [v2], upd_same, by rw [List.length_append, lz]; rfl, fun y hy => ?_, (Hand.upd h7 (Ne.symm nDh)).mono (by push_cast; omega), fun c o ne e => ?_, ?_⟩
        · rw [del_upd]
          rcases List.mem_append.mp hy with z | z
          · exact ((hz y z).same (off_but bd5)).same (off_but k7)
          · rw [List.mem_singleton.mp z]; exact t7
        · rw [upd_ne (ne_of_none e nD)]
          exact b7 c o ne e
        · rw [del_upd]
          exact (bd.trans bd5).trans k7
      have tx5 : Td K (del (del H5 D) h) 3 (szT 3) x' := tx.same (off_but (bd.trans bd5))
      by_cases dz : dd = 0
      · subst dz
        rw [show decide (V.int 0 = V.int 0) = true by simp]
        refine iteT ⟨_, rfl, _, rfl, D, zs, e5, h, _, x', 3, szT 3, rfl, tx5, h5.del (Ne.symm nDh), (by show _ ≤ (1000000 : Int); omega), fun v2 H7 t7 h7 b7 n7 => ?_⟩
        have k7 : del (upd H7 D (.lst zs)) D = H7 := by rw [del_upd, del_none n7]
        refine fin v2 (upd H7 D (.lst zs)) (by rw [k7]; exact t7) upd_same ((Hand.upd h7 (Ne.symm nDh)).mono (by omega)) (fun c o ne e => ?_) (by rw [k7]; exact b7)
        rw [upd_ne (ne_of_none e nD)]
        exact b7 c o ne (by rw [del_ne (ne_of_none e nD)]; exact b5 c o ne (bi c o ne e))
      · rw [show decide (V.int dd = V.int 0) = false by rw [decide_eq_false_iff_not]; intro z; injection z with z; exact dz z]
        refine iteF ⟨_, rfl, fin x' H5 (tx5.mono (by decide) (by omega)) e5 (h5.mono (by omega)) (bi.trans b5) (But.refl h _)⟩
    rintro He ⟨zs, eD, lz, hz, hde, be, bd⟩
    exact q D zs He eD nDh nDH (by omega) hz (hde.mono (by omega)) (bF.trans be)
end
end K60
set_option Elab.async false
set_option linter.all false
set_option maxRecDepth 100000
set_option maxHeartbeats 4000000
set_option pp.maxSteps 400
set_option pp.deepTerms false
namespace K60
open PySem PySem.Spec PyProof.Rows L2
open Xk Az
section
variable {P : Program} {w : World} {K : PySem.W.Frag} {mg : Str → Option Value} {base : Heap}
theorem sm_rest {gs ms : List Int} (h : Sm ms) : Sm (P56.rest gs ms) := fun x hx => h x (List.mem_filter.mp hx).1
theorem ob_nice {hs : List (List Int)} (l7 : hs.length ≤ 7) : ∀ {n : Nat} {ms : List Int} {d : PyData}, ms.length ≤ 20 → Sm ms → P56.OB hs n ms d → Nice d (2 * n + 2) (10 ^ (n + 3))
  | 0, ms, d, l, sm, h => by
    obtain ⟨g, hg, rfl⟩ := h
    obtain ⟨g0, g1⟩ := sm g hg
    have := nice_left (nice_int (lg (Int.lt_of_lt_of_le (by decide) g0) g1) (tx_le g0 g1))
    exact this.mono (by omega) (by decide)
  | n + 1, ms, d, l, sm, h => by
    have p10 : 10 ^ (n + 1 + 3) = 10 * 10 ^ (n + 3) := by rw [show n + 1 + 3 = (n + 3) + 1 by omega, Nat.pow_succ, Nat.mul_comm]
    have p0 : 10 ^ 3 ≤ 10 ^ (n + 3) := Nat.pow_le_pow_right (show 0 < 10 by decide) (show 3 ≤ n + 3 by omega)
    have p1 : 1000 ≤ 10 ^ (n + 3) := p0
    rcases h with ⟨ns, sub, ln, sh, rfl⟩ | ⟨g, hg, us, rfl, al⟩
    · have := sub.length_le
      have n1 := nice_sm (ns := ns) fun x hx => sm x (sub.subset hx)
      have t := nice_tups (k := 1) (n := 850) [.str "apart", .tuple (ns.map .int)] fun d hd => by
        simp only [List.mem_cons, List.not_mem_nil, or_false] at hd
        rcases hd with rfl | rfl
        · exact (nice_str (n := 850) (Nat.le_trans (show (reprText ("apart" : Str)).length ≤ 10 by decide +kernel) (by decide))).mono (by omega) (by omega)
        · exact n1.mono (by omega) (by omega)
      refine t.mono (by omega) ?_
      show 2 * 852 + 4 ≤ _
      omega
    · have h1 := al.len
      have h2 := P56.hold_len (held := hs) g
      obtain ⟨g0, g1⟩ := sm g hg
      have nu := nice_tups (k := 2 * n + 2) (n := 10 ^ (n + 3)) us fun d hd => by
        obtain ⟨k, _, hk⟩ := al.mem hd
        exact ob_nice l7 (Nat.le_trans P56.rest_len l) (sm_rest sm) hk
      have su : us.length * (10 ^ (n + 3) + 2) + 4 ≤ 7 * (10 ^ (n + 3) + 2) + 4 := Nat.add_le_add_right (Nat.mul_le_mul_right _ (by omega)) 4
      have ng := nice_int (lg (Int.lt_of_lt_of_le (by decide) g0) g1) (tx_le g0 g1)
      refine ⟨(by
        have a := nu.sh
        have b := ng.sh
        simp only [PyData.showable, PyData.showableAll, Bool.and_true, Bool.true_and, Bool.and_eq_true] at a b ⊢
        exact ⟨b, a⟩), ?_, ?_⟩
      · have a1 := nu.dp
        simp only [PyData.depth, PyData.depthAll] at a1 ⊢
        omega
      · have a1 := nu.sz
        have a2 := ng.sz
        have z := fmt_text [reprText "take", (PyData.int g).shown, (PyData.tuple us).shown]
        simp only [piled_cons, piled_nil] at z
        have l1 : (reprText ("take" : Str)).length ≤ 10 := by decide +kernel
        have e : (PyData.tuple [.str "take", .int g, .tuple us]).shown = tupleText [reprText "take", (PyData.int g).shown, (PyData.tuple us).shown] := by simp only [PyData.shown, PyData.shownAll]
        rw [e]
        omega
theorem Hl.snoc {H : Hp} {xs : List V} {hs : List (List Int)} (h : Hl H xs hs) {t : Addr} {ns : List Int} (e : H t = some (.tup (ns.map V.int))) : Hl H (xs ++ [.ref t]) (hs ++ [ns]) := by
  induction h with
  | nil => exact .cons e .nil
  | cons e' _ ih => exact .cons e' ih
theorem Hl.rev {H : Hp} {xs : List V} {hs : List (List Int)} (h : Hl H xs hs) : Hl H xs.reverse hs.reverse := by
  induction h with
  | nil => exact .nil
  | cons e _ ih =>
    rw [List.reverse_cons, List.reverse_cons]
    exact ih.snoc e
def spToldZ (K : PySem.W.Frag) : Sp := fun vs H Q _ => ∃ (a b : Addr) (xs : List V) (hs : List (List Int)) (ms : List Int) (n k : Nat) (v : V) (d : PyData), vs = [.ref a, .ref b, .int (n : Int), v] ∧ H a = some (.tup xs) ∧ Hl H xs hs ∧ hs.length ≤ 12 ∧ H b = some (.tup (ms.map V.int)) ∧ ms.length ≤ 20 ∧ n ≤ 14 ∧ Dz K H v d ∧ P56.Wd k d ∧ Nice d 60 4000000 ∧ ∀ H', L2.Same H H' → Q (.bl true) H'
def spOwnA : Sp := fun vs H Q E => ∃ n, n ≤ 8 ∧ spOwn n vs H Q E
theorem fn_all {k N : Nat} {f : Addr} {fd : FuncData} {ps : List Str} {sp : Nat → Sp} (F : ∀ n, n ≤ N → FnOk P w K mg base CX0 k f fd ps (sp n)) : FnOk P w K mg base CX0 k f fd ps (fun vs H Q E => ∃ n, n ≤ N ∧ sp n vs H Q E) :=
  ⟨fun vs H Q E ⟨n, h, q⟩ => (F n h).len vs H Q E q, fun A outer s H args us vs Q E hr e0 hb hv ⟨n, h, q⟩ => (F n h).run A outer s H args us vs Q E hr e0 hb hv q⟩
def spLaw (K : PySem.W.Frag) : Sp := fun vs H Q _ => ∃ (a : Addr) (ns : List Int), vs = [.ref a] ∧ SqL K H a (ns.map V.int) ∧ ns.length ≤ 63 ∧ ∀ H', Q (.bl true) H'
theorem ok_told {f : Addr} {fd : FuncData} (D : Df K mg "_law_told" ["_law_held", "_law_wishes", "_law_many", "_law_thing"] sTold f fd) (T : Txt mg) (cSN : Ca P w K mg base 33 "shows_none" ["held", "wishes", "many", "thing"] (spSNG K)) (cLB : Ca P w K mg base 3 "_law_is_book" ["_law_held", "_law_wishes", "_law_many", "_law_thing"] (spLBG K)) : Gn P w K mg base 34 f fd ["_law_held", "_law_wishes", "_law_many", "_law_thing"] (spToldZ K) := by
  refine gn_body D.fn scTold (fun vs H Q E h => ?_) (fun cdv A outer s H vs Q E hg hr h => ?_)
  · obtain ⟨a, b, xs, hs, ms, n, k, v, d, rfl, ea, hl, l12, eb, l20, n14, hz, hw, nc, q⟩ := h
    rfl
  · obtain ⟨a, b, xs, hs, ms, n, k, v, d, rfl, ea, hl, l12, eb, l20, n14, hz, hw, nc, q⟩ := h
    refine ⟨_, (pss_cons (ps_set (i := 4) scTold.nd rfl (.inl rfl) (pe_callB (cr_reprZ hg hr) (by rfl) T.repr (by decide +kernel) (pa_cons (pv 3) pa_nil)))
      (pss_cons (ps_set (i := 5) scTold.nd rfl (.inl rfl) (pe_ca cSN hr (by decide) (by rfl) (pa_cons (pv 0) (pa_cons (pv 1) (pa_cons (pv 2) (pa_cons (pv 3) pa_nil))))))
      (pss_cons (ps_if (PW.pt (pw_or (pt_not (pt_val (pe_callB call_isi (by rfl) T.isi (by decide +kernel) (pa_cons (pv 5) (pa_cons (pe_bltn (v := .ty "bool") (by rfl) T.bool (by decide +kernel) rfl) pa_nil))))) (pw_or1 (pt_cmpR op_ne (pe_callB (cr_reprZ hg hr) (by rfl) T.repr (by decide +kernel) (pa_cons (pv 3) pa_nil)) (pv 4) (nomark _))))) (pss_one (ps_ret pe_bl)) pss_nil)
      (pss_one (ps_ret (pe_cmpR op_eq (pv 5) (pe_ca cLB hr (by decide) (by rfl) (pa_cons (pv 0) (pa_cons (pv 1) (pa_cons (pv 2) (pa_cons (pv 3) pa_nil))))) (nomark _))))))), ?_⟩
    have big : d.shown.length ≤ sizeLine := Nat.le_trans nc.sz (by decide)
    refine ⟨_, rfl, _, d, rfl, hz, nc.sh, nc.dp, big, ?_⟩
    refine ⟨_, rfl, _, rfl, _, rfl, _, rfl, a, b, xs, hs, ms, n, k, v, d, rfl, ea, hl, l12, eb, l20, n14, hz, hw, fun H1 s1 => ?_⟩
    refine ⟨_, rfl, _, _, _, _, true, rfl, .ty _, .base (.bl _), kit_ty (by decide +kernel), true, rfl, iteF ?_⟩
    refine ⟨_, rfl, _, d, rfl, hz.same s1, nc.sh, nc.dp, big, _, rfl, rfl, _, rfl, ?_⟩
    rw [show (!decide (V.str d.shown = V.str d.shown)) = false by simp]
    refine iteF ⟨_, rfl, _, rfl, _, rfl, _, rfl, _, rfl, a, b, xs, hs, ms, n, k, v, d, rfl, s1 _ _ ea, hl.map (fun _ _ e => s1 _ _ e), l12, s1 _ _ eb, l20, n14, hz.same s1, hw, fun H2 s2 => ⟨rfl, ?_⟩⟩
    rw [show decide (V.bl (P56.ibk hs n ms d) = V.bl (P56.ibk hs n ms d)) = true by simp]
    exact q H2 (s1.trans s2)
end
end K60
set_option Elab.async false
set_option linter.all false
set_option maxRecDepth 100000
set_option maxHeartbeats 4000000
set_option pp.maxSteps 400
set_option pp.deepTerms false
namespace K60
open PySem PySem.Spec PyProof.Rows L2
open Xk Az
section
variable {P : Program} {w : World} {K : PySem.W.Frag} {mg : Str → Option Value} {base : Heap}
theorem ok_law {f : Addr} {fd : FuncData} (D : Df K mg "law" ["_law_script"] sLaw f fd) (T : Txt mg) (cH : Ca P w K mg base 1 "_law_hand" ["_law_script", "_law_k"] (spHand K)) (cT : Ca P w K mg base 1 "_law_take" ["_law_hand_here", "_law_many"] spTake) (cC : Ca P w K mg base 4 "_law_case" ["_law_hand_here", "_law_most_discs", "_law_most_wishes"] spCase) (cOd : Ca P w K mg base 4 "_law_odd_things" ["_law_hand_here", "_law_held", "_law_wishes"] (spOddT K)) (cOA : Ca P w K mg base 12 "_law_own_book" ["_law_hand_here", "_law_held", "_law_wishes", "_law_many"] spOwnA) {fT : Addr} {fdT : FuncData} (DTo : Df K mg "_law_told" ["_law_held", "_law_wishes", "_law_many", "_law_thing"] sTold fT fdT) (GTo : Gn P w K mg base 34 fT fdT ["_law_held", "_law_wishes", "_law_many", "_law_thing"] (spToldZ K)) : Gn P w K mg base 35 f fd ["_law_script"] (spLaw K) := by
  refine gn_body D.fn scLaw (fun vs H Q E h => ?_) (fun cdv A outer s H vs Q E hg hr h => ?_)
  · obtain ⟨a, ns, rfl, hS, hlen, q⟩ := h
    rfl
  · obtain ⟨a, ns, rfl, hS, hlen, q⟩ := h
    refine ⟨_, (pss_cons (ps_for PassesOwn.never rfl (pi_range1 (by rfl) T.range (pa_cons (pe_callB (call_max2 (by rfl)) (by rfl) T.max (by decide +kernel) (pa_cons pe_int (pa_cons (pe_callB (call_min2 (by rfl)) (by rfl) T.min (by decide +kernel) (pa_cons pe_int (pa_cons (pe_callB call_len_seq (by rfl) T.len PySem.boot_len (pa_cons (pv 0) pa_nil)) pa_nil))) pa_nil))) pa_nil)) (pg_name (i := 1) scLaw.nd rfl (.inl rfl)) (pss_cons (ps_set (i := 2) scLaw.nd rfl (.inl rfl) (pe_ca cH hr (by decide) (by rfl) (pa_cons (pv 0) (pa_cons (pv 1) pa_nil))))
      (pss_cons (ps_asg (pe_ca cC hr (by decide) (by rfl) (pa_cons (pv 2) (pa_cons pe_int (pa_cons pe_int pa_nil)))) (pg_tup (by rfl) (pgs_cons (pg_name (i := 3) scLaw.nd rfl (.inr rfl)) (pgs_cons (pg_name (i := 4) scLaw.nd rfl (.inr rfl)) pgs_nil))))
      (pss_cons (ps_set (i := 5) scLaw.nd rfl (.inr rfl) (pe_ca cT hr (by decide) (by rfl) (pa_cons (pv 2) (pa_cons pe_int pa_nil))))
      (pss_cons (ps_set (i := 6) scLaw.nd rfl (.inl rfl) (pe_ca cOd hr (by decide) (by rfl) (pa_cons (pv 2) (pa_cons (pv 3) (pa_cons (pv 4) pa_nil)))))
      (pss_cons (ps_if (pt_not (pt_val (pe_callB (cr_all (by rfl)) (by rfl) T.all (by decide +kernel) (pa_cons (pe_lc (own := [("_law_thing", 11)]) (g := gName 11) (tt := tYes) (te := tCall (spToldZ K) [] E0 (tCons (tVar 3) (tCons (tVar 4) (tCons (tVar 5) (tCons (tVar 11) tNil))))) (by rfl) scLaw.nd (pi_list (pv 6)) (blkOk_by (own := [("_law_thing", 11)]) (N := ["_law_script", "_law_k", "_law_hand_here", "_law_held", "_law_wishes", "_law_many", "_law_things", "_law_book", "_law_more", "_law_some", "_law_wanted", "_law_thing"]) (sc := defScope sLaw) (by decide +kernel)) (fun _ _ _ _ _ => pg_name (i := 11) scLaw.nd rfl (.inl rfl)) (fun _ _ _ _ _ => pts_nil) (fun _ _ _ _ _ => pe_gn GTo hg hr (by rfl) DTo.mgf DTo.fn.kp DTo.bd (pa_cons (pv 3) (pa_cons (pv 4) (pa_cons (pv 5) (pa_cons (pv 11) pa_nil)))))) pa_nil)))) (pss_one (ps_ret pe_bl)) pss_nil)
      (C8.pss_cut (ps_set (i := 7) scLaw.nd rfl (.inl rfl) (pe_ca cOA hr (by decide) (by rfl) (pa_cons (pv 2) (pa_cons (pv 3) (pa_cons (pv 4) (pa_cons (pv 5) pa_nil))))))
      (pss_cons (ps_set (i := 8) scLaw.nd rfl (.inl rfl) (pe_callTy call_tuple_of (by rfl) T.tuple (by decide +kernel) (pa_cons (pe_callB (cr_sortedSet (by rfl)) (by rfl) T.sorted (by decide +kernel) (pa_cons (pe_callTy (cr_setTI (by rfl)) (by rfl) T.set (by decide +kernel) (pa_cons (pe_op op_catU (pv 4) (pe_tup (pa_cons pe_int (pa_cons (pe_op op_add (pe_op op_pow pe_int pe_int) pe_int) pa_nil)))) pa_nil)) pa_nil)) pa_nil)))
      (pss_one (ps_for PassesOwn.never rfl (pi_tup (pe_tup (pa_cons (pe_tup (pa_cons (pv 3) (pa_cons (pv 8) pa_nil))) (pa_cons (pe_tup (pa_cons (pv 3) (pa_cons (pe_slice sl_tupU (pv 4) (po_some pe_int) po_none) pa_nil))) (pa_cons (pe_tup (pa_cons (pe_revN (pv 3)) (pa_cons (pv 4) pa_nil))) (pa_cons (pe_tup (pa_cons (pe_op op_catU (pv 3) (pe_tup (pa_cons (pe_slice sl_tupU (pv 4) po_none (po_some pe_int)) pa_nil))) (pa_cons (pv 4) pa_nil))) pa_nil)))))) (pg_tup (by rfl) (pgs_cons (pg_name (i := 9) scLaw.nd rfl (.inl rfl)) (pgs_cons (pg_name (i := 10) scLaw.nd rfl (.inl rfl)) pgs_nil))) (pss_one (ps_if (PW.pt (pw_and (pt_cmpR op_notN (pv 7) pe_non (nomark _)) (pw_and1 (pt_not (pt_val (pe_gn GTo hg hr (by rfl) DTo.mgf DTo.fn.kp DTo.bd (pa_cons (pv 9) (pa_cons (pv 10) (pa_cons (pv 5) (pa_cons (pv 7) pa_nil)))))))))) (pss_one (ps_ret pe_bl)) pss_nil))))))))))))
      (pss_one (ps_ret pe_bl))), ?_⟩
    refine ⟨_, rfl, a, _, rfl, .inl hS, 4, _, rfl, 1, _, rfl, ?_⟩
    obtain ⟨m, em, m0, m4⟩ : ∃ m : Int, (if (if ((ns.map V.int).length : Int) < 4 then ((ns.map V.int).length : Int) else 4) > 1 then (if ((ns.map V.int).length : Int) < 4 then ((ns.map V.int).length : Int) else 4) else 1) = m ∧ 0 ≤ m ∧ m ≤ 4 := ⟨_, rfl, by split <;> (try split) <;> omega, by split <;> (try split) <;> omega⟩
    rw [em]
    clear em
    refine ⟨_, rfl, by omega, by omega, ?_⟩
    refine for_range (lo := 0) (n := m.toNat) (fun i σ Hi => ∃ c1 c2 c3 c4 c5 c6 c7 c8 c9 c10, σ = [some (.ref a), c1, c2, c3, c4, c5, c6, c7, c8, c9, c10, none] ∧ L2.Same H Hi) ?_ ?_ ?_
    · exact ⟨_, _, _, _, _, _, _, _, _, _, rfl, Same.refl H⟩
    · rintro i σ Hi hi ⟨c1, c2, c3, c4, c5, c6, c7, c8, c9, c10, rfl, sm⟩
      refine ⟨_, rfl, _, rfl, a, 0 + (i : Int), ns, rfl, by omega, sm.seq hS, fun p g m' np g0 m0' m1' => ?_⟩
      have hh : Hand 0 (upd Hi p (.lst [.int g, .int m', .int 0])) p := ⟨g, m', 0, upd_same, g0, m0', m1', Int.le_refl _, Int.le_refl _⟩
      have s1 := same_upd np (o := .lst [.int g, .int m', .int 0])
      refine ⟨_, rfl, p, 0, 6, 7, rfl, by decide, by decide, by decide, by decide, hh, by decide, fun t ah bw xs hs ws H2 et ea hl lmd gs eb l20 sw pw lmw h2 b2 => ?_⟩
      have s2 : L2.Same Hi H2 := fun c o e => b2 c o (ne_of_none e np) (s1 c o e)
      have l6 : hs.length ≤ 6 := by omega
      have l12 : hs.length ≤ 12 := by omega
      have w7 : ws.length ≤ 7 := by omega
      have lh := hl.len
      refine ⟨t, _, rfl, SqT.of et, rfl, _, _, rfl, _, _, rfl, rfl, ?_⟩
      have nap := h2.ne_tup (K := K) ea
      have nbp := h2.ne_tup (K := K) eb
      refine ⟨_, rfl, p, 4, 0 + 1000, rfl, by decide, by decide, h2, by decide, fun mm H3 mm0 mm4 h3 b3 => ?_⟩
      obtain ⟨mn, rfl⟩ : ∃ mn : Nat, mm = (mn : Int) := ⟨mm.toNat, by omega⟩
      have mn3 : mn ≤ 3 := by omega
      refine ⟨_, rfl, _, rfl, _, rfl, p, ah, bw, 0 + 1000 + 1, xs, hs, ws, rfl, b3 _ _ nap ea, hl.map (fun _ _ e => b3 _ _ (h2.ne_tup (K := K) e) e), l6, b3 _ _ nbp eb, l20, sw, h3, by decide, fun L ys H4 eL nLp nL ly ty h4 b4 => ?_⟩
      have b24 : But p H2 H4 := b3.trans b4
      have ea4 := b24 _ _ nap ea
      have eb4 := b24 _ _ nbp eb
      have hl4 : Hl H4 xs hs := hl.map fun _ _ e => b24 _ _ (h2.ne_tup (K := K) e) e
      have dd4 : L2.Same (del (del H4 L) p) H4 := fun c o e => off_all _ _ (off_all _ _ e)
      refine ⟨_, rfl, L, rfl, ⟨_, SqL.of eL⟩, fun D nD => ?_⟩
      refine lc_list (K := K) (a := L) (xs := ys) (fun k Hj => L2.Same H4 Hj ∧ Hj D = some (.lst ((List.replicate k true).map V.bl))) ⟨same_upd nD, upd_same⟩ (fun k Hj _ z => SqL.of (z.1 _ _ eL)) ?_ ?_
      · rintro k x Hj hk ⟨sj, eD⟩
        have kl : k < ys.length := (List.getElem?_eq_some_iff.mp hk).1
        obtain ⟨d, zd, nc, wd⟩ := ty x (List.mem_of_getElem? hk)
        refine ⟨rfl, ?_⟩
        unfold tYes
        refine iteT ⟨_, rfl, _, rfl, _, rfl, _, rfl, ah, bw, xs, hs, ws, mn, 27, x, d, rfl, sj _ _ ea4, hl4.map (fun _ _ e => sj _ _ e), l12, sj _ _ eb4, l20, by omega, (zd.same dd4).same sj, wd, nc.mono (by decide) (by decide), fun H' s' => ⟨_, s' _ _ eD, ?_, fun c o e => ?_, ?_⟩⟩
        · rw [List.length_map, List.length_replicate]
          exact Nat.lt_of_le_of_lt (show k ≤ 1000 by omega) (by decide)
        · rw [upd_ne (ne_of_none e nD)]
          exact s' _ _ (sj _ _ e)
        · rw [upd_same, List.replicate_succ', List.map_append]
          rfl
      rintro H5 ⟨s5, eD⟩
      refine ⟨D, _, rfl, SqL.of eD, _, rfl, ?_⟩
      rw [show (List.replicate ys.length true).all id = true by rw [List.all_eq_true]; intro x hx; rw [(List.mem_replicate.mp hx).2]; rfl]
      refine iteF ?_
      have ea5 := s5 _ _ ea4
      have eb5 := s5 _ _ eb4
      have hl5 : Hl H5 xs hs := hl4.map fun _ _ e => s5 _ _ e
      have h5 := h4.same s5
      have b5 : But p H2 H5 := b24.trans (Same.but s5 p)
      have cs : ((cst 6 mn : Nat) : Int) ≤ 3000 := by
        have : cst 6 mn ≤ 3000 := by
          rcases mn with _ | _ | _ | _ | mn
          · decide
          · decide
          · decide
          · decide
          · omega
        omega
      refine ⟨fun σ Hx => ∃ v : V, σ = [some (.ref a), some (.int (0 + (i : Int))), some (.ref p), some (.ref ah), some (.ref bw), some (.int (mn : Int)), some (.ref L), some v, c8, c9, c10, none] ∧ But p H2 Hx ∧ (v = .non ∨ ∃ (t : Addr) (d : PyData), v = .ref t ∧ Tz Hx v d ∧ P56.OB hs mn ws d), ?_, ?_⟩
      · refine ⟨_, rfl, _, rfl, _, rfl, _, rfl, mn, by omega, p, ah, bw, _, xs, hs, ws, 6, rfl, ea5, hl5, l6, by decide, eb5, l20, h5, (by show _ ≤ (1000000 : Int); omega), fun H6 _ _ b6 => ⟨.non, rfl, b5.trans b6, .inl rfl⟩, fun v d H6 ob tz _ b6 => ?_⟩
        obtain ⟨t', rfl⟩ := ob_ref ob tz
        exact ⟨.ref t', rfl, b5.trans b6, .inr ⟨t', d, rfl, tz, ob⟩⟩
      rintro σ H6 ⟨v, rfl, b6, hv⟩
      have ea6 := b6 _ _ nap ea
      have eb6 := b6 _ _ nbp eb
      have hl6 : Hl H6 xs hs := hl.map fun _ _ e => b6 _ _ (h2.ne_tup (K := K) e) e
      clear eD s5 nD eL ty b24 ea4 eb4 hl4 dd4 b4 h4 h3 b3 b5 h5 ea5 eb5 hl5 cs
      -- one wish more
      refine ⟨_, rfl, 10, 29, rfl, rfl, ⟨by decide, by decide, by decide⟩, _, 1, rfl, rfl, (by show 2 ≤ sizeLine; decide), fun t1 n1 => ?_⟩
      have r1 := same_upd n1 (o := .tup [.int 3, .int (10 ^ (29 : Int).toNat + 1)])
      have f1 : upd H6 t1 (.tup [.int 3, .int (10 ^ (29 : Int).toNat + 1)]) t1 = some (.tup [.int 3, .int (10 ^ (29 : Int).toNat + 1)]) := upd_same
      generalize upd H6 t1 (.tup [.int 3, .int (10 ^ (29 : Int).toNat + 1)]) = J1 at r1 f1 ⊢
      refine ⟨bw, t1, _, _, rfl, rfl, r1 _ _ eb6, f1, ?_, fun t2 J2 r2 f2 => ?_⟩
      · rw [List.length_map]
        exact Nat.le_trans (show ws.length + 2 ≤ 100 by omega) (by decide)
      replace f2 : J2 t2 = some (.tup ((ws ++ [3, 10 ^ (29 : Int).toNat + 1]).map V.int)) := by rw [f2, List.map_append]; rfl
      refine ⟨t2, _, rfl, SqT.of f2, ?_, fun S sc nS hsc => ?_⟩
      · rw [List.length_append]
        show ws.length + 2 ≤ 1000
        omega
      have l22 : sc ≤ 9 := by
        have := hsc _ (fun k hk => hk)
        rw [List.length_append] at this
        have : sc ≤ ws.length + 2 := this
        omega
      have r3 := same_upd nS (o := SetO w S (fun j => decide (j ∈ ws ++ [3, 10 ^ (29 : Int).toNat + 1])) sc)
      refine ⟨S, _, sc, rfl, upd_same, by omega, fun ns' q3 _ _ ln' nq => ?_⟩
      have r4 := same_upd nq (o := .lst (ns'.map V.int))
      have r34 := r3.trans r4
      refine ⟨q3, _, rfl, .inl ⟨SqL.of upd_same, fun tm ntm => ?_⟩⟩
      have r5 := same_upd ntm (o := .tup (ns'.map V.int))
      have r35 := r34.trans r5
      have fm : upd (upd (upd J2 S (SetO w S (fun j => decide (j ∈ ws ++ [3, 10 ^ (29 : Int).toNat + 1])) sc)) q3 (.lst (ns'.map V.int))) tm (.tup (ns'.map V.int)) tm = some (.tup (ns'.map V.int)) := upd_same
      have rJ : L2.Same H6 (upd (upd (upd J2 S (SetO w S (fun j => decide (j ∈ ws ++ [3, 10 ^ (29 : Int).toNat + 1])) sc)) q3 (.lst (ns'.map V.int))) tm (.tup (ns'.map V.int))) := (r1.trans r2).trans r35
      show tSeq _ _ _ _ (upd (upd (upd J2 S (SetO w S (fun j => decide (j ∈ ws ++ [3, 10 ^ (29 : Int).toNat + 1])) sc)) q3 (.lst (ns'.map V.int))) tm (.tup (ns'.map V.int)))
      generalize upd (upd (upd J2 S (SetO w S (fun j => decide (j ∈ ws ++ [3, 10 ^ (29 : Int).toNat + 1])) sc)) q3 (.lst (ns'.map V.int))) tm (.tup (ns'.map V.int)) = J at rJ fm ⊢
      have eaJ := rJ _ _ ea6
      have ebJ := rJ _ _ eb6
      have hlJ : Hl J xs hs := hl6.map fun _ _ e => rJ _ _ e
      -- four of each
      refine ⟨_, rfl, _, rfl, (by show 2 ≤ sizeLine; decide), fun u1 nu1 => ?_⟩
      have v1 := same_upd nu1 (o := .tup [.ref ah, .ref tm])
      have x1 : upd J u1 (.tup [.ref ah, .ref tm]) u1 = some (.tup [.ref ah, .ref tm]) := upd_same
      generalize upd J u1 (.tup [.ref ah, .ref tm]) = J1' at v1 x1 ⊢
      refine ⟨_, rfl, _, rfl, 1, rfl, bw, _, rfl, v1 _ _ ebJ, fun w2 J2' v2 x2 => ?_⟩
      refine ⟨(by show 2 ≤ sizeLine; decide), fun u2 nu2 => ?_⟩
      have v3 := same_upd nu2 (o := .tup [.ref ah, .ref w2])
      have x3 : upd J2' u2 (.tup [.ref ah, .ref w2]) u2 = some (.tup [.ref ah, .ref w2]) := upd_same
      generalize upd J2' u2 (.tup [.ref ah, .ref w2]) = J3 at v3 x3 ⊢
      have v13 := (v1.trans v2).trans v3
      refine ⟨_, rfl, ah, _, rfl, v13 _ _ eaJ, fun r4' J4 v4 x4 => ?_⟩
      refine ⟨_, rfl, (by show 2 ≤ sizeLine; decide), fun u3 nu3 => ?_⟩
      have v5 := same_upd nu3 (o := .tup [.ref r4', .ref bw])
      have x5 : upd J4 u3 (.tup [.ref r4', .ref bw]) u3 = some (.tup [.ref r4', .ref bw]) := upd_same
      generalize upd J4 u3 (.tup [.ref r4', .ref bw]) = J5 at v5 x5 ⊢
      have v15 := (v13.trans v4).trans v5
      refine ⟨_, rfl, _, rfl, 1, rfl, bw, _, rfl, v15 _ _ ebJ, fun w6 J6 v6 x6 => ?_⟩
      refine ⟨(by show 1 ≤ sizeLine; decide), fun x7' nx7 => ?_⟩
      have v7 := same_upd nx7 (o := .tup [.ref w6])
      have x7 : upd J6 x7' (.tup [.ref w6]) x7' = some (.tup [.ref w6]) := upd_same
      generalize upd J6 x7' (.tup [.ref w6]) = J7 at v7 x7 ⊢
      have v17 := (v15.trans v6).trans v7
      refine ⟨ah, x7', _, _, rfl, rfl, v17 _ _ eaJ, x7, ?_, fun c8' J8 v8 x8 => ?_⟩
      · rw [lh]
        exact Nat.le_trans (show hs.length + 1 ≤ 100 by omega) (by decide)
      refine ⟨_, rfl, (by show 2 ≤ sizeLine; decide), fun u4 nu4 => ?_⟩
      have v9 := same_upd nu4 (o := .tup [.ref c8', .ref bw])
      have x9 : upd J8 u4 (.tup [.ref c8', .ref bw]) u4 = some (.tup [.ref c8', .ref bw]) := upd_same
      generalize upd J8 u4 (.tup [.ref c8', .ref bw]) = J9 at v9 x9 ⊢
      have v19 := (v17.trans v8).trans v9
      refine ⟨(by show 4 ≤ sizeLine; decide), fun U nU => ?_⟩
      have vU := same_upd nU (o := .tup [.ref u1, .ref u2, .ref u3, .ref u4])
      have xU : upd J9 U (.tup [.ref u1, .ref u2, .ref u3, .ref u4]) U = some (.tup [.ref u1, .ref u2, .ref u3, .ref u4]) := upd_same
      generalize upd J9 U (.tup [.ref u1, .ref u2, .ref u3, .ref u4]) = JU at vU xU ⊢
      have vA := v19.trans vU
      have k2 := (v3.trans v4).trans ((v5.trans v6).trans ((v7.trans v8).trans (v9.trans vU)))
      have k4 := v5.trans ((v6.trans v7).trans ((v8.trans v9).trans vU))
      have k6 := v7.trans (v8.trans (v9.trans vU))
      have cl1 : ∀ lo hi : Option Int, ∃ ms' : List Int, cutV (ws.map V.int) lo hi = ms'.map V.int ∧ ms'.length ≤ 20 := fun lo hi => ⟨_, cut_ints ws lo hi, Nat.le_trans (cut_len ws lo hi) l20⟩
      have eaU := vA _ _ eaJ
      have ebU := vA _ _ ebJ
      have hlU : Hl JU xs hs := hlJ.map fun _ _ e => vA _ _ e
      have four : ∀ y ∈ ([.ref u1, .ref u2, .ref u3, .ref u4] : List V), ∃ (u a' b' : Addr) (xs' : List V) (hs' : List (List Int)) (ms' : List Int), y = .ref u ∧ JU u = some (.tup [.ref a', .ref b']) ∧ JU a' = some (.tup xs') ∧ Hl JU xs' hs' ∧ hs'.length ≤ 12 ∧ JU b' = some (.tup (ms'.map V.int)) ∧ ms'.length ≤ 20 := fun y hy => by
        simp only [List.mem_cons, List.not_mem_nil, or_false] at hy
        rcases hy with rfl | rfl | rfl | rfl
        · exact ⟨u1, ah, tm, xs, hs, ns', rfl, (v2.trans k2) _ _ x1, eaU, hlU, l12, vA _ _ fm, by omega⟩
        · obtain ⟨ms', e, l⟩ := cl1 (some 1) none
          exact ⟨u2, ah, w2, xs, hs, ms', rfl, (v4.trans k4) _ _ x3, eaU, hlU, l12, by rw [← e]; exact k2 _ _ x2, l⟩
        · exact ⟨u3, r4', bw, xs.reverse, hs.reverse, ws, rfl, (v6.trans k6) _ _ x5, k4 _ _ x4, hlU.rev, by rw [List.length_reverse]; exact l12, ebU, l20⟩
        · obtain ⟨ms', e, l⟩ := cl1 none (some 1)
          refine ⟨u4, c8', bw, xs ++ [.ref w6], hs ++ [ms'], ws, rfl, vU _ _ x9, (v9.trans vU) _ _ x8, hlU.snoc (by rw [← e]; exact k6 _ _ x6), by rw [List.length_append]; show hs.length + 1 ≤ 12; omega, ebU, l20⟩
      have s6U : L2.Same H6 JU := rJ.trans vA
      refine ⟨U, rfl, ⟨_, SqT.of xU⟩, ?_⟩
      refine for_tup (K := K) (a := U) (xs := [.ref u1, .ref u2, .ref u3, .ref u4]) (fun k σ Hk => ∃ c9 c10, σ = [some (.ref a), some (.int (0 + (i : Int))), some (.ref p), some (.ref ah), some (.ref bw), some (.int (mn : Int)), some (.ref L), some v, some (.ref tm), c9, c10, none] ∧ L2.Same JU Hk) ⟨_, _, rfl, Same.refl JU⟩ (fun k σ Hk _ z => by obtain ⟨_, _, _, z⟩ := z; exact SqT.of (z _ _ xU)) ?_ ?_
      · rintro k y σ Hk hk ⟨c9, c10, rfl, sk⟩
        obtain ⟨u, a', b', xs', hs', ms', rfl, xu, xa, xh, xl, xb, xm⟩ := four y (List.mem_of_getElem? hk)
        refine ⟨u, _, rfl, SqT.of (sk _ _ xu), rfl, _, _, rfl, _, _, rfl, rfl, ?_⟩
        rcases hv with rfl | ⟨t', d, rfl, tz, ob⟩
        · exact ⟨_, rfl, rfl, _, rfl, iteF (iteF ⟨_, _, rfl, sk⟩)⟩
        · have sU := s6U.trans sk
          refine ⟨_, rfl, rfl, _, rfl, ite2 (fun _ => ?_) (fun e => absurd (by simp) e)⟩
          exact ⟨_, rfl, _, rfl, _, rfl, _, rfl, a', b', xs', hs', ms', mn, 2 * mn + 2, .ref t', d, rfl, sk _ _ xa, xh.map (fun _ _ e => sk _ _ e), xl, sk _ _ xb, xm, by omega, (tz.keep fun c zs e => sU _ _ e).dz, P56.ob_wd l12 l20 ob, (ob_nice (by omega) l20 sw ob).mono (by omega) (Nat.le_trans (Nat.pow_le_pow_right (show 0 < 10 by decide) (show mn + 3 ≤ 6 by omega)) (by decide)), fun H' s' => ⟨_, rfl, iteF ⟨_, _, rfl, sk.trans s'⟩⟩⟩
      · rintro σ He ⟨c9, c10, rfl, se⟩
        exact ⟨_, _, _, _, _, _, _, _, _, _, rfl, sm.trans (fun c o e => (s6U.trans se) _ _ (b6 c o (ne_of_none e np) (s2 c o e)))⟩
    · rintro σ He _
      exact q _
end
end K60
set_option Elab.async false
set_option linter.all false
set_option maxRecDepth 100000
set_option maxHeartbeats 4000000
set_option pp.maxSteps 400
set_option pp.deepTerms false
namespace K60
open PySem PySem.Spec PyProof.Rows L2
open Xk Az
theorem Ca.mono {P : Program} {w : World} {K : PySem.W.Frag} {mg : Str → Option Value} {base : Heap} {j k : Nat} {x : Str} {ps : List Str} {sp : Sp} (c : Ca P w K mg base j x ps sp) (h : j ≤ k) : Ca P w K mg base k x ps sp := by
  obtain ⟨f, fd, F, r⟩ := c.ex
  exact ⟨f, fd, F.mono h, r⟩
theorem Df.no {P : Program} {w : World} {K : PySem.W.Frag} {mg : Str → Option Value} {base : Heap} {k : Nat} {x : Str} {ps : List Str} {st : Stmt} {f : Addr} {fd : FuncData} (d : Df K mg x ps st f fd) : Ca P w K mg base k x ps (fun _ _ _ _ => False) :=
  ⟨f, fd, ⟨fun _ _ _ _ h => h.elim, fun _ _ _ _ _ _ _ _ _ _ _ _ _ h => h.elim⟩, d.mgf, d.fn.kp, d.bd⟩
theorem all_mk {l : PySem.W.OpenLaw} {w : World} {K : PySem.W.Frag} {h : Heap} {mg : Str → Option Value} {fa f0 f1 f2 f3 f4 f5 f6 f7 f8 f9 f10 f11 f12 f13 f14 f15 f16 f17 f18 f19 f20 f21 f22 : Addr}
    {od0 an0 od1 an1 od2 an2 od3 an3 od4 an4 od5 an5 od6 an6 od7 an7 od8 an8 od9 an9 od10 an10 od11 an11 od12 an12 od13 an13 od14 an14 od15 an15 od16 an16 od17 an17 od18 an18 od19 an19 od20 an20 od21 an21 od22 an22 : Option Addr}
    {sl0 sl1 sl2 sl3 sl4 sl5 sl6 sl7 sl8 sl9 sl10 sl11 sl12 sl13 sl14 sl15 sl16 sl17 sl18 sl19 sl20 sl21 sl22 : Array (Option Value)}
    {oc0 kV0 dc0 pm0 cd0 ct0 oc1 kV1 dc1 pm1 cd1 ct1 oc2 kV2 dc2 pm2 cd2 ct2 oc3 kV3 dc3 pm3 cd3 ct3 oc4 kV4 dc4 pm4 cd4 ct4 oc5 kV5 dc5 pm5 cd5 ct5 oc6 kV6 dc6 pm6 cd6 ct6 oc7 kV7 dc7 pm7 cd7 ct7 oc8 kV8 dc8 pm8 cd8 ct8 oc9 kV9 dc9 pm9 cd9 ct9 oc10 kV10 dc10 pm10 cd10 ct10 oc11 kV11 dc11 pm11 cd11 ct11 oc12 kV12 dc12 pm12 cd12 ct12 oc13 kV13 dc13 pm13 cd13 ct13 oc14 kV14 dc14 pm14 cd14 ct14 oc15 kV15 dc15 pm15 cd15 ct15 oc16 kV16 dc16 pm16 cd16 ct16 oc17 kV17 dc17 pm17 cd17 ct17 oc18 kV18 dc18 pm18 cd18 ct18 oc19 kV19 dc19 pm19 cd19 ct19 oc20 kV20 dc20 pm20 cd20 ct20 oc21 kV21 dc21 pm21 cd21 ct21 oc22 kV22 dc22 pm22 cd22 ct22 : Value}
    (X : K.In h) (G : h.Ns mainGlobals mg) (hfa : mg "law" = some (.ref fa))
    (a0 : PySem.W.nsIn K mainGlobals "is_whole" = some (some (.ref f0)))
    (l0 : K.lookup f0 = some ⟨oc0, od0, .func (PySem.W.fnOf "is_whole" "is_whole" (defArgs sIsWhole) (defBody sIsWhole) (defScope sIsWhole) .none kV0 dc0 pm0 an0 cd0 ct0), sl0⟩)
    (c0 : PySem.W.codeIn K cd0 "is_whole" = true)
    (k0 : PySem.W.keepIn K (.ref f0) = true)
    (a1 : PySem.W.nsIn K mainGlobals "are_rising" = some (some (.ref f1)))
    (l1 : K.lookup f1 = some ⟨oc1, od1, .func (PySem.W.fnOf "are_rising" "are_rising" (defArgs sAreRising) (defBody sAreRising) (defScope sAreRising) .none kV1 dc1 pm1 an1 cd1 ct1), sl1⟩)
    (c1 : PySem.W.codeIn K cd1 "are_rising" = true)
    (k1 : PySem.W.keepIn K (.ref f1) = true)
    (a2 : PySem.W.nsIn K mainGlobals "holders" = some (some (.ref f2)))
    (l2 : K.lookup f2 = some ⟨oc2, od2, .func (PySem.W.fnOf "holders" "holders" (defArgs sHolders) (defBody sHolders) (defScope sHolders) .none kV2 dc2 pm2 an2 cd2 ct2), sl2⟩)
    (c2 : PySem.W.codeIn K cd2 "holders" = true)
    (k2 : PySem.W.keepIn K (.ref f2) = true)
    (a3 : PySem.W.nsIn K mainGlobals "not_among" = some (some (.ref f3)))
    (l3 : K.lookup f3 = some ⟨oc3, od3, .func (PySem.W.fnOf "not_among" "not_among" (defArgs sNotAmong) (defBody sNotAmong) (defScope sNotAmong) .none kV3 dc3 pm3 an3 cd3 ct3), sl3⟩)
    (c3 : PySem.W.codeIn K cd3 "not_among" = true)
    (k3 : PySem.W.keepIn K (.ref f3) = true)
    (a4 : PySem.W.nsIn K mainGlobals "is_missing" = some (some (.ref f4)))
    (l4 : K.lookup f4 = some ⟨oc4, od4, .func (PySem.W.fnOf "is_missing" "is_missing" (defArgs sIsMissing) (defBody sIsMissing) (defScope sIsMissing) .none kV4 dc4 pm4 an4 cd4 ct4), sl4⟩)
    (c4 : PySem.W.codeIn K cd4 "is_missing" = true)
    (k4 : PySem.W.keepIn K (.ref f4) = true)
    (a5 : PySem.W.nsIn K mainGlobals "shows_by_taking" = some (some (.ref f5)))
    (l5 : K.lookup f5 = some ⟨oc5, od5, .func (PySem.W.fnOf "shows_by_taking" "shows_by_taking" (defArgs sShowsByTaking) (defBody sShowsByTaking) (defScope sShowsByTaking) .none kV5 dc5 pm5 an5 cd5 ct5), sl5⟩)
    (c5 : PySem.W.codeIn K cd5 "shows_by_taking" = true)
    (k5 : PySem.W.keepIn K (.ref f5) = true)
    (a6 : PySem.W.nsIn K mainGlobals "shows_by_some" = some (some (.ref f6)))
    (l6 : K.lookup f6 = some ⟨oc6, od6, .func (PySem.W.fnOf "shows_by_some" "shows_by_some" (defArgs sShowsBySome) (defBody sShowsBySome) (defScope sShowsBySome) .none kV6 dc6 pm6 an6 cd6 ct6), sl6⟩)
    (c6 : PySem.W.codeIn K cd6 "shows_by_some" = true)
    (k6 : PySem.W.keepIn K (.ref f6) = true)
    (a7 : PySem.W.nsIn K mainGlobals "is_book" = some (some (.ref f7)))
    (l7 : K.lookup f7 = some ⟨oc7, od7, .func (PySem.W.fnOf "is_book" "is_book" (defArgs sIsBook) (defBody sIsBook) (defScope sIsBook) .none kV7 dc7 pm7 an7 cd7 ct7), sl7⟩)
    (c7 : PySem.W.codeIn K cd7 "is_book" = true)
    (k7 : PySem.W.keepIn K (.ref f7) = true)
    (a8 : PySem.W.nsIn K mainGlobals "shows_none" = some (some (.ref f8)))
    (l8 : K.lookup f8 = some ⟨oc8, od8, .func (PySem.W.fnOf "shows_none" "shows_none" (defArgs sShowsNone) (defBody sShowsNone) (defScope sShowsNone) .none kV8 dc8 pm8 an8 cd8 ct8), sl8⟩)
    (c8 : PySem.W.codeIn K cd8 "shows_none" = true)
    (k8 : PySem.W.keepIn K (.ref f8) = true)
    (a9 : PySem.W.nsIn K mainGlobals "_law_hand" = some (some (.ref f9)))
    (l9 : K.lookup f9 = some ⟨oc9, od9, .func (PySem.W.fnOf "_law_hand" "_law_hand" (defArgs sHand) (defBody sHand) (defScope sHand) .none kV9 dc9 pm9 an9 cd9 ct9), sl9⟩)
    (c9 : PySem.W.codeIn K cd9 "_law_hand" = true)
    (k9 : PySem.W.keepIn K (.ref f9) = true)
    (a10 : PySem.W.nsIn K mainGlobals "_law_take" = some (some (.ref f10)))
    (l10 : K.lookup f10 = some ⟨oc10, od10, .func (PySem.W.fnOf "_law_take" "_law_take" (defArgs sTake) (defBody sTake) (defScope sTake) .none kV10 dc10 pm10 an10 cd10 ct10), sl10⟩)
    (c10 : PySem.W.codeIn K cd10 "_law_take" = true)
    (k10 : PySem.W.keepIn K (.ref f10) = true)
    (a11 : PySem.W.nsIn K mainGlobals "_law_pick" = some (some (.ref f11)))
    (l11 : K.lookup f11 = some ⟨oc11, od11, .func (PySem.W.fnOf "_law_pick" "_law_pick" (defArgs sPick) (defBody sPick) (defScope sPick) .none kV11 dc11 pm11 an11 cd11 ct11), sl11⟩)
    (c11 : PySem.W.codeIn K cd11 "_law_pick" = true)
    (k11 : PySem.W.keepIn K (.ref f11) = true)
    (a12 : PySem.W.nsIn K mainGlobals "_law_numbers" = some (some (.ref f12)))
    (l12 : K.lookup f12 = some ⟨oc12, od12, .func (PySem.W.fnOf "_law_numbers" "_law_numbers" (defArgs sNumbers) (defBody sNumbers) (defScope sNumbers) .none kV12 dc12 pm12 an12 cd12 ct12), sl12⟩)
    (c12 : PySem.W.codeIn K cd12 "_law_numbers" = true)
    (k12 : PySem.W.keepIn K (.ref f12) = true)
    (a13 : PySem.W.nsIn K mainGlobals "_law_case" = some (some (.ref f13)))
    (l13 : K.lookup f13 = some ⟨oc13, od13, .func (PySem.W.fnOf "_law_case" "_law_case" (defArgs sCase) (defBody sCase) (defScope sCase) .none kV13 dc13 pm13 an13 cd13 ct13), sl13⟩)
    (c13 : PySem.W.codeIn K cd13 "_law_case" = true)
    (k13 : PySem.W.keepIn K (.ref f13) = true)
    (a14 : PySem.W.nsIn K mainGlobals "_law_lacks" = some (some (.ref f14)))
    (l14 : K.lookup f14 = some ⟨oc14, od14, .func (PySem.W.fnOf "_law_lacks" "_law_lacks" (defArgs sLacks) (defBody sLacks) (defScope sLacks) .none kV14 dc14 pm14 an14 cd14 ct14), sl14⟩)
    (c14 : PySem.W.codeIn K cd14 "_law_lacks" = true)
    (k14 : PySem.W.keepIn K (.ref f14) = true)
    (a15 : PySem.W.nsIn K mainGlobals "_law_are_apart" = some (some (.ref f15)))
    (l15 : K.lookup f15 = some ⟨oc15, od15, .func (PySem.W.fnOf "_law_are_apart" "_law_are_apart" (defArgs sAreApart) (defBody sAreApart) (defScope sAreApart) .none kV15 dc15 pm15 an15 cd15 ct15), sl15⟩)
    (c15 : PySem.W.codeIn K cd15 "_law_are_apart" = true)
    (k15 : PySem.W.keepIn K (.ref f15) = true)
    (a16 : PySem.W.nsIn K mainGlobals "_law_end_right" = some (some (.ref f16)))
    (l16 : K.lookup f16 = some ⟨oc16, od16, .func (PySem.W.fnOf "_law_end_right" "_law_end_right" (defArgs sEndRight) (defBody sEndRight) (defScope sEndRight) .none kV16 dc16 pm16 an16 cd16 ct16), sl16⟩)
    (c16 : PySem.W.codeIn K cd16 "_law_end_right" = true)
    (k16 : PySem.W.keepIn K (.ref f16) = true)
    (a17 : PySem.W.nsIn K mainGlobals "_law_is_book" = some (some (.ref f17)))
    (l17 : K.lookup f17 = some ⟨oc17, od17, .func (PySem.W.fnOf "_law_is_book" "_law_is_book" (defArgs sLwIsBook) (defBody sLwIsBook) (defScope sLwIsBook) .none kV17 dc17 pm17 an17 cd17 ct17), sl17⟩)
    (c17 : PySem.W.codeIn K cd17 "_law_is_book" = true)
    (k17 : PySem.W.keepIn K (.ref f17) = true)
    (a18 : PySem.W.nsIn K mainGlobals "_law_own_book" = some (some (.ref f18)))
    (l18 : K.lookup f18 = some ⟨oc18, od18, .func (PySem.W.fnOf "_law_own_book" "_law_own_book" (defArgs sOwnBook) (defBody sOwnBook) (defScope sOwnBook) .none kV18 dc18 pm18 an18 cd18 ct18), sl18⟩)
    (c18 : PySem.W.codeIn K cd18 "_law_own_book" = true)
    (k18 : PySem.W.keepIn K (.ref f18) = true)
    (a19 : PySem.W.nsIn K mainGlobals "_law_deep" = some (some (.ref f19)))
    (l19 : K.lookup f19 = some ⟨oc19, od19, .func (PySem.W.fnOf "_law_deep" "_law_deep" (defArgs sDeep) (defBody sDeep) (defScope sDeep) .none kV19 dc19 pm19 an19 cd19 ct19), sl19⟩)
    (c19 : PySem.W.codeIn K cd19 "_law_deep" = true)
    (k19 : PySem.W.keepIn K (.ref f19) = true)
    (a20 : PySem.W.nsIn K mainGlobals "_law_odd_things" = some (some (.ref f20)))
    (l20 : K.lookup f20 = some ⟨oc20, od20, .func (PySem.W.fnOf "_law_odd_things" "_law_odd_things" (defArgs sOddThings) (defBody sOddThings) (defScope sOddThings) .none kV20 dc20 pm20 an20 cd20 ct20), sl20⟩)
    (c20 : PySem.W.codeIn K cd20 "_law_odd_things" = true)
    (k20 : PySem.W.keepIn K (.ref f20) = true)
    (a21 : PySem.W.nsIn K mainGlobals "_law_told" = some (some (.ref f21)))
    (l21 : K.lookup f21 = some ⟨oc21, od21, .func (PySem.W.fnOf "_law_told" "_law_told" (defArgs sTold) (defBody sTold) (defScope sTold) .none kV21 dc21 pm21 an21 cd21 ct21), sl21⟩)
    (c21 : PySem.W.codeIn K cd21 "_law_told" = true)
    (k21 : PySem.W.keepIn K (.ref f21) = true)
    (a22 : PySem.W.nsIn K mainGlobals "law" = some (some (.ref f22)))
    (l22 : K.lookup f22 = some ⟨oc22, od22, .func (PySem.W.fnOf "law" "law" (defArgs sLaw) (defBody sLaw) (defScope sLaw) .none kV22 dc22 pm22 an22 cd22 ct22), sl22⟩)
    (c22 : PySem.W.codeIn K cd22 "law" = true)
    (k22 : PySem.W.keepIn K (.ref f22) = true)
    (z_int : PySem.W.nsIn K mainGlobals "int" = some none)
    (z_tuple : PySem.W.nsIn K mainGlobals "tuple" = some none)
    (z_len : PySem.W.nsIn K mainGlobals "len" = some none)
    (z_any : PySem.W.nsIn K mainGlobals "any" = some none)
    (z_range : PySem.W.nsIn K mainGlobals "range" = some none)
    (z_max : PySem.W.nsIn K mainGlobals "max" = some none)
    (z_min : PySem.W.nsIn K mainGlobals "min" = some none)
    (z_sorted : PySem.W.nsIn K mainGlobals "sorted" = some none)
    (z_enumerate : PySem.W.nsIn K mainGlobals "enumerate" = some none)
    (z_isinstance : PySem.W.nsIn K mainGlobals "isinstance" = some none)
    (z_bool : PySem.W.nsIn K mainGlobals "bool" = some none)
    (z_str : PySem.W.nsIn K mainGlobals "str" = some none)
    (z_all : PySem.W.nsIn K mainGlobals "all" = some none)
    (z_zip : PySem.W.nsIn K mainGlobals "zip" = some none)
    (z_set : PySem.W.nsIn K mainGlobals "set" = some none)
    (z_list : PySem.W.nsIn K mainGlobals "list" = some none)
    (z_repr : PySem.W.nsIn K mainGlobals "repr" = some none)
    : ∃ fd : FuncData, (∀ (s : Shared) (v : Value), BindsTo s fd ⟨[v], []⟩ [("_law_script", v)]) ∧
      ∀ base : Heap, K.In base → base.Ns mainGlobals mg → base.NoDigits → Gn l.prog w K mg base 35 fa fd ["_law_script"] (spLaw K) := by
  have e := hfa.symm.trans (PySem.W.mg_of X G a22)
  cases e
  have F0 := fun_mk (st := sIsWhole) l0 c0 k0
  have D0 : Df K mg "is_whole" ["thing"] sIsWhole f0 _ := ⟨F0, PySem.W.mg_of X G a0, F0.binds (ps := ["thing"]) fun _ _ _ _ _ _ us hl => match us, hl with | [_], _ => rfl⟩
  have F1 := fun_mk (st := sAreRising) l1 c1 k1
  have D1 : Df K mg "are_rising" ["things"] sAreRising f1 _ := ⟨F1, PySem.W.mg_of X G a1, F1.binds (ps := ["things"]) fun _ _ _ _ _ _ us hl => match us, hl with | [_], _ => rfl⟩
  have F2 := fun_mk (st := sHolders) l2 c2 k2
  have D2 : Df K mg "holders" ["held", "wish"] sHolders f2 _ := ⟨F2, PySem.W.mg_of X G a2, F2.binds (ps := ["held", "wish"]) fun _ _ _ _ _ _ us hl => match us, hl with | [_, _], _ => rfl⟩
  have F3 := fun_mk (st := sNotAmong) l3 c3 k3
  have D3 : Df K mg "not_among" ["things", "wishes"] sNotAmong f3 _ := ⟨F3, PySem.W.mg_of X G a3, F3.binds (ps := ["things", "wishes"]) fun _ _ _ _ _ _ us hl => match us, hl with | [_, _], _ => rfl⟩
  have F4 := fun_mk (st := sIsMissing) l4 c4 k4
  have D4 : Df K mg "is_missing" ["missing", "thing"] sIsMissing f4 _ := ⟨F4, PySem.W.mg_of X G a4, F4.binds (ps := ["missing", "thing"]) fun _ _ _ _ _ _ us hl => match us, hl with | [_, _], _ => rfl⟩
  have F5 := fun_mk (st := sShowsByTaking) l5 c5 k5
  have D5 : Df K mg "shows_by_taking" ["held", "missing", "left", "wish", "books"] sShowsByTaking f5 _ := ⟨F5, PySem.W.mg_of X G a5, F5.binds (ps := ["held", "missing", "left", "wish", "books"]) fun _ _ _ _ _ _ us hl => match us, hl with | [_, _, _, _, _], _ => rfl⟩
  have F6 := fun_mk (st := sShowsBySome) l6 c6 k6
  have D6 : Df K mg "shows_by_some" ["held", "missing", "left", "some"] sShowsBySome f6 _ := ⟨F6, PySem.W.mg_of X G a6, F6.binds (ps := ["held", "missing", "left", "some"]) fun _ _ _ _ _ _ us hl => match us, hl with | [_, _, _, _], _ => rfl⟩
  have F7 := fun_mk (st := sIsBook) l7 c7 k7
  have D7 : Df K mg "is_book" ["held", "missing", "left", "thing"] sIsBook f7 _ := ⟨F7, PySem.W.mg_of X G a7, F7.binds (ps := ["held", "missing", "left", "thing"]) fun _ _ _ _ _ _ us hl => match us, hl with | [_, _, _, _], _ => rfl⟩
  have F8 := fun_mk (st := sShowsNone) l8 c8 k8
  have D8 : Df K mg "shows_none" ["held", "wishes", "many", "thing"] sShowsNone f8 _ := ⟨F8, PySem.W.mg_of X G a8, F8.binds (ps := ["held", "wishes", "many", "thing"]) fun _ _ _ _ _ _ us hl => match us, hl with | [_, _, _, _], _ => rfl⟩
  have F9 := fun_mk (st := sHand) l9 c9 k9
  have D9 : Df K mg "_law_hand" ["_law_script", "_law_k"] sHand f9 _ := ⟨F9, PySem.W.mg_of X G a9, F9.binds (ps := ["_law_script", "_law_k"]) fun _ _ _ _ _ _ us hl => match us, hl with | [_, _], _ => rfl⟩
  have F10 := fun_mk (st := sTake) l10 c10 k10
  have D10 : Df K mg "_law_take" ["_law_hand_here", "_law_many"] sTake f10 _ := ⟨F10, PySem.W.mg_of X G a10, F10.binds (ps := ["_law_hand_here", "_law_many"]) fun _ _ _ _ _ _ us hl => match us, hl with | [_, _], _ => rfl⟩
  have F11 := fun_mk (st := sPick) l11 c11 k11
  have D11 : Df K mg "_law_pick" ["_law_hand_here", "_law_some"] sPick f11 _ := ⟨F11, PySem.W.mg_of X G a11, F11.binds (ps := ["_law_hand_here", "_law_some"]) fun _ _ _ _ _ _ us hl => match us, hl with | [_, _], _ => rfl⟩
  have F12 := fun_mk (st := sNumbers) l12 c12 k12
  have D12 : Df K mg "_law_numbers" ["_law_hand_here", "_law_many"] sNumbers f12 _ := ⟨F12, PySem.W.mg_of X G a12, F12.binds (ps := ["_law_hand_here", "_law_many"]) fun _ _ _ _ _ _ us hl => match us, hl with | [_, _], _ => rfl⟩
  have F13 := fun_mk (st := sCase) l13 c13 k13
  have D13 : Df K mg "_law_case" ["_law_hand_here", "_law_most_discs", "_law_most_wishes"] sCase f13 _ := ⟨F13, PySem.W.mg_of X G a13, F13.binds (ps := ["_law_hand_here", "_law_most_discs", "_law_most_wishes"]) fun _ _ _ _ _ _ us hl => match us, hl with | [_, _, _], _ => rfl⟩
  have F14 := fun_mk (st := sLacks) l14 c14 k14
  have D14 : Df K mg "_law_lacks" ["_law_wishes", "_law_thing"] sLacks f14 _ := ⟨F14, PySem.W.mg_of X G a14, F14.binds (ps := ["_law_wishes", "_law_thing"]) fun _ _ _ _ _ _ us hl => match us, hl with | [_, _], _ => rfl⟩
  have F15 := fun_mk (st := sAreApart) l15 c15 k15
  have D15 : Df K mg "_law_are_apart" ["_law_held", "_law_some"] sAreApart f15 _ := ⟨F15, PySem.W.mg_of X G a15, F15.binds (ps := ["_law_held", "_law_some"]) fun _ _ _ _ _ _ us hl => match us, hl with | [_, _], _ => rfl⟩
  have F16 := fun_mk (st := sEndRight) l16 c16 k16
  have D16 : Df K mg "_law_end_right" ["_law_held", "_law_wishes", "_law_many", "_law_thing"] sEndRight f16 _ := ⟨F16, PySem.W.mg_of X G a16, F16.binds (ps := ["_law_held", "_law_wishes", "_law_many", "_law_thing"]) fun _ _ _ _ _ _ us hl => match us, hl with | [_, _, _, _], _ => rfl⟩
  have F17 := fun_mk (st := sLwIsBook) l17 c17 k17
  have D17 : Df K mg "_law_is_book" ["_law_held", "_law_wishes", "_law_many", "_law_thing"] sLwIsBook f17 _ := ⟨F17, PySem.W.mg_of X G a17, F17.binds (ps := ["_law_held", "_law_wishes", "_law_many", "_law_thing"]) fun _ _ _ _ _ _ us hl => match us, hl with | [_, _, _, _], _ => rfl⟩
  have F18 := fun_mk (st := sOwnBook) l18 c18 k18
  have D18 : Df K mg "_law_own_book" ["_law_hand_here", "_law_held", "_law_wishes", "_law_many"] sOwnBook f18 _ := ⟨F18, PySem.W.mg_of X G a18, F18.binds (ps := ["_law_hand_here", "_law_held", "_law_wishes", "_law_many"]) fun _ _ _ _ _ _ us hl => match us, hl with | [_, _, _, _], _ => rfl⟩
  have F19 := fun_mk (st := sDeep) l19 c19 k19
  have D19 : Df K mg "_law_deep" ["_law_hand_here", "_law_thing"] sDeep f19 _ := ⟨F19, PySem.W.mg_of X G a19, F19.binds (ps := ["_law_hand_here", "_law_thing"]) fun _ _ _ _ _ _ us hl => match us, hl with | [_, _], _ => rfl⟩
  have F20 := fun_mk (st := sOddThings) l20 c20 k20
  have D20 : Df K mg "_law_odd_things" ["_law_hand_here", "_law_held", "_law_wishes"] sOddThings f20 _ := ⟨F20, PySem.W.mg_of X G a20, F20.binds (ps := ["_law_hand_here", "_law_held", "_law_wishes"]) fun _ _ _ _ _ _ us hl => match us, hl with | [_, _, _], _ => rfl⟩
  have F21 := fun_mk (st := sTold) l21 c21 k21
  have D21 : Df K mg "_law_told" ["_law_held", "_law_wishes", "_law_many", "_law_thing"] sTold f21 _ := ⟨F21, PySem.W.mg_of X G a21, F21.binds (ps := ["_law_held", "_law_wishes", "_law_many", "_law_thing"]) fun _ _ _ _ _ _ us hl => match us, hl with | [_, _, _, _], _ => rfl⟩
  have F22 := fun_mk (st := sLaw) l22 c22 k22
  have D22 : Df K mg "law" ["_law_script"] sLaw fa _ := ⟨F22, PySem.W.mg_of X G a22, F22.binds (ps := ["_law_script"]) fun _ _ _ _ _ _ us hl => match us, hl with | [_], _ => rfl⟩
  have T : Txt mg := ⟨PySem.W.mg_none_of X G z_int,
    PySem.W.mg_none_of X G z_tuple,
    PySem.W.mg_none_of X G z_len,
    PySem.W.mg_none_of X G z_any,
    PySem.W.mg_none_of X G z_range,
    PySem.W.mg_none_of X G z_max,
    PySem.W.mg_none_of X G z_min,
    PySem.W.mg_none_of X G z_sorted,
    PySem.W.mg_none_of X G z_enumerate,
    PySem.W.mg_none_of X G z_isinstance,
    PySem.W.mg_none_of X G z_bool,
    PySem.W.mg_none_of X G z_str,
    PySem.W.mg_none_of X G z_all,
    PySem.W.mg_none_of X G z_zip,
    PySem.W.mg_none_of X G z_set,
    PySem.W.mg_none_of X G z_list,
    PySem.W.mg_none_of X G z_repr⟩
  refine ⟨PySem.W.fnOf "law" "law" (defArgs sLaw) (defBody sLaw) (defScope sLaw) .none kV22 dc22 pm22 an22 cd22 ct22, fun s v => .of_eq rfl, fun base kb gb nd => ?g⟩
  case g =>
    have cHo := D2.ca (ok_holders (P := l.prog) (w := w) (base := base) D2 T)
    have cNA := D3.ca (ok_na (P := l.prog) (w := w) (base := base) D3 T)
    have cWG := D0.ca (ok_wholeG (P := l.prog) (w := w) (base := base) D0 T)
    have cMG := D4.ca (ok_misG D4 cWG)
    have cR := D1.ca (ok_ris (P := l.prog) (w := w) (base := base) D1 T)
    have cSo := D6.ca (ok_somG D6 T cMG cR)
    have cIBn : ∀ n : Nat, Ca l.prog w K mg base (2 * n + 4) "is_book" ["held", "missing", "left", "thing"] (spIBG K n) := by
      intro n
      induction n with
      | zero => exact D7.ca (ok_ibG (n := 0) D7 T cMG (D5.ca (ok_tkG (n := 0) D5 T cHo cNA cMG D7.no)) cSo)
      | succ n ih => exact D7.ca (ok_ibG (n := n + 1) D7 T cMG (D5.ca (ok_tkG (n := n + 1) D5 T cHo cNA cMG ih)) cSo)
    have cIB : ∀ n : Nat, n ≤ 14 → Ca l.prog w K mg base 32 "is_book" ["held", "missing", "left", "thing"] (spIBG K n) := fun n h => (cIBn n).mono (by omega)
    have cSN := D8.ca (ok_snG D8 cIB)
    have cH := D9.ca (ok_hand (P := l.prog) (w := w) (base := base) D9 T)
    have cT := D10.ca (ok_take (P := l.prog) (w := w) (base := base) D10)
    have cP := D11.ca (ok_pick D11 T cT)
    have cPT := D11.ca (ok_pickT D11 T cT)
    have cNu := D12.ca (ok_numbers D12 T cT cP)
    have cC := D13.ca (ok_case D13 T cT cP cNu)
    have cApt := D15.ca (ok_apt (P := l.prog) (w := w) (base := base) D15 T)
    have cOBn : ∀ n : Nat, Ca l.prog w K mg base (n + 4) "_law_own_book" ["_law_hand_here", "_law_held", "_law_wishes", "_law_many"] (spOwn n) := by
      intro n
      induction n with
      | zero => exact D18.ca (ok_own (n := 0) D18 T cT cP cPT cApt D18.no)
      | succ n ih => exact D18.ca (ok_own (n := n + 1) D18 T cT cP cPT cApt ih)
    have cOB : ∀ n : Nat, n ≤ 8 → Ca l.prog w K mg base 12 "_law_own_book" ["_law_hand_here", "_law_held", "_law_wishes", "_law_many"] (spOwn n) := fun n h => (cOBn n).mono (by omega)
    have cLk := D14.ca (ok_lackG (P := l.prog) (w := w) (base := base) D14 T)
    have cEn := D16.ca (ok_endG D16 T cLk cApt)
    have cLB := D17.ca (ok_lbG D17 T cLk cEn)
    have cOA := D18.ca (fn_all (N := 8) (k := 12) (sp := spOwn) fun n hn => FnOk.mono (by
      cases n with
      | zero => exact ok_own (n := 0) D18 T cT cP cPT cApt D18.no
      | succ n => exact ok_own (n := n + 1) D18 T cT cP cPT cApt (cOBn n)) (show n + 4 ≤ 12 by omega))
    have cDp := D19.ca (Xfr.frame (ok_deep D19 T cP))
    have cOd := D20.ca (ok_oddT D20 T cT cP cPT cDp)
    have GTo := ok_told D21 T cSN cLB
    exact ok_law D22 T cH cT cC cOd cOA D21 GTo
end K60
open PySem PySem.W PyProof.Rows L2
set_option maxRecDepth 100000 in
set_option maxHeartbeats 0 in
theorem PySem.Challenge.cw_takesworks_k60_books_of_anything_holds : PySem.Challenge.rw_takesworks_k60_books_of_anything.Holds := by
  w_on; o_law; k_head; (case hw => w_witness2)
  k_fill
  refine K60.walk_go (l := PySem.Challenge.rw_takesworks_k60_books_of_anything) (n := 63) (k := 35) (x := "_law_script") (sp := K60.spLaw) rfl (by decide) rfl ⟨rfl, by decide, by decide⟩ (fun w h Y => PySem.W.kIn_of Y) ?F
    (fun _ _ a ns hl hS => ⟨a, ns, rfl, hS, hl, fun _ => rfl⟩)
  case F =>
    intro w mg fa h KX G hmg
    refine' K60.all_mk KX G hmg ?a0 ?l0 ?c0 ?k0 ?a1 ?l1 ?c1 ?k1 ?a2 ?l2 ?c2 ?k2 ?a3 ?l3 ?c3 ?k3 ?a4 ?l4 ?c4 ?k4 ?a5 ?l5 ?c5 ?k5 ?a6 ?l6 ?c6 ?k6 ?a7 ?l7 ?c7 ?k7 ?a8 ?l8 ?c8 ?k8 ?a9 ?l9 ?c9 ?k9 ?a10 ?l10 ?c10 ?k10 ?a11 ?l11 ?c11 ?k11 ?a12 ?l12 ?c12 ?k12 ?a13 ?l13 ?c13 ?k13 ?a14 ?l14 ?c14 ?k14 ?a15 ?l15 ?c15 ?k15 ?a16 ?l16 ?c16 ?k16 ?a17 ?l17 ?c17 ?k17 ?a18 ?l18 ?c18 ?k18 ?a19 ?l19 ?c19 ?k19 ?a20 ?l20 ?c20 ?k20 ?a21 ?l21 ?c21 ?k21 ?a22 ?l22 ?c22 ?k22 ?z_int ?z_tuple ?z_len ?z_any ?z_range ?z_max ?z_min ?z_sorted ?z_enumerate ?z_isinstance ?z_bool ?z_str ?z_all ?z_zip ?z_set ?z_list ?z_repr
    (case a0 => k_is)
    (case l0 => k_is)
    (case c0 => k_is)
    (case k0 => k_is)
    (case a1 => k_is)
    (case l1 => k_is)
    (case c1 => k_is)
    (case k1 => k_is)
    (case a2 => k_is)
    (case l2 => k_is)
    (case c2 => k_is)
    (case k2 => k_is)
    (case a3 => k_is)
    (case l3 => k_is)
    (case c3 => k_is)
    (case k3 => k_is)
    (case a4 => k_is)
    (case l4 => k_is)
    (case c4 => k_is)
    (case k4 => k_is)
    (case a5 => k_is)
    (case l5 => k_is)
    (case c5 => k_is)
    (case k5 => k_is)
    (case a6 => k_is)
    (case l6 => k_is)
    (case c6 => k_is)
    (case k6 => k_is)
    (case a7 => k_is)
    (case l7 => k_is)
    (case c7 => k_is)
    (case k7 => k_is)
    (case a8 => k_is)
    (case l8 => k_is)
    (case c8 => k_is)
    (case k8 => k_is)
    (case a9 => k_is)
    (case l9 => k_is)
    (case c9 => k_is)
    (case k9 => k_is)
    (case a10 => k_is)
    (case l10 => k_is)
    (case c10 => k_is)
    (case k10 => k_is)
    (case a11 => k_is)
    (case l11 => k_is)
    (case c11 => k_is)
    (case k11 => k_is)
    (case a12 => k_is)
    (case l12 => k_is)
    (case c12 => k_is)
    (case k12 => k_is)
    (case a13 => k_is)
    (case l13 => k_is)
    (case c13 => k_is)
    (case k13 => k_is)
    (case a14 => k_is)
    (case l14 => k_is)
    (case c14 => k_is)
    (case k14 => k_is)
    (case a15 => k_is)
    (case l15 => k_is)
    (case c15 => k_is)
    (case k15 => k_is)
    (case a16 => k_is)
    (case l16 => k_is)
    (case c16 => k_is)
    (case k16 => k_is)
    (case a17 => k_is)
    (case l17 => k_is)
    (case c17 => k_is)
    (case k17 => k_is)
    (case a18 => k_is)
    (case l18 => k_is)
    (case c18 => k_is)
    (case k18 => k_is)
    (case a19 => k_is)
    (case l19 => k_is)
    (case c19 => k_is)
    (case k19 => k_is)
    (case a20 => k_is)
    (case l20 => k_is)
    (case c20 => k_is)
    (case k20 => k_is)
    (case a21 => k_is)
    (case l21 => k_is)
    (case c21 => k_is)
    (case k21 => k_is)
    (case a22 => k_is)
    (case l22 => k_is)
    (case c22 => k_is)
    (case k22 => k_is)
    (case z_int => k_is)
    (case z_tuple => k_is)
    (case z_len => k_is)
    (case z_any => k_is)
    (case z_range => k_is)
    (case z_max => k_is)
    (case z_min => k_is)
    (case z_sorted => k_is)
    (case z_enumerate => k_is)
    (case z_isinstance => k_is)
    (case z_bool => k_is)
    (case z_str => k_is)
    (case z_all => k_is)
    (case z_zip => k_is)
    (case z_set => k_is)
    (case z_list => k_is)
    (case z_repr => k_is)
