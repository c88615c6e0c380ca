import PyProof.Rows.All
import Wide.All
import OpenK.AllK
import Wide.FinOn
import HandS.ForMost
import HandS.ForExc
import HandS.Wide
import HandS.Flow
import HandS.IsInst
import HandS.Codes
import HandS.ExcInit
import HandS.ExcField
import HandS.ExcIs
import HandS.CallSlots
import HandS.Defaults
import HandS.MakeKw
import HandS.MakeKwOnly
import KE.KExcIs
import KE.KTryMore
import HandS.RaiseMore
import HandS.FStrTup
import PyProof.ReprRoads
import PyProof.StrLawsRepr
import KE.GoesMore
import HandS.Iter
import HandS.Walk
import HandS.More
import KE.DataMinMax
import KE.SortData
import KE.KStar
import HandS.EndTab
import KE.DataMinKey
import KE.GoesZip
import KE.GoesEnum
import PyProof.NeKinds
import HandS.TupLe
import HandS.Zip
import HandS.TupAny
import HandS.SortInts
import HandS.Style
import HandS.WideBits
import PySem.Challenge.RW_takesworks_k61_many_discs_and_wishes
set_option Elab.async false
set_option linter.all false
set_option maxRecDepth 100000
set_option maxHeartbeats 4000000
set_option pp.maxSteps 400
set_option pp.deepTerms false
/-! A caught exception that is kept: tracked as an object of its own, with its class and its dict. -/
namespace Xk
open PySem PySem.Spec PyProof.Rows L2
/-- at a: an exception of the class cls, its dict at d (if it has one) -/
def ExK (cls : Value) (d : Option Addr) (a : Addr) : HO := .ext fun h => ∃ oe : Obj, h.get? a = some oe ∧ Zc cls d oe ∧ ∃ vs, oe.data = .fields vs
theorem exK_ok {P : Program} {w : World} {H : Hp} {h : Heap} {a : Addr} {cls : Value} {d : Option Addr} {oe : Obj} {vs : Array Value}
    (e : h.get? a = some oe) (z : Zc cls d oe) (hd : oe.data = .fields vs) : ObjOk P w H h a (ExK cls d a) :=
  ⟨⟨oe, e, z, vs, hd⟩, ⟨oe, e⟩, fun _ _ y k => by
    obtain ⟨o, q, r⟩ := y
    exact ⟨o, k o q, r⟩⟩
theorem exK_at {P : Program} {w : World} {H : Hp} {h : Heap} {a : Addr} {cls : Value} {d : Option Addr} (hok : HOk P w H h) (e : H a = some (ExK cls d a)) :
    ∃ oe : Obj, h.get? a = some oe ∧ Zc cls d oe ∧ ∃ vs, oe.data = .fields vs := by
  have z : ObjOk P w H h a (.ext fun h => ∃ oe : Obj, h.get? a = some oe ∧ Zc cls d oe ∧ ∃ vs, oe.data = .fields vs) := hok a _ e
  exact z.1
section
variable {X : Cx} {pins : List (Addr × Obj)} {σ : L2.St} {H : Hp} {s : Shared}
/-- an object that came during the call, untracked as yet, is tracked from here on -/
theorem track {a : Addr} {o : HO} (I : Inv X pins σ H s) (h0 : X.s_0.heap.get? a = none) (na : H a = none) (nL : a ≠ X.env.locals)
    (nC : ∀ x c, X.env.cells.lookup x = some c → c ≠ a) (nP : ∀ p ∈ X.pn ++ pins, p.1 ≠ a) (new : ObjOk X.prog X.w (upd H a o) s.heap a o) : Inv X pins σ (upd H a o) s := by
  have n0 : ∀ {b : Addr} {u : Obj}, X.s_0.heap.get? b = some u → b ≠ a := fun {b u} e z => by
    rw [z, h0] at e
    cases e
  refine ⟨I.ok, I.os, I.bare, ⟨I.base.keep, I.base.slot, fun b u e n hx => ?_, I.base.there, fun b xs e => ?_, fun b u v e => ?_, fun b ps e => ?_⟩, I.loc, I.cell, ?_, fun x c e => ?_, fun p hp => ?_, fun b u e => ?_, I.len⟩
  · rw [upd_ne (n0 e)]
    exact I.base.free b u e n hx
  · have q := I.base.tups b xs e
    rw [upd_ne (ne_of_none q na)]
    exact q
  · have q := I.base.frzs b u v e
    rw [upd_ne (ne_of_none q na)]
    exact q
  · obtain ⟨m, q⟩ := I.base.tbls b ps e
    exact ⟨m, by rw [upd_ne (ne_of_none q na)]; exact q⟩
  · rw [upd_ne (Ne.symm nL)]
    exact I.free
  · rw [upd_ne (nC x c e)]
    exact I.freeC x c e
  · obtain ⟨e1, e2, e3⟩ := I.pin p hp
    exact ⟨e1, by rw [upd_ne (nP p hp)]; exact e2, e3⟩
  · by_cases hb : b = a
    · subst hb
      rw [upd_same] at e
      cases e
      exact new
    · rw [upd_ne hb] at e
      refine (I.hok b u e).stay (fun _ _ _ q => q) (fun c q => ?_) fun c xs q => ?_
      · rw [upd_ne (ne_of_none q na)]
        exact q
      · rw [upd_ne (ne_of_none q na)]
        exact q
end
theorem flying_kept {B h h' : Heap} {l : List Env} {a : Addr} {Z : Obj → Prop} (f : HandSPX.FlyingZ B l a Z h) (k : ∀ b o, h.get? b = some o → h'.get? b = some o) : HandSPX.FlyingZ B l a Z h' := by
  obtain ⟨f1, f2, f3, oe, vs, T, oT, ts, t1, t2, t3, t4, t5, t6, t7, t8, t9⟩ := f
  exact ⟨fun b o e => k b o (f1 b o e), f2, f3.of_keeps fun b o e _ => ⟨o, k b o e, rfl⟩, oe, vs, T, oT, ts, k _ _ t1, t2, t3, t4, t5, t6, k _ _ t7, t8, t9⟩
/-- what the clause 'except (A, B, C) as n' wishes of an exception of the body: slot i is n's; the exception is tracked -/
def wKeep (K : PySem.W.Frag) (cs : List Value) (i : Nat) (ts : Addr → TS) (Wout : WX) (D : Ends) : WX := fun cls d σ H =>
  ∃ b, PySem.W.exmAny K cls cs = some b ∧
    (b = true → ∀ a, H a = none → ts a { nx := fun σ' H' => D.nx (σ'.set i none) H', rt := D.rt, bk := fun σ' H' => D.bk (σ'.set i none) H', ct := fun σ' H' => D.ct (σ'.set i none) H' } (σ.set i (some (.ref a))) (upd H a (ExK cls d a))) ∧
    (b = false → Wout cls d σ H)
/-- a module's own class by its name -/
structure Nm (X : Cx) (x : Str) (C : Addr) : Prop where
  gl : Gl X x
  db : (x == ("__debug__" : Str)) = false
  mg : X.mg x = some (.ref C)
section
variable {X : Cx} {x1 x2 x3 n : Str} {C1 C2 C3 : Addr} {i : Nat} {body suite : List Stmt} {b₀ : Stmt} {p1 p2 p3 tp pos pos' : Pos} {tb : WX → TS} {ts : Addr → TS} {Wout : WX} {cx}
theorem ps_try_keep (hs : X.stack = X.env :: X.outer) (hf : X.env.frame = some X.env.locals) (hex : X.ex = []) (hN : X.N.Nodup) (hi : X.N[i]? = some n) (hln : X.env.kindOf n = some .local)
    (n1 : Nm X x1 C1) (n2 : Nm X x2 C2) (n3 : Nm X x3 C3) (tk : Takes X Wout)
    (hb : ∀ (W : WX) (pn : List (Addr × Obj)) (xe : Value → Shared → Prop), Takes (X.tr pn xe) W → PassesOwn (model X.prog X.w) X.A X.env xe → PSs (X.tr pn xe) body (tb W))
    (hsu : ∀ (a : Addr) (pn : List (Addr × Obj)), PSs (X.suite a pn) (b₀ :: suite) (ts a)) :
    PS X (.Try body [.ExceptHandler (some (.Tuple [.Name x1 p1, .Name x2 p2, .Name x3 p3] cx tp)) (some n) (b₀ :: suite) pos'] [] [] pos) (fun D σ H => tb (wKeep X.K [.ref C1, .ref C2, .ref C3] i ts Wout D) D σ H) := by
  refine ⟨fun pins s σ H D I h => ?_⟩
  have ok := I.ok
  have frs2 : X.A.frames = some (X.env :: X.outer) := by rw [ok.frames, hs]
  refine wpAny_Try_except ?_
  refine wpAny_mono ((hb (wKeep X.K [.ref C1, .ref C2, .ref C3] i ts Wout D) (X.pn ++ pins)
    (fun e s₁ => wpAny (model X.prog X.w) X.A (noteFrame e X.env) (fun _ s₂ => wpAny (model X.prog X.w) X.A (setFlight e none) (fun _ s₃ => wpAny (model X.prog X.w) X.A
      (handleBy e X.env [.ExceptHandler (some (.Tuple [.Name x1 p1, .Name x2 p2, .Name x3 p3] cx tp)) (some n) (b₀ :: suite) pos']) (SP X pins D) X.xe s₃) X.xe s₂) X.xe s₁)
    (fun u s' air => ?_) PassesOwn.looking).run [] s σ H D (I.toTry _) h) (fun f s1 hsp => ?_) (fun e s1 he => he)
  · obtain ⟨a, B, sI, pins', σ', H', cls, d, rfl, J', nb, up, sky, na, os, ag, b, hb1, hyes, hno⟩ := air
    have J : Inv X pins σ' H' sI := J'.ofTry ok
    have sky2 : Sky B (X.env :: X.outer) a (Zc cls d) X.env.locals s'.heap := by
      rw [← hs]
      exact sky
    refine Sky.land Zc.steady frs2 hf sky2 fun h3 fl3 up3 => ?_
    obtain ⟨oe3, vs3, he3, hz3, hd3⟩ := fl3.there
    have nfr : a ∉ frs (X.env :: X.outer) := fun hm => by
      obtain ⟨_, o', e', hnf⟩ := fl3.2.2.1.mem hm
      rw [he3] at e'
      cases e'
      exact hnf _ hd3
    have nL : a ≠ X.env.locals := fun z => nfr (List.mem_filterMap.mpr ⟨X.env, List.mem_cons_self, by rw [hf, z]⟩)
    have nF : a ∉ X.fs := fun hm => by
      obtain ⟨e, he, q⟩ := List.mem_filterMap.mp hm
      exact nfr (List.mem_filterMap.mpr ⟨e, List.mem_cons_of_mem _ he, q⟩)
    -- it was not there when the call began
    have aI : sI.heap.get? a = none := by
      cases e : sI.heap.get? a with
      | none => rfl
      | some o =>
        have z := nb a o e (by rw [hs]; exact nfr)
        rw [fl3.2.1] at z
        cases z
    have a0 : X.s_0.heap.get? a = none := by
      cases e : X.s_0.heap.get? a with
      | none => rfl
      | some o =>
        obtain ⟨o', z⟩ := J.base.there a o e (by rw [hex]; exact fun z => nomatch z)
        rw [aI] at z
        cases z
    have nP : ∀ p ∈ X.pn ++ pins, p.1 ≠ a := fun p hp z => by
      have q := (J.pin p hp).1
      rw [z, aI] at q
      cases q
    have trk : ∀ {h4 : Heap} {s4 : Shared}, s4.heap = h4 → HandSPX.FlyingZ B (X.env :: X.outer) a (Zc cls d) h4 → Inv X pins σ' H' s4 → Inv X pins σ' (upd H' a (ExK cls d a)) s4 := fun {h4 s4} e4 fl4 J4 => by
      subst e4
      obtain ⟨oe4, vs4, he4, hz4, hd4⟩ := fl4.there
      refine track J4 a0 na nL (fun x c e z => ?_) nP (exK_ok he4 hz4 hd4)
      obtain ⟨v, o, eo, ed⟩ := J4.cell x c e
      rw [z, he4] at eo
      cases eo
      rw [hd4] at ed
      cases ed
    have J3 : Inv X pins σ' H' { s' with heap := h3 } := J.landed nb fl3.1 (up.trans up3) os ag
    have S3 : Inv (X.suite a (X.pn ++ pins)) [] σ' H' { s' with heap := h3 } :=
      ⟨J3.ok.suite _ _, J3.os, J3.bare, J3.base, J3.loc, J3.cell, J3.free, J3.freeC, fun p hp => J3.pin p (by rw [List.append_nil] at hp; exact hp), J3.hok, J3.len⟩
    refine wpAny_handleBy_cons (codeAny_handlers_test ?_) (by intro q; cases q)
    have own : ∀ {x : Str} {C : Addr} {p : Pos} {Q : Value → Shared → Prop} {E : Value → Shared → Prop}, Nm X x C → Q (.ref C) { s' with heap := h3 } →
        wpAny (model X.prog X.w) (X.A.mark (some (.ref a))) (eval (.Name x p) X.env) Q E { s' with heap := h3 } := fun {x C p Q E} z q => ld_glob (X := X.suite a (X.pn ++ pins)) S3 z.gl z.mg q z.db
    have tup : ∀ {Q : Value → Shared → Prop} {E : Value → Shared → Prop}, Q (.ref h3.objs.size) { s' with heap := h3.push { cls := .type "tuple", data := .seq [Value.ref C1, .ref C2, .ref C3].toArray } } →
        wpAny (model X.prog X.w) (X.A.mark (some (.ref a))) (eval (.Tuple [.Name x1 p1, .Name x2 p2, .Name x3 p3] cx tp) X.env) Q E { s' with heap := h3 } := fun {Q E} q => by
      refine wpAny_Tuple_spliced ?_
      show wpAny _ _ (spliced ((false, eval (.Name x1 p1) X.env) :: (false, eval (.Name x2 p2) X.env) :: (false, eval (.Name x3 p3) X.env) :: [])) _ _ _
      exact Calls.spliced_cons (own n1 (Calls.spliced_cons (own n2 (Calls.spliced_cons (own n3 (Calls.spliced_nil ⟨by show 3 ≤ sizeLine; decide, q⟩))))))
    refine tup ?_
    have k4 : ∀ b o, h3.get? b = some o → (h3.push { cls := .type "tuple", data := .seq [Value.ref C1, .ref C2, .ref C3].toArray }).get? b = some o := fun b o e => Heap.get?_push_of_some _ e
    have t4 := Heap.get?_push_size h3 (o := { cls := .type "tuple", data := .seq [Value.ref C1, .ref C2, .ref C3].toArray }) rfl
    generalize h3.push { cls := .type "tuple", data := .seq [Value.ref C1, .ref C2, .ref C3].toArray } = h4 at k4 t4 ⊢
    have fl4 := flying_kept fl3 k4
    have J4 : Inv X pins σ' H' { s' with heap := h4 } := J3.kept k4
    have LT : PySem.W.Looks (model X.prog X.w) h4 (typeOf (.ref a)) cls := fun A Q E s k q => wpAny_typeOf_ref (k _ _ (k4 _ _ he3)) (by rw [hz3.1]; exact q)
    refine (PySem.W.exm_tup3 (M := model X.prog X.w) J4.kIn LT t4 hb1).here ?_
    cases b with
    | true =>
      refine codeAny_handlers_suite_as ?_
      refine HandSPX.lands_againZ fl4 fun h5 fl5 up5 => ?_
      have J5 : Inv X pins σ' H' { s' with heap := h5 } := J.landed nb fl5.1 ((up.trans up3).trans ((Heap.UpToSlots.of_keeps k4).trans up5)) os ag
      have T5 := trk rfl fl5 J5
      have S5 : Inv (X.suite a (X.pn ++ pins)) [] σ' (upd H' a (ExK cls d a)) { s' with heap := h5 } :=
        ⟨T5.ok.suite _ _, T5.os, T5.bare, T5.base, T5.loc, T5.cell, T5.free, T5.freeC, fun p hp => T5.pin p (by rw [List.append_nil] at hp; exact hp), T5.hok, T5.len⟩
      refine store_ok (X := X.suite a (X.pn ++ pins)) (v := .ref a) S5 hN hi (.inl hln) rfl (fun s6 S6 => ?_) (.inr hln)
      refine wpAny_mono ((hsu a (X.pn ++ pins)).run [] s6 _ _ _ S6 (hyes rfl a na)) (fun f s7 hsp => ?_) (fun _ _ z => False.elim z)
      have back : ∀ {σ7 : L2.St} {H7 : Hp}, Inv (X.suite a (X.pn ++ pins)) [] σ7 H7 s7 → Inv X pins σ7 H7 s7 := fun {σ7 H7} S7 =>
        ⟨ok, S7.os, S7.bare, S7.base, S7.loc, S7.cell, S7.free, S7.freeC, fun p hp => S7.pin p (by rw [List.append_nil]; exact hp), S7.hok, S7.len⟩
      cases f with
      | next =>
        obtain ⟨σ7, H7, S7, q7⟩ := hsp
        exact gone_ok (back S7) hN hi hln fun s8 J8 => ⟨_, _, J8, q7⟩
      | brk =>
        obtain ⟨σ7, H7, S7, q7⟩ := hsp
        exact gone_ok (back S7) hN hi hln fun s8 J8 => ⟨_, _, J8, q7⟩
      | cont =>
        obtain ⟨σ7, H7, S7, q7⟩ := hsp
        exact gone_ok (back S7) hN hi hln fun s8 J8 => ⟨_, _, J8, q7⟩
      | ret u =>
        obtain ⟨v7, σ7, H7, S7, r7, q7⟩ := hsp
        exact gone_ok (back S7) hN hi hln fun s8 J8 => ⟨_, _, _, J8, r7, q7⟩
    | false =>
      refine wpAny_handleBy_nil ?_
      obtain ⟨k1, k2, k3, oe, vs, T, oT, ts', he, hz, hd, h1, hr⟩ := id fl4
      unfold PySem.passOn
      refine wpAny_bind (wpAny_field he hd h1 ?_)
      rw [if_neg (by simp : ¬ ((Value.ref T == Value.none) = true))]
      have fin : wpAny (model X.prog X.w) X.A (setFlight (.ref a) X.env.frame) (fun _ s5 => wpAny (model X.prog X.w) X.A (throw (.ref a) : Sem Flow) (SP X pins D) X.xe s5) X.xe { s' with heap := h4 } := by
        rw [hf]
        refine HandSPX.setFlight_upZ fl4 fun h5 hh5 up5 => wpAny_throw (tk _ _ ?_)
        exact ⟨a, B, sI, pins, σ', H', cls, d, rfl, J, nb, (up.trans up3).trans ((Heap.UpToSlots.of_keeps k4).trans up5), .inr (.inr (by rw [hs]; exact hh5)), na, os, ag, hno rfl⟩
      first
        | exact wpAny_bind (wpAny_pure (wpAny_bind fin))
        | exact wpAny_bind fin
  · cases f with
    | next =>
      obtain ⟨σ', H', J', q⟩ := hsp
      exact wpAny_execs_nil ⟨σ', H', J'.ofTry ok, q⟩
    | brk =>
      obtain ⟨σ', H', J', q⟩ := hsp
      exact ⟨σ', H', J'.ofTry ok, q⟩
    | cont =>
      obtain ⟨σ', H', J', q⟩ := hsp
      exact ⟨σ', H', J'.ofTry ok, q⟩
    | ret u =>
      obtain ⟨v, σ', H', J', r, q⟩ := hsp
      exact ⟨v, σ', H', J'.ofTry ok, r, q⟩
end
end Xk
set_option Elab.async false
set_option linter.all false
set_option maxRecDepth 100000
set_option maxHeartbeats 4000000
set_option pp.maxSteps 400
set_option pp.deepTerms false
namespace Xk
open PySem PySem.Spec PyProof.Rows L2
/-- what an own exception class says, so that its kept instances are read and asked -/
structure XcC (K : PySem.W.Frag) (C : Addr) : Prop where
  cl : (PySem.W.clsIn K C).isSome = true
  ga : PySem.W.findIn K (.ref C) "__getattribute__" = some (some (.builtin "BaseException.__getattribute__"))
  gg : PySem.W.findIn K (.ref C) "__getattr__" = some none
  sb : PySem.W.subIn K (.ref C) (.type "BaseException") = some true
  hd : PySem.W.hasDictIn K C = true
  ha : PySem.W.findIn K (.ref C) "__class__" = some (some (.builtin "object.__class__"))
  hn : PySem.W.specialIn K (.builtin "object.__class__") "__get__" = some (some (.builtin "getset_descriptor.__get__"))
  ht : PySem.W.takesIn K (.builtin "object.__class__") = some true
  hm : PySem.W.mroIn K C (.type "object") = some true
/-- a kept exception of the class at C with the fields fs -/
def Kept (H : Hp) (a C : Addr) (fs : List (Str × V)) : Prop := ∃ d, H a = some (ExK (.ref C) (some d) a) ∧ H d = some (.xd fs)
theorem Kept.same {H H' : Hp} {a C : Addr} {fs : List (Str × V)} (k : Kept H a C fs) (s : L2.Same H H') : Kept H' a C fs := by
  obtain ⟨d, e1, e2⟩ := k
  exact ⟨d, s _ _ e1, s _ _ e2⟩
section
variable {X : Cx} {pins : List (Addr × Obj)} {σ : L2.St} {H : Hp} {s : Shared}
theorem Kept.inst {a C : Addr} {fs : List (Str × V)} (I : Inv X pins σ H s) (k : Kept H a C fs) :
    ∃ (oe od : Obj) (mA : Str → Option Value), PySem.W.InstAt s.heap a oe C (some od) ∧ (∀ n, PySem.W.lookIn n od = some (mA n)) ∧ ∀ f, RelO (fs.lookup f) (mA f) := by
  obtain ⟨d, e1, e2⟩ := k
  obtain ⟨oe, he, hz, vs, hv⟩ := exK_at I.hok e1
  have hx : ObjOk X.prog X.w H s.heap d (.xd fs) := I.hok d _ e2
  obtain ⟨mA, hns, hr⟩ := hx
  obtain ⟨od, ho, hl⟩ := lookIn_ns hns
  refine ⟨oe, od, mA, ⟨he, hz.1, by unfold PySem.W.notCls; rw [hv] <;> rfl, by rw [hz.2]; exact ho⟩, hl, hr⟩
end
/-- e.f of a kept exception -/
def tKf (C : Addr) (f : Str) (te : TE) : TE := fun σ H Q => te σ H fun x H1 => ∃ (a : Addr) (fs : List (Str × V)) (v : V), x = .ref a ∧ Kept H1 a C fs ∧ fs.lookup f = some v ∧ Q v H1
theorem pe_kf {X : Cx} {C : Addr} {e : Expr} {te : TE} {pos : Pos} {n : Str} (T : XcC X.K C) (hno : PySem.W.findIn X.K (.ref C) n = some none) (he : PE X e te)
    (hb : attributeBase e n X.env (eval e X.env) = eval e X.env := by rfl) : PE X (.Attribute e n pos) (tKf C n te) := by
  refine ⟨fun pins s σ H Q I h => attr_of hb (thn (he.run pins s σ H _ I h) fun u s1 z => ?_)⟩
  obtain ⟨x, H1, I1, rx, a, fs, v, ex, k, l, q⟩ := z
  subst ex
  obtain rfl : u = Value.ref a := rx
  obtain ⟨oe, od, mA, J, hl, hr⟩ := k.inst I1
  obtain ⟨y, hy, ry⟩ := RelO.some_of (v := v) (o := mA n) (by rw [← l]; exact hr n)
  exact HandSPX.exc_get I1.kIn J T.ga T.gg T.sb (PySem.W.findObj_own T.hd hno rfl (by rw [hl, hy])) (handed_of ry) ⟨v, H1, I1.tok _, ry, q⟩
/-- isinstance(e, c), isinstance(e, (c1, ..)) of a kept exception -/
def rIsK (K : PySem.W.Frag) (C : Addr) : List V → Hp → VK → Prop := fun xs H Q => ∃ (a : Addr) (fs : List (Str × V)) (c : V) (u : Value) (b : Bool), xs = [.ref a, c] ∧ Kept H a C fs ∧ ClsV c u ∧ PySem.W.kitOne K (.ref C) u = some b ∧ Q (.bl b) H
def rIsKT (K : PySem.W.Frag) (C : Addr) : List V → Hp → VK → Prop := fun xs H Q => ∃ (a tp : Addr) (fs : List (Str × V)) (cs : List V) (us : List Value) (b : Bool), xs = [.ref a, .ref tp] ∧ Kept H a C fs ∧
  H tp = some (.tup cs) ∧ Paired ClsV cs us ∧ PySem.W.kitAny K (.ref C) us = some b ∧ Q (.bl b) H
theorem call_isK {X : Cx} {C : Addr} (T : XcC X.K C) : CallR X (.builtin "isinstance") (rIsK X.K C) := by
  intro pins s σ H xs us Q I r h
  obtain ⟨a, fs, c, u, b, rfl, k, hc, e, q⟩ := h
  obtain ⟨u1, u2, rfl, r1, r2⟩ := vals2 r
  have e2 := hc.eq r2
  subst e2
  cases (show u1 = Value.ref a from r1)
  obtain ⟨oe, od, mA, J, _, _⟩ := k.inst I
  exact PySem.W.kia_one (PySem.W.kitx_exc (ox := oe) (od := some od) T.cl T.ga T.gg T.sb T.ha T.hn T.ht T.hm) I.kIn J e (fun z => nomatch z) fun tk => ⟨.bl b, H, I.tok tk, rfl, q⟩
theorem call_isKT {X : Cx} {C : Addr} (T : XcC X.K C) : CallR X (.builtin "isinstance") (rIsKT X.K C) := by
  intro pins s σ H xs us Q I r h
  obtain ⟨a, tp, fs, cs, ws, b, rfl, k, hT, hc, e, q⟩ := h
  obtain ⟨u1, u2, rfl, r1, r2⟩ := vals2 r
  cases (show u1 = Value.ref a from r1)
  cases (show u2 = Value.ref tp from r2)
  obtain ⟨oe, od, mA, J, _, _⟩ := k.inst I
  have ht : ObjOk X.prog X.w H s.heap tp (.tup cs) := I.hok tp _ hT
  obtain ⟨_, its, rv, o, h1, h2, n, h3⟩ := ht
  have e3 := ClsV.all hc rv
  subst e3
  obtain ⟨oc, od2, dt, sl⟩ := o
  simp only at h2 h3
  subst h2 h3
  exact PySem.W.kia_tup (PySem.W.kitx_exc (ox := oe) (od := some od) T.cl T.ga T.gg T.sb T.ha T.hn T.ht T.hm) I.kIn J h1 e (fun z => nomatch z) fun tk => ⟨.bl b, H, I.tok tk, rfl, q⟩
/-! ### B.__init__(self, ..), B an own class over ValueError without own __init__ -/
structure BiC (K : PySem.W.Frag) (B : Addr) : Prop where
  rd : PySem.W.readsIn K B (.type "type") = true
  sp : PySem.W.specialIn K (.ref B) "__getattribute__" = some (some (.builtin "type.__getattribute__"))
  fi : PySem.W.findCls K (.ref B) (.type "type") "__init__" = some (.val (.builtin "ValueError.__init__"))
theorem pe_binit {X : Cx} {B : Addr} {x : Str} {e : Expr} {es : List Expr} {ta : TA} {p1 p2 pos : Pos} {pl : Sem Bool} (T : BiC X.K B) (gl : Gl X x) (mg : X.mg x = some (.ref B)) (ha : PA X (e :: es) ta) (hdb : (x == ("__debug__" : Str)) = false := by decide)
    (hc : eval (.Call (.Attribute (.Name x p1) "__init__" p2) (e :: es) [] pos) X.env = (do
      let ov ← eval (.Name x p1) X.env
      standAt p2.atName
      let (f, first) ← holding [ov] (getMethod ov "__init__" pl)
      callWith pos f first (backTo pos (starEach (e :: es) X.env)) (backToKw pos (keywordEach [] X.env))) := by rfl)
    (he : starEach (e :: es) X.env = (false, eval e X.env) :: starEach es X.env := by rfl) (hpl : (backTo pos (starEach es X.env)).any (·.1) = false := by rfl) :
    PE X (.Call (.Attribute (.Name x p1) "__init__" p2) (e :: es) [] pos) (tVeI X.K ta) := by
  refine ⟨fun pins s σ H Q I h => PySem.W.methodCall_KW (ld_glob I gl mg ?_ hdb) hc⟩
  refine PySem.W.method_cls I.kIn T.sp (PySem.W.cls_value I.kIn T.rd T.fi (by decide +kernel) ?_)
  show wpAny _ _ (callWith pos (Value.builtin "ValueError.__init__") [] (backTo pos (starEach (e :: es) X.env)) []) _ _ _
  refine PyProof.Rows.callWith_method1 (thn (ha.run pos pins _ σ H _ (I.tok _) h) fun us s1 z => ?_) he hpl
  obtain ⟨vs, H1, I1, r1, a, C, ws, ev, hl, Tx, ea, q⟩ := z
  subst ev
  cases r1 with
  | @cons _ u0 _ ur ra rw' =>
    obtain rfl : u0 = Value.ref a := ra
    refine oinit_ok Tx I1 ea ?_ fun s' J => ⟨.non, H1, J, rfl, q⟩
    rw [← Paired.length rw', sizeLine_eq]
    omega
/-! ### calls in a try's body: what is raised is wished for at the slots -/
section
variable {X : Cx} {CX : CXT} {k n : Nat} {f C : Addr} {fd : FuncData} {ps ks : List Str} {sp : Sp} {dvs : List V} {ds : List Value} {E : L2.St → XK} {x : Str} {p pos : Pos} {e : Expr} {es : List Expr} {kws : List Keyword} {t tk : TA}
  {g : List Value → List Value → List Value} {gV : List V → List V → List V}
def tMakeS (C : Addr) (sp : Sp) (dvs : List V) (E : L2.St → XK) (t : TA) : TE := fun σ H Q => t σ H fun vs H1 => ∀ x dx, H1 x = none → H1 dx = none → dx ≠ x →
  sp (.ref x :: (vs ++ dvs)) (upd (upd H1 dx (.own x)) x (.ins C dx [])) (fun v H2 => v = .non ∧ Q (.ref x) H2) (E σ)
theorem pe_makeS (M : Mk X.K C f) (F : FnOk X.prog X.w X.K X.mg X.base CX k f fd ps sp) (room : Room (k + 1) X.A) (gl : Gl X x) (mg : X.mg x = some (.ref C)) (bd : Binds X.K fd ps ds) (rd : Vals dvs ds) (px : ∀ σ, PassesAt CX X σ (E σ))
    (ha : PA X (e :: es) t) (hdb : (x == ("__debug__" : Str)) = false := by decide) (he : starEach (e :: es) X.env = (false, eval e X.env) :: starEach es X.env := by rfl) (hpl : (backTo pos (starEach es X.env)).any (·.1) = false := by rfl) :
    PE X (.Call (.Name x p) (e :: es) [] pos) (tMakeS C sp dvs E t) := by
  refine ⟨fun pins s σ H Q I h => wpAny_Call_Name_kw (ld_glob I gl mg ?_ hdb)⟩
  refine PySem.W.callWith_K (h₀ := X.base) I.ok.mod.kin M.kp (thn (ha.run pos pins s σ H _ I h) fun us s1 z => ?_) he hpl
  obtain ⟨vs, H1, I1, r, q⟩ := z
  refine ⟨I1.kIn, ?_⟩
  have q1 := q (s1.heap.objs.size + 1) s1.heap.objs.size (I1.hok.fresh (Nat.le_succ _)) (I1.hok.fresh (Nat.le_refl _)) (Nat.ne_of_lt (Nat.lt_succ_self _))
  have I2 := Inv.made (C := C) I1
  have r2 : Vals (V.ref (s1.heap.objs.size + 1) :: (vs ++ dvs)) (Value.ref (s1.heap.objs.size + 1) :: (us ++ ds)) := .cons rfl (r.append rd)
  have many : (Value.ref (s1.heap.objs.size + 1) :: us ++ ds).length = ps.length := (r2.length.symm.trans (F.len _ _ _ _ q1))
  refine wpAny_call (make_map (f := f) I1.kIn M.makes M.init (beq_iff_eq.mp M.fn) (codeAny_mono (F.run _ X.stack _ _ ⟨Value.ref (s1.heap.objs.size + 1) :: us, []⟩ (Value.ref (s1.heap.objs.size + 1) :: (us ++ ds)) _ _ (E σ)
    (room.make C us []) (I2.env0.make C us []) (bd _ (Value.ref (s1.heap.objs.size + 1) :: us) I2.kIn many) r2 q1) fun r s' z => ?_))
  cases r with
  | error e => exact px σ pins _ _ e s' I2 z
  | ok fl =>
    cases fl with
    | ret u =>
      obtain ⟨v, H', I3, rv, ev, q3⟩ := I2.after z
      subst ev
      exact ⟨rv, ⟨V.ref (s1.heap.objs.size + 1), H', I3, rfl, q3⟩⟩
    | next => exact False.elim z
    | brk => exact False.elim z
    | cont => exact False.elim z
def tMakeKS (C : Addr) (m : Nat) (sp : Sp) (gV : List V → List V → List V) (E : L2.St → XK) (tk : TA) : TE := fun σ H Q => tk σ H fun zs H2 => zs.length = m ∧
  ∀ x dx, H2 x = none → H2 dx = none → dx ≠ x → sp (gV [.ref x] zs) (upd (upd H2 dx (.own x)) x (.ins C dx [])) (fun v H3 => v = .non ∧ Q (.ref x) H3) (E σ)
theorem pe_makeKS (M : Mk X.K C f) (F : FnOk X.prog X.w X.K X.mg X.base CX k f fd ps sp) (room : Room (k + 1) X.A) (gl : Gl X x) (mg : X.mg x = some (.ref C)) (kb : KBn X.K fd ps 1 ks g gV) (px : ∀ σ, PassesAt CX X σ (E σ)) (pk : PK X kws tk)
    (hall : (backToKw pos (keywordEach kws X.env)).all (·.1.isSome) = true := by rfl) (hks : (backToKw pos (keywordEach kws X.env)).filterMap (·.1) = ks := by rfl) (hdb : (x == ("__debug__" : Str)) = false := by decide)
    (hpl : ((backTo pos (starEach [] X.env)).any (·.1) || (backToKw pos (keywordEach kws X.env)).any (·.1.isNone)) = false := by rfl) :
    PE X (.Call (.Name x p) [] kws pos) (tMakeKS C ks.length sp gV E tk) := by
  refine ⟨fun pins s σ H Q I h => wpAny_Call_Name_kw (ld_glob I gl mg ?_ hdb)⟩
  refine PySem.W.callWith_KW0 (h₀ := X.base) I.ok.mod.kin M.kp hall (thn (pk.run pos pins s σ H _ I h) fun ws s1 z => ?_) hpl
  obtain ⟨zs, H1, I1, rz, l2, q⟩ := z
  refine ⟨I1.kIn, ?_⟩
  rw [hks]
  have q1 := q (s1.heap.objs.size + 1) s1.heap.objs.size (I1.hok.fresh (Nat.le_succ _)) (I1.hok.fresh (Nat.le_refl _)) (Nat.ne_of_lt (Nat.lt_succ_self _))
  have I2 := Inv.made (C := C) I1
  have r1 : Vals [V.ref (s1.heap.objs.size + 1)] [Value.ref (s1.heap.objs.size + 1)] := .cons rfl .nil
  have r2 := kb.rel r1 rz
  refine wpAny_call (make_map (f := f) I1.kIn M.makes M.init (beq_iff_eq.mp M.fn) (codeAny_mono (F.run _ X.stack _ _ ⟨[Value.ref (s1.heap.objs.size + 1)], ks.zip ws⟩ (g [Value.ref (s1.heap.objs.size + 1)] ws) _ _ (E σ)
    (room.make C [] (ks.zip ws)) (I2.env0.make C [] (ks.zip ws)) (kb.to _ [Value.ref (s1.heap.objs.size + 1)] ws I2.kIn rfl (rz.length.symm.trans l2)) r2 q1) fun r s' z => ?_))
  cases r with
  | error e => exact px σ pins _ _ e s' I2 z
  | ok fl =>
    cases fl with
    | ret u =>
      obtain ⟨v, H', I3, rv, ev, q3⟩ := I2.after z
      subst ev
      exact ⟨rv, ⟨V.ref (s1.heap.objs.size + 1), H', I3, rfl, q3⟩⟩
    | next => exact False.elim z
    | brk => exact False.elim z
    | cont => exact False.elim z
def tCallKS (m : Nat) (sp : Sp) (gV : List V → List V → List V) (E : L2.St → XK) (tk : TA) : TE := fun σ H Q => tk σ H fun zs H2 => zs.length = m ∧ sp (gV [] zs) H2 Q (E σ)
theorem pe_callKS (F : FnOk X.prog X.w X.K X.mg X.base CX k f fd ps sp) (room : Room k X.A) (gl : Gl X x) (mg : X.mg x = some (.ref f)) (kp : PySem.W.keepIn X.K (.ref f) = true) (kb : KBn X.K fd ps 0 ks g gV) (px : ∀ σ, PassesAt CX X σ (E σ)) (pk : PK X kws tk)
    (hall : (backToKw pos (keywordEach kws X.env)).all (·.1.isSome) = true := by rfl) (hks : (backToKw pos (keywordEach kws X.env)).filterMap (·.1) = ks := by rfl) (hdb : (x == ("__debug__" : Str)) = false := by decide)
    (hpl : ((backTo pos (starEach [] X.env)).any (·.1) || (backToKw pos (keywordEach kws X.env)).any (·.1.isNone)) = false := by rfl) :
    PE X (.Call (.Name x p) [] kws pos) (tCallKS ks.length sp gV E tk) := by
  refine ⟨fun pins s σ H Q I h => wpAny_Call_Name_kw (ld_glob I gl mg ?_ hdb)⟩
  refine PySem.W.callWith_KW0 (h₀ := X.base) I.ok.mod.kin kp hall (thn (pk.run pos pins s σ H _ I h) fun ws s1 z => ?_) hpl
  obtain ⟨zs, H1, I1, rz, l2, q⟩ := z
  refine ⟨I1.kIn, ?_⟩
  rw [hks]
  have rn : Vals [] [] := .nil
  have r2 := kb.rel rn rz
  refine wpAny_call (codeAny_mono (F.run X.A X.stack s1 H1 ⟨[], ks.zip ws⟩ (g [] ws) (gV [] zs) Q (E σ) room I1.env0 (kb.to s1 [] ws I1.kIn rfl (rz.length.symm.trans l2)) r2 q) fun r s' z => ?_)
  cases r with
  | error e => exact px σ pins _ _ e s' I1 z
  | ok fl =>
    cases fl with
    | ret u => exact I1.after z
    | next => exact False.elim z
    | brk => exact False.elim z
    | cont => exact False.elim z
end
end Xk
set_option Elab.async false
set_option linter.all false
set_option maxRecDepth 100000
set_option maxHeartbeats 4000000
set_option pp.maxSteps 400
set_option pp.deepTerms false
/-! Things of any kind: texts, numbers, truths, None, and lists, tuples, dicts of these, at any depth. -/
namespace Az
open PySem PySem.Spec PyProof.Rows L2
def keyD : Key → PyData
  | .inl i => .int i
  | .inr x => .str x
mutual
inductive Dz (K : PySem.W.Frag) (H : Hp) : V → PyData → Prop
  | non : Dz K H .non .none
  | bl (b : Bool) : Dz K H (.bl b) (.bool b)
  | int (i : Int) : Dz K H (.int i) (.int i)
  | str (x : Str) : Dz K H (.str x) (.str x)
  | lst {a : Addr} {xs : List V} {ds : List PyData} : H a = some (.lst xs) → a ≠ sysModules → DzAll K H xs ds → Dz K H (.ref a) (.list ds)
  | tup {a : Addr} {xs : List V} {ds : List PyData} : H a = some (.tup xs) → DzAll K H xs ds → Dz K H (.ref a) (.tuple ds)
  | dct {a : Addr} {kvs : List (Key × V)} {ds : List (PyData × PyData)} : H a = some (.dK kvs) → DzKv K H kvs ds → Dz K H (.ref a) (.dict ds)
inductive DzAll (K : PySem.W.Frag) (H : Hp) : List V → List PyData → Prop
  | nil : DzAll K H [] []
  | cons {v : V} {vs : List V} {d : PyData} {ds : List PyData} : Dz K H v d → DzAll K H vs ds → DzAll K H (v :: vs) (d :: ds)
inductive DzKv (K : PySem.W.Frag) (H : Hp) : List (Key × V) → List (PyData × PyData) → Prop
  | nil : DzKv K H [] []
  | cons {k : Key} {v : V} {kvs : List (Key × V)} {d : PyData} {ds : List (PyData × PyData)} : Dz K H v d → DzKv K H kvs ds → DzKv K H ((k, v) :: kvs) ((keyD k, d) :: ds)
end
section
variable {K : PySem.W.Frag} {H H' : Hp}
mutual
/-- what is read of a thing stays while its objects do -/
theorem Dz.keep (s : ∀ b o, H b = some o → (∀ x, o ≠ .own x) → H' b = some o) : ∀ {v : V} {d : PyData}, Dz K H v d → Dz K H' v d
  | _, _, .non => .non
  | _, _, .bl b => .bl b
  | _, _, .int i => .int i
  | _, _, .str x => .str x
  | _, _, .lst e n r => .lst (s _ _ e (fun _ z => by cases z)) n (DzAll.keep s r)
  | _, _, .tup e r => .tup (s _ _ e (fun _ z => by cases z)) (DzAll.keep s r)
  | _, _, .dct e r => .dct (s _ _ e (fun _ z => by cases z)) (DzKv.keep s r)
theorem DzAll.keep (s : ∀ b o, H b = some o → (∀ x, o ≠ .own x) → H' b = some o) : ∀ {v : List V} {d : List PyData}, DzAll K H v d → DzAll K H' v d
  | _, _, .nil => .nil
  | _, _, .cons h r => .cons (Dz.keep s h) (DzAll.keep s r)
theorem DzKv.keep (s : ∀ b o, H b = some o → (∀ x, o ≠ .own x) → H' b = some o) : ∀ {v : List (Key × V)} {d : List (PyData × PyData)}, DzKv K H v d → DzKv K H' v d
  | _, _, .nil => .nil
  | _, _, .cons h r => .cons (Dz.keep s h) (DzKv.keep s r)
end
theorem Dz.same {v : V} {d : PyData} (h : Dz K H v d) (s : L2.Same H H') : Dz K H' v d := h.keep fun b o e _ => s b o e
theorem DzAll.same {v : List V} {d : List PyData} (h : DzAll K H v d) (s : L2.Same H H') : DzAll K H' v d := h.keep fun b o e _ => s b o e
/-- the kind of a thing -/
def kindD : PyData → String
  | .none => "NoneType"
  | .bool _ => "bool"
  | .int _ => "int"
  | .str _ => "str"
  | .list _ => "list"
  | .tuple _ => "tuple"
  | .dict _ => "dict"
theorem Dz.ty {v : V} {d : PyData} (h : Dz K H v d) : TyX K H v (.type (kindD d)) := by
  cases h with
  | non => exact .base .non
  | bl b => exact .base (.bl b)
  | int i => exact .base (.int i)
  | str x => exact .base (.str x)
  | lst e _ _ => exact .base (.lst e)
  | tup e _ => exact .base (.tup e)
  | dct e _ => exact .base (.dK e)
end
section
variable {X : Cx} {pins : List (Addr × Obj)} {σ : L2.St} {H : Hp} {s : Shared}
theorem pairs_keys {P : Program} {w : World} : ∀ {es : List DictEntry} {vs : List (Key × Value)}, PySem.Pairs (mixKind P w) es vs → ∃ as, ReadsAll s.heap (es.map (·.key)) (vs.map fun p => keyD p.1) as ∧ as = []
  | _, _, .nil => ⟨[], .nil, rfl⟩
  | e :: es, (k, u) :: vs, .cons h1 h2 r => by
    obtain ⟨as, q, rfl⟩ := pairs_keys r
    rcases keyIs_shape (show keyIs k e.key = true from h1) with ⟨i, t, rfl, ek⟩ | ⟨x, t, rfl, ek⟩
    · refine ⟨[] ++ [], .cons ?_ q, rfl⟩
      show Reads s.heap e.key (.int i) []
      rw [ek]
      exact .int i t
    · refine ⟨[] ++ [], .cons ?_ q, rfl⟩
      show Reads s.heap e.key (.str x) []
      rw [ek]
      exact .str x t
theorem pairs_vals {P : Program} {w : World} : ∀ {es : List DictEntry} {vs : List (Key × Value)}, PySem.Pairs (mixKind P w) es vs → es.map (·.val) = vs.map (·.2)
  | _, _, .nil => rfl
  | e :: es, (k, u) :: vs, .cons h1 h2 r => by
    rw [List.map_cons, List.map_cons, pairs_vals r, h2]
mutual
theorem Dz.reads (I : Inv X pins σ H s) : ∀ (d : PyData) (v : V) (u : Value), Dz X.K H v d → RelV v u → ∃ as, Reads s.heap u d as ∧ sysModules ∉ as
  | .none, _, _, h, r => by
    cases h
    cases r
    exact ⟨[], .none, by simp⟩
  | .bool b, _, _, h, r => by
    cases h
    cases r
    exact ⟨[], .bool b, by simp⟩
  | .int i, _, _, h, r => by
    cases h
    obtain ⟨t, rfl⟩ := r
    exact ⟨[], .int i t, by simp⟩
  | .str x, _, _, h, r => by
    cases h
    obtain ⟨t, rfl⟩ := r
    exact ⟨[], .str x t, by simp⟩
  | .list ds, _, _, h, r => by
    cases h with
    | @lst a xs _ e ne ha =>
      cases r
      have ok : ObjOk X.prog X.w H s.heap a (.lst xs) := I.hok a _ e
      obtain ⟨_, its, n, rv, eh⟩ := ok
      obtain ⟨as, q, na⟩ := DzAll.reads I ds xs its ha rv
      refine ⟨a :: as, .list eh rfl rfl (by simpa using q), fun m => ?_⟩
      rcases List.mem_cons.mp m with z | z
      · exact ne z.symm
      · exact na z
  | .tuple ds, _, _, h, r => by
    cases h with
    | @tup a xs _ e ha =>
      cases r
      have ok : ObjOk X.prog X.w H s.heap a (.tup xs) := I.hok a _ e
      obtain ⟨_, its, rv, o, eh, ec, n, ed⟩ := ok
      obtain ⟨as, q, na⟩ := DzAll.reads I ds xs its ha rv
      exact ⟨as, .tuple eh ec ed (by simpa using q), na⟩
  | .dict ds, _, _, h, r => by
    cases h with
    | @dct a kvs _ e ha =>
      cases r
      obtain ⟨_, ne, vs, rel, o, es, ep, eh, ex, ed, _, pr, _⟩ := dk_of I.hok e
      obtain ⟨as, q1, rfl⟩ := pairs_keys (s := s) pr
      obtain ⟨bs, q2, nb⟩ := DzKv.reads I ds kvs vs ha rel
      have hk : (vs.map fun p => keyD p.1) = ds.map (·.1) := DzKv.keys ha rel
      rw [hk] at q1
      refine ⟨a :: [] ++ bs, .dict eh ex.1 ed q1 (by rw [pairs_vals pr]; exact q2), fun m => ?_⟩
      rcases List.mem_cons.mp m with z | z
      · rw [← z] at ne
        simp at ne
      · exact nb z
theorem DzAll.reads (I : Inv X pins σ H s) : ∀ (ds : List PyData) (vs : List V) (us : List Value), DzAll X.K H vs ds → Vals vs us → ∃ as, ReadsAll s.heap us ds as ∧ sysModules ∉ as
  | [], _, _, h, r => by
    cases h
    cases r
    exact ⟨[], .nil, by simp⟩
  | d :: ds, _, _, h, r => by
    cases h with
    | cons h1 h2 =>
      cases r with
      | cons r1 r2 =>
        obtain ⟨as, q1, n1⟩ := Dz.reads I d _ _ h1 r1
        obtain ⟨bs, q2, n2⟩ := DzAll.reads I ds _ _ h2 r2
        exact ⟨as ++ bs, .cons q1 q2, fun m => (List.mem_append.mp m).elim n1 n2⟩
theorem DzKv.reads (I : Inv X pins σ H s) : ∀ (ds : List (PyData × PyData)) (kvs : List (Key × V)) (vs : List (Key × Value)), DzKv X.K H kvs ds → KV kvs vs → ∃ as, ReadsAll s.heap (vs.map (·.2)) (ds.map (·.2)) as ∧ sysModules ∉ as
  | [], _, _, h, r => by
    cases h
    cases r
    exact ⟨[], .nil, by simp⟩
  | (_, d) :: ds, _, _, h, r => by
    cases h with
    | cons h1 h2 =>
      cases r with
      | cons r1 r2 =>
        obtain ⟨as, q1, n1⟩ := Dz.reads I d _ _ h1 r1.2
        obtain ⟨bs, q2, n2⟩ := DzKv.reads I ds _ _ h2 r2
        exact ⟨as ++ bs, .cons q1 q2, fun m => (List.mem_append.mp m).elim n1 n2⟩
theorem DzKv.keys {K : PySem.W.Frag} : ∀ {ds : List (PyData × PyData)} {kvs : List (Key × V)} {vs : List (Key × Value)}, DzKv K H kvs ds → KV kvs vs → (vs.map fun p => keyD p.1) = ds.map (·.1)
  | [], _, _, h, r => by
    cases h
    cases r
    rfl
  | (_, d) :: ds, _, _, h, r => by
    cases h with
    | cons h1 h2 =>
      cases r with
      | cons r1 r2 =>
        rw [List.map_cons, List.map_cons, DzKv.keys h2 r2, ← r1.1]
end
/-- repr of a thing -/
def rReprZ (K : PySem.W.Frag) : List V → Hp → VK → Prop := fun xs H Q => ∃ (v : V) (d : PyData), xs = [v] ∧ Dz K H v d ∧ d.showable = true ∧ d.depth ≤ 60 ∧ d.shown.length ≤ sizeLine ∧ Q (.str d.shown) H
theorem cr_reprZ {k : Nat} (quiet : X.A.guards = some []) (room : Room k X.A) : CallR X (.builtin "repr") (rReprZ X.K) := by
  intro pins s σ H xs us Q I r h
  obtain ⟨v, d, rfl, hd, hs, hp, hz, q⟩ := h
  obtain ⟨u, rfl, rx⟩ := vals1 r
  have hu := room.units
  cases hd with
  | non =>
    cases rx
    exact PySem.P.repr_of_none ⟨.str _, H, I.tok _, ⟨_, rfl⟩, q⟩
  | bl b =>
    cases rx
    exact PySem.P.repr_of_bool ⟨.str _, H, I.tok _, ⟨_, rfl⟩, q⟩
  | int i =>
    obtain ⟨t, rfl⟩ := rx
    exact PySem.P.repr_of_int (by simpa [PyData.showable] using hs) ⟨.str _, H, I.tok _, ⟨_, rfl⟩, q⟩
  | str x =>
    obtain ⟨t, rfl⟩ := rx
    exact PySem.P.repr_of_str ⟨.str _, H, I.tok _, ⟨_, rfl⟩, q⟩ hz
  | lst e n ha =>
    obtain ⟨as, rd, na⟩ := Dz.reads I _ _ u (.lst e n ha) rx
    cases rx
    exact repr_of_reads' rd hs (fun _ => na) quiet (by omega) (fun _ _ z => z) (fun h' u tk kept => ⟨.str _, H, I.kept kept, ⟨u, rfl⟩, q⟩) hz
  | tup e ha =>
    obtain ⟨as, rd, na⟩ := Dz.reads I _ _ u (.tup e ha) rx
    cases rx
    exact repr_of_reads' rd hs (fun _ => na) quiet (by omega) (fun _ _ z => z) (fun h' u tk kept => ⟨.str _, H, I.kept kept, ⟨u, rfl⟩, q⟩) hz
  | dct e ha =>
    obtain ⟨as, rd, na⟩ := Dz.reads I _ _ u (.dct e ha) rx
    cases rx
    exact repr_of_reads' rd hs (fun _ => na) quiet (by omega) (fun _ _ z => z) (fun h' u tk kept => ⟨.str _, H, I.kept kept, ⟨u, rfl⟩, q⟩) hz
/-- a list of written items: new, and no table of modules -/
def tLstZ (t : TA) : TE := fun σ H Q => t σ H fun xs H1 => xs.length ≤ sizeLine ∧ ∀ p, H1 p = none → p ≠ sysModules → Q (.ref p) (upd H1 p (.lst xs))
theorem pe_lstZ {es : List Expr} {t : TA} {pos : Pos} (h : PA X es t) : PE X (.List es pos) (tLstZ t) := by
  refine ⟨fun pins s σ H Q I hq => wpAny_List_spliced (thn (h.run pos pins s σ H _ I hq) fun us s1 z => ?_)⟩
  obtain ⟨xs, H1, I1, r, z, q⟩ := z
  refine ⟨by rw [← r.length]; exact z, ?_⟩
  have new : H1 s1.heap.objs.size = none := I1.hok.fresh (Nat.le_refl _)
  refine ⟨.ref s1.heap.objs.size, upd H1 s1.heap.objs.size (.lst xs), I1.laid (t' := s1.toks) (fun b u e => Heap.get?_push_of_some _ e) (Nat.le_refl _) ?_, rfl, q _ new (Nat.ne_of_gt I1.big)⟩
  exact ⟨z, us, 0, r, Heap.get?_push_size _ rfl⟩
end
end Az
namespace Az
open PySem PySem.Spec PyProof.Rows L2
/-- a thing that is shown in n signs at most, at most k deep -/
structure Nice (d : PyData) (k n : Nat) : Prop where
  sh : d.showable = true
  dp : d.depth ≤ k
  sz : d.shown.length ≤ n
theorem Nice.mono {d : PyData} {k k' n n' : Nat} (h : Nice d k n) (hk : k ≤ k') (hn : n ≤ n') : Nice d k' n' := ⟨h.sh, Nat.le_trans h.dp hk, Nat.le_trans h.sz hn⟩
theorem nice_int {i : Int} {n : Nat} (h : i.natAbs.log2 < 1920) (hn : (Str.ofString (toString i)).length ≤ n) : Nice (.int i) 0 n :=
  ⟨by simpa [PyData.showable] using h, by simp [PyData.depth], by simpa [PyData.shown] using hn⟩
theorem nice_none : Nice .none 0 4 := ⟨by simp [PyData.showable], by simp [PyData.depth], by simp only [PyData.shown]; decide +kernel⟩
theorem nice_bool (b : Bool) : Nice (.bool b) 0 5 := ⟨by simp [PyData.showable], by simp [PyData.depth], by simp only [PyData.shown]; cases b <;> decide +kernel⟩
theorem nice_str {x : Str} {n : Nat} (h : (reprText x).length ≤ n) : Nice (.str x) 0 n := ⟨by simp [PyData.showable], by simp [PyData.depth], by simpa [PyData.shown] using h⟩
theorem list_le : ∀ ts : List Str, (listText ts).length ≤ piled ts + 2
  | [] => by decide +kernel
  | t :: ts => by
    have e : (textFrom 0 "[" (t :: ts)).length = 1 + t.length + piled ts := by
      show (textFrom 1 (("[" : Str) ++ ((if 0 > 0 then ", " else "" : String) : Str) ++ t) ts).length = _
      rw [textFrom_length_pos ts 1 _ (by decide), strLen_append, strLen_append]
      rfl
    unfold listText
    rw [strLen_append, e, piled_cons]
    show 1 + t.length + piled ts + 1 ≤ _
    omega
theorem dict_le (ps : List Str) : (dictText ps).length ≤ piled ps + 2 := by
  unfold dictText
  rw [strLen_append, strLen_append]
  show 1 + (Str.join ", " ps).length + 1 ≤ _
  cases ps with
  | nil => decide
  | cons p r =>
    have := join_length_add (p :: r) (by simp)
    omega
theorem nice_tup1 {d : PyData} {k n : Nat} (h : Nice d k n) : Nice (.tuple [d]) (k + 1) (n + 4) := by
  refine ⟨by simp [PyData.showable, PyData.showableAll, h.sh], ?_, ?_⟩
  · simp only [PyData.depth, PyData.depthAll]
    have := h.dp
    omega
  · simp only [PyData.shown, PyData.shownAll]
    have a := fmt_text [d.shown]
    simp only [piled_cons, piled_nil] at a
    have := h.sz
    omega
theorem nice_lst1 {d : PyData} {k n : Nat} (h : Nice d k n) : Nice (.list [d]) (k + 1) (n + 4) := by
  refine ⟨by simp [PyData.showable, PyData.showableAll, h.sh], ?_, ?_⟩
  · simp only [PyData.depth, PyData.depthAll]
    have := h.dp
    omega
  · simp only [PyData.shown, PyData.shownAll]
    have a := list_le [d.shown]
    simp only [piled_cons, piled_nil] at a
    have := h.sz
    omega
theorem nice_dct1 {d : PyData} {k n m : Nat} {x : Str} (hx : (reprText x).length ≤ m) (h : Nice d k n) : Nice (.dict [(.str x, d)]) (k + 1) (n + m + 6) := by
  refine ⟨by simp [PyData.showable, PyData.showableKv, h.sh], ?_, ?_⟩
  · simp only [PyData.depth, PyData.depthKv]
    have := h.dp
    omega
  · simp only [PyData.shown, PyData.shownKv]
    have a := dict_le [reprText x ++ ": " ++ d.shown]
    simp only [piled_cons, piled_nil, strLen_append] at a
    have c : ((": " : Str)).length = 2 := by decide +kernel
    have := h.sz
    omega
theorem nice_tup0 : Nice (.tuple []) 1 2 := ⟨by simp [PyData.showable, PyData.showableAll], by simp [PyData.depth, PyData.depthAll], by simp only [PyData.shown, PyData.shownAll]; decide +kernel⟩
theorem nice_lst0 : Nice (.list []) 1 2 := ⟨by simp [PyData.showable, PyData.showableAll], by simp [PyData.depth, PyData.depthAll], by simp only [PyData.shown, PyData.shownAll]; decide +kernel⟩
theorem nice_dct0 : Nice (.dict []) 1 2 := ⟨by simp [PyData.showable, PyData.showableKv], by simp [PyData.depth, PyData.depthKv], by simp only [PyData.shown, PyData.shownKv]; decide +kernel⟩
end Az
set_option Elab.async false
set_option linter.all false
set_option maxRecDepth 100000
set_option maxHeartbeats 4000000
set_option pp.maxSteps 400
set_option pp.deepTerms false
namespace Az
open PySem PySem.Spec PyProof.Rows L2
/-! ### texts of signs that have a number of eight places -/
def Asc (x : Str) : Prop := ∀ c ∈ x.cps.toList, c < 16 ^ 8
theorem asc_str (s : String) : Asc (Str.ofString s) := fun c hc => by
  rw [Str.ofString_eq_toList] at hc
  simp only [List.mem_map] at hc
  obtain ⟨k, _, rfl⟩ := hc
  exact Nat.lt_of_lt_of_le (UInt32.toNat_lt k.val) (by decide)
theorem Asc.app {x y : Str} (h1 : Asc x) (h2 : Asc y) : Asc (x ++ y) := fun c hc => by
  rw [Str.cps_append, Array.toList_append, List.mem_append] at hc
  exact hc.elim (h1 c) (h2 c)
theorem asc_hex (l : List Char) (n : Nat) : ∀ c ∈ List.replicate n 48 ++ l.map Char.toNat, c < 16 ^ 8 := fun c hc => by
  rcases List.mem_append.mp hc with h | h
  · rw [(List.mem_replicate.mp h).2]
    decide
  · obtain ⟨k, _, rfl⟩ := List.mem_map.mp h
    exact Nat.lt_of_lt_of_le (UInt32.toNat_lt k.val) (by decide)
theorem asc_char {q c : Nat} (hc : c < 16 ^ 8) : ∀ d ∈ Builtin.Str.reprChar q c, d < 16 ^ 8 := fun d hd => by
  unfold Builtin.Str.reprChar at hd
  dsimp only at hd
  have two : ∀ a : Nat, a < 16 ^ 8 → d ∈ [92, a] → d < 16 ^ 8 := fun a ha h => by
    simp only [List.mem_cons, List.not_mem_nil, or_false] at h
    rcases h with h | h
    · rw [h]; decide
    · rw [h]; exact ha
  have app : ∀ (a : Nat) (l : List Nat), a < 16 ^ 8 → (∀ c ∈ l, c < 16 ^ 8) → d ∈ [92, a] ++ l → d < 16 ^ 8 := fun a l ha hl h => (List.mem_append.mp h).elim (two a ha) (hl d)
  split at hd
  · exact two c hc hd
  · split at hd
    · exact two 110 (by decide) hd
    · split at hd
      · exact two 114 (by decide) hd
      · split at hd
        · exact two 116 (by decide) hd
        · split at hd
          · simp only [List.mem_cons, List.not_mem_nil, or_false] at hd
            rw [hd]
            exact hc
          · split at hd
            · exact app 120 _ (by decide) (asc_hex _ _) hd
            · split at hd
              · exact app 117 _ (by decide) (asc_hex _ _) hd
              · exact app 85 _ (by decide) (asc_hex _ _) hd
theorem asc_fold {q : Nat} : ∀ (l : List Nat) (acc : Array Nat), (∀ c ∈ l, c < 16 ^ 8) → (∀ c ∈ acc.toList, c < 16 ^ 8) → ∀ c ∈ (l.foldl (fun out c => out ++ (Builtin.Str.reprChar q c).toArray) acc).toList, c < 16 ^ 8
  | [], acc, _, h => h
  | k :: r, acc, hl, ha => by
    rw [List.foldl_cons]
    refine asc_fold r _ (fun c hc => hl c (List.mem_cons_of_mem _ hc)) fun c hc => ?_
    rw [Array.toList_append, List.mem_append] at hc
    exact hc.elim (ha c) fun h => asc_char (hl k List.mem_cons_self) c (by simpa using h)
theorem asc_quote (x : Str) : reprQuote x < 16 ^ 8 := by
  unfold reprQuote
  split <;> decide
theorem asc_repr {x : Str} (h : Asc x) : Asc (reprText x) := fun c hc => by
  unfold reprText at hc
  rw [Array.toList_push, List.mem_append, ← Array.foldl_toList] at hc
  rcases hc with hc | hc
  · refine asc_fold x.cps.toList #[reprQuote x] h (fun d hd => ?_) c hc
    have z : d = reprQuote x := by simpa using hd
    rw [z]
    exact asc_quote x
  · have z : c = reprQuote x := by simpa using hc
    rw [z]
    exact asc_quote x
theorem asc_join : ∀ ts : List Str, (∀ t ∈ ts, Asc t) → Asc (Str.join ", " ts)
  | [], _ => fun c hc => by
    have z : c ∈ (Str.empty).cps.toList := hc
    simp [Str.empty] at z
  | [x], h => h x List.mem_cons_self
  | x :: y :: r, h => ((h x List.mem_cons_self).app (asc_str ", ")).app (asc_join (y :: r) fun t ht => h t (List.mem_cons_of_mem _ ht))
theorem asc_from : ∀ (ts : List Str) (k : Nat) (acc : Str), Asc acc → (∀ t ∈ ts, Asc t) → Asc (textFrom k acc ts)
  | [], _, _, h, _ => h
  | t :: ts, k, acc, h, ht => by
    unfold textFrom
    exact asc_from ts (k + 1) _ ((h.app (asc_str _)).app (ht t List.mem_cons_self)) fun u hu => ht u (List.mem_cons_of_mem _ hu)
mutual
/-- all texts within a thing -/
def ascD : PyData → Prop
  | .none | .bool _ | .int _ => True
  | .str x => Asc x
  | .list xs | .tuple xs => ascAll xs
  | .dict kvs => ascKv kvs
def ascAll : List PyData → Prop
  | [] => True
  | x :: xs => ascD x ∧ ascAll xs
def ascKv : List (PyData × PyData) → Prop
  | [] => True
  | (k, v) :: r => ascD k ∧ ascD v ∧ ascKv r
end
mutual
theorem asc_shown : ∀ d : PyData, ascD d → Asc d.shown
  | .none, _ => asc_str "None"
  | .bool b, _ => by
    simp only [PyData.shown]
    cases b
    · exact asc_str "False"
    · exact asc_str "True"
  | .int i, _ => asc_str (toString i)
  | .str x, h => asc_repr (by simpa [ascD] using h)
  | .list xs, h => by
    simp only [PyData.shown]
    exact (asc_from _ _ _ (asc_str "[") (asc_shownAll xs (by simpa [ascD] using h))).app (asc_str "]")
  | .tuple xs, h => by
    simp only [PyData.shown]
    exact ((asc_str "(").app (asc_join _ (asc_shownAll xs (by simpa [ascD] using h)))).app (asc_str _)
  | .dict kvs, h => by
    simp only [PyData.shown]
    exact ((asc_str "{").app (asc_join _ (asc_shownKv kvs (by simpa [ascD] using h)))).app (asc_str "}")
theorem asc_shownAll : ∀ xs : List PyData, ascAll xs → ∀ t ∈ PyData.shownAll xs, Asc t
  | [], _, t, ht => by
    simp [PyData.shownAll] at ht
  | x :: xs, h, t, ht => by
    have h' : ascD x ∧ ascAll xs := by simpa [ascAll] using h
    simp only [PyData.shownAll, List.mem_cons] at ht
    rcases ht with e | e
    · rw [e]
      exact asc_shown x h'.1
    · exact asc_shownAll xs h'.2 t e
theorem asc_shownKv : ∀ xs : List (PyData × PyData), ascKv xs → ∀ t ∈ PyData.shownKv xs, Asc t
  | [], _, t, ht => by
    simp [PyData.shownKv] at ht
  | (k, v) :: xs, h, t, ht => by
    have h' : ascD k ∧ ascD v ∧ ascKv xs := by simpa [ascKv] using h
    simp only [PyData.shownKv, List.mem_cons] at ht
    rcases ht with e | e
    · rw [e]
      exact ((asc_shown k h'.1).app (asc_str ": ")).app (asc_shown v h'.2.1)
    · exact asc_shownKv xs h'.2.2 t e
end
/-- str of a thing -/
def strD : PyData → Str
  | .str x => x
  | d => d.shown
theorem strD_asc {d : PyData} (h : ascD d) : Asc (strD d) := by
  cases d with
  | str x => simpa [strD, ascD] using h
  | _ => exact asc_shown _ h
theorem len_repr (x : Str) : x.length ≤ (reprText x).length := by
  have grow : ∀ (q : Nat) (l : List Nat) (acc : Array Nat), acc.size + l.length ≤ (l.foldl (fun out c => out ++ (Builtin.Str.reprChar q c).toArray) acc).size := fun q l => by
    induction l with
    | nil => intro acc; simp
    | cons k r ih =>
      intro acc
      have h := ih (acc ++ (Builtin.Str.reprChar q k).toArray)
      have one : 1 ≤ (Builtin.Str.reprChar q k).length := by
        unfold Builtin.Str.reprChar
        dsimp only
        repeat' split
        all_goals simp
        all_goals omega
      rw [List.foldl_cons]
      simp only [Array.size_append, List.size_toArray] at h
      simp only [List.length_cons]
      omega
  have h := grow (reprQuote x) x.cps.toList #[reprQuote x]
  unfold reprText
  show x.length ≤ ((x.cps.foldl (fun out c => out ++ (Builtin.Str.reprChar (reprQuote x) c).toArray) #[reprQuote x]).push (reprQuote x)).size
  rw [Array.size_push, ← Array.foldl_toList]
  have e : x.cps.toList.length = x.length := by simp [Str.length]
  omega
theorem strD_len {d : PyData} : (strD d).length ≤ d.shown.length := by
  cases d with
  | str x =>
    simp only [strD, PyData.shown]
    exact len_repr x
  | _ => exact Nat.le_refl _
section
variable {X : Cx}
def rStrZ (K : PySem.W.Frag) : List V → Hp → VK → Prop := fun xs H Q => ∃ (v : V) (d : PyData), xs = [v] ∧ Dz K H v d ∧ d.showable = true ∧ d.depth ≤ 60 ∧ d.shown.length ≤ sizeLine ∧ Q (.str (strD d)) H
theorem cr_strZ {k : Nat} (quiet : X.A.guards = some []) (room : Room k X.A) : CallR X (.type "str") (rStrZ X.K) := by
  intro pins s σ H xs us Q I r h
  obtain ⟨v, d, rfl, hd, hs, hp, hz, q⟩ := h
  obtain ⟨u, rfl, rx⟩ := vals1 r
  have hu := room.un
  cases hd with
  | non =>
    cases rx
    exact PySem.P.str_of_none ⟨.str _, H, I.tok _, ⟨_, rfl⟩, q⟩
  | bl b =>
    cases rx
    exact PySem.P.str_of_bool ⟨.str _, H, I.tok _, ⟨_, rfl⟩, q⟩
  | int i =>
    obtain ⟨t, rfl⟩ := rx
    exact PySem.P.str_of_int (by simpa [PyData.showable] using hs) ⟨.str _, H, I.tok _, ⟨_, rfl⟩, q⟩
  | str x =>
    obtain ⟨t, rfl⟩ := rx
    exact PySem.P.str_of_str ⟨.str _, H, I, ⟨_, rfl⟩, q⟩
  | lst e n ha =>
    obtain ⟨as, rd, na⟩ := Dz.reads I _ _ u (.lst e n ha) rx
    cases rx
    exact str_of_reads rd hs (fun _ => na) quiet (by omega) (fun _ _ z => z) (fun h' u tk kept => ⟨.str _, H, I.kept kept, ⟨u, rfl⟩, q⟩) hz
  | tup e ha =>
    obtain ⟨as, rd, na⟩ := Dz.reads I _ _ u (.tup e ha) rx
    cases rx
    exact str_of_reads rd hs (fun _ => na) quiet (by omega) (fun _ _ z => z) (fun h' u tk kept => ⟨.str _, H, I.kept kept, ⟨u, rfl⟩, q⟩) hz
  | dct e ha =>
    obtain ⟨as, rd, na⟩ := Dz.reads I _ _ u (.dct e ha) rx
    cases rx
    exact str_of_reads rd hs (fun _ => na) quiet (by omega) (fun _ _ z => z) (fun h' u tk kept => ⟨.str _, H, I.kept kept, ⟨u, rfl⟩, q⟩) hz
end
end Az
set_option Elab.async false
set_option linter.all false
set_option maxRecDepth 100000
set_option maxHeartbeats 4000000
set_option pp.maxSteps 400
set_option pp.deepTerms false
namespace Xt
open PySem PySem.Spec PyProof.Rows L2
open AutoSeq1 (wpAny_loadPart')
theorem meets_enumerate_newT (l : Addr) (items : Array Value) (n : Nat) (dct : Option Addr) (sl : Array (Option Value)) :
    Meets (Builtin.«enumerate.__new__» ⟨[.type "enumerate", .ref l], []⟩) (fun _ R s => s.heap.get? l = some { cls := .type "tuple", dict := dct, data := .seq items n, slots := sl } ∧
      R (.ok (.ret (.ref (s.heap.push { cls := .type "tuple_iterator", data := .fields #[.ref l, .int 0 0] }).objs.size)))
        { s with heap := (s.heap.push { cls := .type "tuple_iterator", data := .fields #[.ref l, .int 0 0] }).push { cls := .type "enumerate", data := .fields #[.none, .bool false, .ref s.heap.objs.size, rawInt 0, .none, .none] } }) :=
  .of_wp fun prog w A R s h => by
    obtain ⟨hp, g, d, tk, os⟩ := s; obtain ⟨hl, h⟩ := h
    have hsub := sub_enumerate
    have hL : Heap.IsTuple (Shared.heap ⟨hp, g, d, tk, os⟩) l items := ⟨_, hl, rfl, n, rfl⟩
    wp_walk using wpAny_loadPart' hl
    refine wpAny_stack_any fun st => wpAny_pure ?_
    split
    · rename_i c _ _ _ _ _
      cases (c == Value.type "enumerate")
      · wp_walk using wpAny_loadPart' hl, wpAny_pyIter_tuple hL
        exact ⟨_, rfl, h⟩
      · wp_walk using wpAny_loadPart' hl, wpAny_pyIter_tuple hL
        exact ⟨_, rfl, h⟩
    · wp_walk using wpAny_loadPart' hl, wpAny_pyIter_tuple hL
      exact ⟨_, rfl, h⟩
section
variable {prog : Program} {w : World} {A : Around} {E : Value → Shared → Prop} {s : Shared}
theorem call_enumerate_tuple {l : Addr} {items : Array Value} {Q : Value → Shared → Prop} (hL : s.heap.IsTuple l items)
    (h : ∀ h', IsEnum h' (s.heap.objs.size + 1) s.heap.objs.size 0 .none → h'.IsTupleIter s.heap.objs.size l 0 → h'.objs.size = s.heap.objs.size + 2 →
      (∀ b o, s.heap.get? b = some o → h'.get? b = some o) → Q (.ref (s.heap.objs.size + 1)) { s with heap := h' }) :
    wpAny (model prog w) A (call (.type "enumerate") [.ref l]) Q E s := by
  obtain ⟨⟨c, dct, dt, sl⟩, hl, hc, n, hd⟩ := hL
  replace hc : c = .type "tuple" := hc
  replace hd : dt = .seq items n := hd
  subst hc hd
  refine callType_new F.called_enumerate (by decide) (F.typeCall_enumerate_1 _) (F.newCall_enumerate_1 _) (fun obj => F.args_object_init_2 obj _) F.entry_enumerate_new
    (meets_enumerate_newT l items n dct sl) ⟨hl, ?_⟩
  have hz : (s.heap.push { cls := .type "tuple_iterator", data := .fields #[.ref l, .int 0 0] }).objs.size = s.heap.objs.size + 1 := Heap.size_push ..
  show _ ∧ _
  rw [hz]
  have he : IsEnum ((s.heap.push { cls := .type "tuple_iterator", data := .fields #[.ref l, .int 0 0] }).push
      { cls := .type "enumerate", data := .fields #[.none, .bool false, .ref s.heap.objs.size, rawInt 0, .none, .none] }) (s.heap.objs.size + 1) s.heap.objs.size 0 .none := by
    have := Heap.get?_push_size (s.heap.push { cls := .type "tuple_iterator", data := .fields #[.ref l, .int 0 0] })
      (o := { cls := .type "enumerate", data := .fields #[.none, .bool false, .ref s.heap.objs.size, rawInt 0, .none, .none] }) rfl
    rw [hz] at this; exact this
  refine ⟨⟨_, he, rfl⟩, h _ he ⟨_, Heap.get?_push_of_some _ (Heap.get?_push_size _ rfl), rfl, rfl⟩ (by rw [Heap.size_push, hz]) fun b o x => Heap.get?_push_of_some _ (Heap.get?_push_of_some _ x)⟩
end
/-- the tuple at a, each item in a new pair with its number -/
def IteT (K : PySem.W.Frag) (a : Addr) : It :=
  ⟨fun i H => ∃ (xs : List V) (x : V), SqT K H a xs ∧ xs[i]? = some x, fun i H v H' => ∃ T x, v = .ref T ∧ H T = none ∧ H' = upd H T (.tup [.int (i : Nat), x]) ∧ ∀ xs, SqT K H a xs → xs[i]? = some x, fun i H => ∃ xs : List V, SqT K H a xs ∧ xs.length = i⟩
theorem turn_enumT {P : Program} {w : World} {K : PySem.W.Frag} {elts : List Expr} {kk : Nat} {tpos : Pos} (a e it : Addr) (hae : a ≠ e) (hai : a ≠ it) :
    Turn P w K (.Tuple elts kk tpos) (IteT K a) [e, it] e (fun i h => (∃ old, IsEnum h e it ((i : Nat) : Int) old) ∧ h.IsTupleIter it a i ∧ e ≠ it) where
  mem := by simp
  obj := fun i h st b hb => by
    obtain ⟨⟨old, he⟩, ⟨o, ho, hc, hd⟩, _⟩ := st
    have e' : b = e ∨ b = it := by simpa using hb
    rcases e' with z | z
    · rw [z]; exact ⟨_, he, fun v q => nomatch q⟩
    · rw [z]; exact ⟨o, ho, fun v q => by rw [hd] at q; cases q⟩
  keep := fun i h h' st k => let ⟨⟨old, he⟩, hi, hne⟩ := st; ⟨⟨old, k e (by simp) _ he⟩, hi.at fun o q => k it (by simp) o q, hne⟩
  item := by
    intro X hP hw hK hc i pins s σ H E I hf st hg
    subst hP hw hK
    obtain ⟨⟨old, he⟩, hit, hne⟩ := st
    obtain ⟨xs, x, hq, hx⟩ := hg
    obtain ⟨its, rv, p, hz⟩ := I.tuple hq
    obtain ⟨u, hu, ru⟩ := rv.get hx
    have hel : e < s.heap.objs.size := Heap.lt_size he
    have hil : it < s.heap.objs.size := by obtain ⟨_, q, _⟩ := hit; exact Heap.lt_size q
    have hu' : its.toArray[i]? = some u := by simpa using hu
    have hi : i < its.toArray.size := by
      rcases Nat.lt_or_ge i its.toArray.size with h | h
      · exact h
      · rw [Array.getElem?_eq_none h] at hu'; cases hu'
    refine wpAny_pyNext_enum_itemD (Draws.tuple (A := X.A.in1) (I.ok.hd hc) it a hai its.toArray) he ⟨hit, p⟩ hi hne (by simp [Ne.symm hne]; exact ⟨hne, Ne.symm hae⟩) fun y h' tk hy ho hst' hT hsz hk => ?_
    obtain rfl : u = y := by rw [hu'] at hy; cases hy; rfl
    refine ⟨_, rfl, wpAny_letOwnedTupleGo_enum (s := { s with heap := h', toks := tk + 1 }) ho fun h'' he' sb => ?_⟩
    have hT2 : h''.get? s.heap.objs.size = some { cls := .type "tuple", data := .seq #[.int i tk, u] } := (sb.2 _ (Nat.ne_of_gt hel)).trans hT
    have new : ObjOk X.prog X.w (upd H s.heap.objs.size (.tup [.int (i : Nat), x])) h'' s.heap.objs.size (.tup [.int (i : Nat), x]) :=
      ⟨by show 2 ≤ sizeLine; decide, [.int i tk, u], .cons ⟨_, rfl⟩ (.cons ru .nil), ⟨_, hT2, rfl, _, rfl⟩⟩
    have I1 : Inv X pins σ (upd H s.heap.objs.size (.tup [.int (i : Nat), x])) { s with heap := h'', toks := tk + 1 } :=
      I.turnedNew (ch := [e, it]) (fun b ob hb q => (sb.2 b (fun z => hb (by simp [z]))).trans (hk b ob (fun z => hb (by simp [z])) (fun z => hb (by simp [z])) q)) hf (Nat.le_refl _) new
    refine ⟨.ref s.heap.objs.size, _, I1, rfl, ⟨_, x, rfl, I.hok.fresh (Nat.le_refl _), rfl, fun ys hy => by rw [I.tuple_inj hy hq]; exact hx⟩, ⟨⟨u, ?_⟩, hst'.1.at fun o q => (sb.2 it (Ne.symm hne)).trans q, hne⟩, fun b hb => ?_⟩
    · have e1 : ((i + 1 : Nat) : Int) = (i : Int) + 1 := by omega
      rw [e1]; exact he'
    · have hb' : b < s.heap.objs.size := by
        have e' : b = e ∨ b = it := by simpa using hb
        rcases e' with z | z
        · rw [z]; exact hel
        · rw [z]; exact hil
      rw [upd_ne (Nat.ne_of_lt hb')]
      exact (hf b hb).1
  done := by
    intro X hP hw hK hc i pins s σ H E I hf st hg
    subst hP hw hK
    obtain ⟨⟨old, he⟩, hit, hne⟩ := st
    obtain ⟨xs, hq, hx⟩ := hg
    obtain ⟨its, rv, p, hz⟩ := I.tuple hq
    obtain ⟨f0, f1, f2, f3, f4, f5⟩ := hf it (by simp)
    have hl := rv.length
    have en : its.toArray.size = i := by simp; omega
    exact wpAny_pyNext_enum_endD (Draws.tuple (A := X.A.in1) (I.ok.hd hc) it a hai its.toArray) he (by rw [en]; exact ⟨hit, p⟩) fun h' eb => ⟨rfl, I.turned (t' := s.toks) (fun b o hb q => eb b o hb q) f0 f1 f3 f4 f5⟩
  self := fun A i s Q E st h => let ⟨⟨_, he⟩, _⟩ := st; wpAny_pyIter_enum he h
def iEnumT (K : PySem.W.Frag) (ta : TA) : TI := fun σ H R => ta σ H fun vs H1 => ∃ a xs, vs = [.ref a] ∧ SqT K H1 a xs ∧ R (IteT K a) H1
theorem pi_enumT {X : Cx} {e : Expr} {ta : TA} {p pos tpos : Pos} {elts : List Expr} {kk : Nat} (hg : Gl X "enumerate") (hm : X.mg "enumerate" = none) (ha : PA X [e] ta) (hs : starEach [e] X.env = [(false, eval e X.env)] := by rfl) :
    PI X (.Tuple elts kk tpos) (.Call (.Name "enumerate" p) [e] [] pos) (iEnumT X.K ta) := by
  refine ⟨fun pins s σ H R I h => ?_⟩
  refine Call_ (ld_blt I hg hm boot_enumerate (PyProof.Rows.callWith_type1 (thn (ha.run pos pins s σ H _ I h) fun us s1 ⟨vs, H1, I1, r1, q1⟩ => ?_) hs rfl))
  obtain ⟨a, xs, ex, hq, q⟩ := q1
  subst ex
  cases r1 with
  | cons r rr =>
    cases rr
    cases r
    obtain ⟨its, rv, p', hz⟩ := I1.tuple hq
    have hal : a < s1.heap.objs.size := by obtain ⟨_, z, _⟩ := p'; exact Heap.lt_size z
    refine call_enumerate_tuple p' fun h' he hit hsz hk => wpAny_pyIter_enum he ?_
    have I2 : Inv X pins σ H1 { s1 with heap := h' } := I1.kept (t' := s1.toks) hk
    refine ⟨s1.heap.objs.size + 1, [s1.heap.objs.size + 1, s1.heap.objs.size], _, _, H1, rfl, I2, turn_enumT a (s1.heap.objs.size + 1) s1.heap.objs.size (Nat.ne_of_lt (Nat.lt_succ_of_lt hal)) (Nat.ne_of_lt hal), ⟨⟨.none, he⟩, hit, Nat.succ_ne_self _⟩, fun b hb => ?_, q⟩
    have e' : b = s1.heap.objs.size + 1 ∨ b = s1.heap.objs.size := by simpa using hb
    have hle : s1.heap.objs.size ≤ b := by
      rcases e' with z | z
      · rw [z]; exact Nat.le_add_right _ _
      · rw [z]; exact Nat.le_refl _
    exact I1.fpOk hle (I1.hok.fresh hle)
theorem walk_enumT {K : PySem.W.Frag} {a : Addr} {xs : List V} : Walk (IteT K a) xs.length (fun H => SqT K H a xs) (YPair (fun i => some (.int (i : Nat))) (fun i => xs[i]?)) := by
  refine ⟨fun i _ hi q => ⟨xs, xs[i], q, by simp [hi]⟩, fun _ q => ⟨xs, q, rfl⟩, fun i H v H' _ q y => ?_⟩
  obtain ⟨T, x, h1, h2, h3, h4⟩ := y
  exact ⟨T, .int (i : Nat), x, h1, h2, h3, rfl, h4 xs q⟩
end Xt
set_option Elab.async false
set_option linter.all false
set_option maxRecDepth 100000
set_option maxHeartbeats 4000000
set_option pp.maxSteps 400
set_option pp.deepTerms false
namespace Xt
open PySem PySem.Spec PyProof.Rows L2 Az PySem.W
/-- *e ahead of other items, e a tuple -/
def tStar (K : PySem.W.Frag) (ta : TE) (tr : TA) : TA := fun σ H Q => ta σ H fun x H1 => ∃ a xs, x = .ref a ∧ SqT K H1 a xs ∧ tr σ H1 fun ys H2 => Q (xs ++ ys) H2
theorem pa_star {X : Cx} {e : Expr} {es : List Expr} {te : TE} {t : TA} {p : Pos} (ha : PE X e te) (hr : PA X es t) : PA X (.Starred e p :: es) (tStar X.K te t) := by
  refine ⟨fun pos pins s σ H Q I h => ?_⟩
  refine items_star (thn (ha.run pins s σ H _ I h) fun u s1 ⟨x, H1, I1, r1, a, xs, ex, hq, q⟩ => ?_)
  subst ex
  obtain rfl : u = Value.ref a := r1
  refine star_tup I1 hq fun us s2 I2 rv => ?_
  exact thn (hr.run pos pins s2 σ H1 _ I2 q) fun ws s3 ⟨ys, H2, I3, r2, q2⟩ => ⟨xs ++ ys, H2, I3, rv.append r2, q2⟩
section
variable {prog : Program} {w : World} {A : Around} {E : Value → Shared → Prop} {s : Shared}
/-- min(a, b), compared where a heap stands -/
theorem call_min_twoH {a b : Value} {Q : Value → Shared → Prop}
    (h : wpAny (model prog w) A.in1 (pyIter (.ref s.heap.objs.size)) (fun it s₂ => ∃ I fp wr G n P St H bt, it = .ref I ∧ WalksS prog w A.in1 I fp wr G n P St ∧ St 0 s₂ ∧ (∀ b ∈ fp, b < s₂.heap.objs.size) ∧ 0 < n ∧
      (∀ b o, H.get? b = some o → b ∉ wr) ∧ (∀ b o, H.get? b = some o → s₂.heap.get? b = some o) ∧ CmpIn prog w A.in1 .Lt H P bt ∧ ∀ v s', P (argBest bt (n - 1)) v → Moved wr G s₂ s' → Q v s') E
      { s with heap := s.heap.push { cls := .type "tuple", data := .seq #[a, b] } }) :
    wpAny (model prog w) A (call (.builtin "min") [a, b]) Q E s := by
  have hname : (toString "min" ++ toString ".loop" : String) = "min.loop" := by decide
  refine call_function_tree F.kind_min F.plain_min F.entry_min (F.args_min2 _ _) ?_
  show wpAny _ A.in1 (Builtin.Builtins.bindParams "min" ["key", "default"] 0 ⟨[], []⟩ >>= _) _ _ s
  refine wpAny_bind (wpAny_of_eq (show Builtin.Builtins.bindParams "min" ["key", "default"] 0 ⟨[], []⟩ = pure [none, none] from rfl) ?_)
  show wpAny _ A.in1 (newTuple [a, b] >>= _) _ _ s
  refine wpAny_bind (wpAny_newObj_type ?_)
  refine wpAny_bind (wpAny_mono h (fun it s₂ h₂ => ?_) fun _ _ e => e)
  obtain ⟨I, fp, wr, G, n, P, St, H, bt, rfl, W, hst, hfp, hn, hw, hkeep, hcmp, hQ⟩ := h₂
  refine wpAny_bind (wpAny_newObj_type ?_)
  have hSf : s₂.heap.objs.size ∉ fp := fun hm => Nat.lt_irrefl _ (hfp _ hm)
  rw [hname]
  refine wpAny_pure ⟨plainId_quiet F.plain_min_loop _, codeAny_min_loop_firstH W H hw bt hcmp s₂.heap.objs.size hSf (fresh_in hkeep) _ hn (fun b o e => Heap.get?_push_of_some _ (hkeep b o e)) (W.frame 0 s₂ _ s₂.toks hst (Nat.le_refl _) fun b _ o e => Heap.get?_push_of_some _ e) (Heap.get?_push_size _ rfl) fun v s' hP hm => ?_⟩
  exact hQ v s' hP (Moved.drop_new (tk := s₂.toks) hm (Nat.le_refl _))
theorem min_two_data {a b : Value} {da db : PyData} {as bs : List Addr} {Q : Value → Shared → Prop} (hh : A.handled = none) (ra : Reads s.heap a da as) (rb : Reads s.heap b db bs) (ha : AlikeAll [da, db]) (hu : A.units + 1 + PyData.depthAll [da, db] < cLine)
    (h : ∀ h' tk, (∀ c o, s.heap.get? c = some o → h'.get? c = some o) → Q (if dataLt db da = true then b else a) { s with heap := h', toks := tk }) :
    wpAny (model prog w) A (call (.builtin "min") [a, b]) Q E s := by
  have hT : (s.heap.push { cls := .type "tuple", data := .seq #[a, b] }).IsTuple s.heap.objs.size #[a, b] := ⟨_, Heap.get?_push_size _ rfl, rfl, 0, rfl⟩
  have hr : ReadsAll s.heap (#[a, b] : Array Value).toList [da, db] (as ++ (bs ++ [])) := .cons ra (.cons rb .nil)
  have k0 : ∀ c o, s.heap.get? c = some o → (s.heap.push { cls := .type "tuple", data := .seq #[a, b] }).get? c = some o := fun c o e => Heap.get?_push_of_some _ e
  refine call_min_twoH (iter_tupleW (A := A.in1) (s := { s with heap := s.heap.push { cls := .type "tuple", data := .seq #[a, b] } }) hh hT fun s₂ e W st hfp hw hk => ?_)
  refine ⟨_, _, _, _, _, _, _, s.heap, _, rfl, W, st, hfp, (by simp), fun b o q => hw b o (k0 b o q), fun b o q => hk b o (k0 b o q), cmpIn_lt (A := A.in1) hr ha (by show A.units + 1 + _ < _; exact hu), fun v s' hP m => ?_⟩
  obtain ⟨h', tk, rfl, hk'⟩ := moved_old e rfl m
  have := h h' tk fun c o q => hk' c o (k0 c o q)
  have ev : v = if dataLt db da = true then b else a := by
    replace hP : (#[a, b] : Array Value)[argBest (fun i j => dataLt ([da, db].getD i .none) ([da, db].getD j .none)) 1]? = some v := hP
    cases c : dataLt db da with
    | true =>
      have e1 : argBest (fun i j => dataLt ([da, db].getD i .none) ([da, db].getD j .none)) 1 = 1 := by simp [argBest, c]
      rw [e1] at hP
      rw [if_pos rfl]
      exact (Option.some.inj hP).symm
    | false =>
      have e1 : argBest (fun i j => dataLt ([da, db].getD i .none) ([da, db].getD j .none)) 1 = 0 := by simp [argBest, c]
      rw [e1] at hP
      rw [if_neg Bool.false_ne_true]
      exact (Option.some.inj hP).symm
  rw [ev]
  exact this
end
/-- min(a, b) of two things that can be compared -/
def rMin2Z (K : PySem.W.Frag) : List V → Hp → VK → Prop := fun vs H Q => ∃ (a b : V) (da db : PyData), vs = [a, b] ∧ Dz K H a da ∧ Dz K H b db ∧ AlikeAll [da, db] ∧ PyData.depthAll [da, db] ≤ 50 ∧ Q (if dataLt db da = true then b else a) H
theorem cr_min2Z {X : Cx} {k : Nat} (hc : X.calm = true) (room : Room k X.A) : CallR X (.builtin "min") (rMin2Z X.K) := by
  intro pins s σ H vs us Q I r h
  obtain ⟨a, b, da, db, rfl, hda, hdb, al, dp, q⟩ := h
  cases r with
  | cons r1 rr =>
    cases rr with
    | cons r2 rr =>
      cases rr
      obtain ⟨as, ra, _⟩ := Dz.reads I _ _ _ hda r1
      obtain ⟨bs, rb, _⟩ := Dz.reads I _ _ _ hdb r2
      refine min_two_data (I.ok.hd hc) ra rb al (by have := room.units; omega) fun h' tk kk => ?_
      cases c : dataLt db da with
      | true => rw [c, if_pos rfl] at q; exact ⟨_, H, I.kept kk, r2, q⟩
      | false => rw [c, if_neg Bool.false_ne_true] at q; exact ⟨_, H, I.kept kk, r1, q⟩
/-- pairs of a number and a row of numbers -/
def pairD (p : Int × List Int) : PyData := .tuple [.int p.1, .tuple (p.2.map .int)]
def pairLt (p q : Int × List Int) : Bool := decide (p.1 < q.1 ∨ (p.1 = q.1 ∧ p.2 < q.2))
theorem alike_ints : ∀ xs ys : List Int, alikeAll (xs.map .int) (ys.map .int) = true
  | [], _ => by simp [alikeAll]
  | _ :: _, [] => by simp [alikeAll]
  | x :: xs, y :: ys => by simp [alikeAll, alike, alike_ints xs ys]
theorem alike_pairs (p q : Int × List Int) : AlikeAll [pairD p, pairD q] := by
  have al : ∀ p q : Int × List Int, alike (pairD p) (pairD q) = true := fun p q => by simp [pairD, alike, alikeAll, alike_ints]
  constructor
  · intro x hx y hy
    simp only [List.mem_cons, List.not_mem_nil, or_false] at hx hy
    rcases hx with rfl | rfl <;> rcases hy with rfl | rfl <;> exact al _ _
  · intro x hx
    simp only [List.mem_cons, List.not_mem_nil, or_false] at hx
    rcases hx with rfl | rfl <;> simp [pairD]
theorem eqv_ints : ∀ xs ys : List Int, PyData.eqvAll (xs.map .int) (ys.map .int) = decide (xs = ys)
  | [], [] => by simp [PyData.eqvAll]
  | [], _ :: _ => by simp [PyData.eqvAll]
  | _ :: _, [] => by simp [PyData.eqvAll]
  | x :: xs, y :: ys => by
    rw [List.map_cons, List.map_cons, PyData.eqvAll, eqv_ints xs ys]
    by_cases h1 : x = y <;> by_cases h2 : xs = ys <;> simp [PyData.eqv, h1, h2]
theorem lt_pairs (p q : Int × List Int) : dataLt (pairD p) (pairD q) = pairLt p q := by
  obtain ⟨a, xs⟩ := p
  obtain ⟨b, ys⟩ := q
  unfold pairD pairLt
  rw [dataLt_pair (by simp [alike]) (by simp [alike, alike_ints]), dataLt_int, dataLt_tuple]
  have e := dataLt_ints xs ys
  unfold rowLt at e
  rw [e]
  simp only [PyData.eqv, eqv_ints]
  by_cases h1 : a = b
  · subst h1
    by_cases h2 : xs = ys
    · subst h2
      simp [List.lt_irrefl]
    · simp [h2]
  · simp [h1]
theorem depth_ints : ∀ xs : List Int, PyData.depthAll (xs.map .int) = 0
  | [] => rfl
  | x :: xs => by
    rw [List.map_cons, PyData.depthAll, depth_ints xs]
    simp [PyData.depth]
theorem depth_pairs (p q : Int × List Int) : PyData.depthAll [pairD p, pairD q] ≤ 50 := by
  simp [pairD, PyData.depthAll, PyData.depth, depth_ints]
end Xt
set_option Elab.async false
set_option linter.all false
set_option maxRecDepth 100000
set_option maxHeartbeats 4000000
set_option pp.maxSteps 400
set_option pp.deepTerms false
/-! min(xs, key=lambda p: ..) in a def: the lambda is made anew each time, its code object once -/
namespace Xlm
open PySem PySem.Spec PyProof.Rows L2 Az PySem.W LamX
/-- the names of a lambda of one parameter: the parameter, captured ones, globals -/
structure Lam1 (sc scope : Scope) (p : Str) : Prop where
  kind : scope.kind = .function
  co : scope.isCoroutine = false
  gen : scope.isGenerator = false
  par : scope.names.lookup p = some .local
  own : ∀ y ∈ scope.names, y.2 ≠ .cell ∧ (y.2 = .local → y.1 = p)
  free : ∀ y ∈ scope.names, y.2 = .free → sc.names.lookup y.1 = some .cell ∨ sc.names.lookup y.1 = some .free
/-- where the lambda's body stands -/
def lamX (X : Cx) (A : Around) (s : Shared) (H : Hp) (p : Str) (scope : Scope) (f c : Addr) : Cx :=
  { lamCx X A X.stack s H (fun _ _ _ => False) scope f c with N := p :: X.N, xe := fun _ _ => False }
section
variable {X : Cx} {pins : List (Addr × Obj)} {σ : L2.St} {H : Hp} {s : Shared}
theorem Lam1.has {scope : Scope} {p : Str} (L : Lam1 X.env.scope scope p) (ok : X.Ok) : ∀ y ∈ scope.names, y.2 = .free → ∃ c, X.env.cells.lookup y.1 = some c := fun y hy e =>
  (L.free y hy e).elim (fun k => ok.has _ (.inl k)) fun k => ok.has _ (.inr k)
theorem lam_in {A : Around} {scope : Scope} {f c : Addr} {p : Str} {v : V} {u : Value} {h₁ : Heap} {tk : Nat} (I : Inv X pins σ H s) (L : Lam1 X.env.scope scope p) (hp : p ∉ X.N) (fr : A.frames = some X.stack) (hd : A.handled = none) (rv : RelV v u)
    (hns : h₁.Ns s.heap.objs.size fun y => ([(p, u)] : List (Str × Value)).reverse.lookup y) (kp : ∀ b o, s.heap.get? b = some o → h₁.get? b = some o) :
    Inv (lamX X A s H p scope f c) [] (some v :: σ) H { s with heap := h₁, toks := tk } := by
  have z := I.env0
  have old : ∀ {y : Str} {a : Addr}, (cloFrom X.env.cells scope.names []).lookup y = some a → X.env.cells.lookup y = some a := fun {y a} e => by
    rcases cloFrom_mem (PySem.mem_of_lookup e) with q | ⟨q1, q2⟩
    · exact absurd q List.not_mem_nil
    · obtain ⟨a', e'⟩ := L.has I.ok _ q1 rfl
      replace e' : X.env.cells.lookup y = some a' := e'
      rw [e'] at q2 ⊢
      rw [q2]; rfl
  have look : ∀ {y : Str}, scope.names.lookup y = some .free → ∃ a, (cloFrom X.env.cells scope.names []).lookup y = some a := fun {y} e =>
    mem_lookup (cloFrom_has (cells := X.env.cells) (acc := []) (PySem.mem_of_lookup e))
  have nx : ∀ b : Addr, b ∉ (lamX X A s H p scope f c).ex := fun b y => absurd (show b ∈ ([] : List Addr) from y) List.not_mem_nil
  refine ⟨⟨z.mod, L.kind, rfl, rfl, Nat.le_refl _, fun y y' a e e' => I.ok.inj y y' a (old e) (old e'), fun y k => ?_, fun y a k _ => ?_, fun _ => hd, Around.frames_deeper fr, .inr ⟨rfl, rfl⟩, fun b y => absurd y (nx b), z.bs, z.bsz, fun b _ _ => nx b, fun b y => absurd y (nx b), z.funs, z.frf⟩,
    rfl, z.bare, Un.kept kp, ⟨_, hns, fun i y w e1 e2 e3 => ?_⟩, fun y a e => ?_, z.hok.fresh (Nat.le_refl _), fun y a e => I.freeC y a (old e), fun q hq => absurd (show q ∈ ([] : List (Addr × Obj)) from hq) List.not_mem_nil, z.hok.kept kp, congrArg Nat.succ I.len⟩
  · replace k : scope.names.lookup y = some .cell ∨ scope.names.lookup y = some .free := k
    rcases k with k | k
    · exact absurd rfl (L.own _ (PySem.mem_of_lookup k)).1
    · exact look k
  · exact absurd (show false = true from k) Bool.false_ne_true
  · cases i with
    | zero =>
      replace e1 : some p = some y := e1
      cases e1
      cases e2
      exact ⟨u, rv, .inl ⟨L.par, by simp⟩⟩
    | succ i =>
      replace e1 : X.N[i]? = some y := e1
      replace e2 : σ[i]? = some (some w) := e2
      have n : y ≠ p := fun q => hp (q ▸ List.mem_of_getElem? e1)
      replace e3 : Vis scope y := e3
      rcases e3 with k | k | k
      · exact absurd ((L.own _ (PySem.mem_of_lookup k)).2 rfl) n
      · exact absurd rfl (L.own _ (PySem.mem_of_lookup k)).1
      · obtain ⟨m, _, hl⟩ := I.loc
        have kf := L.free _ (PySem.mem_of_lookup k) rfl
        obtain ⟨u', r', q⟩ := hl i y w e1 e2 (kf.elim (fun k => .inr (.inl k)) fun k => .inr (.inr k))
        obtain ⟨a, ha⟩ := look k
        refine ⟨u', r', .inr ⟨.inr k, a, ha, ?_⟩⟩
        rcases q with ⟨k', _⟩ | ⟨_, a', e', o, ho, hd'⟩
        · replace k' : X.env.scope.names.lookup y = some .local := k'
          rcases kf with k2 | k2 <;> rw [show X.env.scope.names.lookup y = _ from k2] at k' <;> cases k'
        · have e2 := old ha
          rw [e'] at e2
          cases e2
          exact ⟨o, kp _ _ ho, hd'⟩
  · obtain ⟨w, o, ho, hd'⟩ := I.cell y a (old e)
    exact ⟨w, o, kp _ _ ho, hd'⟩
/-- the lambda called -/
theorem lam_call {A : Around} {params : Arguments} {body : Expr} {scope : Scope} {f c : Addr} {pm ctv : Value} {p : Str} {v : V} {u : Value} {k : Nat} {tb : TE} {Q : VK} {E : Value → Shared → Prop} (I : Inv X pins σ H s) (L : Lam1 X.env.scope scope p) (hp : p ∉ X.N)
    (hf : s.heap.get? f = some (kla_obj "<lambda>" (X.env.qual ++ "<lambda>") params body scope (cloFrom X.env.cells scope.names []) pm c ctv)) (hc : H c = some (CodeO c (X.env.qual ++ "<lambda>")))
    (bind : bindArgs (kla_fn "<lambda>" (X.env.qual ++ "<lambda>") params body scope (cloFrom X.env.cells scope.names []) pm (.ref c) ctv) ⟨[u], []⟩ = pure [(p, u)])
    (fr : A.frames = some X.stack) (room : Room (k + 1) A) (hb : Room k (A.deeper (lamEnv X scope s.heap.objs.size f c)) → PE (lamX X A s H p scope f c) body tb) (rv : RelV v u) (h : tb (some v :: σ) H Q) :
    wpAny (model X.prog X.w) A (call (.ref f) [u]) (fun y s' => CE X.stack X.prog X.w H s Q y s') E s := by
  obtain ⟨⟨oc, vs, t, hoc, hdc, hvc⟩, _, _⟩ := I.hok c _ hc
  refine wpAny_call (codeAny_mono (R := fun r s' => ∃ y, r = .ok (.ret y) ∧ CE X.stack X.prog X.w H s Q y s') (kla_callFunE room.depth hf rfl L.co L.gen rfl ⟨c, oc, vs, t, rfl, hoc, hdc, hvc⟩ ?_) fun r s' ⟨y, e, q⟩ => by subst e; exact q)
  rw [bind]
  refine wpAny_pure (wpAny_newFunctionEnv (fun y hy => (L.own y hy).1) (fun y hy => by rw [List.mem_singleton.mp hy]; exact L.par) (fun h₁ hns hsb => ⟨I.nolimit.fresh _ hsb, ?_⟩) L.kind)
  show codeAny _ _ (.expr body (lamEnv X scope s.heap.objs.size f c)) _ _
  have kp : ∀ b o, s.heap.get? b = some o → h₁.get? b = some o := fun b o e => hsb.extBut b o (Nat.ne_of_lt (Heap.lt_size e)) (Heap.get?_push_of_some _ e)
  have J := lam_in (A := A) (f := f) (c := c) (tk := s.toks + ([(p, u)] : List (Str × Value)).length) I L hp fr room.hd rv hns kp
  refine kla_codeExpr (wpAny_mono ((hb (room.deeper _)).run [] _ _ H Q J h) (fun y s' hq => ?_) fun _ _ q => False.elim q)
  obtain ⟨x, H', J', r, q⟩ := hq
  exact ⟨y, rfl, x, H', J'.os, J'.bare, J'.base, J'.hok, r, q⟩
end
/-! ## the walk of min -/
section
variable (X : Cx) (pins : List (Addr × Obj)) (σ : L2.St) (T : List (Addr × Str)) (H1 : Hp) (S It f c : Addr) (fo : Obj) (q : Str)
structure Jm (H : Hp) (s : Shared) : Prop where
  inv : Inv X pins σ H s
  ext : ExtN H1 H
  tab : Tabs T H
  fS : FpOk X pins H S
  fI : FpOk X pins H It
  fn : s.heap.get? f = some fo
  nf : H f = none
  cd : H c = some (CodeO c q)
  eS : ∃ o, s.heap.get? S = some o
  eI : ∃ o, s.heap.get? It = some o
end
section
variable {X : Cx} {pins : List (Addr × Obj)} {σ : L2.St} {T : List (Addr × Str)} {H1 : Hp} {S It f c : Addr} {fo : Obj} {q : Str}
theorem Jm.still {H : Hp} {s s' : Shared} (j : Jm X pins σ T H1 S It f c fo q H s) (m : Moved [S, It] (fun a b => b = a) s s') : Inv X pins σ H s' := by
  obtain ⟨h', g', d', t', o'⟩ := s'
  obtain rfl : g' = s.gens := m.gens
  obtain rfl : d' = s.drawn := m.drawn
  obtain rfl : o' = s.os := m.os
  refine Inv.turnedL (ch := [S, It]) j.inv (fun b o hb e => m.heap b o hb e) fun b hb => ?_
  rcases List.mem_cons.mp hb with e | e
  · rw [e]; exact j.fS
  · rw [List.mem_singleton.mp e]; exact j.fI
theorem Jm.moved {H : Hp} {s s' : Shared} (j : Jm X pins σ T H1 S It f c fo q H s) (hS : f ≠ S) (hI : f ≠ It) (m : Moved [S, It] (fun a b => b = a) s s') (eS : ∃ o, s'.heap.get? S = some o) (eI : ∃ o, s'.heap.get? It = some o) : Jm X pins σ T H1 S It f c fo q H s' := by
  refine ⟨j.still m, j.ext, j.tab, j.fS, j.fI, m.heap _ _ (fun z => ?_) j.fn, j.nf, j.cd, eS, eI⟩
  rcases List.mem_cons.mp z with e | e
  · exact hS e
  · exact hI (List.mem_singleton.mp e)
theorem moved_upd (s : Shared) (S It : Addr) (g : Obj → Obj) : Moved [S, It] (fun a b => b = a) s { s with heap := s.heap.update S g, toks := s.toks } :=
  ⟨fun b o hb e => (Heap.get?_update_other _ _ (fun z : S = b => hb (by rw [← z]; exact List.mem_cons_self))).trans e, rfl, rfl, rfl, Nat.le_refl _⟩
variable {Ky : Hp → V → PyData → Prop} {kd : V → PyData} {xs : List V} {A : Around} {n : Nat} {Pv : Nat → Value → Prop} {St : Nat → Shared → Prop} {fp : List Addr}
/-- what is asked of the key -/
structure KeyL (X : Cx) (pins : List (Addr × Obj)) (σ : L2.St) (T : List (Addr × Str)) (H1 : Hp) (S It f c : Addr) (fo : Obj) (q : Str) (Ky : Hp → V → PyData → Prop) (kd : V → PyData) (xs : List V) (A : Around) : Prop where
  turn : ∀ (H : Hp) (s : Shared) (v : V) (u : Value) (E : Value → Shared → Prop), Jm X pins σ T H1 S It f c fo q H s → v ∈ xs → RelV v u →
    wpAny (model X.prog X.w) A (call (.ref f) [u]) (fun k s' => ∃ y H', Jm X pins σ T H1 S It f c fo q H' s' ∧ RelV y k ∧ Ky H' y (kd v) ∧ (∀ b zs, H b = some (.tup zs) → H' b = some (.tup zs)) ∧
      (∀ b o, FpOk X pins H b → s.heap.get? b = some o → s'.heap.get? b = some o)) E s
  dz : ∀ H y d, Ky H y d → Dz X.K H y d
  keep : ∀ H H' y d, (∀ b zs, H b = some (.tup zs) → H' b = some (.tup zs)) → Ky H y d → Ky H' y d
  alike : ∀ v ∈ xs, ∀ v' ∈ xs, alike (kd v) (kd v') = true
  some : ∀ v ∈ xs, kd v ≠ .none ∧ (kd v).depth ≤ 50
  units : A.units + 60 < cLine
theorem KeyL.less {A : Around} (K : KeyL X pins σ T H1 S It f c fo q Ky kd xs A) {H : Hp} {s : Shared} {v v' : V} {y y' : V} {k k' : Value} {E : Value → Shared → Prop} {Q : Value → Shared → Prop} (j : Jm X pins σ T H1 S It f c fo q H s) (hv : v ∈ xs) (hv' : v' ∈ xs)
    (r : RelV y k) (r' : RelV y' k') (d : Ky H y (kd v)) (d' : Ky H y' (kd v')) (h : ∀ b, Q (.bool b) s) : wpAny (model X.prog X.w) A (richCompare .Lt k k') Q E s := by
  obtain ⟨as, ra, _⟩ := Dz.reads j.inv _ _ _ (K.dz _ _ _ d) r
  obtain ⟨bs, rb, _⟩ := Dz.reads j.inv _ _ _ (K.dz _ _ _ d') r'
  refine rcLt_alike _ _ A s k k' as bs ra rb (K.alike v hv v' hv') (K.some v hv).1 ?_ X.prog X.w E Q (h _)
  have := K.units
  have := (K.some v hv).2
  omega
variable {R : Result → Shared → Prop} {kw : List (Str × Value)}
theorem min_more (W : WalksS X.prog X.w A.in1 It fp [It] (fun a b => b = a) n Pv St) (hSf : S ∉ fp) (nfS : f ≠ S) (nfI : f ≠ It) (K : KeyL X pins σ T H1 S It f c fo q Ky kd xs A.in1) (hPv : ∀ i v, Pv i v → ∃ x, x ∈ xs ∧ RelV x v)
    (hSt : ∀ i s s', St i s → (∀ b o, b ∈ fp → s.heap.get? b = some o → s'.heap.get? b = some o) → St i s') (hfp : ∀ (H : Hp) (s : Shared) (i : Nat), Jm X pins σ T H1 S It f c fo q H s → St i s → ∀ (s' : Shared) (H' : Hp), Jm X pins σ T H1 S It f c fo q H' s' → (∀ b o, FpOk X pins H b → s.heap.get? b = some o → s'.heap.get? b = some o) → St i s')
    (hIt : ∀ i s, St i s → ∃ o, s.heap.get? It = some o) (hR : ∀ x v s' H', x ∈ xs → RelV x v → Inv X pins σ H' s' → ExtN H1 H' → Tabs T H' → R (.ok (.ret v)) s') :
    ∀ (m j : Nat) (s : Shared) (H : Hp) (vb kb : Value) (e : Nat) (xb yb : V), n - (j + 1) = m → j + 1 ≤ n → Jm X pins σ T H1 S It f c fo q H s → St (j + 1) s → xb ∈ xs → RelV xb vb → RelV yb kb → Ky H yb (kd xb) →
      s.heap.get? S = some { cls := .type "list", dict := none, data := .seq #[vb, kb] e, slots := #[] } → codeAny (model X.prog X.w) A (.builtin "min.loop" ⟨[.ref It, .ref f, .ref S], kw⟩) R s := by
  have nS : S ∉ [It] := fun z => hSf (W.sub _ z)
  have sub : ∀ b ∈ [It], b ∈ [S, It] := fun b hb => List.mem_cons_of_mem _ hb
  have nm : (toString "min" ++ toString ".loop" : String) = "min.loop" := by decide
  have other : ∀ {b : Addr}, b ∉ [S, It] → S ≠ b := fun {b} hb z => hb (z ▸ List.mem_cons_self)
  intro m
  induction m with
  | zero =>
    intro j s H vb kb e xb yb hm hj J st hx rb ry ky hS
    have last : j + 1 = n := by omega
    refine codeAny_builtin F.entry_min_loop ?go
    case go =>
      rw [Around.under_plainId F.plain_min_loop _]
      show wpAny _ A.in1 (seqItems? (.ref S) >>= _) _ _ s
      refine wpAny_bind (wpAny_seqItems hS rfl ?_); show wpAny _ A.in1 (tryCatch (pyNext (.ref It)) _ >>= _) _ _ s
      refine wpAny_bind (wpAny_tryCatch (W.done s _ _ (last ▸ st) fun s' hm' => ?_))
      have hS' := hm'.heap S _ nS hS
      show wpAny _ A.in1 (updateSeq S (fun _ => #[]) >>= _) _ _ _
      refine wpAny_bind ?_
      refine wpAny_updateSeq hS' rfl (wpAny_bind (wpAny_letGo (wpAny_pure ?_)))
      exact hR xb vb _ H hx rb (J.still ((hm'.mono sub).then_heap (tk := s'.toks) (Nat.le_refl _) fun b o hb e => (Heap.get?_update_other _ _ (other hb)).trans e)) J.ext J.tab
  | succ m ih =>
    intro j s H vb kb e xb yb hm hj J st hx rb ry ky hS
    have lt : j + 1 < n := by omega
    refine codeAny_builtin F.entry_min_loop ?go
    case go =>
      rw [Around.under_plainId F.plain_min_loop _]
      show wpAny _ A.in1 (seqItems? (.ref S) >>= _) _ _ s
      refine wpAny_bind (wpAny_seqItems hS rfl ?_); show wpAny _ A.in1 (tryCatch (pyNext (.ref It)) _ >>= _) _ _ s
      refine wpAny_bind (wpAny_tryCatch (W.item (j + 1) s _ _ lt st fun v s' hP st' hm' => ?_))
      have hS' := hm'.heap S _ nS hS
      have J' := J.moved nfS nfI (hm'.mono sub) ⟨_, hS'⟩ (hIt _ _ st')
      obtain ⟨x, hx', rx⟩ := hPv _ _ hP
      show wpAny _ A.in1 (tryCatch (holding [v] (call (.ref f) [v])) _ >>= _) _ _ _
      refine wpAny_bind (wpAny_tryCatch (wpAny_holding (wpAny_mono (K.turn H s' x v _ J' hx' rx) (fun kx s2 hk => ?_) fun _ _ y => y)))
      obtain ⟨y, H2, J2, r2, k2, tups, fps⟩ := hk
      have hS2 := fps S _ J'.fS hS'
      have st2 := hfp H s' _ J' st' s2 H2 J2 fps
      show wpAny _ A.in1 (tryCatch (holding [v, kx] (richCompare .Lt kx kb >>= _)) _ >>= _) _ _ _
      refine wpAny_bind (wpAny_tryCatch (wpAny_holding (wpAny_bind (K.less J2 hx' hx r2 ry k2 (K.keep _ _ _ _ tups ky) fun b => ?_))))
      refine wpAny_bind (wpAny_holding (wpAny_truthy_bool ?_)); refine wpAny_bind (wpAny_letGo (wpAny_pure ?_))
      cases b with
      | true =>
        simp only [if_true]
        refine wpAny_bind ?_
        refine wpAny_updateSeq hS2 rfl (wpAny_bind (wpAny_letGo ?_)); rw [nm]
        refine wpAny_pure ⟨plainId_quiet F.plain_min_loop _, ih (j + 1) _ H2 v kx _ x y (by omega) lt (J2.moved nfS nfI (moved_upd s2 S It _) ⟨_, Heap.get?_update_self _ hS2 rfl⟩ (by obtain ⟨o, e⟩ := J2.eI; exact ⟨o, (Heap.get?_update_other _ _ (fun z : S = It => nS (by rw [z]; exact List.mem_singleton.mpr rfl))).trans e⟩)) (hSt _ _ _ st2 fun b o hb e => ?_) hx' rx r2 k2 (Heap.get?_update_self _ hS2 rfl)⟩
        exact (Heap.get?_update_other _ _ (fun z : S = b => hSf (z ▸ hb))).trans e
      | false =>
        simp only [Bool.false_eq_true, if_false]
        refine wpAny_bind (wpAny_letGo ?_); rw [nm]
        exact wpAny_pure ⟨plainId_quiet F.plain_min_loop _, ih (j + 1) _ H2 vb kb e xb yb (by omega) lt J2 st2 hx rb ry (K.keep _ _ _ _ tups ky) hS2⟩
theorem min_first (W : WalksS X.prog X.w A.in1 It fp [It] (fun a b => b = a) n Pv St) (hSf : S ∉ fp) (nfS : f ≠ S) (nfI : f ≠ It) (K : KeyL X pins σ T H1 S It f c fo q Ky kd xs A.in1) (hPv : ∀ i v, Pv i v → ∃ x, x ∈ xs ∧ RelV x v)
    (hSt : ∀ i s s', St i s → (∀ b o, b ∈ fp → s.heap.get? b = some o → s'.heap.get? b = some o) → St i s') (hfp : ∀ (H : Hp) (s : Shared) (i : Nat), Jm X pins σ T H1 S It f c fo q H s → St i s → ∀ (s' : Shared) (H' : Hp), Jm X pins σ T H1 S It f c fo q H' s' → (∀ b o, FpOk X pins H b → s.heap.get? b = some o → s'.heap.get? b = some o) → St i s')
    (hIt : ∀ i s, St i s → ∃ o, s.heap.get? It = some o) (hR : ∀ x v s' H', x ∈ xs → RelV x v → Inv X pins σ H' s' → ExtN H1 H' → Tabs T H' → R (.ok (.ret v)) s') (hn : 0 < n) {s : Shared} {H : Hp} {e : Nat} (J : Jm X pins σ T H1 S It f c fo q H s) (st : St 0 s)
    (hS : s.heap.get? S = some { cls := .type "list", dict := none, data := .seq #[] e, slots := #[] }) : codeAny (model X.prog X.w) A (.builtin "min.loop" ⟨[.ref It, .ref f, .ref S], kw⟩) R s := by
  have nS : S ∉ [It] := fun z => hSf (W.sub _ z)
  have sub : ∀ b ∈ [It], b ∈ [S, It] := fun b hb => List.mem_cons_of_mem _ hb
  have nm : (toString "min" ++ toString ".loop" : String) = "min.loop" := by decide
  refine codeAny_builtin F.entry_min_loop ?go
  case go =>
    rw [Around.under_plainId F.plain_min_loop _]
    show wpAny _ A.in1 (seqItems? (.ref S) >>= _) _ _ s
    refine wpAny_bind (wpAny_seqItems hS rfl ?_); show wpAny _ A.in1 (tryCatch (pyNext (.ref It)) _ >>= _) _ _ s
    refine wpAny_bind (wpAny_tryCatch (W.item 0 s _ _ hn st fun v s' hP st' hm' => ?_))
    have hS' := hm'.heap S _ nS hS
    have J' := J.moved nfS nfI (hm'.mono sub) ⟨_, hS'⟩ (hIt _ _ st')
    obtain ⟨x, hx', rx⟩ := hPv _ _ hP
    show wpAny _ A.in1 (tryCatch (holding [v] (call (.ref f) [v])) _ >>= _) _ _ _
    refine wpAny_bind (wpAny_tryCatch (wpAny_holding (wpAny_mono (K.turn H s' x v _ J' hx' rx) (fun kx s2 hk => ?_) fun _ _ y => y)))
    obtain ⟨y, H2, J2, r2, k2, tups, fps⟩ := hk
    have hS2 := fps S _ J'.fS hS'
    have st2 := hfp H s' _ J' st' s2 H2 J2 fps
    show wpAny _ A.in1 (updateSeq S (fun _ => #[v, kx]) >>= _) _ _ _
    refine wpAny_bind ?_
    refine wpAny_updateSeq hS2 rfl ?_; rw [nm]
    refine wpAny_pure ⟨plainId_quiet F.plain_min_loop _, min_more W hSf nfS nfI K hPv hSt hfp hIt hR _ 0 _ H2 v kx _ x y rfl hn (J2.moved nfS nfI (moved_upd s2 S It _) ⟨_, Heap.get?_update_self _ hS2 rfl⟩ (by obtain ⟨o, e⟩ := J2.eI; exact ⟨o, (Heap.get?_update_other _ _ (fun z : S = It => nS (by rw [z]; exact List.mem_singleton.mpr rfl))).trans e⟩)) (hSt _ _ _ st2 fun b o hb e => ?_) hx' rx r2 k2 (Heap.get?_update_self _ hS2 rfl)⟩
    exact (Heap.get?_update_other _ _ (fun z : S = b => hSf (z ▸ hb))).trans e
end
section
theorem sqT_extN {K : PySem.W.Frag} {H H' : Hp} (s : ExtN H H') {t : Addr} {xs : List V} (q : SqT K H t xs) : SqT K H' t xs := by
  rcases q with (q | ⟨o, q⟩) | q
  · exact .inl (.inl (s _ _ q fun ps z => by cases z))
  · exact .inl (.inr ⟨o, s _ _ q fun ps z => by cases z⟩)
  · exact .inr q
/-- where the walk of a tuple stands -/
def Stt (xs : List V) (It l : Addr) (i : Nat) (s : Shared) : Prop := ∃ vs : Array Value, Vals xs vs.toList ∧ s.heap.IsTupleIter It l i ∧ s.heap.IsTuple l vs
theorem walk_tt {prog : Program} {w : World} {A : Around} {It l : Addr} {xs : List V} (hh : A.handled = none) (ne : l ≠ It) :
    WalksS prog w A It [It, l] [It] (fun a b => b = a) xs.length (fun i v => ∃ x, xs[i]? = some x ∧ RelV x v) (Stt xs It l) := by
  have W := fun vs : Array Value => (Walks.tuple (prog := prog) (w := w) (A := A) hh It l ne vs).toS
  have sz : ∀ {vs : Array Value}, Vals xs vs.toList → vs.size = xs.length := fun {vs} r => by rw [r.length, Array.length_toList]
  refine ⟨fun b hb => by simp at hb; simp [hb], fun _ => rfl, fun a b c h1 h2 => h2.trans h1, fun i s h' tk st le k => ?_, fun i s Q E hi st h => ?_, fun s Q E st h => ?_, fun i s Q E st h => ?_⟩
  · obtain ⟨vs, r, st⟩ := st
    exact ⟨vs, r, (W vs).frame i s h' tk st le k⟩
  · obtain ⟨vs, r, st⟩ := st
    refine (W vs).item i s Q E (by rw [sz r]; exact hi) st fun v s' hP st' hm => h v s' ?_ ⟨vs, r, st'⟩ hm
    obtain ⟨v', e', rx⟩ := r.get (List.getElem?_eq_getElem hi)
    rw [Array.getElem?_toList, show vs[i]? = some v from hP] at e'
    cases e'
    exact ⟨_, List.getElem?_eq_getElem hi, rx⟩
  · obtain ⟨vs, r, st⟩ := st
    exact (W vs).done s Q E (by rw [sz r]; exact st) h
  · obtain ⟨vs, r, st⟩ := st
    exact (W vs).self i s Q E st h
end
abbrev itO (l : Addr) : Obj := { cls := .type "tuple_iterator", data := .fields #[.ref l, .int 0 0] }
/-- min(e, key=lambda pn: body): some item -/
def tMinLam (K : PySem.W.Frag) (T : List (Addr × Str)) (Ky : Hp → V → PyData → Prop) (ta tb : TE) : TE := fun σ H Q => ta σ H fun x H1 => ∃ (l : Addr) (xs : List V) (kd : V → PyData), x = .ref l ∧ SqT K H1 l xs ∧ xs ≠ [] ∧ Tabs T H1 ∧
  (∀ v ∈ xs, ∀ v' ∈ xs, alike (kd v) (kd v') = true) ∧ (∀ v ∈ xs, kd v ≠ .none ∧ (kd v).depth ≤ 50) ∧
  (∀ H2, ExtN H1 H2 → Tabs T H2 → ∀ v ∈ xs, tb (some v :: σ) H2 fun y H3 => ExtN H2 H3 ∧ Tabs T H3 ∧ Ky H3 y (kd v)) ∧ ∀ v ∈ xs, ∀ H', ExtN H1 H' → Tabs T H' → Q v H'
section
variable {X : Cx}
theorem pe_minLam {T : List (Addr × Str)} {Ky : Hp → V → PyData → Prop} {e : Expr} {params : Arguments} {body : Expr} {scope : Scope} {lpos kpos p pos : Pos} {pn : Str} {c P : Addr} {k : Nat} {ta tb : TE}
    (hg : Gl X "min") (hm : X.mg "min" = none) (calm : X.calm = true) (room : Room (k + 3) X.A) (ha : PE X e ta)
    (TB : TabB X.base X.mg c P) (hcode : X.env.code = .ref c) (hmT : (P, X.env.qual ++ "<lambda>") ∈ T) (hu : ∀ p ∈ T, p.1 = P → p.2 = X.env.qual ++ "<lambda>") (L : Lam1 X.env.scope scope pn) (hpn : pn ∉ X.N) (hdef : defaultsOf params X.env = ([], []))
    (hbind : ∀ (q : Str) (cl : List (Str × Addr)) (pm cv ctv u : Value), bindArgs (kla_fn "<lambda>" q params body scope cl pm cv ctv) ⟨[u], []⟩ = pure [(pn, u)])
    (hbody : ∀ (A : Around) (s : Shared) (H : Hp) (f c' : Addr), Room k (A.deeper (lamEnv X scope s.heap.objs.size f c')) → PE (lamX X A s H pn scope f c') body tb)
    (hdz : ∀ H y d, Ky H y d → Dz X.K H y d) (hkeep : ∀ (H H' : Hp) y d, (∀ b zs, H b = some (.tup zs) → H' b = some (.tup zs)) → Ky H y d → Ky H' y d)
    (hs0 : starEach [e] X.env = (false, eval e X.env) :: starEach [] X.env := by rfl) (he : backTo pos (starEach [e] X.env) = (false, eval e X.env) :: backTo pos (starEach [] X.env) := by rfl) (hpl : (backTo pos (starEach [e] X.env)).any (·.1) = false := by rfl) :
    PE X (.Call (.Name "min" p) [e] [⟨some "key", .Lambda params body scope lpos, kpos⟩] pos) (tMinLam X.K T Ky ta tb) := by
  refine ⟨fun pins s σ H Q I h => ?_⟩
  refine wpAny_Call_Name_kw (ld_blt I hg hm (u := .builtin "min") (by decide +kernel) ?_)
  refine PyProof.Rows.callWith_kw (thn ((pa_cons (hs := hs0) ha pa_nil).run pos pins s σ H (fun vs H1 => match vs with
    | [x] => ∃ (l : Addr) (xs : List V) (kd : V → PyData), x = .ref l ∧ SqT X.K H1 l xs ∧ xs ≠ [] ∧ Tabs T H1 ∧
      (∀ v ∈ xs, ∀ v' ∈ xs, alike (kd v) (kd v') = true) ∧ (∀ v ∈ xs, kd v ≠ .none ∧ (kd v).depth ≤ 50) ∧
      (∀ H2, ExtN H1 H2 → Tabs T H2 → ∀ v ∈ xs, tb (some v :: σ) H2 fun y H3 => ExtN H2 H3 ∧ Tabs T H3 ∧ Ky H3 y (kd v)) ∧ ∀ v ∈ xs, ∀ H', ExtN H1 H' → Tabs T H' → Q v H'
    | _ => False) I h) fun us s1 hq => ?_) he hpl
  obtain ⟨ws, H1, I1, r1, q1⟩ := hq
  match ws, q1 with
  | [], q1 => exact False.elim q1
  | _ :: _ :: _, q1 => exact False.elim q1
  | [x], q1 =>
    obtain ⟨l, xs, kd, rfl, hs, ne, hT, hal, hso, hbd, hq⟩ := q1
    obtain ⟨u, rfl, ru⟩ := vals1 r1
    cases ru
    show wpAny _ _ (evalAll ((do let v ← eval (.Lambda params body scope lpos) X.env; standAt pos; pure v) :: [])) _ _ s1
    refine wpAny_evalAll_cons (wpAny_bind (lam_make2 I1 TB hcode hmT hu hT hdef (L.has I1.ok) fun f c' pm ctv H2 s2 I2 eN T2 hf hfn hfr hco => wpAny_bind (wpAny_standAt (wpAny_pure (wpAny_evalAll_nil ?_)))))
    show wpAny _ _ (call (.builtin "min") [.ref l] [(Str.ofString "key", .ref f)]) _ _ s2
    have hs2 := sqT_extN eN hs
    obtain ⟨its, rx, hit, _⟩ := I2.tuple hs2
    have hIt : s2.heap.IsTuple l its.toArray := hit
    have hl : l < s2.heap.objs.size := by obtain ⟨o, ho, _⟩ := hIt; exact Heap.lt_size ho
    have hf' : f < s2.heap.objs.size := Heap.lt_size hf
    have hh : X.A.handled = none := I.ok.hd calm
    have nm : (toString "min" ++ toString ".loop" : String) = "min.loop" := by decide
    refine kmk_tree F.kind_min F.plain_min F.entry_min (kmk_min_key _ _) ?go
    case go =>
      show wpAny _ X.A.in1 (Builtin.Builtins.bindParams "min" ["key", "default"] 0 ⟨[], [(Str.ofString "key", .ref f)]⟩ >>= _) _ _ s2
      refine wpAny_bind (wpAny_of_eq (show Builtin.Builtins.bindParams "min" ["key", "default"] 0 ⟨[], [(Str.ofString "key", .ref f)]⟩ = pure [some (.ref f), none] from rfl) ?_)
      refine wpAny_bind (wpAny_pure (wpAny_bind (wpAny_pyIter_tuple hIt (wpAny_bind (wpAny_newObj_type ?_)))))
      rw [nm]
      -- the iterator, the list
      have sz : (s2.heap.push (itO l)).objs.size = s2.heap.objs.size + 1 := Heap.size_push ..
      show wpAny _ _ _ _ _ { s2 with heap := (s2.heap.push (itO l)).push { cls := .type "list", data := .seq #[] 0 } }
      have le1 : s2.heap.objs.size ≤ s2.heap.objs.size := Nat.le_refl _
      have le2 : s2.heap.objs.size ≤ (s2.heap.push (itO l)).objs.size := by rw [sz]; omega
      have kp : ∀ b o, s2.heap.get? b = some o → ((s2.heap.push (itO l)).push { cls := .type "list", data := .seq #[] 0 }).get? b = some o := fun b o e => Heap.get?_push_of_some _ (Heap.get?_push_of_some _ e)
      have J : Jm X pins σ T H1 (s2.heap.push (itO l)).objs.size s2.heap.objs.size f c' _ (X.env.qual ++ "<lambda>") H2 { s2 with heap := (s2.heap.push (itO l)).push { cls := .type "list", data := .seq #[] 0 } } :=
        ⟨I2.kept (t' := s2.toks) kp, eN, T2, I2.fpOk le2 (I2.hok.fresh le2), I2.fpOk le1 (I2.hok.fresh le1), kp _ _ hf, hfn, hco, ⟨_, Heap.get?_push_size _ rfl⟩, ⟨_, Heap.get?_push_of_some _ (Heap.get?_push_size _ rfl)⟩⟩
      have nS : (s2.heap.push (itO l)).objs.size ∉ [s2.heap.objs.size, l] := fun z => by
        rw [sz] at z
        rcases List.mem_cons.mp z with z | z
        · exact absurd z (Nat.succ_ne_self _)
        · exact absurd hl (by rw [← List.mem_singleton.mp z]; exact Nat.not_lt.mpr (Nat.le_succ _))
      have K : KeyL X pins σ T H1 (s2.heap.push (itO l)).objs.size s2.heap.objs.size f c' (kla_obj "<lambda>" (X.env.qual ++ "<lambda>") params body scope (cloFrom X.env.cells scope.names []) pm c' ctv) (X.env.qual ++ "<lambda>") Ky kd xs X.A.in1 := by
        refine ⟨fun H s v u E J hv rv => ?_, hdz, hkeep, hal, hso, ?_⟩
        · have fr : X.A.in1.frames = some X.stack := by show X.A.frames = some X.stack; exact I.ok.frames
          refine wpAny_mono (lam_call (E := E) J.inv L hpn J.fn J.cd (hbind _ _ _ _ _ _) fr (room.in1.mono (by omega) : Room (k + 1) _) (fun hr => hbody _ _ _ _ _ hr) rv (hbd H J.ext J.tab v hv)) (fun y s' hq' => ?_) fun _ _ z => z
          obtain ⟨z, H', os, bare, un, hok, rz, eN', T', ky⟩ := hq'
          have I' : Inv X pins σ H' s' := J.inv.call' os un hok bare fun b hb => absurd hb List.not_mem_nil
          have kpt : ∀ b o, FpOk X pins H b → s.heap.get? b = some o → s'.heap.get? b = some o := fun b o fb e => un.keep _ _ e fb.1 (fun hz => by
            rcases List.mem_cons.mp (J.inv.stkSub b hz) with e' | e'
            · exact fb.2.1 e'
            · exact fb.2.2.1 e') List.not_mem_nil
          have fz : ∀ b o, s.heap.get? b = some o → FpOk X pins H b → FpOk X pins H' b := fun b o e fb => ⟨un.free _ _ e fb.1 List.not_mem_nil, fb.2⟩
          obtain ⟨oS, eS⟩ := J.eS
          obtain ⟨oI, eI⟩ := J.eI
          refine ⟨z, H', ⟨I', J.ext.trans eN', T', fz _ _ eS J.fS, fz _ _ eI J.fI, un.keep _ _ J.fn J.nf (fun hz => ?_) List.not_mem_nil, un.free _ _ J.fn J.nf List.not_mem_nil, eN' _ _ J.cd codeO_ne, ⟨_, kpt _ _ J.fS eS⟩, ⟨_, kpt _ _ J.fI eI⟩⟩, rz, ky, un.tups, kpt⟩
          exact hfr hz
        · have := room.units
          show X.A.units + 1 + 60 < cLine
          omega
      refine wpAny_pure ⟨plainId_quiet F.plain_min_loop _, min_first (A := X.A) (fp := [s2.heap.objs.size, l]) (St := Stt xs s2.heap.objs.size l) (walk_tt (A := X.A.in1) hh (Nat.ne_of_lt hl)) nS (Nat.ne_of_lt (Nat.lt_of_lt_of_le hf' le2)) (Nat.ne_of_lt hf') K
        (fun i v ⟨x, e, r⟩ => ⟨x, List.mem_of_getElem? e, r⟩) (fun i s s' st k => ?_) (fun H s i J st s' H' J' kk => ?_) (fun i s ⟨vs, r, ⟨o, e, _⟩, _⟩ => ⟨o, e⟩) (fun x v s' H' hx r I' e' t' => ⟨x, H', I', r, hq x hx H' e' t'⟩) (List.length_pos_iff.mpr ne) J ⟨its.toArray, by simpa using rx, ?_, ?_⟩ (Heap.get?_push_size _ rfl)⟩
      · obtain ⟨vs, r, ⟨o, e, r1⟩, ⟨o', e', r2⟩⟩ := st
        exact ⟨vs, r, ⟨o, k _ _ List.mem_cons_self e, r1⟩, ⟨o', k _ _ (by simp) e', r2⟩⟩
      · obtain ⟨vs, r, ⟨o, e, r1⟩, _⟩ := st
        obtain ⟨its', rx', hit', _⟩ := J'.inv.tuple (sqT_extN J'.ext hs)
        exact ⟨its'.toArray, by simpa using rx', ⟨o, kk _ _ J.fI e, r1⟩, hit'⟩
      · exact ⟨_, Heap.get?_push_of_some _ (Heap.get?_push_size _ rfl), rfl, rfl⟩
      · exact (hIt.push _).push _
end
end Xlm
set_option Elab.async false
set_option linter.all false
set_option maxRecDepth 100000
set_option maxHeartbeats 4000000
set_option pp.maxSteps 400
set_option pp.deepTerms false
/-! zip(a list, a tuple) of one length; a list != [] -/
namespace Xt
open PySem PySem.Spec PyProof.Rows L2
def ItzLT (K : PySem.W.Frag) (a b : Addr) : It :=
  ⟨fun i H => ∃ (xs ys : List V) (x y : V), SqL K H a xs ∧ SqT K H b ys ∧ xs[i]? = some x ∧ ys[i]? = some y,
    fun i H v H' => ∃ T x y, v = .ref T ∧ H T = none ∧ H' = upd H T (.tup [x, y]) ∧ (∀ xs, SqL K H a xs → xs[i]? = some x) ∧ ∀ ys, SqT K H b ys → ys[i]? = some y,
    fun i H => ∃ xs ys : List V, SqL K H a xs ∧ SqT K H b ys ∧ xs.length = i ∧ ys.length = i⟩
theorem turn_zipLT {P : Program} {w : World} {K : PySem.W.Frag} {elts : List Expr} {kk : Nat} {tpos : Pos} {a b z TI TO i1 i2 : Addr} (D : ZipSep2 z TI TO i1 i2 [i1, a] [i2, b]) (n1 : a ≠ i1) (n2 : b ≠ i2) :
    Turn P w K (.Tuple elts kk tpos) (ItzLT K a b) [z, TI, TO, i1, i2] z (fun i h => IsZip h z TI TO .none ∧ IsTupOf2 h TI (.ref i1) (.ref i2) ∧ (∃ x y, IsTupOf2 h TO x y) ∧ h.IsListIter i1 a i ∧ h.IsTupleIter i2 b i) where
  mem := by simp
  obj := fun i h ⟨h1, h2, ⟨x, y, h3⟩, ⟨o1, e1, _, d1⟩, ⟨o2, e2, _, d2⟩⟩ c hc => by
    simp only [List.mem_cons, List.not_mem_nil, or_false] at hc
    rcases hc with rfl | rfl | rfl | rfl | rfl
    · exact ⟨_, h1, fun _ q => nomatch q⟩
    · exact ⟨_, h2, fun _ q => nomatch q⟩
    · exact ⟨_, h3, fun _ q => nomatch q⟩
    · exact ⟨o1, e1, fun _ q => by rw [d1] at q; cases q⟩
    · exact ⟨o2, e2, fun _ q => by rw [d2] at q; cases q⟩
  keep := fun i h h' ⟨h1, h2, ⟨x, y, h3⟩, h4, h5⟩ k => ⟨k z (by simp) _ h1, k TI (by simp) _ h2, ⟨x, y, k TO (by simp) _ h3⟩, h4.at fun o q => k i1 (by simp) o q, h5.at fun o q => k i2 (by simp) o q⟩
  item := by
    intro X hP hw hK hc i pins s σ H E I hf st hg
    subst hP hw hK
    obtain ⟨hz, hTI, ⟨x0, y0, hTO⟩, t1, t2⟩ := st
    obtain ⟨xs, ys, x, y, hqx, hqy, hx, hy⟩ := hg
    obtain ⟨us, r1, p1, _⟩ := I.list hqx
    obtain ⟨ws, r2, p2, _⟩ := I.tuple hqy
    obtain ⟨u, hu, ru⟩ := r1.get hx
    obtain ⟨v, hv, rv⟩ := r2.get hy
    have l1 : i < us.toArray.size := by simpa using (List.getElem?_eq_some_iff.mp hu).1
    have l2 : i < ws.toArray.size := by simpa using (List.getElem?_eq_some_iff.mp hv).1
    have nh := I.ok.hd hc
    have zl : z < s.heap.objs.size := Heap.lt_size hz
    refine wpAny_pyNext_zipD2_item D (Draws.list (A := X.A.in1) nh i1 a n1 us.toArray) (Draws.tuple (A := X.A.in1) nh i2 b n2 ws.toArray) hz hTI hTO ⟨t1, p1.isList⟩ ⟨t2, p2⟩ l1 l2 fun u' v' h' tk eu ev z' TO' s1 s2 hT hsz hk => ?_
    obtain rfl : u = u' := by
      have : us.toArray[i]? = some u := by simpa using hu
      rw [this] at eu; cases eu; rfl
    obtain rfl : v = v' := by
      have : ws.toArray[i]? = some v := by simpa using hv
      rw [this] at ev; cases ev; rfl
    refine ⟨_, rfl, wpAny_letOwnedTupleGo_zip (s := { s with heap := h', toks := tk }) z' fun h'' z'' sb => ?_⟩
    have hT2 : h''.get? s.heap.objs.size = some { cls := .type "tuple", data := .seq #[u, v] } := (sb.2 _ (Nat.ne_of_gt zl)).trans hT
    have I1 : Inv X pins σ (upd H s.heap.objs.size (.tup [x, y])) { s with heap := h'', toks := tk } :=
      I.turnedNew (ch := [z, TI, TO, i1, i2]) (fun c o hb q => (sb.2 c (fun e => hb (by simp [e]))).trans (hk c o (fun e => hb (by simp [e])) (fun e => hb (by simp [e])) (fun e => hb (by simp [e])) (fun e => hb (by simp [e])) q)) hf (Nat.le_refl _)
        ⟨by show 2 ≤ sizeLine; decide, [u, v], .cons ru (.cons rv .nil), ⟨_, hT2, rfl, _, rfl⟩⟩
    refine ⟨.ref s.heap.objs.size, _, I1, rfl, ⟨_, x, y, rfl, I.hok.fresh (Nat.le_refl _), rfl, fun l hl => by rw [I.list_inj hl hqx]; exact hx, fun l hl => by rw [I.tuple_inj hl hqy]; exact hy⟩,
      ⟨z'', (sb.2 _ D.TIz).trans (hk _ _ D.TIz D.TITO D.TIi1 D.TIi2 hTI), ⟨u, v, (sb.2 _ D.TOz).trans TO'⟩, s1.1.at fun o q => (sb.2 _ (Ne.symm D.zi1)).trans q, s2.1.at fun o q => (sb.2 _ (Ne.symm D.zi2)).trans q⟩, fun c hcm => ?_⟩
    have lt : c < s.heap.objs.size := by
      have hcm' := hcm
      simp only [List.mem_cons, List.not_mem_nil, or_false] at hcm'
      rcases hcm' with rfl | rfl | rfl | rfl | rfl
      · exact zl
      · exact Heap.lt_size hTI
      · exact Heap.lt_size hTO
      · exact Heap.lt_size t1.choose_spec.1
      · exact Heap.lt_size t2.choose_spec.1
    rw [upd_ne (Nat.ne_of_lt lt)]
    exact (hf c hcm).1
  done := by
    intro X hP hw hK hc i pins s σ H E I hf st hg
    subst hP hw hK
    obtain ⟨hz, hTI, ⟨x0, y0, hTO⟩, t1, t2⟩ := st
    obtain ⟨xs, ys, hqx, hqy, lx, ly⟩ := hg
    obtain ⟨us, r1, p1, _⟩ := I.list hqx
    obtain ⟨ws, r2, p2, _⟩ := I.tuple hqy
    have e1 : us.toArray.size = i := by rw [List.size_toArray, ← r1.length]; exact lx
    have e2 : ws.toArray.size = i := by rw [List.size_toArray, ← r2.length]; exact ly
    have nh := I.ok.hd hc
    exact wpAny_pyNext_zipD2_end D (Draws.list (A := X.A.in1) nh i1 a n1 us.toArray) (Draws.tuple (A := X.A.in1) nh i2 b n2 ws.toArray) hz hTI hTO ⟨t1, p1.isList⟩ ⟨t2, p2⟩ (by omega) (by omega) (.inl e1.symm) fun h' tk hk =>
      ⟨rfl, I.turnedL (t' := tk) (ch := [z, TI, TO, i1, i2]) (fun c o hb q => hk c o (fun e => hb (by simp [e])) (fun e => hb (by simp [e])) (fun e => hb (by simp [e])) (fun e => hb (by simp [e])) q) hf⟩
  self := fun A i s Q E st h => wpAny_pyIter_zip st.1 h
def iZipLT (K : PySem.W.Frag) (ta : TA) : TI := fun σ H R => ta σ H fun vs H1 => ∃ a b xs ys, vs = [.ref a, .ref b] ∧ SqL K H1 a xs ∧ SqT K H1 b ys ∧ R (ItzLT K a b) H1
theorem pi_zipLT {X : Cx} {e e2 : Expr} {ta : TA} {p pos tpos : Pos} {elts : List Expr} {kk : Nat} (hg : Gl X "zip") (hm : X.mg "zip" = none) (ha : PA X [e, e2] ta)
    (hs : starEach [e, e2] X.env = (false, eval e X.env) :: starEach [e2] X.env := by rfl) (hpl : (backTo pos (starEach [e2] X.env)).any (·.1) = false := by rfl) :
    PI X (.Tuple elts kk tpos) (.Call (.Name "zip" p) [e, e2] [] pos) (iZipLT X.K ta) := by
  refine ⟨fun pins s σ H R I h => ?_⟩
  refine Call_ (ld_blt I hg hm PyProof.Rows.boot_zip (PyProof.Rows.callWith_type1 (thn (ha.run pos pins s σ H _ I h) fun us s1 ⟨vs, H1, I1, r1, q1⟩ => ?go) hs hpl))
  case go =>
    obtain ⟨a, b, xs, ys, rfl, hqx, hqy, q⟩ := q1
    cases r1 with
    | cons r rr =>
      cases rr with
      | cons r' rr =>
        cases rr; cases r; cases r'
        obtain ⟨us, v1, p1, _⟩ := I1.list hqx
        obtain ⟨ws, v2, p2, _⟩ := I1.tuple hqy
        have la : a < s1.heap.objs.size := p1.lt
        have lb : b < s1.heap.objs.size := by obtain ⟨o, ho, _⟩ := id p2; exact Heap.lt_size ho
        refine zip_begins2 (begins_list a us.toArray) (begins_tuple b ws.toArray) p1.isList p2 fun h' hz hTI hTO h1 h2 _ hk => wpAny_pyIter_zip hz ?_
        have I2 : Inv X pins σ H1 { s1 with heap := h' } := I1.kept (t' := s1.toks) hk
        refine ⟨s1.heap.objs.size + 4, [s1.heap.objs.size + 4, s1.heap.objs.size + 2, s1.heap.objs.size + 3, s1.heap.objs.size, s1.heap.objs.size + 1], _, _, H1, rfl, I2,
          turn_zipLT (zip_sep2 (N := s1.heap.objs.size) (fp1 := [a]) (fp2 := [b]) (fun c hc => by rw [List.mem_singleton.mp hc]; exact la) (fun c hc => by rw [List.mem_singleton.mp hc]; exact lb)) (Nat.ne_of_lt la) (Nat.ne_of_lt (Nat.lt_succ_of_lt lb)),
          ⟨hz, hTI, ⟨_, _, hTO⟩, ⟨_, h1, rfl, rfl⟩, ⟨_, h2, rfl, rfl⟩⟩, fun c hc => ?_, q⟩
        have le : s1.heap.objs.size ≤ c := by
          simp only [List.mem_cons, List.not_mem_nil, or_false] at hc
          rcases hc with rfl | rfl | rfl | rfl | rfl
          · exact Nat.le_add_right _ _
          · exact Nat.le_add_right _ _
          · exact Nat.le_add_right _ _
          · exact Nat.le_refl _
          · exact Nat.le_add_right _ _
        exact I1.fpOk le (I1.hok.fresh le)
theorem walk_zipLT {K : PySem.W.Frag} {a b : Addr} {xs ys : List V} (e : xs.length = ys.length) : Walk (ItzLT K a b) xs.length (fun H => SqL K H a xs ∧ SqT K H b ys) (YPair (fun i => xs[i]?) (fun i => ys[i]?)) := by
  refine ⟨fun i H hi q => ⟨xs, ys, xs[i], ys[i]'(by omega), q.1, q.2, List.getElem?_eq_getElem hi, List.getElem?_eq_getElem (by omega)⟩, fun H q => ⟨xs, ys, q.1, q.2, rfl, e.symm⟩, fun i H v H' hi q y => ?_⟩
  obtain ⟨T, x, z, h1, h2, h3, h4, h5⟩ := y
  exact ⟨T, x, z, h1, h2, h3, h4 xs q.1, h5 ys q.2⟩
/-- a list of any things != [] -/
theorem op_neL0 {X : Cx} (hu : X.A.units + 64 < cLine) : OpR X (compareOp .NotEq) (fun x y H Q => ∃ a b xs, x = .ref a ∧ y = .ref b ∧ H a = some (.lst xs) ∧ H b = some (.lst []) ∧ Q (.bl (!xs.isEmpty)) H) := by
  intro pins s σ H x y v u Q I rx ry h
  obtain ⟨a, b, xs, rfl, rfl, ea, eb, q⟩ := h
  cases rx; cases ry
  obtain ⟨its, r1, p1, _⟩ := I.list (SqL.of ea)
  obtain ⟨its2, r2, p2, _⟩ := I.list (SqL.of eb)
  cases r2
  have l := r1.length
  cases xs with
  | nil =>
    cases r1
    exact (PySem.SeqAt.RcNeAt.lists (e := fun _ => true) p1.isList p2.isList rfl (by omega) (fun j h1 _ => absurd h1 (by simp))) _ _ _ _ ⟨.bl false, H, I, rfl, q⟩
  | cons x r =>
    refine (PySem.SeqAt.RcNeAt.lists_lengths p1.isList p2.isList ?_ (by omega)) _ _ _ _ ⟨.bl true, H, I, rfl, q⟩
    rw [List.size_toArray, ← l]
    simp
end Xt
set_option linter.all false
namespace P56
/-! ## rising rows -/
theorem lt_app : ∀ {a b : List Nat} (x y : List Nat), a.length = b.length → a < b → a ++ x < b ++ y
  | [], [], _, _, _, h => absurd h (List.lt_irrefl _)
  | [], _ :: _, _, _, e, _ => by simp at e
  | _ :: _, [], _, _, e, _ => by simp at e
  | a :: as, b :: bs, x, y, e, h => by
    rw [List.cons_append, List.cons_append, List.cons_lt_cons_iff]
    rw [List.cons_lt_cons_iff] at h
    rcases h with h | ⟨h1, h2⟩
    · exact .inl h
    · exact .inr ⟨h1, lt_app x y (by simpa using e) h2⟩
theorem lt_last : ∀ (d : List Nat) {k k' : Nat}, k < k' → d ++ [k] < d ++ [k']
  | [], _, _, h => by rw [List.nil_append, List.nil_append, List.cons_lt_cons_iff]; exact .inl h
  | x :: d, _, _, h => by
    rw [List.cons_append, List.cons_append, List.cons_lt_cons_iff]
    exact .inr ⟨rfl, lt_last d h⟩
/-- two strictly rising rows with the same members -/
theorem up_ext : ∀ {a b : List Nat}, a.Pairwise (· < ·) → b.Pairwise (· < ·) → (∀ k, k ∈ a ↔ k ∈ b) → a = b
  | [], [], _, _, _ => rfl
  | [], y :: b, _, _, h => absurd ((h y).2 List.mem_cons_self) (List.not_mem_nil)
  | x :: a, [], _, _, h => absurd ((h x).1 List.mem_cons_self) (List.not_mem_nil)
  | x :: a, y :: b, ha, hb, h => by
    rw [List.pairwise_cons] at ha hb
    have exy : x = y := by
      have h1 := (h x).1 List.mem_cons_self
      have h2 := (h y).2 List.mem_cons_self
      rw [List.mem_cons] at h1 h2
      rcases h1 with h1 | h1
      · exact h1
      · rcases h2 with h2 | h2
        · exact h2.symm
        · have := ha.1 _ h2; have := hb.1 _ h1; omega
    subst exy
    refine congrArg (x :: ·) (up_ext ha.2 hb.2 fun k => ⟨fun hk => ?_, fun hk => ?_⟩)
    · have := (h k).1 (List.mem_cons_of_mem _ hk)
      rw [List.mem_cons] at this
      rcases this with e | m
      · have := ha.1 _ hk; omega
      · exact m
    · have := (h k).2 (List.mem_cons_of_mem _ hk)
      rw [List.mem_cons] at this
      rcases this with e | m
      · have := hb.1 _ hk; omega
      · exact m
section
variable (held : List (List Int)) (ws : List Int)
def on (k : Nat) (w : Int) : Bool := decide (w ∈ held.getD k [])
def cov (c : List Nat) (w : Int) : Bool := c.any fun k => on held k w
/-- what the choice misses -/
def unc (c : List Nat) : List Int := ws.filter fun w => !cov held c w
def rest (h : List Int) (ms : List Int) : List Int := ms.filter fun w => !decide (w ∈ h)
def first (d : List Nat) : Nat := if 0 < d.length then d.getD (d.length - 1) 0 + 1 else 0
def step (p : List Nat × List Int) : List (List Nat × List Int) :=
  ((List.range' (first p.1) (held.length - first p.1)).map fun k => (p.1 ++ [k], rest (held.getD k []) p.2)).filter fun q => decide (q.2.length < p.2.length)
def level : Nat → List (List Nat × List Int)
  | 0 => [([], ws)]
  | n + 1 => (level n).flatMap (step held)
def hit (l : List (List Nat × List Int)) : Option (List Nat × List Int) := l.find? fun p => decide (p.2.length = 0)
def Up (c : List Nat) : Prop := c.Pairwise (· < ·) ∧ ∀ k ∈ c, k < held.length
def Covers (c : List Nat) : Prop := ∀ w ∈ ws, cov held c w = true
structure Least (c : List Nat) : Prop where
  up : Up held c
  cv : Covers held ws c
  le : ∀ c', Up held c' → Covers held ws c' → ¬ (c'.length < c.length ∨ (c'.length = c.length ∧ c' < c))
variable {held ws}
theorem unc_nil_iff {c : List Nat} : unc held ws c = [] ↔ Covers held ws c := by
  unfold unc Covers
  rw [List.filter_eq_nil_iff]
  exact ⟨fun h w hw => by simpa using h w hw, fun h w hw => by simp [h w hw]⟩
theorem rest_unc {c : List Nat} {k : Nat} : rest (held.getD k []) (unc held ws c) = unc held ws (c ++ [k]) := by
  unfold rest unc
  rw [List.filter_filter]
  refine List.filter_congr fun w _ => ?_
  unfold cov
  rw [List.any_append, List.any_cons, List.any_nil, Bool.or_false, Bool.not_or, Bool.and_comm]
  rfl
theorem first_le {d : List Nat} (h : d.Pairwise (· < ·)) {k : Nat} (hk : first d ≤ k) : ∀ x ∈ d, x < k := by
  intro x hx
  unfold first at hk
  obtain ⟨i, hi, rfl⟩ := List.mem_iff_getElem.1 hx
  have l0 : 0 < d.length := by omega
  rw [if_pos l0] at hk
  have e : d.getD (d.length - 1) 0 = d[d.length - 1] := by simp [List.getD_eq_getElem?_getD, show d.length - 1 < d.length by omega]
  rw [e] at hk
  by_cases c : i = d.length - 1
  · subst c; omega
  · have := List.pairwise_iff_getElem.1 h i (d.length - 1) hi (by omega) (by omega)
    omega
theorem le_first {d : List Nat} {k : Nat} (h : ∀ x ∈ d, x < k) : first d ≤ k := by
  unfold first
  split
  · rename_i l0
    have e : d.getD (d.length - 1) 0 = d[d.length - 1] := by simp [List.getD_eq_getElem?_getD, show d.length - 1 < d.length by omega]
    rw [e]
    exact h _ (List.getElem_mem _)
  · exact Nat.zero_le _
theorem mem_step {p q : List Nat × List Int} : q ∈ step held p ↔ ∃ k, first p.1 ≤ k ∧ k < held.length ∧ q = (p.1 ++ [k], rest (held.getD k []) p.2) ∧ q.2.length < p.2.length := by
  unfold step
  rw [List.mem_filter, List.mem_map]
  constructor
  · rintro ⟨⟨k, hk, rfl⟩, h⟩
    rw [List.mem_range'_1] at hk
    exact ⟨k, hk.1, by omega, rfl, by simpa using h⟩
  · rintro ⟨k, h1, h2, rfl, h⟩
    exact ⟨⟨k, List.mem_range'_1.2 (by omega), rfl⟩, by simpa using h⟩
theorem lev_ok : ∀ (i : Nat) (p : List Nat × List Int), p ∈ level held ws i → p.2 = unc held ws p.1 ∧ p.1.length = i ∧ Up held p.1
  | 0, p, h => by
    rw [level, List.mem_singleton] at h
    subst h
    refine ⟨?_, rfl, List.Pairwise.nil, fun k hk => absurd hk List.not_mem_nil⟩
    unfold unc
    exact (List.filter_eq_self.2 fun w _ => rfl).symm
  | i + 1, q, h => by
    rw [level, List.mem_flatMap] at h
    obtain ⟨p, hp, hq⟩ := h
    obtain ⟨e1, e2, e3⟩ := lev_ok i p hp
    obtain ⟨k, k1, k2, rfl, _⟩ := mem_step.1 hq
    refine ⟨?_, by simp [e2], ?_, ?_⟩
    · show rest (held.getD k []) p.2 = _
      rw [e1, rest_unc]
    · rw [List.pairwise_append]
      exact ⟨e3.1, List.pairwise_singleton _ _, fun a ha b hb => by rw [List.mem_singleton] at hb; subst hb; exact first_le e3.1 k1 a ha⟩
    · intro x hx
      rw [List.mem_append, List.mem_singleton] at hx
      rcases hx with hx | rfl
      · exact e3.2 x hx
      · exact k2
theorem step_sorted (p : List Nat × List Int) : (step held p).Pairwise fun a b => a.1 < b.1 := by
  unfold step
  refine List.Pairwise.filter _ ?_
  rw [List.pairwise_map]
  refine List.Pairwise.imp ?_ (List.pairwise_lt_range' (s := first p.1) (n := held.length - first p.1))
  intro a b h
  exact lt_last _ h
theorem lev_sorted : ∀ i : Nat, (level held ws i).Pairwise fun a b => a.1 < b.1
  | 0 => by rw [level]; exact List.pairwise_singleton _ _
  | i + 1 => by
    rw [level, List.flatMap, List.pairwise_flatten]
    refine ⟨fun l hl => ?_, ?_⟩
    · rw [List.mem_map] at hl
      obtain ⟨p, _, rfl⟩ := hl
      exact step_sorted p
    · rw [List.pairwise_map]
      refine List.Pairwise.imp_of_mem ?_ (lev_sorted i)
      intro a b ha hb h x hx y hy
      obtain ⟨k, _, _, rfl, _⟩ := mem_step.1 hx
      obtain ⟨k', _, _, rfl, _⟩ := mem_step.1 hy
      exact lt_app _ _ ((lev_ok i a ha).2.1.trans (lev_ok i b hb).2.1.symm) h
theorem lev_mem : ∀ (c : List Nat), Up held c → (∀ j, j < c.length → (unc held ws (c.take (j + 1))).length < (unc held ws (c.take j)).length) → (c, unc held ws c) ∈ level held ws c.length := by
  intro c
  generalize hn : c.length = n
  induction n generalizing c with
  | zero =>
    intro _ _
    have : c = [] := List.eq_nil_of_length_eq_zero hn
    subst this
    rw [level, List.mem_singleton]
    refine Prod.ext rfl ?_
    unfold unc
    exact List.filter_eq_self.2 fun w _ => rfl
  | succ n ih =>
    intro up th
    have hlt : n < c.length := by omega
    have ec : c = c.take n ++ [c[n]] := by
      rw [List.take_append_getElem, List.take_of_length_le (by omega)]
    have up' : Up held (c.take n) := ⟨up.1.sublist (List.take_sublist _ _), fun k hk => up.2 k (List.mem_of_mem_take hk)⟩
    have := ih (c.take n) (by rw [List.length_take]; omega) up' fun j hj => by
      have z := th j (by omega)
      rw [List.take_take, List.take_take, Nat.min_eq_left (by omega), Nat.min_eq_left (by omega)]
      exact z
    rw [level, List.mem_flatMap]
    refine ⟨_, this, mem_step.2 ⟨c[n], ?_, up.2 _ (List.getElem_mem _), ?_, ?_⟩⟩
    · refine le_first fun x hx => ?_
      have pw := up.1
      rw [ec, List.pairwise_append] at pw
      exact pw.2.2 x hx _ (List.mem_singleton.2 rfl)
    · show (c, unc held ws c) = (c.take n ++ [c[n]], rest (held.getD c[n] []) (unc held ws (c.take n)))
      rw [rest_unc, ← ec]
    · have z := th n (by omega)
      rw [List.take_of_length_le (by omega : c.length ≤ n + 1)] at z
      exact z
theorem Least.thrifty {c : List Nat} (h : Least held ws c) (j : Nat) (hj : j < c.length) : (unc held ws (c.take (j + 1))).length < (unc held ws (c.take j)).length := by
  refine Nat.lt_of_not_le fun hle => ?_
  have e : c.take (j + 1) = c.take j ++ [c[j]] := (List.take_append_getElem hj).symm
  rw [e, ← rest_unc] at hle
  have full : rest (held.getD c[j] []) (unc held ws (c.take j)) = unc held ws (c.take j) := by
    unfold rest
    refine List.Sublist.eq_of_length_le List.filter_sublist ?_
    exact hle
  have no : ∀ w ∈ unc held ws (c.take j), w ∉ held.getD c[j] [] := fun w hw => by
    rw [← full] at hw
    unfold rest at hw
    simpa using (List.mem_filter.1 hw).2
  refine h.le (c.eraseIdx j) ⟨h.up.1.sublist (List.eraseIdx_sublist _ _), fun k hk => h.up.2 k (List.mem_of_mem_eraseIdx hk)⟩ (fun w hw => ?_) (.inl ?_)
  · have hc := h.cv w hw
    unfold cov at hc ⊢
    rw [List.any_eq_true] at hc ⊢
    obtain ⟨k, hk, ok⟩ := hc
    have ce : c.eraseIdx j = c.take j ++ c.drop (j + 1) := List.eraseIdx_eq_take_drop_succ ..
    rw [ce]
    by_cases kj : k = c[j]
    · subst kj
      have nu : w ∉ unc held ws (c.take j) := fun hu => no w hu (by simpa [on] using ok)
      have cw : cov held (c.take j) w = true := by
        cases q : cov held (c.take j) w with
        | true => rfl
        | false => exact absurd (List.mem_filter.2 ⟨hw, by rw [q]; rfl⟩) nu
      unfold cov at cw
      rw [List.any_eq_true] at cw
      obtain ⟨k', hk', ok'⟩ := cw
      exact ⟨k', List.mem_append_left _ hk', ok'⟩
    · refine ⟨k, ?_, ok⟩
      have hc' : k ∈ c.take j ++ c[j] :: c.drop (j + 1) := by
        rw [← List.drop_eq_getElem_cons hj, List.take_append_drop]; exact hk
      rw [List.mem_append, List.mem_cons] at hc'
      rw [List.mem_append]
      rcases hc' with m | m | m
      · exact .inl m
      · exact absurd m kj
      · exact .inr m
  · rw [List.length_eraseIdx_of_lt hj]; omega
theorem Least.not_before {c : List Nat} (h : Least held ws c) {i : Nat} (hi : i < c.length) : hit (level held ws i) = none := by
  unfold hit
  rw [List.find?_eq_none]
  intro p hp z
  obtain ⟨e1, e2, e3⟩ := lev_ok i p hp
  have z' : p.2 = [] := List.eq_nil_of_length_eq_zero (by simpa using z)
  rw [e1, unc_nil_iff] at z'
  exact h.le p.1 e3 z' (.inl (by omega))
theorem Least.hits {c : List Nat} (h : Least held ws c) : hit (level held ws c.length) = some (c, []) := by
  have m := lev_mem c h.up h.thrifty
  have e0 : unc held ws c = [] := unc_nil_iff.2 h.cv
  rw [e0] at m
  cases q : hit (level held ws c.length) with
  | none =>
    unfold hit at q
    rw [List.find?_eq_none] at q
    exact absurd (by simp) (q _ m)
  | some p =>
    unfold hit at q
    rw [List.find?_eq_some_iff_append] at q
    obtain ⟨hp, as, bs, el, no⟩ := q
    have mp : p ∈ level held ws c.length := by rw [el]; simp
    obtain ⟨e1, e2, e3⟩ := lev_ok _ p mp
    have z' : p.2 = [] := List.eq_nil_of_length_eq_zero (by simpa using hp)
    have cvp : Covers held ws p.1 := by rw [e1, unc_nil_iff] at z'; exact z'
    have srt := lev_sorted (held := held) (ws := ws) c.length
    rw [el] at m srt
    rw [List.mem_append, List.mem_cons] at m
    rcases m with m | m | m
    · exact absurd (no _ m) (by simp)
    · rw [m]
    · rw [List.pairwise_append, List.pairwise_cons] at srt
      exact absurd (.inr ⟨e2, srt.2.1.1 _ m⟩) (h.le p.1 e3 cvp)
end
end P56
set_option linter.all false
namespace P56
/-! ## choices by codes -/
def choice (n code : Nat) : List Nat := (List.range n).filter fun k => code.testBit k
theorem choice_up (n code : Nat) : (choice n code).Pairwise (· < ·) := List.Pairwise.filter _ List.pairwise_lt_range
theorem mem_choice {n code k : Nat} : k ∈ choice n code ↔ k < n ∧ code.testBit k = true := by
  unfold choice
  rw [List.mem_filter, List.mem_range]
theorem choice_len (n code : Nat) : (choice n code).length ≤ n := by
  have := List.length_filter_le (fun k => code.testBit k) (List.range n)
  rw [List.length_range] at this
  exact this
def codeOf (c : List Nat) : Nat := c.foldr (fun k a => 2 ^ k ||| a) 0
theorem codeOf_bit : ∀ (c : List Nat) (j : Nat), (codeOf c).testBit j = decide (j ∈ c)
  | [], j => by simp [codeOf]
  | k :: c, j => by
    have e : codeOf (k :: c) = 2 ^ k ||| codeOf c := rfl
    rw [e, Nat.testBit_or, codeOf_bit c j, Nat.testBit_two_pow]
    by_cases h : k = j
    · simp [h]
    · simp [h, Ne.symm h]
theorem codeOf_lt {n : Nat} : ∀ (c : List Nat), (∀ k ∈ c, k < n) → codeOf c < 2 ^ n
  | [], _ => by simp [codeOf]; exact Nat.two_pow_pos n
  | k :: c, h => by
    have e : codeOf (k :: c) = 2 ^ k ||| codeOf c := rfl
    rw [e]
    exact Nat.or_lt_two_pow (Nat.pow_lt_pow_right (by decide) (h k List.mem_cons_self)) (codeOf_lt c fun j hj => h j (List.mem_cons_of_mem _ hj))
theorem choice_codeOf {n : Nat} {c : List Nat} (up : c.Pairwise (· < ·)) (h : ∀ k ∈ c, k < n) : choice n (codeOf c) = c := by
  refine up_ext (choice_up _ _) up fun k => ?_
  rw [mem_choice, codeOf_bit]
  simp only [decide_eq_true_eq]
  exact ⟨fun q => q.2, fun q => ⟨h k q, q⟩⟩
/-- the lowest bit taken away -/
theorem low_bit {code low : Nat} (h1 : code.testBit low = true) (h0 : ∀ j, j < low → code.testBit j = false) (j : Nat) : (code &&& (code - 1)).testBit j = (code.testBit j && decide (j ≠ low)) := by
  have m0 : code % 2 ^ low = 0 := by
    refine Nat.eq_of_testBit_eq fun i => ?_
    rw [Nat.testBit_mod_two_pow, Nat.zero_testBit]
    by_cases hi : i < low
    · rw [h0 i hi, Bool.and_false]
    · simp [hi]
  have q1 : (code / 2 ^ low) % 2 = 1 := by
    have := h1
    rw [Nat.testBit_eq_decide_div_mod_eq] at this
    exact of_decide_eq_true this
  have ec : code = 2 ^ (low + 1) * (code / 2 ^ low / 2) + 2 ^ low := by
    have a1 := Nat.div_add_mod code (2 ^ low)
    have a2 := Nat.div_add_mod (code / 2 ^ low) 2
    rw [m0] at a1
    rw [q1] at a2
    have a3 : code = 2 ^ low * (2 * (code / 2 ^ low / 2) + 1) := by rw [a2]; omega
    rw [Nat.mul_add, Nat.mul_one, ← Nat.mul_assoc, ← Nat.pow_succ] at a3
    exact a3
  have pp : 0 < 2 ^ low := Nat.two_pow_pos low
  have b1 : ∀ p, (2 ^ (low + 1) * p + 2 ^ low).testBit j = if j < low + 1 then decide (low = j) else p.testBit (j - (low + 1)) := fun p => by
    rw [Nat.testBit_two_pow_mul_add _ (Nat.pow_lt_pow_right (by decide) (Nat.lt_succ_self _)), Nat.testBit_two_pow]
  have b2 : ∀ p, (2 ^ (low + 1) * p + 2 ^ low - 1).testBit j = if j < low + 1 then decide (j < low) else p.testBit (j - (low + 1)) := fun p => by
    rw [show 2 ^ (low + 1) * p + 2 ^ low - 1 = 2 ^ (low + 1) * p + (2 ^ low - 1) by omega, Nat.testBit_two_pow_mul_add _ (by have := Nat.pow_lt_pow_right (a := 2) (by decide) (Nat.lt_succ_self low); omega), Nat.testBit_two_pow_sub_one]
  generalize code / 2 ^ low / 2 = p at ec
  subst ec
  rw [Nat.testBit_and, b1, b2]
  by_cases c1 : j < low + 1
  · simp only [c1, if_true]
    by_cases c2 : low = j
    · simp [c2]
    · simp [c2]
  · simp only [c1, if_false]
    have : j ≠ low := by omega
    simp [this]
theorem and_lt {code : Nat} (h : 0 < code) : code &&& (code - 1) < code := Nat.lt_of_le_of_lt Nat.and_le_right (by omega)
theorem choice_low {n code low : Nat} (hl : low < n) (h1 : code.testBit low = true) (h0 : ∀ j, j < low → code.testBit j = false) : choice n code = low :: choice n (code &&& (code - 1)) := by
  refine up_ext (choice_up _ _) ?_ fun k => ?_
  · rw [List.pairwise_cons]
    refine ⟨fun k hk => ?_, choice_up _ _⟩
    rw [mem_choice, low_bit h1 h0] at hk
    simp only [Bool.and_eq_true, decide_eq_true_eq] at hk
    rcases Nat.lt_trichotomy k low with q | q | q
    · rw [h0 k q] at hk; simp at hk
    · exact absurd q hk.2.2
    · exact q
  · rw [List.mem_cons, mem_choice, mem_choice, low_bit h1 h0]
    simp only [Bool.and_eq_true, decide_eq_true_eq]
    constructor
    · rintro ⟨a, b⟩
      by_cases e : k = low
      · exact .inl e
      · exact .inr ⟨a, b, e⟩
    · rintro (e | ⟨a, b, _⟩)
      · subst e; exact ⟨hl, h1⟩
      · exact ⟨a, b⟩
theorem choice_zero (n : Nat) : choice n 0 = [] := by
  unfold choice
  rw [List.filter_eq_nil_iff]
  simp
/-! ## what a disc, what a choice holds, by bits -/
section
variable (held : List (List Int)) (ws : List Int)
def bitsTo (k : Nat) : Nat → Nat
  | 0 => 0
  | m + 1 => bitsTo k m + if on held k (ws.getD m 0) = true then 2 ^ m else 0
variable {held ws}
theorem bitsTo_lt (k : Nat) : ∀ m, bitsTo held ws k m < 2 ^ m
  | 0 => by simp [bitsTo]
  | m + 1 => by
    have := bitsTo_lt k m
    rw [bitsTo, Nat.pow_succ]
    split <;> omega
theorem bitsTo_bit (k : Nat) : ∀ m j, (bitsTo held ws k m).testBit j = (decide (j < m) && on held k (ws.getD j 0))
  | 0, j => by simp [bitsTo]
  | m + 1, j => by
    have lt := bitsTo_lt (held := held) (ws := ws) k m
    have ih := bitsTo_bit k m j
    rw [bitsTo]
    cases o : on held k (ws.getD m 0) with
    | true =>
      rw [if_pos rfl, Nat.add_comm, show 2 ^ m + bitsTo held ws k m = 2 ^ m * 1 + bitsTo held ws k m by omega, Nat.testBit_two_pow_mul_add _ lt]
      by_cases c1 : j < m
      · rw [if_pos c1, ih]
        simp [c1, Nat.lt_succ_of_lt c1]
      · rw [if_neg c1]
        by_cases c2 : j = m
        · subst c2
          simp [o]
          rw [List.getD_eq_getElem?_getD] at o
          exact o
        · have : ¬ j < m + 1 := by omega
          rw [Nat.testBit_eq_decide_div_mod_eq, show (1 : Nat) / 2 ^ (j - m) = 0 from Nat.div_eq_of_lt (by have := Nat.pow_lt_pow_right (a := 2) (by decide) (show 0 < j - m by omega); omega)]
          simp [this]
    | false =>
      rw [if_neg Bool.false_ne_true, Nat.add_zero, ih]
      by_cases c1 : j < m
      · simp [c1, Nat.lt_succ_of_lt c1]
      · by_cases c2 : j = m
        · subst c2
          simp
          rw [List.getD_eq_getElem?_getD] at o
          exact o
        · have : ¬ j < m + 1 := by omega
          simp [c1, this]
variable (held ws)
def bits (k : Nat) : Nat := bitsTo held ws k ws.length
def told (c : List Nat) : Nat := c.foldr (fun k a => a ||| bits held ws k) 0
variable {held ws}
theorem told_bit (j : Nat) (hj : j < ws.length) : ∀ c, (told held ws c).testBit j = cov held c (ws.getD j 0)
  | [] => by simp [told, cov]
  | k :: c => by
    have e : told held ws (k :: c) = told held ws c ||| bits held ws k := rfl
    rw [e, Nat.testBit_or, told_bit j hj c]
    unfold bits
    rw [bitsTo_bit]
    unfold cov
    rw [List.any_cons, Bool.or_comm]
    simp [hj]
theorem told_lt : ∀ c, told held ws c < 2 ^ ws.length
  | [] => by simp [told]; exact Nat.two_pow_pos _
  | k :: c => by
    have e : told held ws (k :: c) = told held ws c ||| bits held ws k := rfl
    rw [e]
    exact Nat.or_lt_two_pow (told_lt c) (bitsTo_lt k _)
theorem told_full {c : List Nat} : told held ws c = 2 ^ ws.length - 1 ↔ Covers held ws c := by
  constructor
  · intro e w hw
    obtain ⟨j, hj, rfl⟩ := List.mem_iff_getElem.1 hw
    have := told_bit (held := held) (ws := ws) j hj c
    rw [e, Nat.testBit_two_pow_sub_one] at this
    have z : ws.getD j 0 = ws[j] := by simp [List.getD_eq_getElem?_getD, hj]
    rw [z] at this
    rw [← this]
    simpa using hj
  · intro h
    refine Nat.eq_of_testBit_eq fun j => ?_
    rw [Nat.testBit_two_pow_sub_one]
    by_cases hj : j < ws.length
    · rw [told_bit j hj, h]
      · simp [hj]
      · have z : ws.getD j 0 = ws[j] := by simp [List.getD_eq_getElem?_getD, hj]
        rw [z]; exact List.getElem_mem _
    · rw [Nat.testBit_lt_two_pow (Nat.lt_of_lt_of_le (told_lt c) (Nat.pow_le_pow_right (by decide) (by omega)))]
      simp [hj]
theorem told_low {n code low : Nat} (hl : low < n) (h1 : code.testBit low = true) (h0 : ∀ j, j < low → code.testBit j = false) :
    told held ws (choice n code) = told held ws (choice n (code &&& (code - 1))) ||| bits held ws low := by
  rw [choice_low hl h1 h0]
  rfl
end
/-! ## the least of all choices -/
abbrev Pr := Int × List Int
def prLt (p q : Pr) : Bool := decide (p.1 < q.1 ∨ (p.1 = q.1 ∧ p.2 < q.2))
def toI (c : List Nat) : List Int := c.map fun (k : Nat) => (k : Int)
def prOf (c : List Nat) : Pr := ((c.length : Int), toI c)
theorem toI_lt : ∀ a b : List Nat, toI a < toI b ↔ a < b
  | [], [] => by simp [toI, List.lt_irrefl]
  | [], b :: bs => by simp [toI]
  | a :: as, [] => by simp [toI]
  | a :: as, b :: bs => by
    have ih := toI_lt as bs
    unfold toI at ih ⊢
    rw [List.map_cons, List.map_cons, List.cons_lt_cons_iff, List.cons_lt_cons_iff, ih, Int.ofNat_lt, Int.ofNat_inj]
theorem prLt_of (a b : List Nat) : prLt (prOf a) (prOf b) = decide (a.length < b.length ∨ (a.length = b.length ∧ a < b)) := by
  unfold prLt prOf
  simp only [toI_lt, Int.ofNat_lt, Int.ofNat_inj]
theorem prLt_trans {p q r : Pr} (h1 : prLt p q = true) (h2 : prLt q r = true) : prLt p r = true := by
  unfold prLt at *
  simp only [decide_eq_true_eq] at *
  rcases h1 with h1 | ⟨e1, l1⟩ <;> rcases h2 with h2 | ⟨e2, l2⟩
  · left; omega
  · left; omega
  · left; omega
  · right; exact ⟨e1.trans e2, List.lt_trans l1 l2⟩
section
variable (held : List (List Int)) (ws : List Int)
/-- what stands behind the codes below t -/
def Bst (t : Nat) : Option Pr → Prop
  | none => ∀ code, code < t → ¬ Covers held ws (choice held.length code)
  | some p => ∃ code, code < t ∧ Covers held ws (choice held.length code) ∧ p = prOf (choice held.length code) ∧ ∀ c', c' < t → Covers held ws (choice held.length c') → prLt (prOf (choice held.length c')) p = false
variable {held ws}
theorem Bst.zero : Bst held ws 0 none := fun _ h => absurd h (Nat.not_lt_zero _)
theorem Bst.skip {t : Nat} {o : Option Pr} (h : Bst held ws t o) (n : ¬ Covers held ws (choice held.length t)) : Bst held ws (t + 1) o := by
  cases o with
  | none =>
    intro code hc
    by_cases e : code = t
    · subst e; exact n
    · exact h code (by omega)
  | some p =>
    obtain ⟨code, h1, h2, h3, h4⟩ := h
    refine ⟨code, by omega, h2, h3, fun c' hc' cv => ?_⟩
    by_cases e : c' = t
    · subst e; exact absurd cv n
    · exact h4 c' (by omega) cv
def nxt (o : Option Pr) (q : Pr) : Pr := if prLt q (o.getD (99, [])) = true then q else o.getD (99, [])
theorem Bst.take {t : Nat} {o : Option Pr} (h : Bst held ws t o) (hl : held.length < 99) (cv : Covers held ws (choice held.length t)) : Bst held ws (t + 1) (some (nxt o (prOf (choice held.length t)))) := by
  have irr : ∀ p : Pr, prLt p p = false := fun p => by unfold prLt; simp [List.lt_irrefl]
  cases o with
  | none =>
    have lt : prLt (prOf (choice held.length t)) ((none : Option Pr).getD (99, [])) = true := by
      have := choice_len held.length t
      unfold prLt prOf
      simp
      omega
    unfold nxt
    rw [if_pos lt]
    refine ⟨t, by omega, cv, rfl, fun c' hc' cv' => ?_⟩
    by_cases e : c' = t
    · subst e; exact irr _
    · exact absurd cv' (h c' (by omega))
  | some p =>
    obtain ⟨code, h1, h2, h3, h4⟩ := h
    have e0 : (some p).getD ((99, []) : Pr) = p := rfl
    unfold nxt
    rw [e0]
    cases c : prLt (prOf (choice held.length t)) p with
    | true =>
      rw [if_pos rfl]
      refine ⟨t, by omega, cv, rfl, fun c' hc' cv' => ?_⟩
      by_cases e : c' = t
      · subst e; exact irr _
      · cases q : prLt (prOf (choice held.length c')) (prOf (choice held.length t)) with
        | false => rfl
        | true => rw [← h4 c' (by omega) cv', prLt_trans q c]
    | false =>
      rw [if_neg Bool.false_ne_true]
      refine ⟨code, by omega, h2, h3, fun c' hc' cv' => ?_⟩
      by_cases e : c' = t
      · subst e; exact c
      · exact h4 c' (by omega) cv'
/-- behind all codes: the least choice that holds all -/
theorem Bst.end_ {o : Option Pr} (h : Bst held ws (2 ^ held.length) o) (all : ∀ w ∈ ws, ∃ k, k < held.length ∧ on held k w = true) : ∃ c, Least held ws c ∧ o = some (prOf c) := by
  cases o with
  | none =>
    have fl : ∀ k, k < held.length → (2 ^ held.length - 1).testBit k = true := fun k hk => by rw [Nat.testBit_two_pow_sub_one]; simpa using hk
    refine absurd ?_ (h (2 ^ held.length - 1) (by have := Nat.two_pow_pos held.length; omega))
    intro w hw
    obtain ⟨k, hk, ok⟩ := all w hw
    unfold cov
    rw [List.any_eq_true]
    exact ⟨k, mem_choice.2 ⟨hk, fl k hk⟩, ok⟩
  | some p =>
    obtain ⟨code, h1, h2, h3, h4⟩ := h
    refine ⟨choice held.length code, ⟨⟨choice_up _ _, fun k hk => (mem_choice.1 hk).1⟩, h2, fun c' up cv lt => ?_⟩, by rw [h3]⟩
    have e := choice_codeOf up.1 up.2
    have := h4 (codeOf c') (codeOf_lt c' up.2) (by rw [e]; exact cv)
    rw [e, h3, prLt_of] at this
    exact absurd lt (by simpa using this)
end
end P56
set_option linter.all false
namespace P56
section
variable {held : List (List Int)} {ws : List Int}
theorem first_snoc (d : List Nat) (k : Nat) : first (d ++ [k]) = k + 1 := by
  unfold first
  simp
def wt (n : Nat) (p : List Nat × List Int) : Nat := 2 ^ (n - first p.1)
theorem wt_sum (n f : Nat) : ∀ m, f + m ≤ n → ((List.range' f m).map fun k => 2 ^ (n - (k + 1))).sum + 2 ^ (n - (f + m)) ≤ 2 ^ (n - f)
  | 0, _ => by simp
  | m + 1, h => by
    have ih := wt_sum n f m (by omega)
    rw [List.range'_concat, List.map_append, List.sum_append, Nat.one_mul]
    have e : n - (f + m) = n - (f + m + 1) + 1 := by omega
    rw [e, Nat.pow_succ] at ih
    simp only [List.map_cons, List.map_nil, List.sum_cons, List.sum_nil]
    have e2 : f + (m + 1) = f + m + 1 := by omega
    rw [e2]
    omega
theorem sum_filter_le {α : Type} (g : α → Nat) (q : α → Bool) : ∀ l : List α, ((l.filter q).map g).sum ≤ (l.map g).sum
  | [] => Nat.le_refl _
  | x :: r => by
    have ih := sum_filter_le g q r
    rw [List.filter_cons]
    split
    · simp only [List.map_cons, List.sum_cons]; omega
    · simp only [List.map_cons, List.sum_cons]; omega
theorem step_wt (p : List Nat × List Int) : ((step held p).map (wt held.length)).sum ≤ wt held.length p := by
  unfold step
  refine Nat.le_trans (sum_filter_le _ _ _) ?_
  rw [List.map_map]
  have e : (wt held.length ∘ fun k => (p.1 ++ [k], rest (held.getD k []) p.2)) = fun k => 2 ^ (held.length - (k + 1)) := by
    funext k
    show 2 ^ (held.length - first (p.1 ++ [k])) = _
    rw [first_snoc]
  rw [e]
  by_cases h : first p.1 ≤ held.length
  · have := wt_sum held.length (first p.1) (held.length - first p.1) (by omega)
    exact Nat.le_trans (Nat.le_add_right _ _) this
  · rw [show held.length - first p.1 = 0 by omega]
    simp
theorem sum_flat {α β : Type} (g : β → Nat) (u : α → List β) (v : α → Nat) (h : ∀ x, ((u x).map g).sum ≤ v x) : ∀ l : List α, ((l.flatMap u).map g).sum ≤ (l.map v).sum
  | [] => Nat.le_refl _
  | x :: r => by
    have ih := sum_flat g u v h r
    have := h x
    rw [List.flatMap_cons, List.map_append, List.sum_append]
    simp only [List.map_cons, List.sum_cons]
    omega
theorem lev_wt : ∀ i, ((level held ws i).map (wt held.length)).sum ≤ 2 ^ held.length
  | 0 => by simp [level, wt, first]
  | i + 1 => by
    rw [level]
    exact Nat.le_trans (sum_flat _ _ _ step_wt _) (lev_wt i)
theorem len_le_sum {α : Type} (g : α → Nat) (h : ∀ x, 1 ≤ g x) : ∀ l : List α, l.length ≤ (l.map g).sum
  | [] => Nat.le_refl _
  | x :: r => by
    have ih := len_le_sum g h r
    have := h x
    simp only [List.length_cons, List.map_cons, List.sum_cons]
    omega
theorem lev_len (i : Nat) : (level held ws i).length ≤ 2 ^ held.length := Nat.le_trans (len_le_sum (wt held.length) (fun _ => Nat.two_pow_pos _) _) (lev_wt i)
theorem bst_ex (hl : held.length < 99) : ∀ t, ∃ o, Bst held ws t o
  | 0 => ⟨none, Bst.zero⟩
  | t + 1 => by
    obtain ⟨o, h⟩ := bst_ex hl t
    by_cases c : Covers held ws (choice held.length t)
    · exact ⟨_, h.take hl c⟩
    · exact ⟨o, h.skip c⟩
theorem least_ex (hl : held.length < 99) (all : ∀ w ∈ ws, ∃ k, k < held.length ∧ on held k w = true) : ∃ c, Least held ws c := by
  obtain ⟨o, h⟩ := bst_ex (held := held) (ws := ws) hl (2 ^ held.length)
  obtain ⟨c, hc, _⟩ := h.end_ all
  exact ⟨c, hc⟩
theorem Least.uniq {c c' : List Nat} (h : Least held ws c) (h' : Least held ws c') : c = c' := by
  have e : c.length = c'.length := by
    have a := h.le c' h'.up h'.cv
    have b := h'.le c h.up h.cv
    omega
  have a := h.hits
  rw [e, h'.hits] at a
  exact (congrArg Prod.fst (Option.some.inj a)).symm
theorem Least.len {c : List Nat} (h : Least held ws c) : c.length ≤ held.length := by
  rw [← choice_codeOf h.up.1 h.up.2]
  exact choice_len _ _
theorem lev_first {i : Nat} {p : List Nat × List Int} (h : p ∈ level held ws i) : first p.1 ≤ held.length ∧ p.1.length ≤ held.length ∧ p.2.length ≤ ws.length := by
  obtain ⟨e1, e2, e3⟩ := lev_ok i p h
  refine ⟨le_first e3.2, ?_, ?_⟩
  · rw [← choice_codeOf e3.1 e3.2]
    exact choice_len _ _
  · rw [e1]
    exact List.length_filter_le _ _
def none_holds (held : List (List Int)) (w : Int) : Bool := (List.range held.length).all fun k => !on held k w
def lack (held : List (List Int)) (ws : List Int) : Option Int := ws.find? (none_holds held)
theorem lack_none (h : lack held ws = none) : ∀ w ∈ ws, ∃ k, k < held.length ∧ on held k w = true := by
  intro w hw
  unfold lack at h
  rw [List.find?_eq_none] at h
  have z := h w hw
  unfold none_holds at z
  simp only [List.all_eq_true, List.mem_range, Bool.not_eq_true', Classical.not_forall] at z
  obtain ⟨k, hk, ok⟩ := z
  exact ⟨k, hk, by simpa using ok⟩
end
end P56
set_option linter.all false
set_option maxRecDepth 100000
/-! books: what a right one is, and that there is one -/
namespace P56
variable {held : List (List Int)} {ws ms : List Int} {n : Nat}
/-- the discs that hold w -/
def hold (held : List (List Int)) (w : Int) : List Nat := (List.range held.length).filter fun k => on held k w
theorem mem_hold {w : Int} {k : Nat} : k ∈ hold held w ↔ k < held.length ∧ on held k w = true := by
  unfold hold
  rw [List.mem_filter, List.mem_range]
theorem hold_len (w : Int) : (hold held w).length ≤ held.length := by
  unfold hold
  exact Nat.le_trans (List.length_filter_le _ _) (by simp)
/-- no so many discs hold all -/
def NoN (held : List (List Int)) (ms : List Int) (n : Nat) : Prop := ∀ c : List Nat, (∀ k ∈ c, k < held.length) → c.length ≤ n → ¬ Covers held ms c
theorem NoN.ne (h : NoN held ms n) : ms ≠ [] := fun e => h [] (by simp) (Nat.zero_le _) (by subst e; intro w hw; cases hw)
theorem NoN.less (h : NoN held ms (n + 1)) {k : Nat} (hk : k < held.length) : NoN held (rest (held.getD k []) ms) n := by
  intro c hc hl cv
  refine h (k :: c) (fun x hx => ?_) (Nat.succ_le_succ hl) fun w hw => ?_
  · rcases List.mem_cons.mp hx with rfl | hx
    · exact hk
    · exact hc x hx
  · unfold cov
    rw [List.any_cons]
    by_cases e : w ∈ held.getD k []
    · simp only [on, e, decide_true, Bool.true_or]
    · have := cv w (by unfold rest; rw [List.mem_filter]; exact ⟨hw, by simp only [e, decide_false, Bool.not_false]⟩)
      unfold cov at this
      rw [this, Bool.or_true]
theorem few_in : ∀ (l : List Nat), l.Nodup → ∀ c : List Nat, (l.filter fun x => decide (x ∈ c)).length ≤ c.length := by
  have one : ∀ (a : Nat) (l : List Nat), l.Nodup → (l.filter fun x => decide (x = a)).length ≤ 1 := by
    intro a l
    induction l with
    | nil => intro _; simp
    | cons x l ih =>
      intro nd
      have nd' := List.nodup_cons.mp nd
      by_cases e : x = a
      · have : (l.filter fun x => decide (x = a)) = [] := by
          rw [List.filter_eq_nil_iff]
          intro y hy z
          have z : y = a := of_decide_eq_true z
          exact nd'.1 (by rw [e, ← z]; exact hy)
        rw [List.filter_cons, if_pos (by simpa using e), List.length_cons, this]
        exact Nat.le_refl _
      · rw [List.filter_cons, if_neg (by simpa using e)]
        exact ih nd'.2
  have both : ∀ (p q : Nat → Bool) (l : List Nat), (l.filter fun x => p x || q x).length ≤ (l.filter p).length + (l.filter q).length := by
    intro p q l
    induction l with
    | nil => simp
    | cons x l ih =>
      rw [List.filter_cons, List.filter_cons, List.filter_cons]
      cases p x <;> cases q x <;> simp <;> omega
  intro l nd c
  induction c with
  | nil => simp
  | cons a c ih =>
    have e : (l.filter fun x => decide (x ∈ a :: c)) = l.filter fun x => decide (x = a) || decide (x ∈ c) := by
      congr 1
      funext x
      simp
    rw [e, List.length_cons]
    have := both (fun x => decide (x = a)) (fun x => decide (x ∈ c)) l
    have := one a l nd
    omega
theorem noN_least {c : List Nat} (h : Least held ws c) {m : Nat} (hm : m < c.length) : NoN held ws m := by
  intro d hd hl cv
  have nd : (List.range held.length).Nodup := List.nodup_range
  refine h.le ((List.range held.length).filter fun x => decide (x ∈ d)) ⟨List.Pairwise.filter _ List.pairwise_lt_range, fun k hk => List.mem_range.mp (List.mem_filter.mp hk).1⟩ (fun w hw => ?_) (.inl (Nat.lt_of_le_of_lt (few_in _ nd d) (Nat.lt_of_le_of_lt hl hm)))
  have := cv w hw
  unfold cov at this ⊢
  rw [List.any_eq_true] at this ⊢
  obtain ⟨k, hk, e⟩ := this
  exact ⟨k, List.mem_filter.mpr ⟨List.mem_range.mpr (hd k hk), decide_eq_true hk⟩, e⟩
theorem lack_no {w : Int} (h : lack held ws = some w) {c : List Nat} (hc : ∀ k ∈ c, k < held.length) : ¬ Covers held ws c := by
  intro cv
  have hw : w ∈ ws := List.mem_of_find?_eq_some h
  have hn : none_holds held w = true := List.find?_some h
  have := cv w hw
  unfold cov at this
  rw [List.any_eq_true] at this
  obtain ⟨k, hk, e⟩ := this
  unfold none_holds at hn
  rw [List.all_eq_true] at hn
  have := hn k (List.mem_range.mpr (hc k hk))
  rw [e] at this
  cases this
theorem noN_lack {w : Int} (h : lack held ws = some w) (m : Nat) : NoN held ws m := fun c hc _ => lack_no h hc
theorem bst_lack {w : Int} (h : lack held ws = some w) {t : Nat} : ∀ {o : Option Pr}, Bst held ws t o → o = none
  | none, _ => rfl
  | some p, hb => by
    obtain ⟨code, _, cv, _⟩ := hb
    exact absurd cv (lack_no h fun k hk => (mem_choice.mp hk).1)
end P56
set_option Elab.async false
set_option linter.all false
set_option maxRecDepth 100000
set_option maxHeartbeats 4000000
namespace K61
open PySem PySem.Spec PyProof.Rows L2
/-! ## defs that show things: promises where no showing is under way -/
structure Gn (P : Program) (w : World) (K : PySem.W.Frag) (mg : Str → Option Value) (base : Heap) (k : Nat) (f : Addr) (fd : FuncData) (ps : List Str) (sp : Sp) : Prop where
  many : ∀ vs H Q E, sp vs H Q E → vs.length = ps.length
  go : ∀ (A : Around) (outer : List Env) (s : Shared) (H : Hp) (args : Args) (us : List Value) (vs : List V) (Q : VK) (E : XK), A.guards = some [] → Room k A →
    Env0 P w K mg base A outer s H → BindsTo s fd args (ps.zip us) → Vals vs us → sp vs H Q E → codeAny (model P w) A (.call (.ref f) args) (CR CX0 outer P w H s Q E) s
section
variable {P : Program} {w : World} {K : PySem.W.Frag} {mg : Str → Option Value} {base : Heap}
theorem gn_body {x qual : Str} {st : Stmt} {f : Addr} {fd : FuncData} {N ps : List Str} {k : Nat} {sp : Sp} (F : Fun K x qual st f fd) (S : FnScope N ps (defScope st))
    (many : ∀ vs H Q E, sp vs H Q E → vs.length = ps.length)
    (body : ∀ (cdv : Value) (A : Around) (outer : List Env) (s : Shared) (H : Hp) (vs : List V) (Q : VK) (E : XK), A.guards = some [] →
      Room k (A.deeper (envOfC qual (defScope st) s.heap.objs.size f cdv)) → sp vs H Q E →
      ∃ t, PSs (cxOf CX0 P w K mg base N qual (defScope st) f cdv A outer s H E).nox (defBody st) t ∧ t { nx := fun _ H' => Q .non H', rt := Q } (start N vs) H) :
    Gn P w K mg base (k + 1) f fd ps sp := by
  obtain ⟨oc, od, kV, doc, pm, an, cdv, ct, osl, rfl, lk, hcd⟩ := F.ex
  refine ⟨many, fun A outer s H args us vs Q E hg room en bd rv hsp => ?_⟩
  have kin : K.In s.heap := en.mod.kin.keeps fun b o q => (en.bs b o q).1
  refine Att.call_fn kin (en.mod.nolimit.keeps fun b o q => (en.bs b o q).1) lk hcd room.depth bd ?_ (fun s1 inc => ?_) S.co S.gen S.kind
  · refine List.all_eq_true.mpr fun y hy => ?_
    rcases S.par y.1 (List.of_mem_zip (a := y.1) (b := y.2) hy).1 with q | q
    · rw [q]; rfl
    · rw [q]; rfl
  · obtain ⟨t, ht, hq⟩ := body cdv A outer s H vs Q E hg (room.deeper _) hsp
    have I := inv_start (CX := CX0) (E := E) S room.hd en (many _ _ _ _ hsp) rv inc
    refine wpAny_mono (ht.nox.run [] s1 _ H _ I hq) (fun fl s' hs => ?_) fun _ _ z => z
    cases fl with
    | ret u =>
      obtain ⟨v, _, H', J, r, q⟩ := hs
      exact ⟨v, H', J.os, J.bare, J.base, J.hok, r, q⟩
    | next =>
      obtain ⟨_, H', J, q⟩ := hs
      exact ⟨.non, H', J.os, J.bare, J.base, J.hok, rfl, q⟩
    | brk =>
      obtain ⟨_, _, _, z⟩ := hs
      exact False.elim z
    | cont =>
      obtain ⟨_, _, _, z⟩ := hs
      exact False.elim z
end
section
variable {X : Cx} {k : Nat} {f : Addr} {fd : FuncData} {ps : List Str} {sp : Sp} {x : Str} {p pos : Pos} {e : Expr} {es : List Expr} {t : TA}
theorem pe_gn (F : Gn X.prog X.w X.K X.mg X.base k f fd ps sp) (quiet : X.A.guards = some []) (room : Room k X.A) (gl : Gl X x) (mgf : X.mg x = some (.ref f))
    (kp : PySem.W.keepIn X.K (.ref f) = true) (bd : Binds X.K fd ps []) (ha : PA X (e :: es) t) (hdb : (x == ("__debug__" : Str)) = false := by decide)
    (he : starEach (e :: es) X.env = (false, eval e X.env) :: starEach es X.env := by rfl) (hpl : (backTo pos (starEach es X.env)).any (·.1) = false := by rfl) :
    PE X (.Call (.Name x p) (e :: es) [] pos) (tCall sp [] E0 t) := by
  refine ⟨fun pins s σ H Q I h => wpAny_Call_Name_kw (ld_glob I gl mgf ?_ hdb)⟩
  refine PySem.W.callWith_K (h₀ := X.base) I.ok.mod.kin kp ?_ he hpl
  refine thn (ha.run pos pins s σ H _ I h) fun us s1 z => ?_
  obtain ⟨vs, H1, I1, rv, q⟩ := z
  have q' : sp vs H1 Q E0 := by
    have z := q
    rw [List.append_nil] at z
    exact z
  have many : us.length = ps.length := rv.length.symm.trans (F.many _ _ _ _ q')
  have b1 := bd s1 us I1.kIn (by rw [List.append_nil]; exact many)
  rw [List.append_nil] at b1
  refine ⟨I1.kIn, wpAny_call (codeAny_mono (F.go X.A X.stack s1 H1 ⟨us, []⟩ us vs Q E0 quiet room I1.env0 b1 rv q') fun r s' hr => ?_)⟩
  cases r with
  | error z => exact False.elim hr
  | ok fl =>
    cases fl with
    | ret u => exact I1.after hr
    | next => exact False.elim hr
    | brk => exact False.elim hr
    | cont => exact False.elim hr
/-- repr of data at any depth -/
theorem cr_reprD (quiet : X.A.guards = some []) (room : Room k X.A) : CallR X (.builtin "repr") (fun xs H Q => ∃ (a : Addr) (d : PyData), xs = [.ref a] ∧ Dp X.K H (.ref a) d ∧ d.showable = true ∧ d.hasDict = false ∧
    d.depth ≤ 50 ∧ d.shown.length ≤ sizeLine ∧ Q (.str d.shown) H) := by
  intro pins s σ H xs us Q I r h
  obtain ⟨a, d, rfl, hd, hs, hn, hp, hz, q⟩ := h
  obtain ⟨u, rfl, rx⟩ := vals1 r
  obtain ⟨as, rd⟩ := Dp.reads I d _ u hd rx
  cases rx
  have hu := room.units
  exact repr_of_reads' rd hs (fun z => absurd (hn.symm.trans z) Bool.false_ne_true) quiet (by omega) (fun _ _ z => z) (fun h' u tk kept => ⟨.str d.shown, H, I.kept kept, ⟨u, rfl⟩, q⟩) hz
theorem cr_repr_bl : CallR X (.builtin "repr") (fun xs H Q => ∃ b : Bool, xs = [.bl b] ∧ Q (.str (if b then "True" else "False")) H) := by
  intro pins s σ H xs us Q I r h
  obtain ⟨b, rfl, q⟩ := h
  obtain ⟨u, rfl, rx⟩ := vals1 r
  cases rx
  exact PySem.P.repr_of_bool ⟨.str _, H, I.tok _, ⟨_, rfl⟩, q⟩
end
end K61
set_option Elab.async false
set_option linter.all false
set_option maxRecDepth 100000
set_option maxHeartbeats 4000000
namespace K61
open PySem PySem.Spec PyProof.Rows L2
theorem law_go {P : Program} {w : World} {K : PySem.W.Frag} {mg mb : Str → Option Value} {k : Nat} {fa a : Addr} {fd : FuncData} {x : Str} {sp : Sp} {z : Shared} {vs : List Value} {ns : List Int}
    (kin : K.In z.heap) (nsG : z.heap.Ns mainGlobals mg) (nsB : z.heap.Ns builtinsNs mb) (same : ∀ y : Str, y ≠ "__name__" → mb y = bootBuiltins y) (lim : z.heap.NoLimit) (dig : z.heap.NoDigits) (no : z.gens = #[])
    (at_ : z.heap.get? a = some { cls := .type "list", data := .seq vs.toArray }) (intsA : IntsAre vs ns) (many : ns.length ≤ sizeLine) (room : Room k callerA)
    (F : ∀ base : Heap, K.In base → base.Ns mainGlobals mg → base.NoDigits → Gn P w K mg base k fa fd [x] sp) (bind : ∀ (s : Shared) (u : Value), BindsTo s fd ⟨[u], []⟩ [(x, u)])
    (hsp : ∀ H : Hp, SqL K H a (ns.map V.int) → sp [.ref a] H (fun v _ => v = .bl true) fun _ _ _ => False) :
    codeAny (model P w) callerA (.call (.ref fa) ⟨[.ref a], []⟩) (fun r s' => r = .ok (.ret (.bool true)) ∧ OldK z.heap s'.heap ∧ s'.os = z.os ∧ AllBare s'.gens) z := by
  have rv : Vals (ns.map V.int) vs := vals_ints intsA
  have sz : (ns.map V.int).length ≤ sizeLine := by rw [List.length_map]; exact many
  -- what is tracked: the script, unless it is the module's own
  let u : HO := .frz { cls := .type "list", data := .seq vs.toArray } (.lst (ns.map V.int))
  let H : Hp := fun b => if b = a ∧ K.lookup a = none then some u else none
  have only : ∀ b o, H b = some o → b = a ∧ K.lookup a = none ∧ o = u := fun b o e => by
    by_cases c : b = a ∧ K.lookup a = none
    · have e2 : H b = some u := if_pos c
      rw [e2] at e
      exact ⟨c.1, c.2, (Option.some.inj e).symm⟩
    · have e2 : H b = none := if_neg c
      rw [e2] at e
      cases e
  have sq : SqL K H a (ns.map V.int) := by
    cases hk : K.lookup a with
    | none => exact .inl (.inr ⟨_, if_pos ⟨rfl, hk⟩⟩)
    | some o =>
      have e := kin a o hk
      rw [at_] at e
      cases e
      exact .inr ⟨_, vs.toArray, _, hk, rfl, rfl, rfl, by rw [List.size_toArray, ← rv.length]; exact sz, by simpa using rv⟩
  have hok : HOk P w H z.heap := fun b o e => by
    obtain ⟨rfl, _, rfl⟩ := only b o e
    exact ⟨at_, sz, vs, _, rv, at_⟩
  have dictFree : ∀ {b : Addr} {o : Obj} {es : Array DictEntry} {ep : Nat}, z.heap.get? b = some o → o.data = .dict es ep → H b = none := fun {b o es ep} e d => by
    cases q : H b with
    | none => rfl
    | some v =>
      obtain ⟨rfl, _, _⟩ := only b v q
      rw [at_] at e
      cases e
      cases (show Data.seq vs.toArray _ = Data.dict es ep from d)
  have nsK : ∀ {b : Addr} {m : Str → Option Value}, z.heap.Ns b m → (hidT z.heap H).Ns b m := fun {b m} q => by
    obtain ⟨o, es, ep, e, d, r⟩ := q
    exact ⟨o, es, ep, hidT_get e (dictFree e d), d, r⟩
  have kb : K.In (hidT z.heap H) := fun b o e => by
    refine hidT_get (kin b o e) ?_
    cases q : H b with
    | none => rfl
    | some v =>
      obtain ⟨rfl, n, _⟩ := only b v q
      rw [n] at e
      cases e
  have limB : (hidT z.heap H).NoLimit := by
    obtain ⟨mc, h1, h2⟩ := lim
    exact ⟨mc, nsK h1, h2⟩
  have digB : (hidT z.heap H).NoDigits := by
    obtain ⟨mc, h1, h2⟩ := dig
    exact ⟨mc, nsK h1, h2⟩
  have en : Env0 P w K mg (hidT z.heap H) callerA [] z H :=
    ⟨rfl, ⟨kb, nsK nsG, ⟨mb, nsK nsB, same⟩, limB⟩, fun _ _ e => of_hidT e, Nat.le_of_eq (hidT_size _ _), trivial, (fun b hb => absurd (show b ∈ ([] : List Addr) from hb) List.not_mem_nil), hok, .of_eq no⟩
  refine codeAny_mono ((F _ kb (nsK nsG) digB).go callerA [] z H ⟨[.ref a], []⟩ [.ref a] [.ref a] _ _ rfl room en (bind z (.ref a)) (.cons rfl .nil) (hsp H sq)) fun r s' h => ?_
  match r, h with
  | .error e, h => exact False.elim h
  | .ok .next, h => exact False.elim h
  | .ok .brk, h => exact False.elim h
  | .ok .cont, h => exact False.elim h
  | .ok (.ret y), h =>
    obtain ⟨v, H', os, bare, un, hok', r', q⟩ := h
    obtain rfl : v = .bl true := q
    obtain rfl : y = Value.bool true := r'
    refine ⟨rfl, OldK.of_keep fun b o e => ?_, os, bare⟩
    cases q : H b with
    | none => exact un.keep b o e q (fun y => by cases y) (fun y => by cases y)
    | some v =>
      obtain ⟨rfl, _, rfl⟩ := only b v q
      have e2 := (hok' _ _ (un.frzs _ _ _ q)).1
      rw [at_] at e
      cases e
      exact e2
theorem walk_go {l : PySem.W.OpenLaw} {n k : Nat} {q : Program} {loose : List Str} {XP : (Str → Option Value) → Heap → Prop} {YP : World → Heap → Prop} {d : DefRec} {K : Params → PySem.W.Frag} {sp : PySem.W.Frag → Sp} {x : Str}
    (most : l.most = some n) (small : n ≤ sizeLine) (nodef : d.params.defaults = []) (room : Room k callerA) (hY : ∀ (w : World) (h : Heap), YP w h → (K w.params).In h)
    (F : ∀ (w : World) (mg : Str → Option Value) (fa : Addr) (h : Heap), (K w.params).In h → h.Ns mainGlobals mg → mg d.name = some (.ref fa) →
      ∃ fd : FuncData, (∀ (s : Shared) (u : Value), BindsTo s fd ⟨[u], []⟩ [(x, u)]) ∧ ∀ base : Heap, (K w.params).In base → base.Ns mainGlobals mg → base.NoDigits →
        Gn l.prog w (K w.params) mg base k fa fd [x] (sp (K w.params)))
    (hsp : ∀ (K : PySem.W.Frag) (H : Hp) (a : Addr) (ns : List Int), ns.length ≤ n → SqL K H a (ns.map V.int) → sp K [.ref a] H (fun v _ => v = .bl true) fun _ _ _ => False) :
    PySem.W.WalkO q loose XP YP l.row.toRowW d [] (fun f vs => PySem.call f vs) := by
  refine Att.attach_call most nodef fun w s₀ s₁ mg mb fa o pm cd doc a vs ns G Y _ _ _ hmg hobj hints hlen hg => ?_
  have kin := hY w _ Y
  obtain ⟨fd, hb, hF⟩ := F w mg fa _ kin G.T.g hmg
  exact law_go kin G.T.g G.T.b G.T.builtins G.T.nolimit G.T.nodigits hg hobj hints (Nat.le_trans hlen small) room hF hb fun H hS => hsp _ H a ns hlen hS
end K61
set_option Elab.async false
set_option linter.all false
set_option maxRecDepth 100000
set_option maxHeartbeats 4000000
set_option pp.maxSteps 400
set_option pp.deepTerms false
namespace K61
open PySem PySem.Spec PyProof.Rows L2
/-! ## the law's end with one table of code objects -/
theorem law_goT {P : Program} {w : World} {K : PySem.W.Frag} {mg mb : Str → Option Value} {k : Nat} {fa a cB pB : Addr} {fd : FuncData} {x : Str} {sp : Sp} {z : Shared} {vs : List Value} {ns : List Int}
    (kin : K.In z.heap) (nsG : z.heap.Ns mainGlobals mg) (nsB : z.heap.Ns builtinsNs mb) (same : ∀ y : Str, y ≠ "__name__" → mb y = bootBuiltins y) (lim : z.heap.NoLimit) (dig : z.heap.NoDigits) (no : z.gens = #[])
    (hC : PySem.W.CodeHd z.heap cB pB) (hP : z.heap.get? pB = some (PySem.W.tabObj #[])) (nP : K.lookup pB = none)
    (bmain : ∃ (bm : Addr) (ob : Obj), mg "__builtins__" = some (.ref bm) ∧ bm ≠ builtinsNs ∧ z.heap.get? bm = some ob ∧ ob.cls = .type "module" ∧ ob.dict = some builtinsNs ∧ ob.data = .plain)
    (at_ : z.heap.get? a = some { cls := .type "list", data := .seq vs.toArray }) (intsA : IntsAre vs ns) (many : ns.length ≤ sizeLine) (room : Room k callerA)
    (F : ∀ base : Heap, K.In base → base.Ns mainGlobals mg → base.NoDigits → LamX.TabB base mg cB pB → Gn P w K mg base k fa fd [x] sp) (bind : ∀ (s : Shared) (u : Value), BindsTo s fd ⟨[u], []⟩ [(x, u)])
    (hsp : ∀ H : Hp, H pB = some (.tbl #[]) → SqL K H a (ns.map V.int) → sp [.ref a] H (fun v _ => v = .bl true) fun _ _ _ => False) :
    codeAny (model P w) callerA (.call (.ref fa) ⟨[.ref a], []⟩) (fun r s' => r = .ok (.ret (.bool true)) ∧ OldK z.heap s'.heap ∧ s'.os = z.os ∧ AllBare s'.gens) z := by
  have rv : Vals (ns.map V.int) vs := vals_ints intsA
  have sz : (ns.map V.int).length ≤ sizeLine := by rw [List.length_map]; exact many
  let u : HO := .frz { cls := .type "list", data := .seq vs.toArray } (.lst (ns.map V.int))
  let H : Hp := fun b => if b = pB then some (.tbl #[]) else if b = a ∧ K.lookup a = none then some u else none
  have apart : a ≠ pB := fun e => by
    rw [e, hP] at at_
    cases at_
  have Ht : H pB = some (.tbl #[]) := if_pos rfl
  have Ho : ∀ b, b ≠ pB → H b = if b = a ∧ K.lookup a = none then some u else none := fun b n => if_neg n
  have only : ∀ b o, b ≠ pB → H b = some o → b = a ∧ K.lookup a = none ∧ o = u := fun b o n e => by
    rw [Ho b n] at e
    by_cases c : b = a ∧ K.lookup a = none
    · rw [if_pos c] at e
      exact ⟨c.1, c.2, (Option.some.inj e).symm⟩
    · rw [if_neg c] at e
      cases e
  have sq : SqL K H a (ns.map V.int) := by
    cases hk : K.lookup a with
    | none => exact .inl (.inr ⟨_, (Ho a apart).trans (if_pos ⟨rfl, hk⟩)⟩)
    | some o =>
      have e := kin a o hk
      rw [at_] at e
      cases e
      exact .inr ⟨_, vs.toArray, _, hk, rfl, rfl, rfl, by rw [List.size_toArray, ← rv.length]; exact sz, by simpa using rv⟩
  have hok : HOk P w H z.heap := fun b o e => by
    by_cases c : b = pB
    · subst c
      rw [Ht] at e
      cases e
      exact hP
    · obtain ⟨rfl, _, rfl⟩ := only b o c e
      exact ⟨at_, sz, vs, _, rv, at_⟩
  have clear : ∀ {b : Addr} {o : Obj}, z.heap.get? b = some o → (∀ xs n, o.data ≠ .seq xs n) → o.data ≠ .fields #[] → H b = none := fun {b o} e d1 d2 => by
    cases q : H b with
    | none => rfl
    | some v =>
      by_cases c : b = pB
      · rw [c, hP] at e
        cases e
        exact absurd rfl d2
      · obtain ⟨rfl, _, _⟩ := only b v c q
        rw [at_] at e
        cases e
        exact absurd rfl (d1 _ _)
  have nsK : ∀ {b : Addr} {m : Str → Option Value}, z.heap.Ns b m → (hidT z.heap H).Ns b m := fun {b m} q => by
    obtain ⟨o, es, ep, e, d, r⟩ := q
    exact ⟨o, es, ep, hidT_get e (clear e (fun _ _ y => by rw [d] at y; cases y) fun y => by rw [d] at y; cases y), d, r⟩
  have kb : K.In (hidT z.heap H) := fun b o e => by
    refine hidT_get (kin b o e) ?_
    cases q : H b with
    | none => rfl
    | some v =>
      by_cases c : b = pB
      · rw [c, nP] at e
        cases e
      · obtain ⟨rfl, n, _⟩ := only b v c q
        rw [n] at e
        cases e
  have limB : (hidT z.heap H).NoLimit := by
    obtain ⟨mc, h1, h2⟩ := lim
    exact ⟨mc, nsK h1, h2⟩
  have digB : (hidT z.heap H).NoDigits := by
    obtain ⟨mc, h1, h2⟩ := dig
    exact ⟨mc, nsK h1, h2⟩
  have tb : LamX.TabB (hidT z.heap H) mg cB pB := by
    refine ⟨?_, ?_, fun e => ?_⟩
    · obtain ⟨o, us, f1, f2, f3, f4, f5, f6, f7, e, r1, r2, r3, r⟩ := hC
      refine ⟨o, us, f1, f2, f3, f4, f5, f6, f7, hidT_get e (clear e (fun _ _ y => ?_) fun y => ?_), r1, r2, r3, r⟩
      · rw [r2] at y; cases y
      · rw [r2] at y
        cases y
        simp at r3
    · obtain ⟨bm, ob, b1, b2, b3, b4, b5, b6⟩ := bmain
      refine ⟨bm, ob, b1, b2, fun y => ?_, fun y => ?_, hidT_get b3 (clear b3 (fun _ _ y => ?_) fun y => ?_), b4, b5, b6⟩
      · obtain ⟨o, es, ep, e, d, _⟩ := nsG
        rw [y, e] at b3
        cases b3
        rw [d] at b6
        cases b6
      · rw [y, hP] at b3
        cases b3
        cases b6
      · rw [b6] at y; cases y
      · rw [b6] at y; cases y
    · obtain ⟨o, es, ep, e', d, _⟩ := nsG
      rw [e, hP] at e'
      cases e'
      cases d
  have en : Env0 P w K mg (hidT z.heap H) callerA [] z H :=
    ⟨rfl, ⟨kb, nsK nsG, ⟨mb, nsK nsB, same⟩, limB⟩, fun _ _ e => of_hidT e, Nat.le_of_eq (hidT_size _ _), trivial, (fun b hb => absurd (show b ∈ ([] : List Addr) from hb) List.not_mem_nil), hok, .of_eq no⟩
  refine codeAny_mono ((F _ kb (nsK nsG) digB tb).go callerA [] z H ⟨[.ref a], []⟩ [.ref a] [.ref a] _ _ rfl room en (bind z (.ref a)) (.cons rfl .nil) (hsp H Ht sq)) fun r s' h => ?_
  match r, h with
  | .error e, h => exact False.elim h
  | .ok .next, h => exact False.elim h
  | .ok .brk, h => exact False.elim h
  | .ok .cont, h => exact False.elim h
  | .ok (.ret y), h =>
    obtain ⟨v, H', os, bare, un, hok', r', q⟩ := h
    obtain rfl : v = .bl true := q
    obtain rfl : y = Value.bool true := r'
    have stay : ∀ b o, b ≠ pB → z.heap.get? b = some o → s'.heap.get? b = some o := fun b o n e => by
      cases q : H b with
      | none => exact un.keep b o e q (fun y => by cases y) (fun y => by cases y)
      | some v =>
        obtain ⟨rfl, _, rfl⟩ := only b v n q
        have e2 := (hok' _ _ (un.frzs _ _ _ q)).1
        rw [at_] at e
        cases e
        exact e2
    obtain ⟨more, hm⟩ := un.tbls pB #[] Ht
    have grown := hok' pB _ hm
    refine ⟨rfl, ⟨fun b o e => ?_, fun b o e => ?_⟩, os, bare⟩
    · by_cases c : b = pB
      · subst c
        rw [hP] at e
        cases e
        refine .inr (.inl ⟨(hC.tab hP).isCodeTable, rfl, #[], more, rfl, ?_⟩)
        exact grown
      · exact .inl (stay b o c e)
    · by_cases c : b = pB
      · subst c
        exact ⟨_, grown⟩
      · exact ⟨o, stay b o c e⟩
theorem walk_goT {l : PySem.W.OpenLaw} {n k : Nat} {q : Program} {loose : List Str} {XP : (Str → Option Value) → Heap → Prop} {YP : World → Heap → Prop} {d : DefRec} {K : Params → PySem.W.Frag} {sp : Addr → PySem.W.Frag → Sp} {x : Str} {ts : List Addr}
    (most : l.most = some n) (small : n ≤ sizeLine) (nodef : d.params.defaults = []) (room : Room k callerA) (hY : ∀ (w : World) (h : Heap), YP w h → (K w.params).In h ∧ ∀ P ∈ ts, h.get? P = some (PySem.W.tabObj #[]))
    (F : ∀ (w : World) (mg : Str → Option Value) (fa : Addr) (h : Heap), (K w.params).In h → h.Ns mainGlobals mg → mg d.name = some (.ref fa) →
      ∃ (cB pB : Addr) (fd : FuncData), pB ∈ ts ∧ PySem.W.codeHdIn (K w.params) cB pB = true ∧ (K w.params).lookup pB = none ∧ (∀ (s : Shared) (u : Value), BindsTo s fd ⟨[u], []⟩ [(x, u)]) ∧
        (∀ (H : Hp) (a : Addr) (ns : List Int), ns.length ≤ n → H pB = some (.tbl #[]) → SqL (K w.params) H a (ns.map V.int) → sp pB (K w.params) [.ref a] H (fun v _ => v = .bl true) fun _ _ _ => False) ∧
        ∀ base : Heap, (K w.params).In base → base.Ns mainGlobals mg → base.NoDigits → LamX.TabB base mg cB pB → Gn l.prog w (K w.params) mg base k fa fd [x] (sp pB (K w.params))) :
    PySem.W.WalkO q loose XP YP l.row.toRowW d [] (fun f vs => PySem.call f vs) := by
  refine Att.attach_call most nodef fun w s₀ s₁ mg mb fa o pm cd doc a vs ns G Y _ _ _ hmg hobj hints hlen hg => ?_
  obtain ⟨kin, tabs⟩ := hY w _ Y
  obtain ⟨cB, pB, fd, mem, hc, nP, hb, hsp, hF⟩ := F w mg fa _ kin G.T.g hmg
  exact law_goT kin G.T.g G.T.b G.T.builtins G.T.nolimit G.T.nodigits hg (PySem.W.codeHd_of_K kin hc) (tabs pB mem) nP G.T.bmain hobj hints (Nat.le_trans hlen small) room hF hb fun H hH hS => hsp H a ns hlen hH hS
end K61
set_option Elab.async false
set_option linter.all false
set_option maxRecDepth 100000
set_option maxHeartbeats 4000000
set_option pp.maxSteps 400
set_option pp.deepTerms false
namespace K61
open PySem PySem.Spec PyProof.Rows L2
open Xk Az
def top (i : Nat) : Stmt := PySem.Challenge.pw_takesworks_k61_many_discs_and_wishes.main.body.getD i (.Pass ⟨0, 0, 0, 0⟩)
abbrev sIsWhole : Stmt := top 1
abbrev sIsWithin : Stmt := top 2
abbrev sAreRising : Stmt := top 3
abbrev sHolders : Stmt := top 5
abbrev sNotAmong : Stmt := top 6
abbrev sLongerByOne : Stmt := top 7
abbrev sFewestDiscs : Stmt := top 8
abbrev sShowsHeld : Stmt := top 9
abbrev sBookFor : Stmt := top 11
abbrev sBookOf : Stmt := top 12
abbrev sIsMissing : Stmt := top 13
abbrev sShowsByTaking : Stmt := top 14
abbrev sIsBook : Stmt := top 16
abbrev sShowsNone : Stmt := top 17
abbrev sHand : Stmt := top 19
abbrev sTake : Stmt := top 20
abbrev sPick : Stmt := top 21
abbrev sLacks : Stmt := top 22
abbrev sEndRight : Stmt := top 24
abbrev sLwIsBook : Stmt := top 25
abbrev sLeast : Stmt := top 26
abbrev sWishes : Stmt := top 27
abbrev sHeld : Stmt := top 28
abbrev sLaw : Stmt := top 29
theorem scIsWhole : FnScope ["thing"] ["thing"] (defScope sIsWhole) := ⟨rfl, rfl, rfl, by decide +kernel, rfl, by decide +kernel, by decide +kernel⟩
theorem scIsWithin : FnScope ["thing", "least", "most"] ["thing", "least", "most"] (defScope sIsWithin) := ⟨rfl, rfl, rfl, by decide +kernel, rfl, by decide +kernel, by decide +kernel⟩
theorem scAreRising : FnScope ["things", "one", "other"] ["things"] (defScope sAreRising) := ⟨rfl, rfl, rfl, by decide +kernel, rfl, by decide +kernel, by decide +kernel⟩
theorem scHolders : FnScope ["held", "wish", "number", "things"] ["held", "wish"] (defScope sHolders) := ⟨rfl, rfl, rfl, by decide +kernel, rfl, by decide +kernel, by decide +kernel⟩
theorem scNotAmong : FnScope ["things", "wishes", "wish"] ["things", "wishes"] (defScope sNotAmong) := ⟨rfl, rfl, rfl, by decide +kernel, rfl, by decide +kernel, by decide +kernel⟩
theorem scLongerByOne : FnScope ["held", "discs", "missing", "first", "longer", "number", "choice", "rest"] ["held", "discs", "missing"] (defScope sLongerByOne) := ⟨rfl, rfl, rfl, by decide +kernel, rfl, by decide +kernel, by decide +kernel⟩
theorem scFewestDiscs : FnScope ["held", "wishes", "wish", "choices", "discs", "missing", "longer"] ["held", "wishes"] (defScope sFewestDiscs) := ⟨rfl, rfl, rfl, by decide +kernel, rfl, by decide +kernel, by decide +kernel⟩
theorem scShowsHeld : FnScope ["held", "wishes", "thing", "number", "disc", "wish"] ["held", "wishes", "thing"] (defScope sShowsHeld) := ⟨rfl, rfl, rfl, by decide +kernel, rfl, by decide +kernel, by decide +kernel⟩
theorem scBookFor : FnScope ["held", "missing", "left", "wish", "disc"] ["held", "missing", "left"] (defScope sBookFor) := ⟨rfl, rfl, rfl, by decide +kernel, rfl, by decide +kernel, by decide +kernel⟩
theorem scBookOf : FnScope ["held", "wishes", "many", "answer", "found"] ["held", "wishes", "many"] (defScope sBookOf) := ⟨rfl, rfl, rfl, by decide +kernel, rfl, by decide +kernel, by decide +kernel⟩
theorem scIsMissing : FnScope ["missing", "thing"] ["missing", "thing"] (defScope sIsMissing) := ⟨rfl, rfl, rfl, by decide +kernel, rfl, by decide +kernel, by decide +kernel⟩
theorem scShowsByTaking : FnScope ["held", "missing", "left", "wish", "books", "discs", "disc", "book"] ["held", "missing", "left", "wish", "books"] (defScope sShowsByTaking) := ⟨rfl, rfl, rfl, by decide +kernel, rfl, by decide +kernel, by decide +kernel⟩
theorem scIsBook : FnScope ["held", "missing", "left", "thing"] ["held", "missing", "left", "thing"] (defScope sIsBook) := ⟨rfl, rfl, rfl, by decide +kernel, rfl, by decide +kernel, by decide +kernel⟩
theorem scShowsNone : FnScope ["held", "wishes", "many", "thing"] ["held", "wishes", "many", "thing"] (defScope sShowsNone) := ⟨rfl, rfl, rfl, by decide +kernel, rfl, by decide +kernel, by decide +kernel⟩
theorem scHand : FnScope ["_law_script", "_law_k", "_law_cell", "_law_great"] ["_law_script", "_law_k"] (defScope sHand) := ⟨rfl, rfl, rfl, by decide +kernel, rfl, by decide +kernel, by decide +kernel⟩
theorem scTake : FnScope ["_law_hand_here", "_law_many", "_law_digit", "_law_mixed"] ["_law_hand_here", "_law_many"] (defScope sTake) := ⟨rfl, rfl, rfl, by decide +kernel, rfl, by decide +kernel, by decide +kernel⟩
theorem scPick : FnScope ["_law_hand_here", "_law_some"] ["_law_hand_here", "_law_some"] (defScope sPick) := ⟨rfl, rfl, rfl, by decide +kernel, rfl, by decide +kernel, by decide +kernel⟩
theorem scLacks : FnScope ["_law_wishes_here", "_law_thing"] ["_law_wishes_here", "_law_thing"] (defScope sLacks) := ⟨rfl, rfl, rfl, by decide +kernel, rfl, by decide +kernel, by decide +kernel⟩
theorem scEndRight : FnScope ["_law_held_here", "_law_wishes_here", "_law_many", "_law_thing", "_law_wish"] ["_law_held_here", "_law_wishes_here", "_law_many", "_law_thing"] (defScope sEndRight) := ⟨rfl, rfl, rfl, by decide +kernel, rfl, by decide +kernel, by decide +kernel⟩
theorem scLwIsBook : FnScope ["_law_held_here", "_law_wishes_here", "_law_many", "_law_thing", "_law_rest", "_law_book", "_law_lacking", "_law_few", "_law_some", "_law_k", "_law_things", "_law_wish"] ["_law_held_here", "_law_wishes_here", "_law_many", "_law_thing"] (defScope sLwIsBook) := ⟨rfl, rfl, rfl, by decide +kernel, rfl, by decide +kernel, by decide +kernel⟩
theorem scLeast : FnScope ["_law_held_here", "_law_wishes_here", "_law_bits", "_law_things", "_law_best", "_law_told", "_law_code", "_law_low", "_law_choice", "_law_k"] ["_law_held_here", "_law_wishes_here"] (defScope sLeast) := ⟨rfl, rfl, rfl, by decide +kernel, rfl, by decide +kernel, by decide +kernel⟩
theorem scWishes : FnScope ["_law_hand_here", "_law_many", "_law_found", "_law_number", "_law_k"] ["_law_hand_here", "_law_many"] (defScope sWishes) := ⟨rfl, rfl, rfl, by decide +kernel, rfl, by decide +kernel, by decide +kernel⟩
theorem scHeld : FnScope ["_law_hand_here", "_law_wishes_here", "_law_k", "_law_held_here", "_law_way", "_law_spots", "_law_spot", "_law_turn", "_law_some"] ["_law_hand_here", "_law_wishes_here"] (defScope sHeld) := ⟨rfl, rfl, rfl, by decide +kernel, rfl, by decide +kernel, by decide +kernel⟩
theorem scLaw : FnScope ["_law_script", "_law_hand_here", "_law_wishes_here", "_law_held_here", "_law_least_here", "_law_book"] ["_law_script"] (defScope sLaw) := ⟨rfl, rfl, rfl, by decide +kernel, rfl, by decide +kernel, by decide +kernel⟩
/-! ## objects -/
/-- all that was tracked stands but for the hand -/
def But (h : Addr) (H H' : Hp) : Prop := ∀ b o, b ≠ h → H b = some o → H' b = some o
theorem But.refl (h : Addr) (H : Hp) : But h H H := fun _ _ _ e => e
theorem But.trans {h : Addr} {H H1 H2 : Hp} (p : But h H H1) (q : But h H1 H2) : But h H H2 := fun b o n e => q b o n (p b o n e)
theorem Same.but {H H' : Hp} (s : Same H H') (h : Addr) : But h H H' := fun b o _ e => s b o e
theorem But.seqT {K : PySem.W.Frag} {h : Addr} {H H' : Hp} (s : But h H H') {t : Addr} {xs : List V} (n : t ≠ h) (q : SqT K H t xs) : SqT K H' t xs := by
  rcases q with (q | ⟨o, q⟩) | q
  · exact .inl (.inl (s _ _ n q))
  · exact .inl (.inr ⟨o, s _ _ n q⟩)
  · exact .inr q
theorem But.seqL {K : PySem.W.Frag} {h : Addr} {H H' : Hp} (s : But h H H') {t : Addr} {xs : List V} (n : t ≠ h) (q : SqL K H t xs) : SqL K H' t xs := by
  rcases q with (q | ⟨o, q⟩) | q
  · exact .inl (.inl (s _ _ n q))
  · exact .inl (.inr ⟨o, s _ _ n q⟩)
  · exact .inr q
theorem Same.seqT {K : PySem.W.Frag} {H H' : Hp} (s : Same H H') {t : Addr} {xs : List V} (q : SqT K H t xs) : SqT K H' t xs := by
  rcases q with (q | ⟨o, q⟩) | q
  · exact .inl (.inl (s _ _ q))
  · exact .inl (.inr ⟨o, s _ _ q⟩)
  · exact .inr q
theorem same_upd {H : Hp} {p : Addr} {o : HO} (h : H p = none) : Same H (upd H p o) := fun b x e => by
  rw [upd_ne (ne_of_none e h)]
  exact e
theorem but_upd {H : Hp} {p : Addr} {o : HO} : But p H (upd H p o) := fun b x n e => by
  rw [upd_ne n]
  exact e
/-- the hand: what is left of the cell, what it is mixed of, how often it was asked -/
def Hand (n : Int) (H : Hp) (a : Addr) : Prop := ∃ g m c : Int, H a = some (.lst [.int g, .int m, .int c]) ∧ 0 ≤ g ∧ 0 ≤ m ∧ m < 2305843009213693951 ∧ 0 ≤ c ∧ c ≤ n
theorem Hand.mono {n n' : Int} {H : Hp} {a : Addr} (h : Hand n H a) (l : n ≤ n') : Hand n' H a := by
  obtain ⟨g, m, c, e, h1, h2, h3, h4, h5⟩ := h
  exact ⟨g, m, c, e, h1, h2, h3, h4, Int.le_trans h5 l⟩
theorem Hand.same {n : Int} {H H' : Hp} {a : Addr} (h : Hand n H a) (s : Same H H') : Hand n H' a := by
  obtain ⟨g, m, c, e, r⟩ := h
  exact ⟨g, m, c, s _ _ e, r⟩
theorem Hand.at_ {n : Int} {H : Hp} {a : Addr} (h : Hand n H a) : ∃ xs, H a = some (.lst xs) := by
  obtain ⟨g, m, c, e, r⟩ := h
  exact ⟨_, e⟩
theorem Hand.ne_tup {K : PySem.W.Frag} {n : Int} {H : Hp} {a t : Addr} {xs : List V} (h : Hand n H a) (e : H t = some (.tup xs)) : t ≠ a := by
  obtain ⟨ys, e2⟩ := h.at_
  exact ne_of e e2 (by intro z; cases z)
theorem But.free {h l : Addr} {H H' : Hp} (b : But h H H') (ne : l ≠ h) (e : H' l = none) : H l = none := by
  cases q : H l with
  | none => rfl
  | some o =>
    rw [b l o ne q] at e
    cases e
theorem Hand.fresh {n : Int} {H : Hp} {a l : Addr} (h : Hand n H a) (e : H l = none) : l ≠ a := by
  obtain ⟨xs, q⟩ := h.at_
  exact (ne_of_none q e).symm
theorem Hand.upd {n : Int} {H : Hp} {a p : Addr} {x : HO} (h : Hand n H a) (ne : a ≠ p) : Hand n (L2.upd H p x) a := by
  obtain ⟨g, m, c, e, r⟩ := h
  exact ⟨g, m, c, by rw [upd_ne ne]; exact e, r⟩
section
variable {X : Cx}
theorem cr_alt {f : Value} {r1 r2 : List V → Hp → VK → Prop} (h1 : CallR X f r1) (h2 : CallR X f r2) : CallR X f (fun xs H Q => r1 xs H Q ∨ r2 xs H Q) :=
  fun pins s σ H xs us Q I r h => h.elim (h1 pins s σ H xs us Q I r) (h2 pins s σ H xs us Q I r)
end
end K61
set_option Elab.async false
set_option linter.all false
set_option maxRecDepth 100000
set_option maxHeartbeats 4000000
set_option pp.maxSteps 400
set_option pp.deepTerms false
namespace K61
open PySem PySem.Spec PyProof.Rows L2
open Xk Az
section
variable {P : Program} {w : World} {K : PySem.W.Frag} {mg : Str → Option Value} {base : Heap}
/-- a def that may be called by its name -/
structure Ca (P : Program) (w : World) (K : PySem.W.Frag) (mg : Str → Option Value) (base : Heap) (k : Nat) (x : Str) (ps : List Str) (sp : Sp) : Prop where
  ex : ∃ (f : Addr) (fd : FuncData), FnOk P w K mg base CX0 k f fd ps sp ∧ mg x = some (.ref f) ∧ PySem.W.keepIn K (.ref f) = true ∧ Binds K fd ps []
/-- a def of the text, as the head finds it -/
structure Df (K : PySem.W.Frag) (mg : Str → Option Value) (x : Str) (ps : List Str) (st : Stmt) (f : Addr) (fd : FuncData) : Prop where
  fn : Fun K x x st f fd
  mgf : mg x = some (.ref f)
  bd : Binds K fd ps []
theorem Df.ca {k : Nat} {x : Str} {ps : List Str} {st : Stmt} {f : Addr} {fd : FuncData} {sp : Sp} (d : Df K mg x ps st f fd)
    (h : FnOk P w K mg base CX0 k f fd ps sp) : Ca P w K mg base k x ps sp := ⟨f, fd, h, d.mgf, d.fn.kp, d.bd⟩
section
variable {X : Cx} {k j : Nat} {x : Str} {ps : List Str} {sp : Sp} {p pos : Pos} {e : Expr} {es : List Expr} {t : TA}
theorem pe_ca (c : Ca X.prog X.w X.K X.mg X.base k x ps sp) (hr : Room j X.A) (hk : k ≤ j) (hg : Gl X x) (ha : PA X (e :: es) t) (hdb : (x == ("__debug__" : Str)) = false := by decide)
    (he : starEach (e :: es) X.env = (false, eval e X.env) :: starEach es X.env := by rfl) (hpl : (backTo pos (starEach es X.env)).any (·.1) = false := by rfl) :
    PE X (.Call (.Name x p) (e :: es) [] pos) (tCall sp [] E0 t) := by
  obtain ⟨f, fd, F, hm, kp, b⟩ := c.ex
  exact pe_call F (hr.mono hk) hg hm kp b .nil pass0 ha hdb he hpl
end
/-- what the top has left, besides the defs -/
structure Txt (mg : Str → Option Value) : Prop where
  int : mg "int" = none
  tuple : mg "tuple" = none
  len : mg "len" = none
  any : mg "any" = none
  range : mg "range" = none
  max : mg "max" = none
  min : mg "min" = none
  sorted : mg "sorted" = none
  sum : mg "sum" = none
  enumerate : mg "enumerate" = none
  repr : mg "repr" = none
  isi : mg "isinstance" = none
  bool : mg "bool" = none
  str : mg "str" = none
  all : mg "all" = none
  zip : mg "zip" = none
abbrev far : Int := 1000000
def spHand (K : PySem.W.Frag) : Sp := fun vs H Q _ => ∃ (a : Addr) (k : Int) (ns : List Int), vs = [.ref a, .int k] ∧ 0 ≤ k ∧ SqL K H a (ns.map V.int) ∧
  ∀ p g m, H p = none → 0 ≤ g → 0 ≤ m → m < 2305843009213693951 → Q (.ref p) (upd H p (.lst [.int g, .int m, .int 0]))
def spTake : Sp := fun vs H Q _ => ∃ (h : Addr) (many n : Int), vs = [.ref h, .int many] ∧ 0 < many ∧ many < 10 ^ 30 ∧ Hand n H h ∧ n ≤ far ∧
  ∀ d H', 0 ≤ d → d < many → Hand (n + 1) H' h → But h H H' → Q (.int d) H'
def spPick : Sp := fun vs H Q _ => ∃ (h : Addr) (n : Int) (s : V), vs = [.ref h, s] ∧ Hand n H h ∧ n ≤ far ∧
  ((∃ (l : Addr) (xs : List V), s = .ref l ∧ H l = some (.lst xs) ∧ l ≠ h ∧ xs ≠ [] ∧ xs.length < 1000 ∧ ∀ v H', v ∈ xs → Hand (n + 1) H' h → But h H H' → Q v H') ∨
   (∃ x : Str, s = .str x ∧ 0 < x.length ∧ x.length < 1000 ∧ ∀ c H', c ∈ x.cps.toList → Hand (n + 1) H' h → But h H H' → Q (.str ⟨#[c]⟩) H'))
theorem wide30 {g many : Int} (m1 : 0 < many) (m2 : many < 10 ^ 30) : CDivW g many := by
  have h : (10 : Int) ^ 30 < 2 ^ 110 := by decide
  exact wide_div (b := 110) m1 (by omega) (by decide) (by decide)
theorem lt30 {n : Nat} (h : n < 1000) : (n : Int) < 10 ^ 30 := Int.lt_trans (Int.ofNat_lt.mpr h) (by decide)
theorem b01 (b : Bool) : -(2 ^ 64) < (if b = true then (1 : Int) else 0) ∧ (if b = true then (1 : Int) else 0) < 2 ^ 64 := by cases b <;> decide
theorem b0 (b : Bool) : 0 ≤ (if b = true then (1 : Int) else 0) := by cases b <;> decide
theorem ok_hand {f : Addr} {fd : FuncData} (D : Df K mg "_law_hand" ["_law_script", "_law_k"] sHand f fd) (T : Txt mg) : FnOk P w K mg base CX0 1 f fd ["_law_script", "_law_k"] (spHand K) := by
  refine D.fn.ok scHand (fun vs H Q E h => ?_) (fun cdv A outer s H vs Q E hr h => ?_)
  · obtain ⟨a, k, ns, rfl, hk, hS, q⟩ := h
    rfl
  · obtain ⟨a, k, ns, rfl, hk, hS, q⟩ := h
    refine ⟨_, (pss_cons (ps_set (i := 2) scHand.nd rfl (.inl rfl) pe_int)
      (pss_cons (ps_if (pt_cmpR op_lt (pv 1) (pe_callB call_len_seq (by rfl) T.len PySem.boot_len (pa_cons (pv 0) pa_nil)) (nomark _)) (pss_one (ps_set (i := 2) scHand.nd rfl (.inl rfl) (pe_ix ix_list (pv 0) (pv 1) (fun _ _ => rfl)))) pss_nil)
      (pss_cons (ps_set (i := 3) scHand.nd rfl (.inl rfl) (pe_op op_mul (pe_op op_mod (pv 2) (pe_op op_mulW (pe_op op_mulW (pe_op op_pow pe_int pe_int) (pe_op op_pow pe_int pe_int)) (pe_op op_pow pe_int pe_int))) (pe_callTy call_int1 (by rfl) T.int (by decide +kernel) (pa_cons (pe_cmpR op_ge (pv 2) (pe_op op_pow pe_int pe_int) (nomark _)) pa_nil))))
      (pss_one (ps_ret (pe_lst (pa_cons (pv 3) (pa_cons (pe_op op_mod (pe_op op_add (pe_op op_add (pe_op op_mod (pv 2) pe_int) (pe_op op_mul pe_int (pv 1))) pe_int) pe_int) (pa_cons pe_int pa_nil))))))))), ?_⟩
    refine ⟨_, rfl, _, rfl, a, _, rfl, .inl hS, k, _, rfl, rfl, _, rfl, ?_⟩
    refine ite2 (fun e => ?_) (fun e => ?_)
    · have hlt : k < ((ns.map V.int).length : Int) := of_decide_eq_true e
      rw [List.length_map] at hlt
      obtain ⟨j, rfl⟩ : ∃ j : Nat, k = (j : Int) := ⟨k.toNat, by omega⟩
      have hj : j < ns.length := by omega
      have hat : atI (ns.map V.int) ((j : Nat) : Int) = some (.int ns[j]) := atI_nat (by rw [List.getElem?_map, List.getElem?_eq_getElem hj]; rfl)
      refine ⟨_, rfl, _, rfl, a, _, _, _, rfl, rfl, hS, hat, ?_⟩
      refine ⟨_, rfl, 10, 60, rfl, rfl, ⟨by decide, by decide, by decide⟩, 10, 60, rfl, rfl, ⟨by decide, by decide, by decide⟩, _, _, rfl, rfl, ?_, 10, 60, rfl, rfl, ⟨by decide, by decide, by decide⟩, _, _, rfl, rfl, ?_, ns[j], _, rfl, rfl, ?_, ?_⟩
      · exact wide_mul (a := 300) (b := 300) (by decide +kernel) (by decide +kernel) (by decide) (by decide) (by decide)
      · exact wide_mul (a := 600) (b := 300) (by decide +kernel) (by decide +kernel) (by decide) (by decide) (by decide)
      · show (0 : Int) < 10 ^ (60 : Int).toNat * 10 ^ (60 : Int).toNat * 10 ^ (60 : Int).toNat
        decide +kernel
      · refine ⟨_, rfl, 10, 18, rfl, rfl, ⟨by decide, by decide, by decide⟩, ns[j], _, rfl, rfl, .inr ⟨_, rfl, _, _, rfl, rfl, .inr (b01 _), ?_⟩⟩
        refine ⟨_, rfl, _, rfl, ns[j], 2305843009213693951, rfl, rfl, (by show (0 : Int) < 2305843009213693951; decide), _, rfl, 7919, _, rfl, rfl, .inl (by decide), _, _, rfl, rfl, _, _, rfl, rfl, _, _, rfl, rfl, (by show (0 : Int) < 2305843009213693951; decide), (by show 3 ≤ sizeLine; decide), fun p np => ?_⟩
        refine q p _ _ np ?_ (Int.emod_nonneg _ (by decide)) (Int.emod_lt_of_pos _ (by decide))
        exact Int.mul_nonneg (Int.emod_nonneg _ (by decide +kernel)) (b0 _)
    · refine ⟨_, rfl, 10, 60, rfl, rfl, ⟨by decide, by decide, by decide⟩, 10, 60, rfl, rfl, ⟨by decide, by decide, by decide⟩, _, _, rfl, rfl, ?_, 10, 60, rfl, rfl, ⟨by decide, by decide, by decide⟩, _, _, rfl, rfl, ?_, 0, _, rfl, rfl, ?_, ?_⟩
      · exact wide_mul (a := 300) (b := 300) (by decide +kernel) (by decide +kernel) (by decide) (by decide) (by decide)
      · exact wide_mul (a := 600) (b := 300) (by decide +kernel) (by decide +kernel) (by decide) (by decide) (by decide)
      · show (0 : Int) < 10 ^ (60 : Int).toNat * 10 ^ (60 : Int).toNat * 10 ^ (60 : Int).toNat
        decide +kernel
      · refine ⟨_, rfl, 10, 18, rfl, rfl, ⟨by decide, by decide, by decide⟩, 0, _, rfl, rfl, .inr ⟨_, rfl, _, _, rfl, rfl, .inr (b01 _), ?_⟩⟩
        refine ⟨_, rfl, _, rfl, 0, 2305843009213693951, rfl, rfl, (by show (0 : Int) < 2305843009213693951; decide), _, rfl, 7919, _, rfl, rfl, .inl (by decide), _, _, rfl, rfl, _, _, rfl, rfl, _, _, rfl, rfl, (by show (0 : Int) < 2305843009213693951; decide), (by show 3 ≤ sizeLine; decide), fun p np => ?_⟩
        refine q p _ _ np ?_ (Int.emod_nonneg _ (by decide)) (Int.emod_lt_of_pos _ (by decide))
        exact Int.mul_nonneg (Int.emod_nonneg _ (by decide +kernel)) (b0 _)
theorem ok_take {f : Addr} {fd : FuncData} (D : Df K mg "_law_take" ["_law_hand_here", "_law_many"] sTake f fd) : FnOk P w K mg base CX0 1 f fd ["_law_hand_here", "_law_many"] spTake := by
  refine D.fn.ok scTake (fun vs H Q E h => ?_) (fun cdv A outer s H vs Q E hr h => ?_)
  · obtain ⟨h, many, n, rfl, _⟩ := h
    rfl
  · obtain ⟨h, many, n, rfl, m1, m2, ⟨g, m, c, hh, g0, k0, k1, c0, c1⟩, hn, q⟩ := h
    refine ⟨_, pss_cons (ps_if (pt_cmpR op_gt (pe_ix ix_list (pv 0) pe_int (fun _ _ => rfl)) pe_int (nomark _))
        (pss_cons (ps_set (i := 2) scTake.nd rfl (.inl rfl) (pe_op op_mod (pe_ix ix_list (pv 0) pe_int (fun _ _ => rfl)) (pv 1)))
        (pss_cons (ps_asg (pe_op op_fdivW (pe_ix ix_list (pv 0) pe_int (fun _ _ => rfl)) (pv 1)) (pg_sub (pv 0) pe_int set_list))
        (pss_one (ps_ret (pv 2))))) pss_nil)
      (pss_cons (ps_asg (pe_op op_add (pe_ix ix_list (pv 0) pe_int (fun _ _ => rfl)) pe_int) (pg_sub (pv 0) pe_int set_list))
      (pss_cons (ps_set (i := 3) scTake.nd rfl (.inl rfl) (pe_op op_mod (pe_op op_mul (pe_op op_add (pe_op op_add (pe_ix ix_list (pv 0) pe_int (fun _ _ => rfl))
          (pe_op op_mul (pe_op op_mul pe_int (pe_ix ix_list (pv 0) pe_int (fun _ _ => rfl))) (pe_ix ix_list (pv 0) pe_int (fun _ _ => rfl)))) pe_int) pe_int) pe_int))
      (pss_cons (ps_set (i := 3) scTake.nd rfl (.inl rfl) (pe_op op_mod (pe_op op_mul (pv 3) (pe_op op_add (pe_op op_mod (pv 3) pe_int) (pe_op op_mul pe_int (pe_ix ix_list (pv 0) pe_int (fun _ _ => rfl))))) pe_int))
      (pss_one (ps_ret (pe_op op_mod (pe_op op_add (pe_op op_fdiv (pv 3) pe_int) (pe_op op_fdiv (pv 3) pe_int)) (pv 1))))))), ?_⟩
    have far' : n ≤ 1000000 := hn
    refine ⟨_, rfl, h, _, 0, _, rfl, rfl, SqL.of hh, atI_nat (j := 0) rfl, g, 0, rfl, rfl, _, rfl, ite2 (fun e => ?_) (fun e => ?_)⟩
    · refine ⟨_, rfl, h, _, 0, _, rfl, rfl, SqL.of hh, atI_nat (j := 0) rfl, _, rfl, g, many, rfl, rfl, m1, ?_⟩
      refine ⟨_, rfl, h, _, 0, _, rfl, rfl, SqL.of hh, atI_nat (j := 0) rfl, _, rfl, g, many, rfl, rfl, wide30 m1 m2, _, rfl, h, _, 0, 0, rfl, rfl, hh, rfl, ?_⟩
      refine ⟨_, rfl, ?_⟩
      exact q _ _ (Int.emod_nonneg _ (by omega)) (Int.emod_lt_of_pos _ m1) ⟨g / many, m, c, upd_same, Int.ediv_nonneg g0 (by omega), k0, k1, c0, by omega⟩ but_upd
    · refine ⟨_, rfl, h, _, 2, _, rfl, rfl, SqL.of hh, atI_nat (j := 2) rfl, c, 1, rfl, rfl, _, rfl, h, _, 2, 2, rfl, rfl, hh, rfl, ?_⟩
      have h2 : (upd H h (.lst [.int g, .int m, .int (c + 1)])) h = some (.lst [.int g, .int m, .int (c + 1)]) := upd_same
      have s2 := SqL.of (K := K) h2
      refine ⟨_, rfl, h, _, 1, _, rfl, rfl, s2, atI_nat (j := 1) rfl, _, rfl, h, _, 2, _, rfl, rfl, s2, atI_nat (j := 2) rfl, 65537, c + 1, rfl, rfl, .inl (by decide), _, rfl, h, _, 2, _, rfl, rfl, s2, atI_nat (j := 2) rfl, _, c + 1, rfl, rfl, .inr (by omega),
        m, _, rfl, rfl, _, 11, rfl, rfl, _, 48271, rfl, rfl, .inr (by decide), _, 2305843009213693921, rfl, rfl, (by show (0 : Int) < 2305843009213693921; decide), ?_⟩
      generalize (m + 65537 * (c + 1) * (c + 1) + 11) * 48271 = z
      have z0 : 0 ≤ z % 2305843009213693921 := Int.emod_nonneg _ (by decide)
      have z1 : z % 2305843009213693921 < 2305843009213693921 := Int.emod_lt_of_pos _ (by decide)
      refine ⟨_, rfl, _, rfl, _, 1000003, rfl, rfl, (by show (0 : Int) < 1000003; decide), _, rfl, h, _, 2, _, rfl, rfl, s2, atI_nat (j := 2) rfl, 99991, c + 1, rfl, rfl, .inl (by decide), _, _, rfl, rfl, _, _, rfl, rfl, .inl (by omega),
        _, 2305843009213693907, rfl, rfl, (by show (0 : Int) < 2305843009213693907; decide), ?_⟩
      refine ⟨_, rfl, _, 97, rfl, rfl, ⟨by decide, by decide⟩, _, rfl, _, 1000033, rfl, rfl, ⟨by decide, by decide⟩, _, _, rfl, rfl, _, rfl, _, many, rfl, rfl, m1, ?_⟩
      exact q _ _ (Int.emod_nonneg _ (by omega)) (Int.emod_lt_of_pos _ m1) ⟨g, m, c + 1, h2, g0, k0, k1, by omega, by omega⟩ but_upd
theorem ok_pick {f : Addr} {fd : FuncData} (D : Df K mg "_law_pick" ["_law_hand_here", "_law_some"] sPick f fd) (T : Txt mg) (cT : Ca P w K mg base 1 "_law_take" ["_law_hand_here", "_law_many"] spTake) : FnOk P w K mg base CX0 2 f fd ["_law_hand_here", "_law_some"] spPick := by
  refine D.fn.ok scPick (fun vs H Q E h => ?_) (fun cdv A outer s H vs Q E hr h => ?_)
  · obtain ⟨h, n, s, rfl, hh, hn, q⟩ := h
    rfl
  · obtain ⟨h, n, s, rfl, hh, hn, q⟩ := h
    refine ⟨_, (pss_one (ps_ret (pe_ix ix_seq (pv 1) (pe_ca cT hr (by decide) (by rfl) (pa_cons (pv 0) (pa_cons (pe_callB (cr_alt call_len_seq call_len_str) (by rfl) T.len PySem.boot_len (pa_cons (pv 1) pa_nil)) pa_nil))) (fun _ _ => rfl)))), ?_⟩
    refine ⟨_, rfl, _, rfl, _, rfl, ?_⟩
    rcases q with ⟨l, xs, rfl, hl, nl, ne, few, q⟩ | ⟨x, rfl, pos, few, q⟩
    · have pos : 0 < xs.length := List.length_pos_iff.mpr ne
      refine .inl ⟨l, xs, rfl, .inl (SqL.of hl), h, (xs.length : Int), n, rfl, by omega, lt30 few, hh, hn, fun d H' d0 d1 hh' bt => ?_⟩
      obtain ⟨j, rfl⟩ : ∃ j : Nat, d = (j : Int) := ⟨d.toNat, by omega⟩
      have hj : j < xs.length := by omega
      refine .inl ⟨l, xs, _, xs[j], rfl, rfl, SqL.of (bt _ _ nl hl), atI_nat (List.getElem?_eq_getElem hj), ?_⟩
      exact q _ H' (List.getElem_mem hj) hh' bt
    · have sz : x.length ≤ sizeLine := Nat.le_trans (show x.length ≤ 1000 by omega) (by decide)
      refine .inr ⟨x, rfl, sz, h, (x.length : Int), n, rfl, by omega, lt30 few, hh, hn, fun d H' d0 d1 hh' bt => ?_⟩
      obtain ⟨j, rfl⟩ : ∃ j : Nat, d = (j : Int) := ⟨d.toNat, by omega⟩
      have hj : j < x.cps.toList.length := by
        have : x.length = x.cps.toList.length := by rw [Array.length_toList]; rfl
        omega
      refine .inr (.inr ⟨x, _, x.cps.toList[j], rfl, rfl, sz, atI_nat (List.getElem?_eq_getElem hj), ?_⟩)
      exact q _ H' (List.getElem_mem hj) hh' bt
end
end K61
set_option Elab.async false
set_option linter.all false
set_option maxRecDepth 100000
set_option maxHeartbeats 4000000
set_option pp.maxSteps 400
set_option pp.deepTerms false
namespace K61
open PySem PySem.Spec PyProof.Rows L2
open Xk Az
section
variable {P : Program} {w : World} {K : PySem.W.Frag} {mg : Str → Option Value} {base : Heap}
/-- numbers that are not too great -/
def Sm (ns : List Int) : Prop := ∀ x ∈ ns, 0 ≤ x ∧ x < 10 ^ 31
theorem Sm.snoc {ns : List Int} (h : Sm ns) {j : Int} (h0 : 0 ≤ j) (h1 : j < 10 ^ 31) : Sm (ns ++ [j]) := fun x hx => by
  rcases List.mem_append.mp hx with z | z
  · exact h x z
  · rw [List.mem_singleton.mp z]; exact ⟨h0, h1⟩
def spWishes : Sp := fun vs H Q _ => ∃ (h : Addr) (n many : Int), vs = [.ref h, .int many] ∧ 0 ≤ many ∧ many ≤ 20 ∧ Hand n H h ∧ n + 100 ≤ far ∧
  ∀ t (ns : List Int) H', H' t = some (.tup (ns.map V.int)) → (ns.length : Int) = many → Sm ns → Hand (n + 30) H' h → But h H H' → Q (.ref t) H'
theorem ok_wishes {f : Addr} {fd : FuncData} (D : Df K mg "_law_wishes" ["_law_hand_here", "_law_many"] sWishes f fd) (T : Txt mg) (cT : Ca P w K mg base 1 "_law_take" ["_law_hand_here", "_law_many"] spTake) (cP : Ca P w K mg base 2 "_law_pick" ["_law_hand_here", "_law_some"] spPick) : FnOk P w K mg base CX0 3 f fd ["_law_hand_here", "_law_many"] spWishes := by
  refine D.fn.ok scWishes (fun vs H Q E h => ?_) (fun cdv A outer s H vs Q E hr h => ?_)
  · obtain ⟨h, n, many, rfl, m0, m1, hh, hn, q⟩ := h
    rfl
  · obtain ⟨h, n, many, rfl, m0, m1, hh, hn, q⟩ := h
    refine ⟨_, (pss_cons (ps_par (i := 2) (j := 3) (by rfl) scWishes.nd rfl rfl (by decide) rfl rfl (pa_cons (pe_lst pa_nil) (pa_cons (pe_ca cP hr (by decide) (by rfl) (pa_cons (pv 0) (pa_cons (pe_lst (pa_cons pe_int (pa_cons pe_int (pa_cons (pe_op op_pow pe_int pe_int) pa_nil)))) pa_nil))) pa_nil)) (by rfl))
      (pss_cons (ps_for PassesOwn.never rfl (pi_range1 (by rfl) T.range (pa_cons (pv 1) pa_nil)) (pg_name (i := 4) scWishes.nd rfl (.inl rfl)) (pss_cons (ps_expr (pe_bm PySem.F.plainAttrs_list PySem.F.slot_list_append PySem.F.type_list_append mt_append (pv 2) (pa_cons (pv 3) pa_nil)))
      (pss_one (ps_set (i := 3) scWishes.nd rfl (.inl rfl) (pe_op op_add (pe_op op_add (pv 3) pe_int) (pe_ca cP hr (by decide) (by rfl) (pa_cons (pv 0) (pa_cons (pe_lst (pa_cons pe_int (pa_cons pe_int (pa_cons pe_int (pa_cons (pe_op op_pow pe_int pe_int) pa_nil))))) pa_nil))))))))
      (pss_one (ps_ret (pe_callTy call_tuple_of (by rfl) T.tuple (by decide +kernel) (pa_cons (pv 2) pa_nil)))))), ?_⟩
    have fr : n + 100 ≤ 1000000 := hn
    refine ⟨(by show 0 ≤ sizeLine; decide), fun L nL => ?_⟩
    have s0 := same_upd nL (o := .lst [])
    refine ⟨_, rfl, 10, 29, rfl, rfl, ⟨by decide, by decide, by decide⟩, (by show 3 ≤ sizeLine; decide), fun l1 n1 => ?_⟩
    have s1 := same_upd n1 (o := .lst [.int 0, .int 3, .int (10 ^ (29 : Int).toNat)])
    have Lh := hh.fresh nL
    refine ⟨h, n, _, rfl, (hh.same s0).same s1, by show n ≤ 1000000; omega, .inl ⟨l1, _, rfl, upd_same, (hh.same s0).fresh n1, by simp, by show 3 < 1000; decide, fun v H1 mv h1 b1 => ⟨_, _, rfl, ?_⟩⟩⟩
    obtain ⟨i0, rfl, i00, i01⟩ : ∃ i : Int, v = .int i ∧ 0 ≤ i ∧ i < 10 ^ 30 := by
      simp only [List.mem_cons, List.not_mem_nil, or_false] at mv
      rcases mv with e | e | e <;> exact ⟨_, e, by decide, by decide⟩
    have eL : H1 L = some (.lst (([] : List Int).map V.int)) := b1 _ _ Lh (s1 _ _ upd_same)
    have bt1 : But h H H1 := (Same.but (s0.trans s1) h).trans b1
    refine ⟨_, rfl, _, rfl, by omega, by omega, for_range (lo := 0) (n := many.toNat) (fun k σ Hi => ∃ (ns : List Int) (j : Int) (c4 : Option V), σ = [some (.ref h), some (.int many), some (.ref L), some (.int j), c4] ∧ Hi L = some (.lst (ns.map V.int)) ∧ ns.length = k ∧ (Sm ns ∧ 0 ≤ j ∧ j < 10 ^ 30 + k * 10 ^ 29) ∧ Hand (n + 1 + k) Hi h ∧ But h H Hi) ?_ ?_ ?_⟩
    · exact ⟨[], i0, none, rfl, eL, rfl, ⟨by simp [Sm], i00, by omega⟩, h1.mono (by omega), bt1⟩
    · rintro k σ Hi hk ⟨ns, j, c4, rfl, eLi, lk, ⟨sN, j0, j1⟩, hdi, bi⟩
      have k20 : k < 20 := by omega
      refine ⟨_, rfl, .inl ⟨rfl, _, SqL.of eLi⟩, _, rfl, L, _, _, rfl, rfl, eLi, ?_, ?_⟩
      · rw [List.length_map]
        exact Nat.lt_of_le_of_lt (show ns.length ≤ 100 by omega) (by decide)
      have hd2 : Hand (n + 1 + k) (upd Hi L (.lst (ns.map V.int ++ [.int j]))) h := hdi.upd (Ne.symm Lh)
      have e2 : (upd Hi L (.lst (ns.map V.int ++ [.int j]))) L = some (.lst ((ns ++ [j]).map V.int)) := by rw [upd_same, List.map_append]; rfl
      have bi2 : But h H (upd Hi L (.lst (ns.map V.int ++ [.int j]))) := fun b x nb e => by
        rw [upd_ne (ne_of_none e nL)]
        exact bi b x nb e
      refine ⟨_, rfl, j, 1, rfl, rfl, _, rfl, 10, 27, rfl, rfl, ⟨by decide, by decide, by decide⟩, (by show 4 ≤ sizeLine; decide), fun l2 n2 => ?_⟩
      have s2 := same_upd n2 (o := .lst [.int 0, .int 0, .int 4, .int (10 ^ (27 : Int).toNat)])
      refine ⟨h, n + 1 + k, _, rfl, hd2.same s2, by show n + 1 + (k : Int) ≤ 1000000; omega, .inl ⟨l2, _, rfl, upd_same, hd2.fresh n2, by simp, by show 4 < 1000; decide, fun v H3 mv h3 b3 => ?_⟩⟩
      obtain ⟨i1, rfl, i10, i11⟩ : ∃ i : Int, v = .int i ∧ 0 ≤ i ∧ i < 10 ^ 28 := by
        simp only [List.mem_cons, List.not_mem_nil, or_false] at mv
        rcases mv with e | e | e | e <;> exact ⟨_, e, by decide, by decide⟩
      refine ⟨_, _, rfl, rfl, ns ++ [j], _, _, rfl, b3 _ _ Lh (s2 _ _ e2), by rw [List.length_append, lk]; rfl, ⟨sN.snoc j0 (by omega), by omega, by omega⟩, h3.mono (by omega), bi2.trans ((Same.but s2 h).trans b3)⟩
    rintro σ He ⟨ns, j, c4, rfl, eLe, lk, ⟨sN, _, _⟩, hde, be⟩
    refine ⟨_, rfl, L, _, rfl, .inl ⟨SqL.of eLe, fun p np => ?_⟩⟩
    exact q p ns _ upd_same (by omega) sN ((hde.mono (by omega)).same (same_upd np)) (be.trans (Same.but (same_upd np) h))
theorem dpAll_ints {H : Hp} : ∀ gs : List Int, DpAll K H (gs.map V.int) (gs.map PyData.int)
  | [] => .nil
  | g :: r => .cons (.int g) (dpAll_ints r)
theorem lay_ints : ∀ gs : List Int, PyData.canLayAll0 (gs.map PyData.int) = true
  | [] => by simp [PyData.canLayAll0]
  | g :: r => by simp [PyData.canLayAll0, PyData.canLay0, lay_ints r]
theorem depth_ints : ∀ gs : List Int, PyData.depthAll (gs.map PyData.int) ≤ 1
  | [] => by simp [PyData.depthAll]
  | g :: r => by
    have := depth_ints r
    simp only [List.map_cons, PyData.depthAll, PyData.depth]
    omega
theorem ixN_nat {n j : Nat} (h : j < n) : ixN n (j : Int) = some j := by
  unfold ixN
  rw [if_pos (by omega), if_pos (by omega)]
  simp
theorem shaped_list {ds : List PyData} (q1 : PyData.canLayAll0 ds = true) (q2 : PyData.depthAll ds ≤ 3) : SeqAt.shaped (.list ds) = true := by
  unfold SeqAt.shaped
  have h1 : (PyData.list ds).canLay0 = true := by simp only [PyData.canLay0]; exact q1
  have h2 : (PyData.list ds).depth ≤ 64 := by simp only [PyData.depth]; omega
  rw [h1, decide_eq_true h2]
  rfl
theorem lt30' {i : Int} (h : i < 1000) : i < 10 ^ 30 := Int.lt_trans h (by decide)
/-- held: tuples of numbers -/
inductive Hl (H : Hp) : List V → List (List Int) → Prop
  | nil : Hl H [] []
  | cons {t : Addr} {ns : List Int} {xs : List V} {hs : List (List Int)} (e : H t = some (.tup (ns.map V.int))) (r : Hl H xs hs) : Hl H (.ref t :: xs) (ns :: hs)
def Gs (hs : List (List Int)) : Prop := ∀ gs ∈ hs, gs.length ≤ 40 ∧ Sm gs
theorem Hl.of {H : Hp} : ∀ xs : List V, (∀ v ∈ xs, ∃ t, ∃ ns : List Int, v = .ref t ∧ H t = some (.tup (ns.map V.int)) ∧ ns.length ≤ 40 ∧ Sm ns) → ∃ hs, Hl H xs hs ∧ Gs hs
  | [], _ => ⟨[], .nil, fun _ h => by cases h⟩
  | x :: r, h => by
    obtain ⟨hs, q, g⟩ := Hl.of r fun v hv => h v (List.mem_cons_of_mem _ hv)
    obtain ⟨t, ns, rfl, e, e2⟩ := h x List.mem_cons_self
    refine ⟨ns :: hs, .cons e q, fun gs hg => ?_⟩
    rcases List.mem_cons.mp hg with z | z
    · rw [z]; exact e2
    · exact g gs z
theorem Hl.len {H : Hp} {xs : List V} {hs : List (List Int)} (h : Hl H xs hs) : xs.length = hs.length := by
  induction h with
  | nil => rfl
  | cons _ _ ih => rw [List.length_cons, List.length_cons, ih]
theorem Hl.map {H H' : Hp} {xs : List V} {hs : List (List Int)} (h : Hl H xs hs) (k : ∀ b ys, H b = some (.tup ys) → H' b = some (.tup ys)) : Hl H' xs hs := by
  induction h with
  | nil => exact .nil
  | cons e _ ih => exact .cons (k _ _ e) ih
theorem Hl.get {H : Hp} {xs : List V} {hs : List (List Int)} (h : Hl H xs hs) {i : Nat} (hi : i < hs.length) : ∃ t, xs[i]? = some (.ref t) ∧ H t = some (.tup ((hs[i]).map V.int)) := by
  induction h generalizing i with
  | nil => simp at hi
  | cons e _ ih =>
    cases i with
    | zero => exact ⟨_, rfl, e⟩
    | succ i => exact ih (by simpa using hi)
/-- lists of numbers, apart from the hand and the list that has them -/
def Li (m : Nat) (h L : Addr) (H : Hp) (v : V) : Prop := ∃ l, ∃ ns : List Int, v = .ref l ∧ l ≠ L ∧ l ≠ h ∧ H l = some (.lst (ns.map V.int)) ∧ ns.length ≤ m ∧ Sm ns
theorem Li.but {m : Nat} {h L : Addr} {H H' : Hp} {v : V} (a : Li m h L H v) (s : But h H H') : Li m h L H' v := by
  obtain ⟨l, ns, e, n1, n2, q, lm⟩ := a
  exact ⟨l, ns, e, n1, n2, s _ _ n2 q, lm⟩
theorem Li.upd {m : Nat} {h L : Addr} {H : Hp} {v : V} {o : HO} (a : Li m h L H v) : Li m h L (L2.upd H L o) v := by
  obtain ⟨l, ns, e, n1, n2, q, lm⟩ := a
  exact ⟨l, ns, e, n1, n2, by rw [upd_ne n1]; exact q, lm⟩
def rTo (K : PySem.W.Frag) : List V → Hp → VK → Prop := fun xs H Q => ∃ p ys, xs = [V.ref p] ∧ ((SqL K H p ys ∧ ∀ (l : Addr), H l = none → Q (V.ref l) (L2.upd H l (HO.tup ys))) ∨ (SqT K H p ys ∧ Q (V.ref p) H))
theorem cut_ints (ns : List Int) (lo hi : Option Int) : cutV (ns.map V.int) lo hi = ((ns.drop (HT.sIx ns.length 0 lo)).take (HT.sIx ns.length ns.length hi - HT.sIx ns.length 0 lo)).map V.int := by
  unfold cutV
  rw [List.length_map, List.map_take, List.map_drop]
theorem cut_len (ns : List Int) (lo hi : Option Int) : ((ns.drop (HT.sIx ns.length 0 lo)).take (HT.sIx ns.length ns.length hi - HT.sIx ns.length 0 lo)).length ≤ ns.length := by
  rw [List.length_take, List.length_drop]
  omega
theorem lists_dp {m : Nat} {h L : Addr} {H : Hp} : ∀ xs : List V, (∀ v ∈ xs, Li m h L H v) → ∃ ds, DpAll K H xs ds ∧ PyData.canLayAll0 ds = true ∧ PyData.depthAll ds ≤ 3
  | [], _ => ⟨[], .nil, by simp [PyData.canLayAll0], by simp [PyData.depthAll]⟩
  | v :: r, q => by
    obtain ⟨ds, q1, q2, q3⟩ := lists_dp r (fun w hw => q w (List.mem_cons_of_mem _ hw))
    obtain ⟨l, ns, rfl, _, _, e, _, _⟩ := q v List.mem_cons_self
    refine ⟨.list (ns.map PyData.int) :: ds, .cons (.lst (SqL.of e) (dpAll_ints ns)) q1, ?_, ?_⟩
    · simp [PyData.canLayAll0, PyData.canLay0, q2, lay_ints ns]
    · have := depth_ints ns
      simp only [PyData.depthAll, PyData.depth]
      omega
end
end K61
set_option Elab.async false
set_option linter.all false
set_option maxRecDepth 100000
set_option maxHeartbeats 4000000
set_option pp.maxSteps 400
set_option pp.deepTerms false
namespace K61
open PySem PySem.Spec PyProof.Rows L2
open Xk Az
section
variable {P : Program} {w : World} {K : PySem.W.Frag} {mg : Str → Option Value} {base : Heap}
theorem flat_ints (gs : List Int) : (gs.map V.int).all flatV = true := by
  rw [List.all_eq_true]
  intro v hv
  obtain ⟨g, _, rfl⟩ := List.mem_map.mp hv
  rfl
theorem inV_ints (g : Int) : ∀ gs : List Int, inV (.int g) (gs.map V.int) = decide (g ∈ gs)
  | [] => by simp [inV]
  | x :: r => by
    have ih := inV_ints g r
    unfold inV at ih ⊢
    rw [List.map_cons, List.any_cons, ih]
    by_cases c : x = g
    · simp [eqV, c]
    · simp [eqV, c, Ne.symm c]
def spHolders : Sp := fun vs H Q _ => ∃ (a : Addr) (g : Int) (xs : List V) (hs : List (List Int)), vs = [.ref a, .int g] ∧ H a = some (.tup xs) ∧ Hl H xs hs ∧ hs.length ≤ 12 ∧
  ∀ L (ns : List Int) H', L2.Same H H' → H' L = some (.lst (ns.map V.int)) → (ns.isEmpty = ((List.range hs.length).all fun k => !P56.on hs k g)) → ns = P56.toI (P56.hold hs g) → Q (.ref L) H'
def spNA (K : PySem.W.Frag) : Sp := fun vs H Q _ => ∃ (a b : Addr) (gs ms : List Int), vs = [.ref a, .ref b] ∧ H a = some (.tup (gs.map V.int)) ∧ H b = some (.tup (ms.map V.int)) ∧ ms.length ≤ 20 ∧
  ∀ t H', L2.Same H H' → H' t = some (.tup ((P56.rest gs ms).map V.int)) → Q (.ref t) H'
theorem ok_holders {f : Addr} {fd : FuncData} (D : Df K mg "holders" ["held", "wish"] sHolders f fd) (T : Txt mg) : FnOk P w K mg base CX0 1 f fd ["held", "wish"] spHolders := by
  refine D.fn.ok scHolders (fun vs H Q E h => ?_) (fun cdv A outer s H vs Q E hr h => ?_)
  · obtain ⟨a, g, xs, hs, rfl, ea, hl, l12, q⟩ := h
    rfl
  · obtain ⟨a, g, xs, hs, rfl, ea, hl, l12, q⟩ := h
    refine ⟨_, (pss_one (ps_ret (pe_lc (own := [("number", 2), ("things", 3)]) (g := (gTup K 2 (gCons (gName 2) (gCons (gName 3) gNil)))) (tt := tTest (tOp (rIn K false) (tVar 1) (tVar 3))) (by rfl) scHolders.nd (Xt.pi_enumT (by rfl) T.enumerate (pa_cons (pv 0) pa_nil)) (blkOk_by (own := [("number", 2), ("things", 3)]) (N := ["held", "wish", "number", "things"]) (sc := defScope sHolders) (by decide +kernel)) (fun _ _ _ _ _ => pg_tup (by rfl) (pgs_cons (pg_name (i := 2) scHolders.nd rfl (.inl rfl)) (pgs_cons (pg_name (i := 3) scHolders.nd rfl (.inl rfl)) pgs_nil))) (fun _ _ _ _ _ => (pts_one (pt_cmpR op_in_seq (pv 1) (pv 3) (by rfl)))) (fun _ _ _ _ _ => pv 2)))), ?_⟩
    have lh := hl.len
    refine ⟨_, rfl, a, xs, rfl, SqT.of ea, fun D nD => ?_⟩
    refine lc_it (Xt.walk_enumT (K := K) (a := a) (xs := xs)) (fun i Hi => L2.Same H Hi ∧ ∃ ns : List Int, Hi D = some (.lst (ns.map V.int)) ∧ ns.length ≤ i ∧ (ns.isEmpty = ((List.range i).all fun k => !P56.on hs k g)) ∧ ns = P56.toI ((List.range i).filter fun k => P56.on hs k g)) ⟨same_upd nD, [], upd_same, Nat.le_refl _, rfl, rfl⟩ (fun i Hi _ z => SqT.of (z.1 _ _ ea)) ?_ ?_
    · rintro i v Hi H' hi ⟨sm, ns, eD, ln, en, ef⟩ ⟨t, x, z, rfl, nt, rfl, ex, ez⟩
      have hi' : i < hs.length := by omega
      obtain ⟨tk, etk, eTk⟩ := hl.get hi'
      obtain rfl : V.ref tk = z := Option.some.inj (etk.symm.trans ez)
      obtain rfl : V.int (i : Nat) = x := Option.some.inj ex
      have st := same_upd nt (o := .tup [.int (i : Nat), .ref tk])
      have eo : P56.on hs i g = inV (.int g) ((hs[i]).map V.int) := by
        rw [inV_ints]
        unfold P56.on
        simp [List.getD_eq_getElem?_getD, hi']
      refine ⟨t, _, rfl, SqT.of upd_same, rfl, _, _, rfl, _, _, rfl, rfl, rfl, ?_⟩
      refine ⟨_, rfl, _, rfl, tk, _, rfl, .inr (SqT.of (st _ _ (sm _ _ eTk))), rfl, flat_ints _, ?_⟩
      refine ⟨_, rfl, ite2 (fun e => ?_) (fun e => ?_)⟩
      · refine ⟨_, rfl, _, st _ _ eD, ?_, fun c o q => ?_, ns ++ [(i : Int)], by rw [upd_same, List.map_append]; rfl, by rw [List.length_append]; exact Nat.add_le_add_right ln 1, ?_, ?_⟩
        · rw [List.length_map]
          exact Nat.lt_of_le_of_lt (show ns.length ≤ 1000 by omega) (by decide)
        · rw [upd_ne (ne_of_none q nD)]
          exact st _ _ (sm _ _ q)
        · rw [List.range_succ, List.all_append, List.all_cons, eo]
          simp at e
          simp [e]
        · have e' : P56.on hs i g = true := by rw [eo]; simpa using e
          rw [List.range_succ, List.filter_append, List.filter_cons, if_pos e', ef]
          simp [P56.toI]
      · refine ⟨sm.trans st, ns, st _ _ eD, Nat.le_succ_of_le ln, ?_, ?_⟩
        · rw [List.range_succ, List.all_append, List.all_cons, eo, en]
          simp at e
          simp [e]
        · have e' : ¬ P56.on hs i g = true := by rw [eo]; simpa using e
          rw [List.range_succ, List.filter_append, List.filter_cons, if_neg e', ef]
          simp
    · rintro He ⟨sm, ns, eD, ln, en, ef⟩
      rw [lh] at en ef
      exact q D ns He sm eD en ef
theorem ok_na {f : Addr} {fd : FuncData} (D : Df K mg "not_among" ["things", "wishes"] sNotAmong f fd) (T : Txt mg) : FnOk P w K mg base CX0 1 f fd ["things", "wishes"] (spNA K) := by
  refine D.fn.ok scNotAmong (fun vs H Q E h => ?_) (fun cdv A outer s H vs Q E hr h => ?_)
  · obtain ⟨a, b, gs, ms, rfl, ea, eb, l20, q⟩ := h
    rfl
  · obtain ⟨a, b, gs, ms, rfl, ea, eb, l20, q⟩ := h
    refine ⟨_, (pss_one (ps_ret (pe_callTy call_tuple_of (by rfl) T.tuple (by decide +kernel) (pa_cons (pe_lc (own := [("wish", 2)]) (g := gName 2) (tt := tTest (tOp (rIn K true) (tVar 2) (tVar 0))) (by rfl) scNotAmong.nd (pi_tup (pv 1)) (blkOk_by (own := [("wish", 2)]) (N := ["things", "wishes", "wish"]) (sc := defScope sNotAmong) (by decide +kernel)) (fun _ _ _ _ _ => pg_name (i := 2) scNotAmong.nd rfl (.inl rfl)) (fun _ _ _ _ _ => (pts_one (pt_cmpR op_notIn_seq (pv 2) (pv 0) (by rfl)))) (fun _ _ _ _ _ => pv 2)) pa_nil)))), ?_⟩
    refine ⟨_, rfl, b, rfl, ⟨_, SqT.of eb⟩, fun D nD => ?_⟩
    refine lc_tup (K := K) (a := b) (xs := ms.map V.int) (fun i Hi => L2.Same H Hi ∧ Hi D = some (.lst ((P56.rest gs (ms.take i)).map V.int))) ⟨same_upd nD, upd_same⟩ (fun i Hi _ z => SqT.of (z.1 _ _ eb)) ?_ ?_
    · rintro i x Hi hx ⟨sm, eD⟩
      rw [List.getElem?_map] at hx
      obtain ⟨g, eg, rfl⟩ := Option.map_eq_some_iff.mp hx
      have il : i < ms.length := (List.getElem?_eq_some_iff.mp eg).1
      have tk : P56.rest gs (ms.take (i + 1)) = P56.rest gs (ms.take i) ++ (if inV (.int g) (gs.map V.int) = true then [] else [g]) := by
        unfold P56.rest
        rw [List.take_add_one, eg, List.filter_append, inV_ints]
        by_cases c : g ∈ gs <;> simp [c]
      refine ⟨rfl, ?_⟩
      refine ⟨_, rfl, _, rfl, a, _, rfl, .inr (SqT.of (sm _ _ ea)), rfl, flat_ints _, ?_⟩
      refine ⟨_, rfl, ite2 (fun e => ?_) (fun e => ?_)⟩
      · have e' : inV (.int g) (gs.map V.int) = false := by simpa using e
        refine ⟨_, rfl, _, eD, ?_, fun c o q => ?_, ?_⟩
        · rw [List.length_map]
          refine Nat.lt_of_le_of_lt (Nat.le_trans (List.length_filter_le _ _) (show (ms.take i).length ≤ 1000 from ?_)) (by decide)
          rw [List.length_take]; omega
        · rw [upd_ne (ne_of_none q nD)]
          exact sm _ _ q
        · rw [upd_same, tk, e', if_neg Bool.false_ne_true, List.map_append]
          rfl
      · have e' : inV (.int g) (gs.map V.int) = true := by simpa using e
        refine ⟨sm, ?_⟩
        rw [tk, e', if_pos rfl, List.append_nil]
        exact eD
    · rintro He ⟨sm, eD⟩
      rw [List.length_map, List.take_length] at eD
      refine ⟨D, _, rfl, .inl ⟨SqL.of eD, fun p np => ?_⟩⟩
      exact q p _ (sm.trans (same_upd np)) upd_same
end
end K61
set_option Elab.async false
set_option linter.all false
set_option maxRecDepth 100000
set_option maxHeartbeats 4000000
set_option pp.maxSteps 400
set_option pp.deepTerms false
namespace K61
open PySem PySem.Spec PyProof.Rows L2
open Xk Az
section
variable {P : Program} {w : World} {K : PySem.W.Frag} {mg : Str → Option Value} {base : Heap}
/-- choices, with what each one misses -/
inductive ChL (H : Hp) : List V → List (List Nat × List Int) → Prop
  | nil : ChL H [] []
  | cons {t c r : Addr} {p : List Nat × List Int} {xs : List V} {ps : List (List Nat × List Int)} (e1 : H t = some (.tup [.ref c, .ref r])) (e2 : H c = some (.tup ((P56.toI p.1).map V.int))) (e3 : H r = some (.tup (p.2.map V.int))) (rest : ChL H xs ps) : ChL H (.ref t :: xs) (p :: ps)
theorem ChL.len {H : Hp} {xs : List V} {ps : List (List Nat × List Int)} (h : ChL H xs ps) : xs.length = ps.length := by
  induction h with
  | nil => rfl
  | cons _ _ _ _ ih => rw [List.length_cons, List.length_cons, ih]
theorem ChL.keep {H H' : Hp} {xs : List V} {ps : List (List Nat × List Int)} (h : ChL H xs ps) (k : ∀ b ys, H b = some (.tup ys) → H' b = some (.tup ys)) : ChL H' xs ps := by
  induction h with
  | nil => exact .nil
  | cons e1 e2 e3 _ ih => exact .cons (k _ _ e1) (k _ _ e2) (k _ _ e3) ih
theorem ChL.same {H H' : Hp} {xs : List V} {ps : List (List Nat × List Int)} (h : ChL H xs ps) (s : L2.Same H H') : ChL H' xs ps := h.keep fun b ys e => s _ _ e
theorem ChL.app {H : Hp} {xs ys : List V} {ps qs : List (List Nat × List Int)} (h : ChL H xs ps) (h2 : ChL H ys qs) : ChL H (xs ++ ys) (ps ++ qs) := by
  induction h with
  | nil => exact h2
  | cons e1 e2 e3 _ ih => exact .cons e1 e2 e3 ih
theorem ChL.snoc {H : Hp} {xs : List V} {ps : List (List Nat × List Int)} {t c r : Addr} {p : List Nat × List Int} (h : ChL H xs ps) (e1 : H t = some (.tup [.ref c, .ref r])) (e2 : H c = some (.tup ((P56.toI p.1).map V.int))) (e3 : H r = some (.tup (p.2.map V.int))) : ChL H (xs ++ [.ref t]) (ps ++ [p]) := h.app (.cons e1 e2 e3 .nil)
theorem ChL.get {H : Hp} {xs : List V} {ps : List (List Nat × List Int)} (h : ChL H xs ps) {i : Nat} {x : V} (hx : xs[i]? = some x) : ∃ t c r p, x = .ref t ∧ ps[i]? = some p ∧ H t = some (.tup [.ref c, .ref r]) ∧ H c = some (.tup ((P56.toI p.1).map V.int)) ∧ H r = some (.tup (p.2.map V.int)) := by
  induction h generalizing i with
  | nil => simp at hx
  | cons e1 e2 e3 _ ih =>
    cases i with
    | zero =>
      cases hx
      exact ⟨_, _, _, _, rfl, rfl, e1, e2, e3⟩
    | succ i => exact ih hx
theorem none_of {H H' : Hp} {a : Addr} (s : L2.Same H H') (n : H' a = none) : H a = none := by
  cases z : H a with
  | none => rfl
  | some x => rw [s _ _ z] at n; cases n
def spLonger : Sp := fun vs H Q _ => ∃ (a b m : Addr) (xs : List V) (hs : List (List Int)) (d : List Nat) (ms : List Int), vs = [.ref a, .ref b, .ref m] ∧ H a = some (.tup xs) ∧ Hl H xs hs ∧ hs.length ≤ 12 ∧ H b = some (.tup ((P56.toI d).map V.int)) ∧ d.length ≤ 12 ∧ P56.first d ≤ 12 ∧
  H m = some (.tup (ms.map V.int)) ∧ ms.length ≤ 20 ∧ ∀ L zs H', L2.Same H H' → H L = none → H' L = some (.lst zs) → ChL H' zs (P56.step hs (d, ms)) → Q (.ref L) H'
def rLn (K : PySem.W.Frag) : List V → Hp → VK → Prop := fun xs H Q => ∃ p ys, xs = [V.ref p] ∧ (SqL K H p ys ∨ SqT K H p ys) ∧ Q (V.int ys.length) H
theorem ok_longer {f : Addr} {fd : FuncData} (D : Df K mg "longer_by_one" ["held", "discs", "missing"] sLongerByOne f fd) (T : Txt mg) (cNA : Ca P w K mg base 1 "not_among" ["things", "wishes"] (spNA K)) : FnOk P w K mg base CX0 2 f fd ["held", "discs", "missing"] spLonger := by
  refine D.fn.ok scLongerByOne (fun vs H Q E h => ?_) (fun cdv A outer s H vs Q E hr h => ?_)
  · obtain ⟨a, b, m, xs, hs, d, ms, rfl, ea, hl, l12, eb, ld, fd12, em, l20, q⟩ := h
    rfl
  · obtain ⟨a, b, m, xs, hs, d, ms, rfl, ea, hl, l12, eb, ld, fd12, em, l20, q⟩ := h
    refine ⟨_, (C8.pss_cut (ps_set (i := 3) scLongerByOne.nd rfl (.inl rfl) (pe_ifExp (pt_cmpR op_gt (pe_callB call_len_seq (by rfl) T.len PySem.boot_len (pa_cons (pv 1) pa_nil)) pe_int (nomark _)) (pe_op op_add (pe_ix ix_tup (pv 1) (pe_un un_neg pe_int) (fun _ _ => rfl)) pe_int) pe_int))
      (pss_cons (ps_setLc (i := 4) (own := [("number", 5)]) (g := gName 5) (tt := tYes) (te := tTup (tCons (tTup (Xt.tStar K (tVar 1) (tCons (tVar 5) tNil))) (tCons (tCall (spNA K) [] E0 (tCons (tOp (rIxT K) (tVar 0) (tVar 5)) (tCons (tVar 2) tNil))) tNil))) (by rfl) scLongerByOne.nd rfl rfl (sw_true rfl rfl rfl (by decide +kernel)) (pi_range2 (by rfl) T.range (pa_cons (pv 3) (pa_cons (pe_callB call_len_seq (by rfl) T.len PySem.boot_len (pa_cons (pv 0) pa_nil)) pa_nil))) (blkOk_by (own := [("number", 5)]) (N := ["held", "discs", "missing", "first", "longer", "number", "choice", "rest"]) (sc := defScope sLongerByOne) (by decide +kernel)) (fun _ _ _ _ _ => pg_name (i := 5) scLongerByOne.nd rfl (.inl rfl)) (fun _ _ _ _ _ => pts_nil) (fun _ _ _ _ _ => pe_tup (pa_cons (pe_tup (Xt.pa_star (pv 1) (pa_cons (pv 5) pa_nil))) (pa_cons (pe_ca cNA hr (by decide) (by rfl) (pa_cons (pe_ix ix_tup (pv 0) (pv 5) (fun _ _ => rfl)) (pa_cons (pv 2) pa_nil))) pa_nil))))
      (pss_one (ps_ret (pe_lc (own := [("choice", 6), ("rest", 7)]) (g := (gTup K 2 (gCons (gName 6) (gCons (gName 7) gNil)))) (tt := tTest (tOp (rI0 fun i j => V.bl (decide (i < j))) (tCB (rLn K) (tCons (tVar 7) tNil)) (tCB (rLn K) (tCons (tVar 2) tNil)))) (by rfl) scLongerByOne.nd (pi_list (pv 4)) (blkOk_by (own := [("choice", 6), ("rest", 7)]) (N := ["held", "discs", "missing", "first", "longer", "number", "choice", "rest"]) (sc := defScope sLongerByOne) (by decide +kernel)) (fun _ _ _ _ _ => pg_tup (by rfl) (pgs_cons (pg_name (i := 6) scLongerByOne.nd rfl (.inl rfl)) (pgs_cons (pg_name (i := 7) scLongerByOne.nd rfl (.inl rfl)) pgs_nil))) (fun _ _ _ _ _ => (pts_one (pt_cmpR op_lt (pe_callB call_len_seq (by rfl) T.len PySem.boot_len (pa_cons (pv 7) pa_nil)) (pe_callB call_len_seq (by rfl) T.len PySem.boot_len (pa_cons (pv 2) pa_nil)) (nomark _)))) (fun _ _ _ _ _ => pe_tup (pa_cons (pv 6) (pa_cons (pv 7) pa_nil)))))))), ?_⟩
    have lh := hl.len
    refine ⟨fun σ Hi => σ = [some (.ref a), some (.ref b), some (.ref m), some (.int (P56.first d : Nat)), none, none, none, none] ∧ Hi = H, ?_, ?_⟩
    · refine ⟨_, rfl, b, _, rfl, .inr (SqT.of eb), _, 0, rfl, rfl, _, rfl, ite2 (fun e => ?_) (fun e => ?_)⟩
      · have l0 : 0 < d.length := by
          have : ((0 : Int) < (((P56.toI d).map V.int).length : Int)) := of_decide_eq_true e
          rw [List.length_map] at this
          unfold P56.toI at this
          rw [List.length_map] at this
          omega
        have ec := (List.dropLast_concat_getLast (l := d) (by intro z; rw [z] at l0; simp at l0)).symm
        generalize d.dropLast = d' at ec
        generalize d.getLast _ = k at ec
        subst ec
        have at1 : atI ((P56.toI (d' ++ [k])).map V.int) (-1) = some (.int (k : Nat)) := by
          unfold P56.toI
          rw [List.map_append, List.map_append]
          exact atI_last _ _
        refine ⟨_, rfl, 1, rfl, b, _, -1, _, rfl, rfl, SqT.of eb, at1, _, 1, rfl, rfl, ?_⟩
        have ef : P56.first (d' ++ [k]) = k + 1 := by
          unfold P56.first
          simp
        rw [ef]
        exact ⟨rfl, rfl⟩
      · have l0 : d = [] := by
          refine List.eq_nil_of_length_eq_zero ?_
          have : ¬ ((0 : Int) < (((P56.toI d).map V.int).length : Int)) := fun z => e (decide_eq_true z)
          rw [List.length_map] at this
          unfold P56.toI at this
          rw [List.length_map] at this
          omega
        subst l0
        exact ⟨rfl, rfl⟩
    rintro σ Hi ⟨rfl, rfl⟩
    have fn : (P56.first d : Int) ≤ 12 := by omega
    refine ⟨_, rfl, _, rfl, a, xs, rfl, .inr (SqT.of ea), _, _, rfl, ⟨by omega, by omega, by omega, by omega⟩, fun D nD => ?_⟩
    refine lc_range (fun i Hj => L2.Same Hi Hj ∧ ∃ zs, Hj D = some (.lst zs) ∧ ChL Hj zs ((List.range' (P56.first d) i).map fun k => (d ++ [k], P56.rest (hs.getD k []) ms))) ⟨same_upd nD, [], upd_same, .nil⟩ ?_ ?_
    · rintro i Hj hi ⟨sm, zs, eD, cz⟩
      have hk : P56.first d + i < hs.length := by omega
      obtain ⟨tk, etk, eTk⟩ := hl.get hk
      have lz := cz.len
      rw [List.length_map, List.length_range'] at lz
      refine ⟨rfl, ?_⟩
      unfold tYes
      refine iteT ⟨_, rfl, b, _, rfl, SqT.of (sm _ _ eb), _, rfl, ?_, fun p np => ?_⟩
      · unfold P56.toI
        rw [List.length_append, List.length_map, List.length_map]
        exact Nat.le_trans (show d.length + 1 ≤ 100 by omega) (by decide)
      have s1 := same_upd np (o := .tup ((P56.toI d).map V.int ++ [.int (((P56.first d : Nat) : Int) + (i : Nat))]))
      refine ⟨_, rfl, _, rfl, a, _, _, .ref tk, rfl, rfl, SqT.of (s1 _ _ (sm _ _ ea)), atI_nat (j := P56.first d + i) etk, _, rfl, ?_⟩
      refine ⟨tk, m, _, ms, rfl, s1 _ _ (sm _ _ eTk), s1 _ _ (sm _ _ em), l20, fun t Ht st et => ?_⟩
      refine ⟨(by show 2 ≤ sizeLine; decide), fun r nr => ?_⟩
      have s2 := same_upd nr (o := .tup [.ref p, .ref t])
      have sA := (s1.trans st).trans s2
      have D1 := sA _ _ eD
      refine ⟨_, D1, ?_, fun c o e => ?_, zs ++ [.ref r], upd_same, ?_⟩
      · rw [lz]
        exact Nat.lt_of_le_of_lt (show i ≤ 100 by omega) (by decide)
      · rw [upd_ne (ne_of_none e nD)]
        exact sA _ _ (sm _ _ e)
      · have kp : ∀ b ys, (upd Ht r (.tup [.ref p, .ref t])) b = some (.tup ys) → (upd (upd Ht r (.tup [.ref p, .ref t])) D (.lst (zs ++ [.ref r]))) b = some (.tup ys) := fun b ys e => by
          rw [upd_ne (fun z => by rw [z, D1] at e; cases e)]
          exact e
        rw [List.range'_concat, List.map_append, Nat.one_mul]
        refine ChL.snoc ((cz.same sA).keep kp) (kp _ _ upd_same) (kp _ _ (s2 _ _ (st _ _ (by rw [upd_same]; unfold P56.toI; rw [List.map_append, List.map_append]; rfl)))) (kp _ _ (s2 _ _ ?_))
        rw [et]
        simp [List.getD_eq_getElem?_getD, hk]
    rintro H1 ⟨sm, zs, eD, cz⟩
    have ei : (((xs.length : Nat) : Int) - ((P56.first d : Nat) : Int)).toNat = hs.length - P56.first d := by omega
    rw [ei] at cz
    clear ei
    generalize hG : ((List.range' (P56.first d) (hs.length - P56.first d)).map fun k => (d ++ [k], P56.rest (hs.getD k []) ms)) = G at cz
    have eS : P56.step hs (d, ms) = G.filter fun q => decide (q.2.length < ms.length) := by rw [← hG]; rfl
    have lG : G.length ≤ 12 := by rw [← hG, List.length_map, List.length_range']; omega
    have lz := cz.len
    refine ⟨_, rfl, D, rfl, ⟨_, SqL.of eD⟩, fun L nL => ?_⟩
    refine lc_list (K := K) (a := D) (xs := zs) (fun i Hj => L2.Same H1 Hj ∧ ∃ ys, Hj L = some (.lst ys) ∧ ChL Hj ys ((G.take i).filter fun q => decide (q.2.length < ms.length))) ⟨same_upd nL, [], upd_same, .nil⟩ (fun i Hj _ z => SqL.of (z.1 _ _ eD)) ?_ ?_
    · rintro i x Hj hx ⟨sj, ys, eL, cy⟩
      obtain ⟨t, c, r, p, rfl, ep, e1, e2, e3⟩ := cz.get hx
      have il : i < zs.length := (List.getElem?_eq_some_iff.mp hx).1
      have ly := cy.len
      have ly2 : ys.length ≤ 12 := by
        rw [ly]
        refine Nat.le_trans (List.length_filter_le _ _) ?_
        rw [List.length_take]; omega
      have tk : (G.take (i + 1)).filter (fun q => decide (q.2.length < ms.length)) = (G.take i).filter (fun q => decide (q.2.length < ms.length)) ++ (if p.2.length < ms.length then [p] else []) := by
        rw [List.take_add_one, ep, List.filter_append]
        by_cases c : p.2.length < ms.length <;> simp [c]
      refine ⟨t, _, rfl, SqT.of (sj _ _ e1), rfl, _, _, rfl, _, _, rfl, rfl, rfl, ?_⟩
      refine ⟨_, rfl, r, _, rfl, .inr (SqT.of (sj _ _ e3)), _, rfl, m, _, rfl, .inr (SqT.of (sj _ _ (sm _ _ em))), _, _, rfl, rfl, _, rfl, ite2 (fun e => ?_) (fun e => ?_)⟩
      · have e' : p.2.length < ms.length := by
          have : ((((p.2.map V.int).length : Nat) : Int) < (((ms.map V.int).length : Nat) : Int)) := of_decide_eq_true e
          rw [List.length_map, List.length_map] at this
          omega
        refine ⟨_, rfl, _, rfl, (by show 2 ≤ sizeLine; decide), fun u nu => ?_⟩
        have s1 := same_upd nu (o := .tup [.ref c, .ref r])
        have L1 := s1 _ _ eL
        refine ⟨_, L1, Nat.lt_of_le_of_lt (show ys.length ≤ 100 by omega) (by decide), fun b o e => ?_, ys ++ [.ref u], upd_same, ?_⟩
        · rw [upd_ne (ne_of_none e nL)]
          exact s1 _ _ (sj _ _ e)
        · have kp : ∀ b zs', (upd Hj u (.tup [.ref c, .ref r])) b = some (.tup zs') → (upd (upd Hj u (.tup [.ref c, .ref r])) L (.lst (ys ++ [.ref u]))) b = some (.tup zs') := fun b zs' e => by
            rw [upd_ne (fun z => by rw [z, L1] at e; cases e)]
            exact e
          rw [tk, if_pos e']
          exact ChL.snoc ((cy.same s1).keep kp) (kp _ _ upd_same) (kp _ _ (s1 _ _ (sj _ _ e2))) (kp _ _ (s1 _ _ (sj _ _ e3)))
      · have e' : ¬ p.2.length < ms.length := by
          have : ¬ ((((p.2.map V.int).length : Nat) : Int) < (((ms.map V.int).length : Nat) : Int)) := fun z => e (decide_eq_true z)
          rw [List.length_map, List.length_map] at this
          omega
        refine ⟨sj, ys, eL, ?_⟩
        rw [tk, if_neg e', List.append_nil]
        exact cy
    · rintro He ⟨se, ys, eL, cy⟩
      rw [lz, List.take_length, ← eS] at cy
      exact q L ys He (sm.trans se) (none_of sm nL) eL cy
end
end K61
set_option Elab.async false
set_option linter.all false
set_option maxRecDepth 100000
set_option maxHeartbeats 4000000
set_option pp.maxSteps 400
set_option pp.deepTerms false
namespace K61
open PySem PySem.Spec PyProof.Rows L2
open Xk Az
section
variable {P : Program} {w : World} {K : PySem.W.Frag} {mg : Str → Option Value} {base : Heap}
def Few (H : Hp) (hs : List (List Int)) (ws : List Int) (t : Addr) : Option Int → Prop
  | some w => H t = some (.tup [.str "lacks", .int w])
  | none => ∃ c cc, P56.Least hs ws c ∧ H cc = some (.tup ((P56.toI c).map V.int)) ∧ H t = some (.tup [.str "fewest", .ref cc])
def spFew : Sp := fun vs H Q _ => ∃ (a b : Addr) (xs : List V) (hs : List (List Int)) (ws : List Int), vs = [.ref a, .ref b] ∧ H a = some (.tup xs) ∧ Hl H xs hs ∧ hs.length ≤ 12 ∧ H b = some (.tup (ws.map V.int)) ∧ ws.length ≤ 20 ∧
  ∀ t H', L2.Same H H' → Few H' hs ws t (P56.lack hs ws) → Q (.ref t) H'
theorem ok_few {f : Addr} {fd : FuncData} (D : Df K mg "fewest_discs" ["held", "wishes"] sFewestDiscs f fd) (T : Txt mg) (cHo : Ca P w K mg base 1 "holders" ["held", "wish"] spHolders) (cLo : Ca P w K mg base 2 "longer_by_one" ["held", "discs", "missing"] spLonger) : FnOk P w K mg base CX0 3 f fd ["held", "wishes"] spFew := by
  refine D.fn.ok scFewestDiscs (fun vs H Q E h => ?_) (fun cdv A outer s H vs Q E hr h => ?_)
  · obtain ⟨a, b, xs, hs, ws, rfl, ea, hl, l12, eb, l20, q⟩ := h
    rfl
  · obtain ⟨a, b, xs, hs, ws, rfl, ea, hl, l12, eb, l20, q⟩ := h
    refine ⟨_, (C8.pss_cut (ps_for PassesOwn.never rfl (pi_tup (pv 1)) (pg_name (i := 2) scFewestDiscs.nd rfl (.inl rfl)) (pss_one (ps_if (pt_cmpR op_eq (pe_callB call_len_seq (by rfl) T.len PySem.boot_len (pa_cons (pe_ca cHo hr (by decide) (by rfl) (pa_cons (pv 0) (pa_cons (pv 2) pa_nil))) pa_nil)) pe_int (nomark _)) (pss_one (ps_ret (pe_tup (pa_cons pe_str (pa_cons (pv 2) pa_nil))))) pss_nil)))
      (pss_cons (ps_set (i := 3) scFewestDiscs.nd rfl (.inl rfl) (pe_lst (pa_cons (pe_tup (pa_cons (pe_tup pa_nil) (pa_cons (pv 1) pa_nil))) pa_nil)))
      (pss_one (ps_while PassesOwn.never (pt_val pe_bl) (C8.pss_cut (ps_for PassesOwn.never rfl (pi_list (pv 3)) (pg_tup (by rfl) (pgs_cons (pg_name (i := 4) scFewestDiscs.nd rfl (.inl rfl)) (pgs_cons (pg_name (i := 5) scFewestDiscs.nd rfl (.inl rfl)) pgs_nil))) (pss_one (ps_if (pt_cmpR op_eq (pe_callB call_len_seq (by rfl) T.len PySem.boot_len (pa_cons (pv 5) pa_nil)) pe_int (nomark _)) (pss_one (ps_ret (pe_tup (pa_cons pe_str (pa_cons (pv 4) pa_nil))))) pss_nil)))
      (pss_one (ps_setLc2 (i := 3) (own := [("discs", 4), ("missing", 5), ("longer", 6)]) (vs1 := [6]) (g := gTup K 2 (gCons (gName 4) (gCons (gName 5) gNil))) (tt := tYes) (wi1 := iList K (tCall spLonger [] E0 (tCons (tVar 0) (tCons (tVar 4) (tCons (tVar 5) tNil))))) (g1 := gName 6) (tt1 := tYes) (te := tVar 6) (by rfl) scFewestDiscs.nd rfl rfl (sw_true rfl rfl rfl (by decide +kernel)) (pi_list (pv 3)) (blkOk_by (own := [("discs", 4), ("missing", 5), ("longer", 6)]) (N := ["held", "wishes", "wish", "choices", "discs", "missing", "longer"]) (sc := defScope sFewestDiscs) (by decide +kernel)) (by decide) (fun _ _ _ _ _ => pg_tup (by rfl) (pgs_cons (pg_name (i := 4) scFewestDiscs.nd rfl (.inl rfl)) (pgs_cons (pg_name (i := 5) scFewestDiscs.nd rfl (.inl rfl)) pgs_nil))) (fun _ _ _ _ _ => pts_nil) (fun _ _ _ _ _ => pi_list (pe_ca cLo hr (by decide) (by rfl) (pa_cons (pv 0) (pa_cons (pv 4) (pa_cons (pv 5) pa_nil))))) (fun _ _ _ _ _ => pg_name (i := 6) scFewestDiscs.nd rfl (.inl rfl)) (fun _ _ _ _ _ => pts_nil) (fun _ _ _ _ _ => pv 6)))))))), ?_⟩
    have lh := hl.len
    refine ⟨fun σ Hi => P56.lack hs ws = none ∧ L2.Same H Hi ∧ ∃ c2, σ = [some (.ref a), some (.ref b), c2, none, none, none, none], ?_, ?_⟩
    · refine ⟨_, rfl, b, rfl, ⟨_, SqT.of eb⟩, ?_⟩
      refine for_tup (K := K) (a := b) (xs := ws.map V.int) (fun i σ Hi => (∀ w ∈ ws.take i, P56.none_holds hs w = false) ∧ L2.Same H Hi ∧ ∃ c2, σ = [some (.ref a), some (.ref b), c2, none, none, none, none]) ⟨by simp, Same.refl H, none, rfl⟩ (fun i σ Hi _ z => SqT.of (z.2.1 _ _ eb)) ?_ ?_
      · rintro i x σ Hi hx ⟨hb, sm, c2, rfl⟩
        rw [List.getElem?_map] at hx
        obtain ⟨g, eg, rfl⟩ := Option.map_eq_some_iff.mp hx
        refine ⟨_, rfl, _, rfl, a, g, xs, hs, rfl, sm _ _ ea, hl.map (fun b ys e => sm _ _ e), l12, fun L ns H1 s1 eL en _ => ?_⟩
        refine ⟨L, _, rfl, .inl (SqL.of eL), rfl, _, rfl, ite2 (fun e => ?_) (fun e => ?_)⟩
        · have z : P56.none_holds hs g = true := by
            unfold P56.none_holds
            rw [← en]
            have : (((ns.map V.int).length : Nat) : Int) = 0 := by simpa [eqV] using e
            rw [List.length_map] at this
            simp
            exact List.eq_nil_of_length_eq_zero (by omega)
          have el : P56.lack hs ws = some g := by
            unfold P56.lack
            have gl : i < ws.length := (List.getElem?_eq_some_iff.mp eg).1
            have eg' : ws[i] = g := (List.getElem?_eq_some_iff.mp eg).2
            rw [List.find?_eq_some_iff_append]
            refine ⟨z, ws.take i, ws.drop (i + 1), ?_, fun w hw => by rw [hb w hw]; rfl⟩
            rw [← eg', ← List.drop_eq_getElem_cons gl, List.take_append_drop]
          refine ⟨_, rfl, (by show 2 ≤ sizeLine; decide), fun t nt => ?_⟩
          have := q t _ ((sm.trans s1).trans (same_upd nt (o := .tup [.str "lacks", .int g])))
          rw [el] at this
          exact this upd_same
        · refine ⟨fun w hw => ?_, sm.trans s1, _, rfl⟩
          rw [List.take_add_one, eg, List.mem_append] at hw
          rcases hw with hw | hw
          · exact hb w hw
          · have : w = g := by simpa using hw
            subst this
            unfold P56.none_holds
            rw [← en]
            have : ¬ ((((ns.map V.int).length : Nat) : Int) = 0) := by simpa [eqV] using e
            rw [List.length_map] at this
            cases ns with
            | nil => simp at this
            | cons _ _ => rfl
      · rintro σ Hi ⟨hb, sm, z⟩
        rw [List.length_map, List.take_length] at hb
        refine ⟨?_, sm, z⟩
        unfold P56.lack
        rw [List.find?_eq_none]
        intro w hw
        rw [hb w hw]
        exact Bool.false_ne_true
    rintro σ H1 ⟨lk, s1, c2, rfl⟩
    obtain ⟨c, hc⟩ := P56.least_ex (held := hs) (ws := ws) (by omega) (P56.lack_none lk)
    have lc := hc.len
    rw [lk] at q
    refine ⟨(by show 0 ≤ sizeLine; decide), fun p0 n0 => ⟨_, rfl, (by show 2 ≤ sizeLine; decide), fun p1 n1 => ⟨(by show 1 ≤ sizeLine; decide), fun L0 nL0 => ?_⟩⟩⟩
    have t0 := same_upd n0 (o := .tup [])
    have t1 := same_upd n1 (o := .tup [.ref p0, .ref b])
    have t2 := same_upd nL0 (o := .lst [.ref p1])
    have s2 := s1.trans ((t0.trans t1).trans t2)
    refine ⟨fun m σ Hi => ∃ i L zs c2 c4 c5, m = c.length - i ∧ i ≤ c.length ∧ σ = [some (.ref a), some (.ref b), c2, some (.ref L), c4, c5, none] ∧ L2.Same H Hi ∧ Hi L = some (.lst zs) ∧ ChL Hi zs (P56.level hs ws i), ⟨_, 0, L0, [.ref p1], _, _, _, rfl, Nat.zero_le _, rfl, s2, upd_same, ?_⟩, ?_⟩
    · exact .cons (t2 _ _ upd_same) (t2 _ _ (t1 _ _ upd_same)) (s2 _ _ eb) .nil
    rintro m σ Hi ⟨i, L, zs, c2, c4, c5, rfl, hi, rfl, sm, eL, cz⟩
    have lz := cz.len
    have lz2 : zs.length ≤ 4096 := by
      rw [lz]
      exact Nat.le_trans (P56.lev_len i) (show 2 ^ hs.length ≤ 2 ^ 12 from Nat.pow_le_pow_right (by decide) l12)
    refine ⟨_, rfl, iteT ?_⟩
    refine ⟨fun σ' H' => ∃ m', m' < c.length - i ∧ ∃ i' L' zs' c2 c4 c5, m' = c.length - i' ∧ i' ≤ c.length ∧ σ' = [some (.ref a), some (.ref b), c2, some (.ref L'), c4, c5, none] ∧ L2.Same H H' ∧ H' L' = some (.lst zs') ∧ ChL H' zs' (P56.level hs ws i'), fun σ' H' z => z, ?_⟩
    refine ⟨fun σ' H' => i < c.length ∧ H' = Hi ∧ ∃ c4 c5, σ' = [some (.ref a), some (.ref b), c2, some (.ref L), c4, c5, none], ?_, ?_⟩
    · refine ⟨_, rfl, L, rfl, ⟨_, SqL.of eL⟩, ?_⟩
      refine for_list (K := K) (a := L) (xs := zs) (fun j σ Hj => Hj = Hi ∧ (∀ p ∈ (P56.level hs ws i).take j, p.2.length ≠ 0) ∧ ∃ c4 c5, σ = [some (.ref a), some (.ref b), c2, some (.ref L), c4, c5, none]) ⟨rfl, by simp, _, _, rfl⟩ (fun j σ Hj _ z => by rw [z.1]; exact SqL.of eL) ?_ ?_
      · rintro j x σ Hj hx ⟨rfl, hb, d4, d5, rfl⟩
        obtain ⟨t, cc, r, p, rfl, ep, e1, e2, e3⟩ := cz.get hx
        refine ⟨t, _, rfl, SqT.of e1, rfl, _, _, rfl, _, _, rfl, rfl, ?_⟩
        refine ⟨_, rfl, r, _, rfl, .inr (SqT.of e3), rfl, _, rfl, ite2 (fun e => ?_) (fun e => ?_)⟩
        · have e0 : p.2.length = 0 := by
            have : (((p.2.map V.int).length : Nat) : Int) = 0 := by simpa [eqV] using e
            rw [List.length_map] at this
            omega
          have hit : P56.hit (P56.level hs ws i) = some p := by
            unfold P56.hit
            have gl : j < (P56.level hs ws i).length := (List.getElem?_eq_some_iff.mp ep).1
            have eg' : (P56.level hs ws i)[j] = p := (List.getElem?_eq_some_iff.mp ep).2
            rw [List.find?_eq_some_iff_append]
            refine ⟨by simpa using e0, (P56.level hs ws i).take j, (P56.level hs ws i).drop (j + 1), ?_, fun w hw => by simpa using hb w hw⟩
            rw [← eg', ← List.drop_eq_getElem_cons gl, List.take_append_drop]
          have ei : i = c.length := by
            rcases Nat.lt_or_ge i c.length with z | z
            · rw [hc.not_before z] at hit; cases hit
            · omega
          subst ei
          rw [hc.hits] at hit
          obtain rfl := (Option.some.inj hit)
          refine ⟨_, rfl, (by show 2 ≤ sizeLine; decide), fun t2 nt => ?_⟩
          have st := same_upd nt (o := .tup [.str "fewest", .ref cc])
          exact q t2 _ (sm.trans st) ⟨c, cc, hc, st _ _ e2, upd_same⟩
        · refine ⟨rfl, fun w hw => ?_, _, _, rfl⟩
          rw [List.take_add_one, ep, List.mem_append] at hw
          rcases hw with hw | hw
          · exact hb w hw
          · have : w = p := by simpa using hw
            subst this
            have : ¬ ((((w.2.map V.int).length : Nat) : Int) = 0) := by simpa [eqV] using e
            rw [List.length_map] at this
            omega
      · rintro σ Hj ⟨rfl, hb, z⟩
        rw [lz, List.take_length] at hb
        refine ⟨?_, rfl, z⟩
        rcases Nat.lt_or_ge i c.length with z | z
        · exact z
        · have ei : i = c.length := by omega
          subst ei
          have h1 := hc.hits
          unfold P56.hit at h1
          exact absurd rfl (hb _ (List.mem_of_find?_eq_some h1))
    rintro σ H2 ⟨ilt, rfl, d4, d5, rfl⟩
    refine ⟨_, rfl, L, rfl, ⟨_, SqL.of eL⟩, fun D nD => ?_⟩
    have mono2 : ∀ {j : Nat} {p : List Nat × List Int}, (P56.level hs ws i)[j]? = some p → P56.first p.1 ≤ hs.length ∧ p.1.length ≤ hs.length ∧ p.2.length ≤ ws.length := fun e => P56.lev_first (List.mem_of_getElem? e)
    have small : ∀ k, ((P56.level hs ws i).take k).flatMap (P56.step hs) <+: P56.level hs ws (i + 1) := fun k => by
      rw [P56.level]
      refine ⟨((P56.level hs ws i).drop k).flatMap (P56.step hs), ?_⟩
      rw [← List.flatMap_append, List.take_append_drop]
    have lev1 : (P56.level hs ws (i + 1)).length ≤ 4096 := Nat.le_trans (P56.lev_len (i + 1)) (show 2 ^ hs.length ≤ 2 ^ 12 from Nat.pow_le_pow_right (by decide) l12)
    refine ⟨fun j m Hj => m = zs.length - j ∧ j ≤ zs.length ∧ L2.Same H2 Hj ∧ ∃ ys, Hj D = some (.lst ys) ∧ ChL Hj ys (((P56.level hs ws i).take j).flatMap (P56.step hs)), ⟨_, rfl, Nat.zero_le _, same_upd nD, [], upd_same, .nil⟩, ?_⟩
    rintro j m Hj ⟨rfl, hj, sj, ys, eD, cy⟩
    by_cases hlt : j < zs.length
    · refine .inr ⟨⟨zs, zs[j], SqL.of (sj _ _ eL), List.getElem?_eq_getElem hlt⟩, fun Hk => (L2.Same H2 Hk ∧ ∃ ys, Hk D = some (.lst ys) ∧ ChL Hk ys (((P56.level hs ws i).take (j + 1)).flatMap (P56.step hs))), fun H' z => ⟨zs.length - (j + 1), by omega, rfl, hlt, z⟩, ?_⟩
      rintro x Hx ⟨rfl, hx⟩
      have hx' := hx zs (SqL.of (sj _ _ eL))
      obtain ⟨t, cc, r, p, rfl, ep, e1, e2, e3⟩ := cz.get hx'
      obtain ⟨f1, f2, f3⟩ := mono2 ep
      refine ⟨t, _, rfl, SqT.of (sj _ _ e1), rfl, _, _, rfl, _, _, rfl, rfl, rfl, ?_⟩
      unfold tYes
      refine iteT ⟨_, rfl, _, rfl, _, rfl, a, cc, r, xs, hs, p.1, p.2, rfl, sj _ _ (sm _ _ ea), hl.map (fun b ys e => sj _ _ (sm _ _ e)), l12, sj _ _ e2, by omega, by omega, sj _ _ e3, by omega, fun L1 z1 H4 s4 nL1 eL1 c1 => ?_⟩
      refine ⟨L1, rfl, ⟨_, SqL.of eL1⟩, ?_⟩
      have eD4 := s4 _ _ eD
      have L1D : L1 ≠ D := fun z => by rw [z, eD] at nL1; cases nL1
      replace c1 : ChL H4 z1 (P56.step hs p) := c1
      have lz1 := c1.len
      have tk : ((P56.level hs ws i).take (j + 1)).flatMap (P56.step hs) = ((P56.level hs ws i).take j).flatMap (P56.step hs) ++ P56.step hs p := by
        rw [List.take_add_one, ep, List.flatMap_append]
        simp
      have ly := cy.len
      have bound : ys.length + z1.length ≤ 4096 := by
        have := (small (j + 1)).length_le
        rw [tk, List.length_append] at this
        omega
      refine ⟨fun k n Hk => n = z1.length - k ∧ k ≤ z1.length ∧ L2.Same H2 Hk ∧ Hk L1 = some (.lst z1) ∧ Hk D = some (.lst (ys ++ z1.take k)) ∧ ChL Hk ys (((P56.level hs ws i).take j).flatMap (P56.step hs)) ∧ ChL Hk z1 (P56.step hs p), ⟨_, rfl, Nat.zero_le _, sj.trans s4, eL1, by rw [List.take_zero, List.append_nil]; exact eD4, cy.same s4, c1⟩, ?_⟩
      rintro k n Hk ⟨rfl, hk, sk, eLk, eDk, ck, dk⟩
      by_cases klt : k < z1.length
      · refine .inr ⟨⟨z1, z1[k], SqL.of eLk, List.getElem?_eq_getElem klt⟩, fun Hm => L2.Same H2 Hm ∧ Hm L1 = some (.lst z1) ∧ Hm D = some (.lst (ys ++ z1.take (k + 1))) ∧ ChL Hm ys (((P56.level hs ws i).take j).flatMap (P56.step hs)) ∧ ChL Hm z1 (P56.step hs p), fun H' z => ⟨z1.length - (k + 1), by omega, rfl, klt, z⟩, ?_⟩
        rintro x Hx ⟨rfl, hx⟩
        have hx' := hx z1 (SqL.of eLk)
        refine ⟨rfl, iteT ⟨_, rfl, _, eDk, ?_, ?_⟩⟩
        · rw [List.length_append, List.length_take]
          exact Nat.lt_of_le_of_lt (show ys.length + min k z1.length ≤ 5000 by omega) (by decide)
        · have kp : ∀ b zs', Hx b = some (.tup zs') → (upd Hx D (.lst (ys ++ z1.take k ++ [x]))) b = some (.tup zs') := fun b zs' e => by
            rw [upd_ne (fun z => by rw [z, eDk] at e; cases e)]
            exact e
          refine ⟨fun b o e => ?_, ?_, ?_, ck.keep kp, dk.keep kp⟩
          · rw [upd_ne (ne_of_none e nD)]
            exact sk _ _ e
          · rw [upd_ne L1D]
            exact eLk
          · rw [upd_same, List.take_add_one, hx', List.append_assoc]
            rfl
      · have ek : k = z1.length := by omega
        subst ek
        rw [List.take_length] at eDk
        refine .inl ⟨⟨z1, SqL.of eLk, Nat.le_refl _⟩, sk, _, eDk, ?_⟩
        rw [tk]
        exact ck.app dk
    · have ej : j = zs.length := by omega
      subst ej
      rw [lz, List.take_length] at cy
      refine .inl ⟨⟨zs, SqL.of (sj _ _ eL), Nat.le_refl _⟩, ?_⟩
      exact ⟨c.length - (i + 1), by omega, i + 1, D, ys, _, _, _, rfl, ilt, rfl, sm.trans sj, eD, cy⟩
end
end K61
set_option Elab.async false
set_option linter.all false
set_option maxRecDepth 100000
set_option maxHeartbeats 4000000
set_option pp.maxSteps 400
set_option pp.deepTerms false
namespace K61
open PySem PySem.Spec PyProof.Rows L2
open Xk Az
section
variable {P : Program} {w : World} {K : PySem.W.Frag} {mg : Str → Option Value} {base : Heap}
theorem pw2 (n : Nat) : (2 : Int) ^ n = ((2 ^ n : Nat) : Int) := by
  rw [Int.natCast_pow]
  rfl
theorem bitI (t lo : Nat) : (0 + (t : Int)) / 2 ^ lo % 2 ^ 1 = ((if t.testBit lo = true then 1 else 0 : Nat) : Int) := by
  rw [Int.zero_add, pw2, show ((2 : Int) ^ 1) = ((2 : Nat) : Int) from rfl, ← Int.natCast_ediv, ← Int.natCast_emod, Nat.testBit_eq_decide_div_mod_eq]
  by_cases c : t / 2 ^ lo % 2 = 1
  · simp [c]
  · have : t / 2 ^ lo % 2 = 0 := by omega
    simp [this]
theorem bitI' (t lo : Nat) : (t : Int) / 2 ^ lo % 2 ^ 1 = ((if t.testBit lo = true then 1 else 0 : Nat) : Int) := by
  have := bitI t lo
  rw [Int.zero_add] at this
  exact this
/-- the best so far -/
def BV (H : Hp) (bv : V) : Option P56.Pr → Prop
  | none => bv = .non
  | some p => ∃ q r, bv = .ref q ∧ H q = some (.tup [.int p.1, .ref r]) ∧ H r = some (.tup (p.2.map V.int))
theorem BV.keep {H H' : Hp} {bv : V} {o : Option P56.Pr} (h : BV H bv o) (k : ∀ b ys, H b = some (.tup ys) → H' b = some (.tup ys)) : BV H' bv o := by
  cases o with
  | none => exact h
  | some p =>
    obtain ⟨q, r, e1, e2, e3⟩ := h
    exact ⟨q, r, e1, k _ _ e2, k _ _ e3⟩
theorem dz_ints {H : Hp} : ∀ ns : List Int, DzAll K H (ns.map V.int) (ns.map PyData.int)
  | [] => .nil
  | n :: r => .cons (.int n) (dz_ints r)
theorem BV.dz {H : Hp} {bv : V} {p : P56.Pr} (h : BV H bv (some p)) : Dz K H bv (Xt.pairD p) := by
  obtain ⟨q, r, rfl, e1, e2⟩ := h
  exact .tup e1 (.cons (.int _) (.cons (.tup e2 (dz_ints _)) .nil))
/-- the least choice, as it is told -/
def LV (H : Hp) (hs : List (List Int)) (ws : List Int) (lv : V) : Prop := (∃ w, P56.lack hs ws = some w ∧ lv = .non) ∨ ∃ c cc, P56.Least hs ws c ∧ lv = .ref cc ∧ H cc = some (.tup ((P56.toI c).map V.int))
theorem LV.keep {H H' : Hp} {hs : List (List Int)} {ws : List Int} {lv : V} (h : LV H hs ws lv) (k : ∀ b ys, H b = some (.tup ys) → H' b = some (.tup ys)) : LV H' hs ws lv := by
  rcases h with h | ⟨c, cc, h1, h2, h3⟩
  · exact .inl h
  · exact .inr ⟨c, cc, h1, h2, k _ _ h3⟩
def spLeast : Sp := fun vs H Q _ => ∃ (a b : Addr) (xs : List V) (hs : List (List Int)) (ws : List Int), vs = [.ref a, .ref b] ∧ H a = some (.tup xs) ∧ Hl H xs hs ∧ hs.length ≤ 12 ∧ H b = some (.tup (ws.map V.int)) ∧ ws.length ≤ 20 ∧ 
  ∀ lv H', L2.Same H H' → LV H' hs ws lv → Q lv H'
theorem ok_least {f : Addr} {fd : FuncData} (D : Df K mg "_law_least" ["_law_held_here", "_law_wishes_here"] sLeast f fd) (T : Txt mg) : FnOk P w K mg base CX0 2 f fd ["_law_held_here", "_law_wishes_here"] spLeast := by
  refine D.fn.ok scLeast (fun vs H Q E h => ?_) (fun cdv A outer s H vs Q E hr h => ?_)
  · obtain ⟨a, b, xs, hs, ws, rfl, ea, hl, l12, eb, l20, q⟩ := h
    rfl
  · obtain ⟨a, b, xs, hs, ws, rfl, ea, hl, l12, eb, l20, q⟩ := h
    refine ⟨_, (pss_cons (ps_set (i := 2) scLeast.nd rfl (.inl rfl) (pe_lst pa_nil))
      (C8.pss_cut (ps_for PassesOwn.never rfl (pi_tup (pv 0)) (pg_name (i := 3) scLeast.nd rfl (.inr rfl)) (pss_one (ps_expr (pe_bm PySem.F.plainAttrs_list PySem.F.slot_list_append PySem.F.type_list_append mt_append (pv 2) (pa_cons (pe_callB (cr_sum (by rfl)) (by rfl) T.sum (by decide +kernel) (pa_cons (pe_lc (own := [("_law_k", 9)]) (g := gName 9) (tt := tTest (tOp (rIn K false) (tOp (rIxT K) (tVar 1) (tVar 9)) (tVar 3))) (by rfl) scLeast.nd (pi_range1 (by rfl) T.range (pa_cons (pe_callB call_len_seq (by rfl) T.len PySem.boot_len (pa_cons (pv 1) pa_nil)) pa_nil)) (blkOk_by (own := [("_law_k", 9)]) (N := ["_law_held_here", "_law_wishes_here", "_law_bits", "_law_things", "_law_best", "_law_told", "_law_code", "_law_low", "_law_choice", "_law_k"]) (sc := defScope sLeast) (by decide +kernel)) (fun _ _ _ _ _ => pg_name (i := 9) scLeast.nd rfl (.inl rfl)) (fun _ _ _ _ _ => (pts_one (pt_cmpR op_in_seq (pe_ix ix_tup (pv 1) (pv 9) (fun _ _ => rfl)) (pv 3) (by rfl)))) (fun _ _ _ _ _ => pe_op op_oneShl pe_int (pv 9))) pa_nil)) pa_nil)))))
      (pss_cons (ps_par (i := 4) (j := 5) (by rfl) scLeast.nd rfl rfl (by decide) rfl rfl (pa_cons pe_non (pa_cons (pe_op op_rep (pe_lst (pa_cons pe_int pa_nil)) (pe_op op_oneShl pe_int (pe_callB call_len_seq (by rfl) T.len PySem.boot_len (pa_cons (pv 0) pa_nil)))) pa_nil)) (by rfl))
      (pss_cons (ps_for PassesOwn.never rfl (pi_range1 (by rfl) T.range (pa_cons (pe_op op_oneShl pe_int (pe_callB call_len_seq (by rfl) T.len PySem.boot_len (pa_cons (pv 0) pa_nil))) pa_nil)) (pg_name (i := 6) scLeast.nd rfl (.inr rfl)) (pss_cons (ps_set (i := 7) scLeast.nd rfl (.inl rfl) pe_int)
      (C8.pss_cut (ps_while PassesOwn.never (PW.pt (pw_and (pt_cmpR op_lt (pv 7) (pe_callB call_len_seq (by rfl) T.len PySem.boot_len (pa_cons (pv 0) pa_nil)) (nomark _)) (pw_and1 (pt_cmpR op_eq (pe_op op_andM (pe_op op_shrN (pv 6) (pv 7)) pe_int) pe_int (nomark _))))) (pss_one (ps_set (i := 7) scLeast.nd rfl (.inl rfl) (pe_op op_add (pv 7) pe_int))))
      (C8.pss_cut (ps_if (pt_cmpR op_lt (pv 7) (pe_callB call_len_seq (by rfl) T.len PySem.boot_len (pa_cons (pv 0) pa_nil)) (nomark _)) (pss_one (ps_asg (pe_op op_or (pe_ix ix_list (pv 5) (pe_op op_and (pv 6) (pe_op op_sub (pv 6) pe_int)) (fun _ _ => rfl)) (pe_ix ix_list (pv 2) (pv 7) (fun _ _ => rfl))) (pg_sub (pv 5) (pv 6) set_list))) pss_nil)
      (pss_one (ps_if (pt_cmpR op_eq (pe_ix ix_list (pv 5) (pv 6) (fun _ _ => rfl)) (pe_op op_sub (pe_op op_oneShl pe_int (pe_callB call_len_seq (by rfl) T.len PySem.boot_len (pa_cons (pv 1) pa_nil))) pe_int) (nomark _)) (pss_cons (ps_set (i := 8) scLeast.nd rfl (.inl rfl) (pe_callTy call_tuple_of (by rfl) T.tuple (by decide +kernel) (pa_cons (pe_lc (own := [("_law_k", 9)]) (g := gName 9) (by rfl) scLeast.nd (pi_range1 (by rfl) T.range (pa_cons (pe_callB call_len_seq (by rfl) T.len PySem.boot_len (pa_cons (pv 0) pa_nil)) pa_nil)) (blkOk_by (own := [("_law_k", 9)]) (N := ["_law_held_here", "_law_wishes_here", "_law_bits", "_law_things", "_law_best", "_law_told", "_law_code", "_law_low", "_law_choice", "_law_k"]) (sc := defScope sLeast) (by decide +kernel)) (fun _ _ _ _ _ => pg_name (i := 9) scLeast.nd rfl (.inl rfl)) (fun _ _ _ _ _ => (pts_one (pt_cmpR op_eq (pe_op op_andM (pe_op op_shrN (pv 6) (pv 9)) pe_int) pe_int (nomark _)))) (fun _ _ _ _ _ => pv 9)) pa_nil)))
      (pss_one (ps_set (i := 4) scLeast.nd rfl (.inl rfl) (pe_callB (Xt.cr_min2Z (by rfl) hr) (by rfl) T.min (by decide +kernel) (pa_cons (pe_orT (pv 4) (pe_one (pe_tup (pa_cons pe_int (pa_cons (pe_tup pa_nil) pa_nil))))) (pa_cons (pe_tup (pa_cons (pe_callB call_len_seq (by rfl) T.len PySem.boot_len (pa_cons (pv 8) pa_nil)) (pa_cons (pv 8) pa_nil))) pa_nil)))))) pss_nil))))))
      (pss_one (ps_ret (pe_ifExp (pt_cmpR op_isN (pv 4) pe_non (nomark _)) pe_non (pe_ix ix_tup (pv 4) pe_int (fun _ _ => rfl))))))))), ?_⟩
    have lh := hl.len
    refine ⟨(by show 0 ≤ sizeLine; decide), fun B nB => ?_⟩
    have tB := same_upd nB (o := .lst [])
    refine ⟨fun σ Hi => ∃ c3, σ = [some (.ref a), some (.ref b), some (.ref B), c3, none, none, none, none, none, none] ∧ L2.Same H Hi ∧ Hi B = some (.lst ((List.range hs.length).map fun k => V.int (P56.bits hs ws k : Nat))), ?_, ?_⟩
    · refine ⟨_, rfl, a, rfl, ⟨_, SqT.of (tB _ _ ea)⟩, ?_⟩
      refine for_tup (K := K) (a := a) (xs := xs) (fun i σ Hi => ∃ c3, σ = [some (.ref a), some (.ref b), some (.ref B), c3, none, none, none, none, none, none] ∧ L2.Same H Hi ∧ Hi B = some (.lst ((List.range i).map fun k => V.int (P56.bits hs ws k : Nat)))) ⟨none, rfl, tB, upd_same⟩ (fun i σ Hi _ z => by obtain ⟨_, _, s, _⟩ := z; exact SqT.of (s _ _ ea)) ?_ ?_
      · rintro i x σ Hi hx ⟨c3, rfl, sm, eB⟩
        have il : i < hs.length := by have := (List.getElem?_eq_some_iff.mp hx).1; omega
        obtain ⟨tk, etk, eTk⟩ := hl.get il
        obtain rfl : V.ref tk = x := Option.some.inj (etk.symm.trans hx)
        refine ⟨_, rfl, .inl ⟨rfl, _, SqL.of eB⟩, _, rfl, b, _, rfl, .inr (SqT.of (sm _ _ eb)), _, rfl, by omega, by rw [List.length_map]; omega, fun D nD => ?_⟩
        refine lc_range (lo := 0) (fun k Hj => L2.Same Hi Hj ∧ ∃ ns : List Int, Hj D = some (.lst (ns.map V.int)) ∧ ns.length ≤ k ∧ ns.sum = ((P56.bitsTo hs ws i k : Nat) : Int)) ⟨same_upd nD, [], upd_same, Nat.le_refl _, rfl⟩ ?_ ?_
        · rintro k Hj hk ⟨sj, ns, eD, ln, en⟩
          have kl : k < ws.length := by rw [List.length_map] at hk; omega
          have e9 : P56.on hs i (ws.getD k 0) = inV (.int ws[k]) ((hs[i]).map V.int) := by
            rw [inV_ints]
            unfold P56.on
            simp [List.getD_eq_getElem?_getD, il, kl]
          refine ⟨rfl, ?_⟩
          refine ⟨_, rfl, _, rfl, b, _, _, .int ws[k], rfl, rfl, SqT.of (sj _ _ (sm _ _ eb)), ?_, _, rfl, tk, _, rfl, .inr (SqT.of (sj _ _ (sm _ _ eTk))), rfl, flat_ints _, ?_⟩
          · rw [show (0 : Int) + (k : Int) = ((k : Nat) : Int) by omega]
            exact atI_nat (by rw [List.getElem?_map, List.getElem?_eq_getElem kl]; rfl)
          refine ⟨_, rfl, ite2 (fun e => ?_) (fun e => ?_)⟩
          · have e' : inV (.int ws[k]) ((hs[i]).map V.int) = true := by simpa using e
            refine ⟨_, rfl, k, rfl, by rw [show (0 : Int) + (k : Int) = ((k : Nat) : Int) by omega], by omega, _, eD, ?_, fun c o q => ?_, ns ++ [2 ^ k], by rw [upd_same, List.map_append]; rfl, by rw [List.length_append]; exact Nat.add_le_add_right ln 1, ?_⟩
            · rw [List.length_map]
              exact Nat.lt_of_le_of_lt (show ns.length ≤ 1000 by omega) (by decide)
            · rw [upd_ne (ne_of_none q nD)]
              exact sj _ _ q
            · rw [List.sum_append, en, P56.bitsTo, e9, e', if_pos rfl]
              simp
          · have e' : inV (.int ws[k]) ((hs[i]).map V.int) = false := by simpa using e
            refine ⟨sj, ns, eD, Nat.le_succ_of_le ln, ?_⟩
            rw [en, P56.bitsTo, e9, e', if_neg Bool.false_ne_true, Nat.add_zero]
        · rintro Hj ⟨sj, ns, eD, ln, en⟩
          have e0 : ns.sum = ((P56.bits hs ws i : Nat) : Int) := by
            rw [en]
            unfold P56.bits
            rw [List.length_map, Int.toNat_natCast]
          refine ⟨D, ns, rfl, SqL.of eD, ?_⟩
          rw [e0]
          refine ⟨B, _, _, rfl, rfl, sj _ _ eB, ?_, _, rfl, fun c o q => ?_, ?_⟩
          · rw [List.length_map, List.length_range]
            exact Nat.lt_of_le_of_lt (show i ≤ 1000 by omega) (by decide)
          · rw [upd_ne (ne_of_none q nB)]
            exact sj _ _ (sm _ _ q)
          · rw [upd_same, List.range_succ, List.map_append]
            rfl
      · rintro σ Hi z
        rw [lh] at z
        exact z
    rintro σ H1 ⟨c3, rfl, s1, eB⟩
    have n12 : 2 ^ hs.length ≤ 4096 := Nat.le_trans (Nat.pow_le_pow_right (by decide) l12 : 2 ^ hs.length ≤ 2 ^ 12) (by decide)
    have pb : (0 : Int) ≤ 2 ^ hs.length ∧ (2 : Int) ^ hs.length ≤ 4096 := by
      rw [pw2]
      exact ⟨Int.natCast_nonneg _, by exact_mod_cast n12⟩
    refine ⟨(by show 1 ≤ sizeLine; decide), fun l1 n1 => ?_⟩
    have t1 := same_upd n1 (o := .lst [.int 0])
    refine ⟨_, rfl, a, xs, rfl, .inr (SqT.of (t1 _ _ (s1 _ _ ea))), hs.length, rfl, by rw [lh], by omega, l1, _, _, rfl, rfl, upd_same, ?_, ?_, ?_, fun Tl nT => ⟨_, _, rfl, ?_⟩⟩
    · omega
    · omega
    · show 1 * ((2 : Int) ^ hs.length).toNat ≤ sizeLine
      exact Nat.le_trans (show _ ≤ 4096 by omega) (by decide)
    have fl : (List.replicate ((2 : Int) ^ hs.length).toNat [V.int 0]).flatten = (List.replicate (2 ^ hs.length) (0 : Nat)).map (fun (n : Nat) => V.int n) := by
      rw [pw2, Int.toNat_natCast, List.flatten_replicate_singleton, List.map_replicate]
      rfl
    rw [fl]
    have t2 := same_upd nT (o := .lst ((List.replicate (2 ^ hs.length) (0 : Nat)).map (fun (n : Nat) => V.int n)))
    have s2 := s1.trans (t1.trans t2)
    have eB2 := t2 _ _ (t1 _ _ eB)
    have nTH : H Tl = none := none_of (s1.trans t1) nT
    have TB : Tl ≠ B := Ne.symm (ne_of_none (t1 _ _ eB) nT)
    refine ⟨_, rfl, a, xs, rfl, .inr (SqT.of (s2 _ _ ea)), hs.length, rfl, by rw [lh], by omega, _, rfl, by omega, by omega, ?_⟩
    refine for_range (lo := 0) (n := ((2 : Int) ^ hs.length).toNat) (fun t σ Hi => ∃ (c3 c6 c7 c8 : Option V) (bv : V) (o : Option P56.Pr) (tl : List Nat), σ = [some (.ref a), some (.ref b), some (.ref B), c3, some bv, some (.ref Tl), c6, c7, c8, none] ∧ L2.Same H Hi ∧ Hi B = some (.lst ((List.range hs.length).map fun k => V.int (P56.bits hs ws k : Nat))) ∧ Hi Tl = some (.lst (tl.map fun (n : Nat) => V.int n)) ∧ tl.length = 2 ^ hs.length ∧
       (∀ code, code < t ∨ code = 0 → tl[code]? = some (P56.told hs ws (P56.choice hs.length code))) ∧ P56.Bst hs ws t o ∧ BV Hi bv o) ?_ ?_ ?_
    · refine ⟨_, _, _, _, _, none, _, rfl, s2, eB2, upd_same, by rw [List.length_replicate], fun code hc => ?_, P56.Bst.zero, rfl⟩
      have : code = 0 := by omega
      subst this
      rw [P56.choice_zero, List.getElem?_replicate, if_pos (Nat.two_pow_pos _)]
      rfl
    · rintro t σ Hi ht ⟨c3, c6, c7, c8, bv, o, tl, rfl, sm, eBi, eTi, ltl, tb, bs, hbv⟩
      rw [pw2, Int.toNat_natCast] at ht
      refine ⟨fun σ H' => ∃ lo : Nat, σ = [some (.ref a), some (.ref b), some (.ref B), c3, some bv, some (.ref Tl), some (.int (0 + (t : Nat))), some (.int (lo : Nat)), c8, none] ∧ H' = Hi ∧ lo ≤ hs.length ∧ (∀ j, j < lo → t.testBit j = false) ∧ (lo < hs.length → t.testBit lo = true), ?_, ?_⟩
      · refine ⟨fun m σ H' => ∃ lo : Nat, m = hs.length - lo ∧ σ = [some (.ref a), some (.ref b), some (.ref B), c3, some bv, some (.ref Tl), some (.int (0 + (t : Nat))), some (.int (lo : Nat)), c8, none] ∧ H' = Hi ∧ lo ≤ hs.length ∧ (∀ j, j < lo → t.testBit j = false), ⟨_, 0, rfl, rfl, rfl, Nat.zero_le _, fun j hj => absurd hj (Nat.not_lt_zero _)⟩, ?_⟩
        rintro m σ H' ⟨lo, rfl, rfl, rfl, hlo, hb⟩
        refine ⟨_, rfl, _, rfl, a, xs, rfl, .inr (SqT.of (sm _ _ ea)), _, _, rfl, rfl, _, rfl, ite2 (fun e => ?_) (fun e => ?_)⟩
        · have lt : lo < hs.length := by
            have : ((lo : Nat) : Int) < ((xs.length : Nat) : Int) := of_decide_eq_true e
            omega
          refine ⟨_, rfl, _, rfl, _, lo, rfl, rfl, _, 1, rfl, rfl, rfl, _, rfl, ite2 (fun e2 => ?_) (fun e2 => ?_)⟩
          · have b0 : t.testBit lo = false := by
              rw [bitI] at e2
              cases z : t.testBit lo with
              | false => rfl
              | true => rw [z] at e2; simp at e2
            refine ⟨fun σ' H'' => ∃ m', m' < hs.length - lo ∧ ∃ lo' : Nat, m' = hs.length - lo' ∧ σ' = [some (.ref a), some (.ref b), some (.ref B), c3, some bv, some (.ref Tl), some (.int (0 + (t : Nat))), some (.int (lo' : Nat)), c8, none] ∧ H'' = H' ∧ lo' ≤ hs.length ∧ (∀ j, j < lo' → t.testBit j = false), fun _ _ z => z, ?_⟩
            refine ⟨_, rfl, _, 1, rfl, rfl, hs.length - (lo + 1), by omega, lo + 1, rfl, rfl, rfl, lt, fun j hj => ?_⟩
            by_cases c : j = lo
            · rw [c]; exact b0
            · exact hb j (by omega)
          · refine ⟨lo, rfl, rfl, hlo, hb, fun _ => ?_⟩
            rw [bitI] at e2
            cases z : t.testBit lo with
            | true => rfl
            | false => rw [z] at e2; simp at e2
        · refine ⟨lo, rfl, rfl, hlo, hb, fun lt => ?_⟩
          exact absurd (decide_eq_true (show ((lo : Nat) : Int) < ((xs.length : Nat) : Int) by omega)) e
      rintro σ H2 ⟨lo, rfl, rfl, hlo, hb, h1⟩
      have t0 : (0 : Int) + (t : Int) = ((t : Nat) : Int) := Int.zero_add _
      rw [t0]
      refine ⟨fun σ H' => ∃ tl' : List Nat, σ = [some (.ref a), some (.ref b), some (.ref B), c3, some bv, some (.ref Tl), some (.int (t : Nat)), some (.int (lo : Nat)), c8, none] ∧ L2.Same H H' ∧ H' B = some (.lst ((List.range hs.length).map fun k => V.int (P56.bits hs ws k : Nat))) ∧ H' Tl = some (.lst (tl'.map fun (n : Nat) => V.int n)) ∧ tl'.length = 2 ^ hs.length ∧
        (∀ code, code < t + 1 ∨ code = 0 → tl'[code]? = some (P56.told hs ws (P56.choice hs.length code))) ∧ BV H' bv o, ?_, ?_⟩
      · refine ⟨_, rfl, _, rfl, a, xs, rfl, .inr (SqT.of (sm _ _ ea)), _, _, rfl, rfl, _, rfl, ite2 (fun e => ?_) (fun e => ?_)⟩
        · have lt : lo < hs.length := by
            have : ((lo : Nat) : Int) < ((xs.length : Nat) : Int) := of_decide_eq_true e
            omega
          have tp : 0 < t := by
            refine Nat.pos_of_ne_zero fun z => ?_
            have := h1 lt
            rw [z, Nat.zero_testBit] at this
            cases this
          have al := P56.and_lt tp
          have ea1 : Builtin.bitAnd ((t : Nat) : Int) (((t : Nat) : Int) - 1) = ((t &&& (t - 1) : Nat) : Int) := by
            rw [bitAnd_pp (by omega) (by omega)]
            congr 2
            omega
          have g1 := tb (t &&& (t - 1)) (.inl al)
          refine ⟨_, rfl, _, rfl, _, rfl, _, 1, rfl, rfl, _, _, rfl, rfl, Tl, _, _, .int (P56.told hs ws (P56.choice hs.length (t &&& (t - 1))) : Nat), rfl, rfl, SqL.of eTi, ?_, _, rfl, _, rfl, B, _, _, .int (P56.bits hs ws lo : Nat), rfl, rfl, SqL.of eBi, ?_, _, _, rfl, rfl, ?_⟩
          · rw [ea1]
            exact atI_nat (by rw [List.getElem?_map, g1]; rfl)
          · exact atI_nat (by rw [List.getElem?_map, List.getElem?_range lt]; rfl)
          · have eo : Builtin.bitOr ((P56.told hs ws (P56.choice hs.length (t &&& (t - 1))) : Nat) : Int) ((P56.bits hs ws lo : Nat) : Int) = ((P56.told hs ws (P56.choice hs.length t) : Nat) : Int) := by
              rw [bitOr_nn (Int.natCast_nonneg _) (Int.natCast_nonneg _), P56.told_low lt (h1 lt) hb]
              rfl
            show gSub (tVar 5) (tVar 6) rSetL (V.int (Builtin.bitOr ((P56.told hs ws (P56.choice hs.length (t &&& (t - 1))) : Nat) : Int) ((P56.bits hs ws lo : Nat) : Int))) _ _ _
            rw [eo]
            have tl1 : t < (tl.map fun (n : Nat) => V.int n).length := by rw [List.length_map]; omega
            refine ⟨_, rfl, _, rfl, Tl, _, _, t, rfl, rfl, eTi, ixN_nat tl1, ?_⟩
            have kp : ∀ b ys, H2 b = some (.tup ys) → (upd H2 Tl (.lst ((tl.map fun (n : Nat) => V.int n).set t (.int (P56.told hs ws (P56.choice hs.length t) : Nat))))) b = some (.tup ys) := fun b ys e => by
              rw [upd_ne (fun z => by rw [z, eTi] at e; cases e)]
              exact e
            refine ⟨tl.set t (P56.told hs ws (P56.choice hs.length t)), rfl, fun c o e => ?_, by rw [upd_ne (Ne.symm TB)]; exact eBi, by rw [upd_same, List.map_set], by rw [List.length_set]; exact ltl, fun code hc => ?_, hbv.keep kp⟩
            · rw [upd_ne (ne_of_none e nTH)]
              exact sm _ _ e
            · rw [List.getElem?_set]
              by_cases c : t = code
              · subst c
                rw [if_pos rfl, if_pos (by omega)]
              · rw [if_neg c]
                exact tb code (by omega)
        · have e0 : t = 0 := by
            have nl : ¬ lo < hs.length := fun lt => e (decide_eq_true (show ((lo : Nat) : Int) < ((xs.length : Nat) : Int) by omega))
            refine Nat.eq_of_testBit_eq fun j => ?_
            rw [Nat.zero_testBit]
            by_cases c : j < hs.length
            · exact hb j (by omega)
            · exact Nat.testBit_lt_two_pow (Nat.lt_of_lt_of_le ht (Nat.pow_le_pow_right (by decide) (by omega)))
          exact ⟨tl, rfl, sm, eBi, eTi, ltl, fun code hc => tb code (by omega), hbv⟩
      rintro σ H3 ⟨tl', rfl, sm3, eB3, eT3, ltl3, tb3, hbv3⟩
      have g3 := tb3 t (.inl (Nat.lt_succ_self _))
      refine ⟨_, rfl, _, rfl, Tl, _, _, .int (P56.told hs ws (P56.choice hs.length t) : Nat), rfl, rfl, SqL.of eT3, atI_nat (by rw [List.getElem?_map, g3]; rfl), _, rfl, b, _, rfl, .inr (SqT.of (sm3 _ _ eb)), ws.length, rfl, by rw [List.length_map], by omega, _, 1, rfl, rfl, rfl, _, rfl, ite2 (fun e => ?_) (fun e => ?_)⟩
      · have cv : P56.Covers hs ws (P56.choice hs.length t) := by
          rw [← P56.told_full]
          have e' : ((P56.told hs ws (P56.choice hs.length t) : Nat) : Int) = 2 ^ ws.length - 1 := by simpa using e
          rw [pw2] at e'
          have := Nat.two_pow_pos ws.length
          omega
        refine ⟨_, rfl, a, xs, rfl, .inr (SqT.of (sm3 _ _ ea)), _, rfl, by omega, by omega, fun D nD => ?_⟩
        refine lc_range (lo := 0) (fun k Hj => L2.Same H3 Hj ∧ Hj D = some (.lst ((P56.toI ((List.range k).filter fun k => t.testBit k)).map V.int))) ⟨same_upd nD, upd_same⟩ ?_ ?_
        · rintro k Hj hk ⟨sj, eD⟩
          have rs : (List.range (k + 1)).filter (fun k => t.testBit k) = (List.range k).filter (fun k => t.testBit k) ++ (if t.testBit k = true then [k] else []) := by
            rw [List.range_succ, List.filter_append]
            by_cases c : t.testBit k = true <;> simp [c]
          refine ⟨rfl, ?_⟩
          refine ⟨_, rfl, _, rfl, _, k, rfl, by rw [Int.zero_add], _, 1, rfl, rfl, rfl, _, rfl, ite2 (fun e2 => ?_) (fun e2 => ?_)⟩
          · have b1 : t.testBit k = true := by
              rw [bitI'] at e2
              cases z : t.testBit k with
              | true => rfl
              | false => rw [z] at e2; simp at e2
            refine ⟨_, rfl, _, eD, ?_, fun c o q => ?_, ?_⟩
            · unfold P56.toI
              rw [List.length_map, List.length_map]
              refine Nat.lt_of_le_of_lt (Nat.le_trans (List.length_filter_le _ _) (show (List.range k).length ≤ 1000 from ?_)) (by decide)
              rw [List.length_range]; omega
            · rw [upd_ne (ne_of_none q nD)]
              exact sj _ _ q
            · rw [upd_same, rs, b1, if_pos rfl]
              unfold P56.toI
              rw [List.map_append, List.map_append, Int.zero_add]
              rfl
          · have b1 : t.testBit k = false := by
              rw [bitI'] at e2
              cases z : t.testBit k with
              | false => rfl
              | true => rw [z] at e2; simp at e2
            refine ⟨sj, ?_⟩
            rw [rs, b1, if_neg Bool.false_ne_true, List.append_nil]
            exact eD
        rintro Hj ⟨sj, eD⟩
        rw [lh, Int.toNat_natCast] at eD
        replace eD : Hj D = some (.lst ((P56.toI (P56.choice hs.length t)).map V.int)) := eD
        refine ⟨D, _, rfl, .inl ⟨SqL.of eD, fun p np => ?_⟩⟩
        have sp := same_upd np (o := .tup ((P56.toI (P56.choice hs.length t)).map V.int))
        have eP : (upd Hj p (.tup ((P56.toI (P56.choice hs.length t)).map V.int))) p = some (.tup ((P56.toI (P56.choice hs.length t)).map V.int)) := upd_same
        have hbv4 := hbv3.keep fun b ys e => sp b _ (sj b _ e)
        replace sp : L2.Same Hj (upd Hj p (.tup ((P56.toI (P56.choice hs.length t)).map V.int))) := sp
        generalize upd Hj p (.tup ((P56.toI (P56.choice hs.length t)).map V.int)) = H5 at sp eP hbv4 ⊢
        cases o with
        | none =>
          obtain rfl : bv = .non := hbv4
          refine ⟨_, rfl, false, rfl, iteF ⟨(by show 0 ≤ sizeLine; decide), fun p0 n0 => ⟨(by show 2 ≤ sizeLine; decide), fun p1 n1 => ?_⟩⟩⟩
          have z0 := same_upd n0 (o := .tup [])
          have z1 := same_upd n1 (o := .tup [.int 99, .ref p0])
          have zz := z0.trans z1
          have bO : BV (upd (upd H5 p0 (.tup [])) p1 (.tup [.int 99, .ref p0])) (.ref p1) (some (99, [])) := ⟨p1, p0, rfl, upd_same, z1 _ _ upd_same⟩
          refine ⟨_, rfl, p, _, rfl, .inr (SqT.of (zz _ _ eP)), _, rfl, (by show 2 ≤ sizeLine; decide), fun u nu => ?_⟩
          have su := same_upd nu (o := .tup [.int (((P56.toI (P56.choice hs.length t)).map V.int).length : Nat), .ref p])
          have bNew : BV (upd (upd (upd H5 p0 (.tup [])) p1 (.tup [.int 99, .ref p0])) u (.tup [.int (((P56.toI (P56.choice hs.length t)).map V.int).length : Nat), .ref p])) (.ref u) (some (P56.prOf (P56.choice hs.length t))) := by
            refine ⟨u, p, rfl, ?_, su _ _ (zz _ _ eP)⟩
            rw [upd_same]
            unfold P56.prOf P56.toI
            rw [List.length_map, List.length_map]
          have bOld := BV.keep (o := some ((99, []) : P56.Pr)) bO fun b ys e => su b _ e
          refine ⟨_, _, Xt.pairD ((99, []) : P56.Pr), Xt.pairD (P56.prOf (P56.choice hs.length t)), rfl, bOld.dz, bNew.dz, Xt.alike_pairs _ _, Xt.depth_pairs _ _, ?_⟩
          rw [Xt.lt_pairs]
          refine ⟨_, _, _, _, _, _, tl', rfl, (sm3.trans ((sj.trans sp).trans zz)).trans su, su _ _ (zz _ _ (sp _ _ (sj _ _ eB3))), su _ _ (zz _ _ (sp _ _ (sj _ _ eT3))), ltl3, fun code hc => tb3 code hc, bs.take (by omega) cv, ?_⟩
          unfold P56.nxt
          show BV _ (if P56.prLt (P56.prOf (P56.choice hs.length t)) ((99, []) : P56.Pr) = true then _ else _) (some (if P56.prLt (P56.prOf (P56.choice hs.length t)) ((99, []) : P56.Pr) = true then _ else _))
          split
          · exact bNew
          · exact bOld
        | some pr =>
          obtain ⟨qq, r, rfl, e1, e2⟩ := hbv4
          have bO : BV H5 (.ref qq) (some pr) := ⟨qq, r, rfl, e1, e2⟩
          refine ⟨_, rfl, true, .inr (.inl ⟨_, SqT.of e1, rfl⟩), iteT ?_⟩
          have zz := Same.refl H5
          refine ⟨_, rfl, p, _, rfl, .inr (SqT.of (zz _ _ eP)), _, rfl, (by show 2 ≤ sizeLine; decide), fun u nu => ?_⟩
          have su := same_upd nu (o := .tup [.int (((P56.toI (P56.choice hs.length t)).map V.int).length : Nat), .ref p])
          have bNew : BV (upd H5 u (.tup [.int (((P56.toI (P56.choice hs.length t)).map V.int).length : Nat), .ref p])) (.ref u) (some (P56.prOf (P56.choice hs.length t))) := by
            refine ⟨u, p, rfl, ?_, su _ _ (zz _ _ eP)⟩
            rw [upd_same]
            unfold P56.prOf P56.toI
            rw [List.length_map, List.length_map]
          have bOld := BV.keep (o := some pr) bO fun b ys e => su b _ e
          refine ⟨_, _, Xt.pairD pr, Xt.pairD (P56.prOf (P56.choice hs.length t)), rfl, bOld.dz, bNew.dz, Xt.alike_pairs _ _, Xt.depth_pairs _ _, ?_⟩
          rw [Xt.lt_pairs]
          refine ⟨_, _, _, _, _, _, tl', rfl, (sm3.trans ((sj.trans sp).trans zz)).trans su, su _ _ (zz _ _ (sp _ _ (sj _ _ eB3))), su _ _ (zz _ _ (sp _ _ (sj _ _ eT3))), ltl3, fun code hc => tb3 code hc, bs.take (by omega) cv, ?_⟩
          unfold P56.nxt
          show BV _ (if P56.prLt (P56.prOf (P56.choice hs.length t)) pr = true then _ else _) (some (if P56.prLt (P56.prOf (P56.choice hs.length t)) pr = true then _ else _))
          split
          · exact bNew
          · exact bOld
      · have cv : ¬ P56.Covers hs ws (P56.choice hs.length t) := fun cv => by
          rw [← P56.told_full] at cv
          refine e ?_
          have := Nat.two_pow_pos ws.length
          rw [cv, pw2]
          have z : ((2 ^ ws.length - 1 : Nat) : Int) = ((2 ^ ws.length : Nat) : Int) - 1 := by omega
          rw [z]
          simp
        exact ⟨_, _, _, _, _, _, tl', rfl, sm3, eB3, eT3, ltl3, fun code hc => tb3 code hc, bs.skip cv, hbv3⟩
    · rintro σ He ⟨c3, c6, c7, c8, bv, o, tl, rfl, sm, eBe, eTe, ltl, tb, bs, hbv⟩
      rw [pw2, Int.toNat_natCast] at bs
      cases lk : P56.lack hs ws with
      | none =>
        obtain ⟨c, hc, rfl⟩ := bs.end_ (P56.lack_none lk)
        obtain ⟨qq, r, rfl, e1, e2⟩ := hbv
        refine ⟨_, rfl, rfl, _, rfl, iteF ?_⟩
        refine ⟨_, rfl, qq, _, _, .ref r, rfl, rfl, SqT.of e1, atI_nat (j := 1) rfl, ?_⟩
        exact q (.ref r) He sm (.inr ⟨c, r, hc, rfl, e2⟩)
      | some w =>
        obtain rfl := P56.bst_lack lk bs
        obtain rfl : bv = .non := hbv
        exact ⟨_, rfl, rfl, _, rfl, iteT (q .non He sm (.inl ⟨w, lk, rfl⟩))⟩
end
end K61
set_option Elab.async false
set_option linter.all false
set_option maxRecDepth 100000
set_option maxHeartbeats 4000000
set_option pp.maxSteps 400
set_option pp.deepTerms false
namespace K61
open PySem PySem.Spec PyProof.Rows L2
open Xk Az
section
variable {P : Program} {w : World} {K : PySem.W.Frag} {mg : Str → Option Value} {base : Heap}
theorem ps_no {X : Cx} {st : Stmt} : PS X st (fun _ _ _ => False) := ⟨fun _ _ _ _ _ _ h => False.elim h⟩
theorem pe_no {X : Cx} {e : Expr} : PE X e (fun _ _ _ => False) := ⟨fun _ _ _ _ _ _ h => False.elim h⟩
theorem exT {H H' : Hp} (x : LamX.ExtN H H') {b : Addr} {ys : List V} (e : H b = some (.tup ys)) : H' b = some (.tup ys) := x _ _ e fun ps z => by cases z
theorem tabs_lst {T : List (Addr × Str)} {H : Hp} {D : Addr} {us : List V} {o : HO} (t : LamX.Tabs T H) (e : H D = some (.lst us)) : LamX.Tabs T (upd H D o) := fun p hp => by
  obtain ⟨ps, h1, h2, h3⟩ := t p hp
  refine ⟨ps, by rw [upd_ne (ne_of h1 e (by intro z; cases z))]; exact h1, h2, fun pos cv hc => ?_⟩
  obtain ⟨c, e1, e2⟩ := h3 pos cv hc
  exact ⟨c, e1, by rw [upd_ne (ne_of e2 e (by intro z; unfold LamX.CodeO at z; cases z))]; exact e2⟩
def qB : Str := (("book_for" : Str) ++ ".<locals>.") ++ "<lambda>"
abbrev Tb (pB : Addr) : List (Addr × Str) := [(pB, qB)]
/-- a right book for n discs left -/
def Bk (hs : List (List Int)) (H : Hp) : Nat → List Int → V → Prop
  | 0, ms, v => ∃ t w, v = .ref t ∧ w ∈ ms ∧ H t = some (.tup [.str "left", .int w])
  | n + 1, ms, v => ∃ t w b us, v = .ref t ∧ w ∈ ms ∧ H t = some (.tup [.str "take", .int w, .ref b]) ∧ H b = some (.tup us) ∧ us.length = (P56.hold hs w).length ∧ ∀ (i k : Nat) (u : V), (P56.hold hs w)[i]? = some k → us[i]? = some u → Bk hs H n (P56.rest (hs.getD k []) ms) u
theorem Bk.keep {hs : List (List Int)} {H H' : Hp} (k : ∀ b ys, H b = some (.tup ys) → H' b = some (.tup ys)) : ∀ {n : Nat} {ms : List Int} {v : V}, Bk hs H n ms v → Bk hs H' n ms v
  | 0, ms, v, h => by
    obtain ⟨t, w, e1, e2, e3⟩ := h
    exact ⟨t, w, e1, e2, k _ _ e3⟩
  | n + 1, ms, v, h => by
    obtain ⟨t, w, b, us, e1, e2, e3, e4, e5, e6⟩ := h
    exact ⟨t, w, b, us, e1, e2, k _ _ e3, k _ _ e4, e5, fun i k' u h1 h2 => Bk.keep k (e6 i k' u h1 h2)⟩
/-- a key: two numbers -/
def Kp (H : Hp) (y : V) (d : PyData) : Prop := ∃ q a b, y = .ref q ∧ H q = some (.tup [.int a, .int b]) ∧ d = .tuple [.int a, .int b]
theorem kp_dz (H : Hp) (y : V) (d : PyData) (h : Kp H y d) : Dz K H y d := by
  obtain ⟨q, a, b, rfl, e, rfl⟩ := h
  exact .tup e (.cons (.int _) (.cons (.int _) .nil))
theorem kp_keep (H H' : Hp) (y : V) (d : PyData) (k : ∀ b zs, H b = some (.tup zs) → H' b = some (.tup zs)) (h : Kp H y d) : Kp H' y d := by
  obtain ⟨q, a, b, rfl, e, rfl⟩ := h
  exact ⟨q, a, b, rfl, k _ _ e, rfl⟩
def kdB (hs : List (List Int)) : V → PyData
  | .int g => .tuple [.int ((P56.hold hs g).length : Nat), .int g]
  | _ => .none
def spBF (pB : Addr) (n : Nat) : Sp := fun vs H Q _ => ∃ (a b : Addr) (xs : List V) (hs : List (List Int)) (ms : List Int), vs = [.ref a, .ref b, .int (n : Int)] ∧ H a = some (.tup xs) ∧ Hl H xs hs ∧ hs.length ≤ 12 ∧ H b = some (.tup (ms.map V.int)) ∧ ms.length ≤ 20 ∧
  P56.NoN hs ms n ∧ LamX.Tabs (Tb pB) H ∧ ∀ v H', LamX.ExtN H H' → LamX.Tabs (Tb pB) H' → Bk hs H' n ms v → Q v H'
def spBFb (pB : Addr) : Nat → Sp
  | 0 => fun _ _ _ _ => False
  | n + 1 => spBF pB n
theorem ok_code {x : Str} {st : Stmt} {f : Addr} {fd : FuncData} {N ps : List Str} {k : Nat} {sp : Sp} {c : Addr} (F : Fun K x x st f fd) (hc : fd.code = .ref c) (S : FnScope N ps (defScope st)) (len : ∀ vs H Q E, sp vs H Q E → vs.length = ps.length)
    (body : ∀ (A : Around) (outer : List Env) (s : Shared) (H : Hp) (vs : List V) (Q : VK) (E : XK), Room k (A.deeper (envOfC x (defScope st) s.heap.objs.size f (.ref c))) → sp vs H Q E →
      ∃ t, PSs (cxOf CX0 P w K mg base N x (defScope st) f (.ref c) A outer s H E).nox (defBody st) t ∧ t { nx := fun _ H' => Q .non H', rt := Q } (start N vs) H) : FnOk P w K mg base CX0 (k + 1) f fd ps sp := by
  obtain ⟨oc, od, kV, doc, pm, an, cdv, ct, osl, rfl, lk, hcd⟩ := F.ex
  obtain rfl : cdv = .ref c := hc
  refine ⟨len, fun A outer s H args us vs Q E hr e0 hb r hsp => LamX.run_ofS lk hcd S hr e0 hb r (len _ _ _ _ hsp) fun hr' => ?_⟩
  obtain ⟨t, ht, hq⟩ := body A outer s H vs Q E hr' hsp
  exact ⟨t, ht.nox, hq⟩
theorem ok_bf {f : Addr} {fd : FuncData} {cB pB : Addr} {n : Nat} (D : Df K mg "book_for" ["held", "missing", "left"] sBookFor f fd) (hcd : fd.code = .ref cB) (TB : LamX.TabB base mg cB pB) (T : Txt mg) (cHo : Ca P w K mg base 1 "holders" ["held", "wish"] spHolders) (cNA : Ca P w K mg base 1 "not_among" ["things", "wishes"] (spNA K)) (cR : Ca P w K mg base (n + 4) "book_for" ["held", "missing", "left"] (spBFb pB n)) : FnOk P w K mg base CX0 (n + 5) f fd ["held", "missing", "left"] (spBF pB n) := by
  refine ok_code D.fn hcd scBookFor (fun vs H Q E h => ?_) (fun A outer s H vs Q E hr h => ?_)
  · obtain ⟨a, b, xs, hs, ms, rfl, ea, hl, l12, eb, l20, no, tb, q⟩ := h
    rfl
  · obtain ⟨a, b, xs, hs, ms, rfl, ea, hl, l12, eb, l20, no, tb, q⟩ := h
    refine ⟨_, (pss_cons (ps_set (i := 3) scBookFor.nd rfl (.inl rfl) (Xlm.pe_minLam (T := Tb pB) (Ky := Kp) (tb := tTup (tCons (tCB (rLn K) (tCons (tCall spHolders [] E0 (tCons (tVar 1) (tCons (tVar 0) tNil))) tNil)) (tCons (tVar 0) tNil))) (k := 1) (pn := "known") (c := cB) (P := pB) (by rfl) T.min rfl (hr.mono (by omega)) (pv 1) TB (by rfl) (List.mem_singleton.mpr rfl) (fun p hp _ => by rw [List.mem_singleton.mp hp]; rfl) (show Xlm.Lam1 (defScope sBookFor) _ _ from ⟨rfl, rfl, rfl, rfl, by decide +kernel, by decide +kernel⟩) (show ("known" : Str) ∉ (["held", "missing", "left", "wish", "disc"] : List Str) from by decide +kernel) rfl (fun _ _ _ _ _ _ => rfl) (fun A s H f c hr => pe_tup (pa_cons (pe_callB call_len_seq (by rfl) T.len PySem.boot_len (pa_cons (pe_ca cHo hr (by decide) (by rfl) (pa_cons (pv 1) (pa_cons (pv 0) pa_nil))) pa_nil)) (pa_cons (pv 0) pa_nil))) kp_dz kp_keep))
      (pss_cons (ps_if (pt_cmpR op_eq (pv 2) pe_int (nomark _)) (pss_one (ps_ret (pe_tup (pa_cons pe_str (pa_cons (pv 3) pa_nil))))) pss_nil)
      (pss_one (ps_ret (pe_tup (pa_cons pe_str (pa_cons (pv 3) (pa_cons (pe_callTy call_tuple_of (by rfl) T.tuple (by decide +kernel) (pa_cons (pe_lc (own := [("disc", 4)]) (g := gName 4) (tt := tYes) (te := tCall (spBFb pB n) [] E0 (tCons (tVar 0) (tCons (tCall (spNA K) [] E0 (tCons (tOp (rIxT K) (tVar 0) (tVar 4)) (tCons (tVar 1) tNil))) (tCons (tOp (rI0 fun i j => V.int (i - j)) (tVar 2) (tC (V.int 1))) tNil)))) (by rfl) scBookFor.nd (pi_list (pe_ca cHo hr (by omega) (by rfl) (pa_cons (pv 0) (pa_cons (pv 3) pa_nil)))) (blkOk_by (own := [("disc", 4)]) (N := ["held", "missing", "left", "wish", "disc"]) (sc := defScope sBookFor) (by decide +kernel)) (fun _ _ _ _ _ => pg_name (i := 4) scBookFor.nd rfl (.inl rfl)) (fun _ _ _ _ _ => pts_nil) (fun _ _ _ _ _ => pe_ca cR hr (by omega) (by rfl) (pa_cons (pv 0) (pa_cons (pe_ca cNA hr (by omega) (by rfl) (pa_cons (pe_ix ix_tup (pv 0) (pv 4) (fun _ _ => rfl)) (pa_cons (pv 1) pa_nil))) (pa_cons (pe_op op_sub (pv 2) pe_int) pa_nil))))) pa_nil)) pa_nil)))))))), ?_⟩
    have lh := hl.len
    refine ⟨_, rfl, b, ms.map V.int, kdB hs, rfl, SqT.of eb, fun e => no.ne (List.map_eq_nil_iff.mp e), tb, ?_, ?_, ?_, ?_⟩
    · intro v hv v' hv'
      obtain ⟨g, _, rfl⟩ := List.mem_map.mp hv
      obtain ⟨g', _, rfl⟩ := List.mem_map.mp hv'
      simp [kdB, PySem.W.alike, PySem.W.alikeAll]
    · intro v hv
      obtain ⟨g, _, rfl⟩ := List.mem_map.mp hv
      exact ⟨by simp [kdB], by simp [kdB, PyData.depth, PyData.depthAll]⟩
    · intro H2 x2 t2 v hv
      obtain ⟨g, _, rfl⟩ := List.mem_map.mp hv
      refine ⟨_, rfl, _, rfl, a, g, xs, hs, rfl, exT x2 ea, hl.map (fun _ _ e => exT x2 e), l12, fun L ns H3 s3 eL en ens => ⟨L, _, rfl, .inl (SqL.of eL), _, rfl, (by show 2 ≤ sizeLine; decide), fun t nt => ?_⟩⟩
      have st := s3.trans (same_upd nt (o := .tup [.int ((ns.map V.int).length : Nat), .int g]))
      refine ⟨LamX.ExtN.of st, t2.ext st, t, _, _, rfl, upd_same, ?_⟩
      subst ens
      simp [kdB, P56.toI]
    · intro v hv H1 x1 t1
      obtain ⟨g, hg, rfl⟩ := List.mem_map.mp hv
      cases n with
      | zero =>
        refine ⟨_, rfl, rfl, _, rfl, ite2 (fun e => ?_) (fun e => absurd e (by decide))⟩
        refine ⟨_, rfl, (by show 2 ≤ sizeLine; decide), fun t nt => ?_⟩
        have st := same_upd nt (o := .tup [.str "left", .int g])
        exact q (.ref t) _ (x1.trans (LamX.ExtN.of st)) (t1.ext st) ⟨t, g, rfl, hg, upd_same⟩
      | succ n =>
        refine ⟨_, rfl, rfl, _, rfl, ite2 (fun e => ?_) (fun _ => ?_)⟩
        · exfalso
          have : ((n + 1 : Nat) : Int) = 0 := by simpa [eqV] using e
          omega
        refine ⟨_, rfl, _, rfl, _, rfl, a, g, xs, hs, rfl, exT x1 ea, hl.map (fun _ _ e => exT x1 e), l12, fun L ns H2 s2 eL en ens => ⟨L, rfl, ⟨_, SqL.of eL⟩, fun D nD => ?_⟩⟩
        subst ens
        have x2 := x1.trans (LamX.ExtN.of s2)
        have sD := same_upd nD (o := .lst [])
        refine lc_list (K := K) (a := L) (xs := (P56.toI (P56.hold hs g)).map V.int) (fun i Hi => LamX.ExtN H Hi ∧ LamX.Tabs (Tb pB) Hi ∧ Hi L = some (.lst ((P56.toI (P56.hold hs g)).map V.int)) ∧ D ≠ L ∧ ∃ us, Hi D = some (.lst us) ∧ us.length = i ∧ ∀ (j k : Nat) (u : V), (P56.hold hs g)[j]? = some k → us[j]? = some u → Bk hs Hi n (P56.rest (hs.getD k []) ms) u)
          ⟨x2.trans (LamX.ExtN.of sD), (t1.ext s2).ext sD, sD _ _ eL, (ne_of_none eL nD).symm, [], upd_same, rfl, fun j k u _ h => by simp at h⟩ (fun i Hi _ z => SqL.of z.2.2.1) ?_ ?_
        · rintro i x Hi hx ⟨xi, ti, eLi, nDL, us, eD, lu, bk⟩
          rw [List.getElem?_map] at hx
          obtain ⟨z, ez, rfl⟩ := Option.map_eq_some_iff.mp hx
          unfold P56.toI at ez
          rw [List.getElem?_map] at ez
          obtain ⟨k, ek, rfl⟩ := Option.map_eq_some_iff.mp ez
          obtain ⟨kl, _⟩ := P56.mem_hold.mp (List.mem_of_getElem? ek)
          obtain ⟨tk, etk, eTk⟩ := hl.get kl
          have il : i < (P56.hold hs g).length := (List.getElem?_eq_some_iff.mp ek).1
          have hlen := P56.hold_len (held := hs) g
          refine ⟨rfl, ?_⟩
          unfold tYes
          refine iteT ⟨_, rfl, _, rfl, _, rfl, a, _, _, .ref tk, rfl, rfl, SqT.of (exT xi ea), atI_nat (j := k) etk, _, rfl, tk, b, hs[k], ms, rfl, exT xi eTk, exT xi eb, l20, fun t H3 s3 et => ⟨_, rfl, _, 1, rfl, rfl, a, t, xs, hs, _, (by show [V.ref a, V.ref t, V.int (((n + 1 : Nat) : Int) - 1)] = _; rw [show ((n + 1 : Nat) : Int) - 1 = (n : Int) by omega]), s3 _ _ (exT xi ea), hl.map (fun _ _ e => s3 _ _ (exT xi e)), l12, et, ?_, ?_, ti.ext s3, fun v H4 x4 t4 b4 => ?_⟩⟩
          · exact Nat.le_trans (List.length_filter_le _ _) l20
          · have := no.less kl
            rw [List.getD_eq_getElem?_getD, List.getElem?_eq_getElem kl] at this
            exact this
          · have x34 := (LamX.ExtN.of s3).trans x4
            have eD4 := x34 _ _ eD (fun ps z => by cases z)
            have keepT : ∀ c ys, Hi c = some (.tup ys) → upd H4 D (.lst (us ++ [v])) c = some (.tup ys) := fun c ys e => by
              rw [upd_ne (ne_of e eD (by intro z; cases z))]
              exact exT x34 e
            refine ⟨us, eD4, ?_, ?_, ?_, ?_, nDL, us ++ [v], upd_same, by rw [List.length_append, lu]; rfl, fun j k' u hj hu => ?_⟩
            · rw [lu]
              exact Nat.lt_of_le_of_lt (show i ≤ 1000 by omega) (by decide)
            · intro c o e ne'
              rw [upd_ne (ne_of_none (x2 _ _ e ne') nD)]
              exact x34 _ _ (xi _ _ e ne') ne'
            · exact tabs_lst t4 eD4
            · rw [upd_ne (Ne.symm nDL)]
              exact x34 _ _ eLi (fun ps z => by cases z)
            · rcases Nat.lt_or_ge j us.length with hl' | hl'
              · rw [List.getElem?_append_left hl'] at hu
                exact (bk j k' u hj hu).keep keepT
              · rw [List.getElem?_append_right hl'] at hu
                have ej : j - us.length = 0 := by
                  rcases Nat.eq_zero_or_pos (j - us.length) with z | z
                  · exact z
                  · rw [List.getElem?_eq_none (show ([v] : List V).length ≤ j - us.length from z)] at hu; cases hu
                rw [ej] at hu
                obtain rfl : v = u := Option.some.inj hu
                obtain rfl : i = j := by omega
                obtain rfl : k = k' := Option.some.inj (ek.symm.trans hj)
                have e0 : hs.getD k [] = hs[k] := by rw [List.getD_eq_getElem?_getD, List.getElem?_eq_getElem kl]; rfl
                rw [e0]
                exact b4.keep fun c ys e => by rw [upd_ne (ne_of e eD4 (by intro z; cases z))]; exact e
        · rintro He ⟨xe, te, eLe, _, us, eD, lu, bk⟩
          rw [List.length_map] at lu
          unfold P56.toI at lu
          rw [List.length_map] at lu
          refine ⟨D, _, rfl, .inl ⟨SqL.of eD, fun p np => ?_⟩⟩
          have sp := same_upd np (o := .tup us)
          refine ⟨(by show 3 ≤ sizeLine; decide), fun t nt => ?_⟩
          have st := same_upd nt (o := .tup [.str "take", .int g, .ref p])
          have ss := sp.trans st
          exact q (.ref t) _ (xe.trans (LamX.ExtN.of ss)) (te.ext ss) ⟨t, g, p, us, rfl, hg, upd_same, st _ _ upd_same, lu, fun i k u h1 h2 => (bk i k u h1 h2).keep fun c ys e => ss _ _ e⟩
end
end K61
set_option Elab.async false
set_option linter.all false
set_option maxRecDepth 100000
set_option maxHeartbeats 4000000
set_option pp.maxSteps 400
set_option pp.deepTerms false
namespace K61
open PySem PySem.Spec PyProof.Rows L2
open Xk Az
section
variable {P : Program} {w : World} {K : PySem.W.Frag} {mg : Str → Option Value} {base : Heap}
def spBO (pB : Addr) : Sp := fun vs H Q _ => ∃ (a b : Addr) (xs : List V) (hs : List (List Int)) (ws : List Int) (n : Nat), vs = [.ref a, .ref b, .int (n : Int)] ∧ H a = some (.tup xs) ∧ Hl H xs hs ∧ hs.length ≤ 12 ∧ H b = some (.tup (ws.map V.int)) ∧ ws.length ≤ 20 ∧ n ≤ 14 ∧
  LamX.Tabs (Tb pB) H ∧ (∀ c H', P56.Least hs ws c → c.length ≤ n → LamX.ExtN H H' → LamX.Tabs (Tb pB) H' → Q .non H') ∧ ∀ v H', P56.NoN hs ws n → LamX.ExtN H H' → LamX.Tabs (Tb pB) H' → Bk hs H' n ws v → Q v H'
def spWhole1 : Sp := fun vs H Q _ => ∃ i : Int, vs = [.int i] ∧ Q (.bl true) H
def spMiss : Sp := fun vs H Q _ => ∃ (b : Addr) (g : Int) (ms : List Int), vs = [.ref b, .int g] ∧ H b = some (.tup (ms.map V.int)) ∧ g ∈ ms ∧ Q (.bl true) H
def spIB (n : Nat) : Sp := fun vs H Q _ => ∃ (a b : Addr) (xs : List V) (hs : List (List Int)) (ms : List Int) (v : V), vs = [.ref a, .ref b, .int (n : Int), v] ∧ H a = some (.tup xs) ∧ Hl H xs hs ∧ hs.length ≤ 12 ∧ H b = some (.tup (ms.map V.int)) ∧ ms.length ≤ 20 ∧ Bk hs H n ms v ∧ ∀ H', L2.Same H H' → Q (.bl true) H'
def spTk : Nat → Sp
  | 0 => fun _ _ _ _ => False
  | n + 1 => fun vs H Q _ => ∃ (a b c : Addr) (xs : List V) (hs : List (List Int)) (ms : List Int) (g : Int) (us : List V), vs = [.ref a, .ref b, .int ((n + 1 : Nat) : Int), .int g, .ref c] ∧ H a = some (.tup xs) ∧ Hl H xs hs ∧ hs.length ≤ 12 ∧ H b = some (.tup (ms.map V.int)) ∧ ms.length ≤ 20 ∧ g ∈ ms ∧ H c = some (.tup us) ∧
    us.length = (P56.hold hs g).length ∧ (∀ (i k : Nat) (u : V), (P56.hold hs g)[i]? = some k → us[i]? = some u → Bk hs H n (P56.rest (hs.getD k []) ms) u) ∧ ∀ H', L2.Same H H' → Q (.bl true) H'
theorem ok_bo {f : Addr} {fd : FuncData} {pB : Addr} (D : Df K mg "book_of" ["held", "wishes", "many"] sBookOf f fd) (T : Txt mg) (cFe : Ca P w K mg base 3 "fewest_discs" ["held", "wishes"] spFew) (cBF : ∀ n : Nat, n ≤ 14 → Ca P w K mg base 19 "book_for" ["held", "missing", "left"] (spBF pB n)) : FnOk P w K mg base CX0 20 f fd ["held", "wishes", "many"] (spBO pB) := by
  refine D.fn.ok scBookOf (fun vs H Q E h => ?_) (fun cdv A outer s H vs Q E hr h => ?_)
  · obtain ⟨a, b, xs, hs, ws, n, rfl, ea, hl, l12, eb, l20, n14, tb, q1, q2⟩ := h
    rfl
  · obtain ⟨a, b, xs, hs, ws, n, rfl, ea, hl, l12, eb, l20, n14, tb, q1, q2⟩ := h
    refine ⟨_, (pss_cons (ps_asg (pe_ca cFe hr (by decide) (by rfl) (pa_cons (pv 0) (pa_cons (pv 1) pa_nil))) (pg_tup (by rfl) (pgs_cons (pg_name (i := 3) scBookOf.nd rfl (.inl rfl)) (pgs_cons (pg_name (i := 4) scBookOf.nd rfl (.inl rfl)) pgs_nil))))
      (pss_cons (ps_if (PW.pt (pw_and (pt_cmpR op_eq (pv 3) pe_str (nomark _)) (pw_and1 (pt_cmpR op_le (pe_callB call_len_seq (by rfl) T.len PySem.boot_len (pa_cons (pv 4) pa_nil)) (pv 2) (nomark _))))) (pss_one (ps_ret pe_non)) pss_nil)
      (pss_one (ps_ret (pe_ca (cBF n n14) hr (by decide) (by rfl) (pa_cons (pv 0) (pa_cons (pv 1) (pa_cons (pv 2) pa_nil)))))))), ?_⟩
    refine ⟨_, rfl, _, rfl, a, b, xs, hs, ws, rfl, ea, hl, l12, eb, l20, fun t H1 s1 fw => ?_⟩
    cases lk : P56.lack hs ws with
    | some g =>
      rw [lk] at fw
      have fw' : H1 t = some (.tup [.str "lacks", .int g]) := fw
      refine ⟨t, _, rfl, SqT.of fw', rfl, _, _, rfl, _, _, rfl, rfl, ?_⟩
      refine ⟨_, rfl, rfl, _, rfl, ite2 (fun e => absurd e (by decide)) (fun _ => iteF ?_)⟩
      exact ⟨_, rfl, _, rfl, _, rfl, a, b, xs, hs, ws, rfl, s1 _ _ ea, hl.map (fun _ _ e => s1 _ _ e), l12, s1 _ _ eb, l20, P56.noN_lack lk n, tb.ext s1, fun v H2 x2 t2 bk => q2 v H2 (P56.noN_lack lk n) ((LamX.ExtN.of s1).trans x2) t2 bk⟩
    | none =>
      rw [lk] at fw
      obtain ⟨c, cc, hc, e1, e2⟩ := fw
      refine ⟨t, _, rfl, SqT.of e2, rfl, _, _, rfl, _, _, rfl, rfl, ?_⟩
      refine ⟨_, rfl, rfl, _, rfl, ite2 (fun _ => ?_) (fun e => absurd (by decide) e)⟩
      refine ⟨_, rfl, cc, _, rfl, .inr (SqT.of e1), _, rfl, _, _, rfl, rfl, _, rfl, ite2 (fun e => ?_) (fun e => ?_)⟩
      · have le : c.length ≤ n := by
          have := of_decide_eq_true e
          rw [List.length_map] at this
          unfold P56.toI at this
          rw [List.length_map] at this
          omega
        exact q1 c H1 hc le (LamX.ExtN.of s1) (tb.ext s1)
      · have lt : n < c.length := by
          have e' : n < (P56.toI c).length := by simpa using e
          unfold P56.toI at e'
          rw [List.length_map] at e'
          exact e'
        have no := P56.noN_least hc lt
        exact ⟨_, rfl, _, rfl, _, rfl, a, b, xs, hs, ws, rfl, s1 _ _ ea, hl.map (fun _ _ e => s1 _ _ e), l12, s1 _ _ eb, l20, no, tb.ext s1, fun v H2 x2 t2 bk => q2 v H2 no ((LamX.ExtN.of s1).trans x2) t2 bk⟩
theorem ok_whole {f : Addr} {fd : FuncData} (D : Df K mg "is_whole" ["thing"] sIsWhole f fd) (T : Txt mg) : FnOk P w K mg base CX0 1 f fd ["thing"] spWhole1 := by
  refine D.fn.ok scIsWhole (fun vs H Q E h => ?_) (fun cdv A outer s H vs Q E hr h => ?_)
  · obtain ⟨i, rfl, q⟩ := h
    rfl
  · obtain ⟨i, rfl, q⟩ := h
    refine ⟨_, (pss_one (ps_ret (pe_and (pe_callB call_isi (by rfl) T.isi (by decide +kernel) (pa_cons (pv 0) (pa_cons (pe_bltn (v := .ty "int") (by rfl) T.int (by decide +kernel) rfl) pa_nil))) (pe_one (pe_not (pe_callB call_isi (by rfl) T.isi (by decide +kernel) (pa_cons (pv 0) (pa_cons (pe_bltn (v := .ty "bool") (by rfl) T.bool (by decide +kernel) rfl) pa_nil)))))))), ?_⟩
    have ty : TyX K H (.int i) (.type "int") := .base (.int i)
    refine ⟨_, rfl, _, _, _, _, true, rfl, .ty _, ty, kit_ty (by decide +kernel), true, rfl, iteT ?_⟩
    exact ⟨_, rfl, _, _, _, _, false, rfl, .ty _, ty, kit_ty (by decide +kernel), false, rfl, q⟩
theorem ok_miss {f : Addr} {fd : FuncData} (D : Df K mg "is_missing" ["missing", "thing"] sIsMissing f fd) (cW : Ca P w K mg base 1 "is_whole" ["thing"] spWhole1) : FnOk P w K mg base CX0 2 f fd ["missing", "thing"] spMiss := by
  refine D.fn.ok scIsMissing (fun vs H Q E h => ?_) (fun cdv A outer s H vs Q E hr h => ?_)
  · obtain ⟨b, g, ms, rfl, eb, hg, q⟩ := h
    rfl
  · obtain ⟨b, g, ms, rfl, eb, hg, q⟩ := h
    refine ⟨_, (pss_one (ps_ret (pe_and (pe_ca cW hr (by decide) (by rfl) (pa_cons (pv 1) pa_nil)) (pe_one (pe_cmpR op_in_seq (pv 1) (pv 0) (by rfl)))))), ?_⟩
    have hin : inV (.int g) (ms.map V.int) = true := by rw [inV_ints]; exact decide_eq_true hg
    refine ⟨_, rfl, g, rfl, true, rfl, iteT ⟨_, rfl, _, rfl, b, _, rfl, .inr (SqT.of eb), rfl, flat_ints _, ?_⟩⟩
    show Q (.bl (inV (.int g) (ms.map V.int))) H
    rw [hin]
    exact q
theorem ok_tk {f : Addr} {fd : FuncData} {n : Nat} (D : Df K mg "shows_by_taking" ["held", "missing", "left", "wish", "books"] sShowsByTaking f fd) (T : Txt mg) (cHo : Ca P w K mg base 1 "holders" ["held", "wish"] spHolders) (cNA : Ca P w K mg base 1 "not_among" ["things", "wishes"] (spNA K)) (cMi : Ca P w K mg base 2 "is_missing" ["missing", "thing"] spMiss) (cIB : Ca P w K mg base (2 * n + 4) "is_book" ["held", "missing", "left", "thing"] (spIB n)) : FnOk P w K mg base CX0 (2 * n + 5) f fd ["held", "missing", "left", "wish", "books"] (spTk (n + 1)) := by
  refine D.fn.ok scShowsByTaking (fun vs H Q E h => ?_) (fun cdv A outer s H vs Q E hr h => ?_)
  · obtain ⟨a, b, c, xs, hs, ms, g, us, rfl, ea, hl, l12, eb, l20, hg, ec, lu, bk, q⟩ := h
    rfl
  · obtain ⟨a, b, c, xs, hs, ms, g, us, rfl, ea, hl, l12, eb, l20, hg, ec, lu, bk, q⟩ := h
    refine ⟨_, (pss_cons (ps_if (PW.pt (pw_or (pt_cmpR op_lt (pv 2) pe_int (nomark _)) (pw_or (pt_not (pt_val (pe_ca cMi hr (by omega) (by rfl) (pa_cons (pv 1) (pa_cons (pv 3) pa_nil))))) (pw_or1 (pt_not (pt_val (pe_callB call_isi (by rfl) T.isi (by decide +kernel) (pa_cons (pv 4) (pa_cons (pe_bltn (v := .ty "tuple") (by rfl) T.tuple (by decide +kernel) rfl) pa_nil))))))))) (pss_one (ps_ret pe_bl)) pss_nil)
      (pss_cons (ps_set (i := 5) scShowsByTaking.nd rfl (.inl rfl) (pe_ca cHo hr (by omega) (by rfl) (pa_cons (pv 0) (pa_cons (pv 3) pa_nil))))
      (pss_one (ps_ret (pe_and (pe_cmpR op_eq (pe_callB call_len_seq (by rfl) T.len PySem.boot_len (pa_cons (pv 4) pa_nil)) (pe_callB call_len_seq (by rfl) T.len PySem.boot_len (pa_cons (pv 5) pa_nil)) (nomark _)) (pe_one (pe_callB (cr_all (by rfl)) (by rfl) T.all (by decide +kernel) (pa_cons (pe_lc (own := [("disc", 6), ("book", 7)]) (g := (gTup K 2 (gCons (gName 6) (gCons (gName 7) gNil)))) (tt := tYes) (te := tCall (spIB n) [] E0 (tCons (tVar 0) (tCons (tCall (spNA K) [] E0 (tCons (tOp (rIxT K) (tVar 0) (tVar 6)) (tCons (tVar 1) tNil))) (tCons (tOp (rI0 fun i j => V.int (i - j)) (tVar 2) (tC (V.int 1))) (tCons (tVar 7) tNil))))) (by rfl) scShowsByTaking.nd (Xt.pi_zipLT (by rfl) T.zip (pa_cons (pv 5) (pa_cons (pv 4) pa_nil))) (blkOk_by (own := [("disc", 6), ("book", 7)]) (N := ["held", "missing", "left", "wish", "books", "discs", "disc", "book"]) (sc := defScope sShowsByTaking) (by decide +kernel)) (fun _ _ _ _ _ => pg_tup (by rfl) (pgs_cons (pg_name (i := 6) scShowsByTaking.nd rfl (.inl rfl)) (pgs_cons (pg_name (i := 7) scShowsByTaking.nd rfl (.inl rfl)) pgs_nil))) (fun _ _ _ _ _ => pts_nil) (fun _ _ _ _ _ => pe_ca cIB hr (by omega) (by rfl) (pa_cons (pv 0) (pa_cons (pe_ca cNA hr (by omega) (by rfl) (pa_cons (pe_ix ix_tup (pv 0) (pv 6) (fun _ _ => rfl)) (pa_cons (pv 1) pa_nil))) (pa_cons (pe_op op_sub (pv 2) pe_int) (pa_cons (pv 7) pa_nil)))))) pa_nil)))))))), ?_⟩
    have lh := hl.len
    refine ⟨_, rfl, _, _, rfl, rfl, _, rfl, ite2 (fun e => ?_) (fun _ => ?_)⟩
    · exfalso
      have := of_decide_eq_true e
      omega
    refine ⟨_, rfl, _, rfl, b, g, ms, rfl, eb, hg, _, rfl, iteF ?_⟩
    refine ⟨_, rfl, _, _, _, _, true, rfl, .ty _, .base (.tup ec), kit_ty (by decide +kernel), _, rfl, iteF ?_⟩
    refine ⟨_, rfl, _, rfl, a, g, xs, hs, rfl, ea, hl, l12, fun L ns H2 s2 eL en ens => ?_⟩
    subst ens
    refine ⟨_, rfl, c, _, rfl, .inr (SqT.of (s2 _ _ ec)), _, rfl, L, _, rfl, .inl (SqL.of eL), rfl, _, rfl, ?_⟩
    have el : (us.length : Int) = ((P56.toI (P56.hold hs g)).map V.int).length := by
      rw [List.length_map]
      unfold P56.toI
      rw [List.length_map, lu]
    rw [show decide (V.int (us.length : Nat) = V.int (((P56.toI (P56.hold hs g)).map V.int).length : Nat)) = true by rw [decide_eq_true_iff, el]]
    refine iteT ?_
    refine ⟨_, rfl, _, rfl, L, c, _, us, rfl, SqL.of eL, SqT.of (s2 _ _ ec), fun D nD => ?_⟩
    have s2' := s2
    have lz : ((P56.toI (P56.hold hs g)).map V.int).length = us.length := by
      rw [List.length_map]
      unfold P56.toI
      rw [List.length_map, lu]
    have hlen := P56.hold_len (held := hs) g
    refine lc_it (Xt.walk_zipLT (K := K) (a := L) (b := c) lz) (fun i Hi => L2.Same H2 Hi ∧ Hi D = some (.lst ((List.replicate i true).map V.bl))) ⟨same_upd nD, upd_same⟩ (fun i Hi _ z => ⟨SqL.of (z.1 _ _ eL), SqT.of (z.1 _ _ (s2 _ _ ec))⟩) ?_ ?_
    · rintro i v Hi H' hi ⟨sm, eD⟩ ⟨t, x, z, rfl, nt, rfl, ex, ez⟩
      replace ex : ((P56.toI (P56.hold hs g)).map V.int)[i]? = some x := ex
      replace ez : us[i]? = some z := ez
      unfold P56.toI at ex
      rw [List.map_map, List.getElem?_map] at ex
      obtain ⟨k, ek, rfl⟩ := Option.map_eq_some_iff.mp ex
      obtain ⟨kl, _⟩ := P56.mem_hold.mp (List.mem_of_getElem? ek)
      obtain ⟨tk, etk, eTk⟩ := hl.get kl
      have il : i < us.length := (List.getElem?_eq_some_iff.mp ez).1
      have st := same_upd nt (o := .tup [.int (k : Int), z])
      have sa := (s2.trans sm).trans st
      refine ⟨t, _, rfl, SqT.of upd_same, rfl, _, _, rfl, _, _, rfl, rfl, rfl, ?_⟩
      unfold tYes
      refine iteT ⟨_, rfl, _, rfl, _, rfl, a, _, _, .ref tk, rfl, rfl, SqT.of (sa _ _ ea), atI_nat (j := k) etk, _, rfl, tk, b, hs[k], ms, rfl, sa _ _ eTk, sa _ _ eb, l20, fun t2 H3 s3 et => ⟨_, rfl, _, 1, rfl, rfl, _, rfl, a, t2, xs, hs, _, z, (by show [V.ref a, V.ref t2, V.int (((n + 1 : Nat) : Int) - 1), z] = _; rw [show ((n + 1 : Nat) : Int) - 1 = (n : Int) by omega]), s3 _ _ (sa _ _ ea), hl.map (fun _ _ e => s3 _ _ (sa _ _ e)), l12, et, Nat.le_trans (List.length_filter_le _ _) l20, ?_, fun H4 s4 => ?_⟩⟩
      · have e0 : hs.getD k [] = hs[k] := by rw [List.getD_eq_getElem?_getD, List.getElem?_eq_getElem kl]; rfl
        have := bk i k z ek ez
        rw [e0] at this
        exact this.keep fun c ys e => s3 _ _ (sa _ _ e)
      · refine ⟨_, s4 _ _ (s3 _ _ (st _ _ eD)), ?_, fun c o e => ?_, ?_⟩
        · rw [List.length_map, List.length_replicate]
          exact Nat.lt_of_le_of_lt (show i ≤ 1000 by omega) (by decide)
        · rw [upd_ne (ne_of_none e nD)]
          exact s4 _ _ (s3 _ _ (st _ _ (sm _ _ e)))
        · rw [upd_same, List.replicate_succ', List.map_append]
          rfl
    · rintro He ⟨sm, eD⟩
      refine ⟨D, _, rfl, SqL.of eD, ?_⟩
      rw [show (List.replicate ((P56.toI (P56.hold hs g)).map V.int).length true).all id = true by rw [List.all_eq_true]; intro x hx; rw [(List.mem_replicate.mp hx).2]; rfl]
      exact q He (s2.trans sm)
theorem ok_ib {f : Addr} {fd : FuncData} {n : Nat} (D : Df K mg "is_book" ["held", "missing", "left", "thing"] sIsBook f fd) (T : Txt mg) (cMi : Ca P w K mg base 2 "is_missing" ["missing", "thing"] spMiss) (cTk : Ca P w K mg base (2 * n + 3) "shows_by_taking" ["held", "missing", "left", "wish", "books"] (spTk n)) : FnOk P w K mg base CX0 (2 * n + 4) f fd ["held", "missing", "left", "thing"] (spIB n) := by
  refine D.fn.ok scIsBook (fun vs H Q E h => ?_) (fun cdv A outer s H vs Q E hr h => ?_)
  · obtain ⟨a, b, xs, hs, ms, v, rfl, ea, hl, l12, eb, l20, bk, q⟩ := h
    rfl
  · obtain ⟨a, b, xs, hs, ms, v, rfl, ea, hl, l12, eb, l20, bk, q⟩ := h
    refine ⟨_, (pss_cons (ps_if (PW.pt (pw_or (pt_not (pt_val (pe_callB call_isi (by rfl) T.isi (by decide +kernel) (pa_cons (pv 3) (pa_cons (pe_bltn (v := .ty "tuple") (by rfl) T.tuple (by decide +kernel) rfl) pa_nil))))) (pw_or (pt_cmpR op_lt (pe_callB call_len_seq (by rfl) T.len PySem.boot_len (pa_cons (pv 3) pa_nil)) pe_int (nomark _)) (pw_or1 (pt_not (pt_val (pe_callB call_isi (by rfl) T.isi (by decide +kernel) (pa_cons (pe_ix ix_tup (pv 3) pe_int (fun _ _ => rfl)) (pa_cons (pe_bltn (v := .ty "str") (by rfl) T.str (by decide +kernel) rfl) pa_nil))))))))) (pss_one (ps_ret pe_bl)) pss_nil)
      (pss_cons (ps_if (PW.pt (pw_and (pt_cmpR op_eq (pe_ix ix_tup (pv 3) pe_int (fun _ _ => rfl)) pe_str (nomark _)) (pw_and1 (pt_cmpR op_eq (pe_callB call_len_seq (by rfl) T.len PySem.boot_len (pa_cons (pv 3) pa_nil)) pe_int (nomark _))))) (pss_one (ps_ret (pe_ca cTk hr (by omega) (by rfl) (pa_cons (pv 0) (pa_cons (pv 1) (pa_cons (pv 2) (pa_cons (pe_ix ix_tup (pv 3) pe_int (fun _ _ => rfl)) (pa_cons (pe_ix ix_tup (pv 3) pe_int (fun _ _ => rfl)) pa_nil)))))))) pss_nil)
      (pss_cons (ps_if (PW.pt (pw_and (pt_cmpR op_eq (pe_ix ix_tup (pv 3) pe_int (fun _ _ => rfl)) pe_str (nomark _)) (pw_and1 (pt_cmpR op_eq (pe_callB call_len_seq (by rfl) T.len PySem.boot_len (pa_cons (pv 3) pa_nil)) pe_int (nomark _))))) (pss_one (ps_ret (pe_and (pe_cmpR op_eq (pv 2) pe_int (nomark _)) (pe_one (pe_ca cMi hr (by omega) (by rfl) (pa_cons (pv 1) (pa_cons (pe_ix ix_tup (pv 3) pe_int (fun _ _ => rfl)) pa_nil))))))) pss_nil)
      (pss_one (ps_ret pe_no))))), ?_⟩
    cases n with
    | zero =>
      obtain ⟨t, g, rfl, hg, et⟩ := bk
      refine ⟨_, rfl, _, _, _, _, true, rfl, .ty _, .base (.tup et), kit_ty (by decide +kernel), _, rfl, iteF ?_⟩
      refine ⟨_, rfl, t, _, rfl, .inr (SqT.of et), _, _, rfl, rfl, _, rfl, iteF ?_⟩
      refine ⟨_, rfl, t, _, _, _, rfl, rfl, SqT.of et, atI_nat (j := 0) rfl, _, _, _, _, true, rfl, .ty _, .base (.str _), kit_ty (by decide +kernel), _, rfl, iteF ?_⟩
      refine ⟨_, rfl, t, _, _, _, rfl, rfl, SqT.of et, atI_nat (j := 0) rfl, rfl, _, rfl, ite2 (fun e => absurd e (by decide)) (fun _ => iteF ?_)⟩
      refine ⟨_, rfl, t, _, _, _, rfl, rfl, SqT.of et, atI_nat (j := 0) rfl, rfl, _, rfl, ite2 (fun _ => ?_) (fun e => absurd (by decide) e)⟩
      refine ⟨_, rfl, t, _, rfl, .inr (SqT.of et), rfl, _, rfl, ite2 (fun _ => ?_) (fun e => absurd (by simp) e)⟩
      refine ⟨_, rfl, rfl, _, rfl, ite2 (fun _ => ?_) (fun e => absurd (by decide) e)⟩
      exact ⟨_, rfl, _, rfl, t, _, _, .int g, rfl, rfl, SqT.of et, atI_nat (j := 1) rfl, b, g, ms, rfl, eb, hg, q H (Same.refl H)⟩
    | succ n =>
      obtain ⟨t, g, c, us, rfl, hg, et, ec, lu, bk⟩ := bk
      refine ⟨_, rfl, _, _, _, _, true, rfl, .ty _, .base (.tup et), kit_ty (by decide +kernel), _, rfl, iteF ?_⟩
      refine ⟨_, rfl, t, _, rfl, .inr (SqT.of et), _, _, rfl, rfl, _, rfl, iteF ?_⟩
      refine ⟨_, rfl, t, _, _, _, rfl, rfl, SqT.of et, atI_nat (j := 0) rfl, _, _, _, _, true, rfl, .ty _, .base (.str _), kit_ty (by decide +kernel), _, rfl, iteF ?_⟩
      refine ⟨_, rfl, t, _, _, _, rfl, rfl, SqT.of et, atI_nat (j := 0) rfl, rfl, _, rfl, ite2 (fun _ => ?_) (fun e => absurd (by decide) e)⟩
      refine ⟨_, rfl, t, _, rfl, .inr (SqT.of et), rfl, _, rfl, ite2 (fun _ => ?_) (fun e => absurd (by simp) e)⟩
      exact ⟨_, rfl, _, rfl, _, rfl, _, rfl, t, _, _, .int g, rfl, rfl, SqT.of et, atI_nat (j := 1) rfl, _, rfl, t, _, _, .ref c, rfl, rfl, SqT.of et, atI_nat (j := 2) rfl, a, b, c, xs, hs, ms, g, us, rfl, ea, hl, l12, eb, l20, hg, ec, lu, bk, q⟩
def spSN : Sp := fun vs H Q _ => ∃ (a b : Addr) (xs : List V) (hs : List (List Int)) (ms : List Int) (n : Nat) (v : V), vs = [.ref a, .ref b, .int (n : Int), v] ∧ H a = some (.tup xs) ∧ Hl H xs hs ∧ hs.length ≤ 12 ∧ H b = some (.tup (ms.map V.int)) ∧ ms.length ≤ 20 ∧ n ≤ 14 ∧ Bk hs H n ms v ∧ ∀ H', L2.Same H H' → Q (.bl true) H'
theorem ok_sn {f : Addr} {fd : FuncData} (D : Df K mg "shows_none" ["held", "wishes", "many", "thing"] sShowsNone f fd) (cIB : ∀ n : Nat, n ≤ 14 → Ca P w K mg base 32 "is_book" ["held", "missing", "left", "thing"] (spIB n)) : FnOk P w K mg base CX0 33 f fd ["held", "wishes", "many", "thing"] (spSN) := by
  refine D.fn.ok scShowsNone (fun vs H Q E h => ?_) (fun cdv A outer s H vs Q E hr h => ?_)
  · obtain ⟨a, b, xs, hs, ms, n, v, rfl, ea, hl, l12, eb, l20, n14, bk, q⟩ := h
    rfl
  · obtain ⟨a, b, xs, hs, ms, n, v, rfl, ea, hl, l12, eb, l20, n14, bk, q⟩ := h
    refine ⟨_, (pss_one (ps_ret (pe_ca (cIB n n14) hr (by decide) (by rfl) (pa_cons (pv 0) (pa_cons (pv 1) (pa_cons (pv 2) (pa_cons (pv 3) pa_nil))))))), ?_⟩
    exact ⟨_, rfl, _, rfl, _, rfl, _, rfl, a, b, xs, hs, ms, v, rfl, ea, hl, l12, eb, l20, bk, q⟩
end
end K61
set_option Elab.async false
set_option linter.all false
set_option maxRecDepth 100000
set_option maxHeartbeats 4000000
set_option pp.maxSteps 400
set_option pp.deepTerms false
namespace K61
open PySem PySem.Spec PyProof.Rows L2
open Xk Az
section
variable {P : Program} {w : World} {K : PySem.W.Frag} {mg : Str → Option Value} {base : Heap}
def wts (es : List (List Int × Nat)) : Nat := (es.map fun e => 13 ^ e.2).sum
/-- what is still to be looked at -/
inductive Stk (hs : List (List Int)) (H : Hp) : List V → List (List Int × Nat) → Prop
  | nil : Stk hs H [] []
  | cons {q m : Addr} {v : V} {ms : List Int} {n : Nat} {xs : List V} {es : List (List Int × Nat)} (e1 : H q = some (.tup [v, .ref m, .int (n : Int)])) (e2 : H m = some (.tup (ms.map V.int))) (l : ms.length ≤ 20) (b : Bk hs H n ms v) (r : Stk hs H xs es) : Stk hs H (.ref q :: xs) ((ms, n) :: es)
theorem Stk.keep {hs : List (List Int)} {H H' : Hp} {xs : List V} {es : List (List Int × Nat)} (h : Stk hs H xs es) (k : ∀ b ys, H b = some (.tup ys) → H' b = some (.tup ys)) : Stk hs H' xs es := by
  induction h with
  | nil => exact .nil
  | cons e1 e2 l b _ ih => exact .cons (k _ _ e1) (k _ _ e2) l (b.keep k) ih
theorem Stk.len {hs : List (List Int)} {H : Hp} {xs : List V} {es : List (List Int × Nat)} (h : Stk hs H xs es) : xs.length = es.length := by
  induction h with
  | nil => rfl
  | cons _ _ _ _ _ ih => rw [List.length_cons, List.length_cons, ih]
theorem Stk.app {hs : List (List Int)} {H : Hp} {xs ys : List V} {es fs : List (List Int × Nat)} (h : Stk hs H xs es) (h' : Stk hs H ys fs) : Stk hs H (xs ++ ys) (es ++ fs) := by
  induction h with
  | nil => exact h'
  | cons e1 e2 l b _ ih => exact .cons e1 e2 l b ih
/-- the last one -/
theorem Stk.last {hs : List (List Int)} {H : Hp} {xs : List V} {es : List (List Int × Nat)} (h : Stk hs H xs es) (ne : xs ≠ []) : ∃ (q m : Addr) (v : V) (ms : List Int) (n : Nat) (ys : List V) (fs : List (List Int × Nat)), xs = ys ++ [.ref q] ∧ es = fs ++ [(ms, n)] ∧ Stk hs H ys fs ∧ H q = some (.tup [v, .ref m, .int (n : Int)]) ∧ H m = some (.tup (ms.map V.int)) ∧ ms.length ≤ 20 ∧ Bk hs H n ms v := by
  induction h with
  | nil => exact absurd rfl ne
  | @cons q m v ms n xs es e1 e2 l b r ih =>
    cases r with
    | nil => exact ⟨q, m, v, ms, n, [], [], rfl, rfl, .nil, e1, e2, l, b⟩
    | cons f1 f2 l' b' r' =>
      obtain ⟨q', m', v', ms', n', ys, fs, h1, h2, h3, h4, h5, h6, h7⟩ := ih (by simp)
      exact ⟨q', m', v', ms', n', .ref q :: ys, (ms, n) :: fs, by rw [h1]; rfl, by rw [h2]; rfl, .cons e1 e2 l b h3, h4, h5, h6, h7⟩
theorem wts_app (es fs : List (List Int × Nat)) : wts (es ++ fs) = wts es + wts fs := by
  unfold wts
  rw [List.map_append, List.sum_append]
theorem wts_le {n : Nat} : ∀ (fs : List (List Int × Nat)), (∀ e ∈ fs, e.2 = n) → wts fs = fs.length * 13 ^ n
  | [], _ => by simp [wts]
  | e :: fs, h => by
    have ih := wts_le fs fun x hx => h x (List.mem_cons_of_mem _ hx)
    have e0 := h e List.mem_cons_self
    show wts ([e] ++ fs) = _
    rw [wts_app, ih, List.length_cons, Nat.succ_mul, Nat.add_comm]
    simp [wts, e0]
def spEnd : Sp := fun vs H Q _ => ∃ (a b t : Addr) (g : Int) (ms : List Int), vs = [.ref a, .ref b, .int 0, .ref t] ∧ H t = some (.tup [.str "left", .int g]) ∧ H b = some (.tup (ms.map V.int)) ∧ g ∈ ms ∧ Q (.bl true) H
def spLB : Sp := fun vs H Q _ => ∃ (a b : Addr) (xs : List V) (hs : List (List Int)) (ms : List Int) (N : Nat) (v : V), vs = [.ref a, .ref b, .int (N : Int), v] ∧ H a = some (.tup xs) ∧ Hl H xs hs ∧ hs.length ≤ 12 ∧ H b = some (.tup (ms.map V.int)) ∧ ms.length ≤ 20 ∧ N ≤ 14 ∧ Bk hs H N ms v ∧ ∀ H', L2.Same H H' → Q (.bl true) H'
theorem ok_lacks {f : Addr} {fd : FuncData} (D : Df K mg "_law_lacks" ["_law_wishes_here", "_law_thing"] sLacks f fd) (T : Txt mg) : FnOk P w K mg base CX0 1 f fd ["_law_wishes_here", "_law_thing"] spMiss := by
  refine D.fn.ok scLacks (fun vs H Q E h => ?_) (fun cdv A outer s H vs Q E hr h => ?_)
  · obtain ⟨b, g, ms, rfl, eb, hg, q⟩ := h
    rfl
  · obtain ⟨b, g, ms, rfl, eb, hg, q⟩ := h
    refine ⟨_, (pss_one (ps_ret (pe_and (pe_callB call_isi (by rfl) T.isi (by decide +kernel) (pa_cons (pv 1) (pa_cons (pe_bltn (v := .ty "int") (by rfl) T.int (by decide +kernel) rfl) pa_nil))) (pe_and (pe_not (pe_callB call_isi (by rfl) T.isi (by decide +kernel) (pa_cons (pv 1) (pa_cons (pe_bltn (v := .ty "bool") (by rfl) T.bool (by decide +kernel) rfl) pa_nil)))) (pe_one (pe_cmpR op_in_seq (pv 1) (pv 0) (by rfl))))))), ?_⟩
    have ty : TyX K H (.int g) (.type "int") := .base (.int g)
    have hin : inV (.int g) (ms.map V.int) = true := by rw [inV_ints]; exact decide_eq_true hg
    refine ⟨_, rfl, _, _, _, _, true, rfl, .ty _, ty, kit_ty (by decide +kernel), true, rfl, iteT ?_⟩
    refine ⟨_, rfl, _, _, _, _, false, rfl, .ty _, ty, kit_ty (by decide +kernel), false, rfl, _, rfl, iteT ?_⟩
    refine ⟨_, rfl, _, rfl, b, _, rfl, .inr (SqT.of eb), rfl, flat_ints _, ?_⟩
    show Q (.bl (inV (.int g) (ms.map V.int))) H
    rw [hin]
    exact q
theorem ok_end {f : Addr} {fd : FuncData} (D : Df K mg "_law_end_right" ["_law_held_here", "_law_wishes_here", "_law_many", "_law_thing"] sEndRight f fd) (T : Txt mg) (cLk : Ca P w K mg base 1 "_law_lacks" ["_law_wishes_here", "_law_thing"] spMiss) : FnOk P w K mg base CX0 2 f fd ["_law_held_here", "_law_wishes_here", "_law_many", "_law_thing"] spEnd := by
  refine D.fn.ok scEndRight (fun vs H Q E h => ?_) (fun cdv A outer s H vs Q E hr h => ?_)
  · obtain ⟨a, b, t, g, ms, rfl, et, eb, hg, q⟩ := h
    rfl
  · obtain ⟨a, b, t, g, ms, rfl, et, eb, hg, q⟩ := h
    refine ⟨_, (pss_cons (ps_if (pt_cmpR op_eq (pe_ix ix_tup (pv 3) pe_int (fun _ _ => rfl)) pe_str (nomark _)) (pss_one (ps_ret (pe_and (pe_cmpR op_eq (pv 2) pe_int (nomark _)) (pe_one (pe_ca cLk hr (by decide) (by rfl) (pa_cons (pv 1) (pa_cons (pe_ix ix_tup (pv 3) pe_int (fun _ _ => rfl)) pa_nil))))))) pss_nil)
      (pss_cons ps_no
      (pss_cons ps_no
      (pss_one ps_no)))), ?_⟩
    refine ⟨_, rfl, t, _, _, _, rfl, rfl, SqT.of et, atI_nat (j := 0) rfl, rfl, _, rfl, ite2 (fun _ => ?_) (fun e => absurd (by decide) e)⟩
    refine ⟨_, rfl, rfl, _, rfl, ite2 (fun _ => ?_) (fun e => absurd (by decide) e)⟩
    exact ⟨_, rfl, _, rfl, t, _, _, .int g, rfl, rfl, SqT.of et, atI_nat (j := 1) rfl, b, g, ms, rfl, eb, hg, q⟩
theorem ok_lb {f : Addr} {fd : FuncData} (D : Df K mg "_law_is_book" ["_law_held_here", "_law_wishes_here", "_law_many", "_law_thing"] sLwIsBook f fd) (T : Txt mg) (cLk : Ca P w K mg base 1 "_law_lacks" ["_law_wishes_here", "_law_thing"] spMiss) (cEn : Ca P w K mg base 2 "_law_end_right" ["_law_held_here", "_law_wishes_here", "_law_many", "_law_thing"] spEnd) : FnOk P w K mg base CX0 3 f fd ["_law_held_here", "_law_wishes_here", "_law_many", "_law_thing"] spLB := by
  refine D.fn.ok scLwIsBook (fun vs H Q E h => ?_) (fun cdv A outer s H vs Q E hr h => ?_)
  · obtain ⟨a, b, xs, hs, ms, N, v, rfl, ea, hl, l12, eb, l20, n14, bk, q⟩ := h
    rfl
  · obtain ⟨a, b, xs, hs, ms, N, v, rfl, ea, hl, l12, eb, l20, n14, bk, q⟩ := h
    refine ⟨_, (pss_cons (ps_set (i := 4) scLwIsBook.nd rfl (.inl rfl) (pe_lst (pa_cons (pe_tup (pa_cons (pv 3) (pa_cons (pv 1) (pa_cons (pv 2) pa_nil)))) pa_nil)))
      (pss_cons (ps_while PassesOwn.never (pt_cmpR (Xt.op_neL0 hr.units) (pv 4) (pe_lst pa_nil) (nomark _)) (pss_cons (ps_asg (pe_bm0 PySem.F.plainAttrs_list PySem.F.slot_list_pop PySem.F.type_list_pop mt_pop (pv 4)) (pg_tup (by rfl) (pgs_cons (pg_name (i := 5) scLwIsBook.nd rfl (.inr rfl)) (pgs_cons (pg_name (i := 6) scLwIsBook.nd rfl (.inl rfl)) (pgs_cons (pg_name (i := 7) scLwIsBook.nd rfl (.inl rfl)) pgs_nil)))))
      (pss_cons (ps_if (PW.pt (pw_or (pt_not (pt_val (pe_callB call_isi (by rfl) T.isi (by decide +kernel) (pa_cons (pv 5) (pa_cons (pe_bltn (v := .ty "tuple") (by rfl) T.tuple (by decide +kernel) rfl) pa_nil))))) (pw_or (pt_cmpR op_notIn_seq (pe_callB call_len_seq (by rfl) T.len PySem.boot_len (pa_cons (pv 5) pa_nil)) (pe_tup (pa_cons pe_int (pa_cons pe_int pa_nil))) (by rfl)) (pw_or1 (pt_not (pt_val (pe_callB call_isi (by rfl) T.isi (by decide +kernel) (pa_cons (pe_ix ix_tup (pv 5) pe_int (fun _ _ => rfl)) (pa_cons (pe_bltn (v := .ty "str") (by rfl) T.str (by decide +kernel) rfl) pa_nil))))))))) (pss_one (ps_ret pe_bl)) pss_nil)
      (pss_one (ps_if (pt_cmpR op_eq (pe_callB call_len_seq (by rfl) T.len PySem.boot_len (pa_cons (pv 5) pa_nil)) pe_int (nomark _)) (pss_one (ps_if (pt_not (pt_val (pe_ca cEn hr (by decide) (by rfl) (pa_cons (pv 0) (pa_cons (pv 6) (pa_cons (pv 7) (pa_cons (pv 5) pa_nil))))))) (pss_one (ps_ret pe_bl)) pss_nil)) (pss_cons (ps_if (PW.pt (pw_or (pt_cmpR op_ne (pe_ix ix_tup (pv 5) pe_int (fun _ _ => rfl)) pe_str (nomark _)) (pw_or (pt_cmpR op_lt (pv 7) pe_int (nomark _)) (pw_or (pt_not (pt_val (pe_ca cLk hr (by decide) (by rfl) (pa_cons (pv 6) (pa_cons (pe_ix ix_tup (pv 5) pe_int (fun _ _ => rfl)) pa_nil))))) (pw_or1 (pt_not (pt_val (pe_callB call_isi (by rfl) T.isi (by decide +kernel) (pa_cons (pe_ix ix_tup (pv 5) pe_int (fun _ _ => rfl)) (pa_cons (pe_bltn (v := .ty "tuple") (by rfl) T.tuple (by decide +kernel) rfl) pa_nil)))))))))) (pss_one (ps_ret pe_bl)) pss_nil)
      (pss_cons (ps_set (i := 8) scLwIsBook.nd rfl (.inr rfl) (pe_lc (own := [("_law_things", 10)]) (g := gName 10) (tt := tTest (tOp (rIn K false) (tOp (rIxT K) (tVar 5) (tC (V.int 1))) (tVar 10))) (by rfl) scLwIsBook.nd (pi_tup (pv 0)) (blkOk_by (own := [("_law_things", 10)]) (N := ["_law_held_here", "_law_wishes_here", "_law_many", "_law_thing", "_law_rest", "_law_book", "_law_lacking", "_law_few", "_law_some", "_law_k", "_law_things", "_law_wish"]) (sc := defScope sLwIsBook) (by decide +kernel)) (fun _ _ _ _ _ => pg_name (i := 10) scLwIsBook.nd rfl (.inl rfl)) (fun _ _ _ _ _ => (pts_one (pt_cmpR op_in_seq (pe_ix ix_tup (pv 5) pe_int (fun _ _ => rfl)) (pv 10) (by rfl)))) (fun _ _ _ _ _ => pv 10)))
      (pss_cons (ps_if (pt_cmpR op_ne (pe_callB call_len_seq (by rfl) T.len PySem.boot_len (pa_cons (pv 8) pa_nil)) (pe_callB call_len_seq (by rfl) T.len PySem.boot_len (pa_cons (pe_ix ix_tup (pv 5) pe_int (fun _ _ => rfl)) pa_nil)) (nomark _)) (pss_one (ps_ret pe_bl)) pss_nil)
      (pss_one (ps_for PassesOwn.never rfl (pi_range1 (by rfl) T.range (pa_cons (pe_callB call_len_seq (by rfl) T.len PySem.boot_len (pa_cons (pv 8) pa_nil)) pa_nil)) (pg_name (i := 9) scLwIsBook.nd rfl (.inr rfl)) (pss_one (ps_expr (pe_bm PySem.F.plainAttrs_list PySem.F.slot_list_append PySem.F.type_list_append mt_append (pv 4) (pa_cons (pe_tup (pa_cons (pe_ix ix_tup (pe_ix ix_tup (pv 5) pe_int (fun _ _ => rfl)) (pv 9) (fun _ _ => rfl)) (pa_cons (pe_callTy call_tuple_of (by rfl) T.tuple (by decide +kernel) (pa_cons (pe_lc (own := [("_law_wish", 11)]) (g := gName 11) (tt := tTest (tOp (rIn K true) (tVar 11) (tOp (rIxL K) (tVar 8) (tVar 9)))) (by rfl) scLwIsBook.nd (pi_tup (pv 6)) (blkOk_by (own := [("_law_wish", 11)]) (N := ["_law_held_here", "_law_wishes_here", "_law_many", "_law_thing", "_law_rest", "_law_book", "_law_lacking", "_law_few", "_law_some", "_law_k", "_law_things", "_law_wish"]) (sc := defScope sLwIsBook) (by decide +kernel)) (fun _ _ _ _ _ => pg_name (i := 11) scLwIsBook.nd rfl (.inl rfl)) (fun _ _ _ _ _ => (pts_one (pt_cmpR op_notIn_seq (pv 11) (pe_ix ix_list (pv 8) (pv 9) (fun _ _ => rfl)) (by rfl)))) (fun _ _ _ _ _ => pv 11)) pa_nil)) (pa_cons (pe_op op_sub (pv 7) pe_int) pa_nil)))) pa_nil))))))))))))))
      (pss_one (ps_ret pe_bl)))), ?_⟩
    have lh := hl.len
    refine ⟨_, rfl, _, rfl, _, rfl, (by show 3 ≤ sizeLine; decide), fun t0 n0 => ⟨(by show 1 ≤ sizeLine; decide), fun L nL => ?_⟩⟩
    have z0 := same_upd n0 (o := .tup [v, .ref b, .int (N : Int)])
    have z1 := same_upd nL (o := .lst [.ref t0])
    have z2 := z0.trans z1
    refine ⟨fun m σ Hi => ∃ (items : List V) (es : List (List Int × Nat)) (c5 c6 c7 c8 c9 : Option V), σ = [some (.ref a), some (.ref b), some (.int (N : Int)), some v, some (.ref L), c5, c6, c7, c8, c9, none, none] ∧ L2.Same H Hi ∧ Hi L = some (.lst items) ∧ Stk hs Hi items es ∧ (∀ i e, es[i]? = some e → i + 12 * e.2 ≤ 12 * N) ∧ m = wts es,
      ⟨_, [.ref t0], [(ms, N)], _, _, _, _, _, rfl, z2, upd_same, .cons (z1 _ _ upd_same) (z2 _ _ eb) l20 (bk.keep fun c ys e => z2 _ _ e) .nil, fun i e h => ?_, rfl⟩, ?_⟩
    · cases i with
      | zero => cases h; show 0 + 12 * N ≤ 12 * N; omega
      | succ i => simp at h
    rintro m σ Hi ⟨items, es, c5, c6, c7, c8, c9, rfl, sm, eL, sk, pos, rfl⟩
    refine ⟨_, rfl, (by show 0 ≤ sizeLine; decide), fun l0 nl0 => ?_⟩
    have sl := same_upd nl0 (o := .lst [])
    have e0 : upd Hi l0 (.lst []) l0 = some (.lst []) := upd_same
    have sm := sm.trans sl
    have eL := sl _ _ eL
    have sk := sk.keep (fun c ys e => sl _ _ e)
    generalize upd Hi l0 (.lst []) = Hj at *
    refine ⟨L, l0, items, rfl, rfl, eL, e0, _, rfl, ?_⟩
    by_cases ne : items = []
    · subst ne
      exact iteF (q Hj sm)
    have nb : (!items.isEmpty) = true := by
      cases items with
      | nil => exact absurd rfl ne
      | cons _ _ => rfl
    rw [nb]
    refine iteT ?_
    obtain ⟨qq, mm, bv, mz, n, ys, fs, rfl, rfl, sk', eq, em, lm, bk'⟩ := sk.last ne
    have ly := sk'.len
    have pl : fs.length + 12 * n ≤ 12 * N := pos fs.length (mz, n) (by rw [List.getElem?_append_right (Nat.le_refl _)]; simp)
    have wl : wts (fs ++ [(mz, n)]) = wts fs + 13 ^ n := by rw [wts_app]; simp [wts]
    refine ⟨fun σ' H' => ∃ m', m' < wts (fs ++ [(mz, n)]) ∧ ∃ (items : List V) (es : List (List Int × Nat)) (c5 c6 c7 c8 c9 : Option V), σ' = [some (.ref a), some (.ref b), some (.int (N : Int)), some v, some (.ref L), c5, c6, c7, c8, c9, none, none] ∧ L2.Same H H' ∧ H' L = some (.lst items) ∧ Stk hs H' items es ∧ (∀ i e, es[i]? = some e → i + 12 * e.2 ≤ 12 * N) ∧ m' = wts es, fun σ' H' z => z, ?_⟩
    refine ⟨_, rfl, .inl ⟨rfl, _, SqL.of eL⟩, L, _, _, rfl, rfl, eL, (by rw [List.length_append, List.length_singleton, Nat.add_sub_cancel, List.getElem?_append_right (Nat.le_refl _), Nat.sub_self]; rfl), ?_⟩
    rw [List.dropLast_concat]
    have nLH : H L = none := none_of z0 nL
    have kt : ∀ c zs, Hj c = some (.tup zs) → upd Hj L (.lst ys) c = some (.tup zs) := fun c zs e => by rw [upd_ne (ne_of e eL (by intro z; cases z))]; exact e
    have sm1 : L2.Same H (upd Hj L (.lst ys)) := fun c o e => by rw [upd_ne (ne_of_none e nLH)]; exact sm _ _ e
    have eL1 : upd Hj L (.lst ys) L = some (.lst ys) := upd_same
    have sk1 := sk'.keep kt
    have eq1 := kt _ _ eq
    have em1 := kt _ _ em
    have bk1 := bk'.keep kt
    generalize upd Hj L (.lst ys) = H1 at *
    refine ⟨qq, _, rfl, SqT.of eq1, rfl, _, _, rfl, _, _, rfl, _, _, rfl, rfl, ?_⟩
    have pos' : ∀ i e, fs[i]? = some e → i + 12 * e.2 ≤ 12 * N := fun i e h => pos i e (by
      have := (List.getElem?_eq_some_iff.mp h).1
      rw [List.getElem?_append_left this]; exact h)
    cases n with
    | zero =>
      obtain ⟨t, g, rfl, hg, et⟩ := bk1
      refine ⟨_, rfl, _, _, _, _, true, rfl, .ty _, .base (.tup et), kit_ty (by decide +kernel), _, rfl, iteF ?_⟩
      refine ⟨_, rfl, t, _, rfl, .inr (SqT.of et), (by show 2 ≤ sizeLine; decide), fun t2 nt2 => ⟨t2, _, rfl, .inr (SqT.of upd_same), rfl, rfl, _, rfl, iteF ?_⟩⟩
      have s2 := same_upd nt2 (o := .tup [.int 2, .int 3])
      generalize upd H1 t2 (.tup [.int 2, .int 3]) = H2 at *
      have et := s2 _ _ et
      refine ⟨_, rfl, t, _, _, _, rfl, rfl, SqT.of et, atI_nat (j := 0) rfl, _, _, _, _, true, rfl, .ty _, .base (.str _), kit_ty (by decide +kernel), _, rfl, iteF ?_⟩
      refine ⟨_, rfl, t, _, rfl, .inr (SqT.of et), rfl, _, rfl, ite2 (fun _ => ?_) (fun e => absurd (by simp) e)⟩
      refine ⟨_, rfl, _, rfl, _, rfl, _, rfl, a, mm, t, g, mz, rfl, et, s2 _ _ em1, hg, _, rfl, iteF ?_⟩
      exact ⟨wts fs, by rw [wl]; simp, ys, fs, _, _, _, _, _, rfl, sm1.trans s2, s2 _ _ eL1, sk1.keep fun c zs e => s2 _ _ e, pos', rfl⟩
    | succ n =>
      obtain ⟨t, g, c, us, rfl, hg, et, ec, lu, bks⟩ := bk1
      refine ⟨_, rfl, _, _, _, _, true, rfl, .ty _, .base (.tup et), kit_ty (by decide +kernel), _, rfl, iteF ?_⟩
      refine ⟨_, rfl, t, _, rfl, .inr (SqT.of et), (by show 2 ≤ sizeLine; decide), fun t2 nt2 => ⟨t2, _, rfl, .inr (SqT.of upd_same), rfl, rfl, _, rfl, iteF ?_⟩⟩
      have s2 := same_upd nt2 (o := .tup [.int 2, .int 3])
      generalize upd H1 t2 (.tup [.int 2, .int 3]) = H2 at *
      have et := s2 _ _ et
      have ec := s2 _ _ ec
      have em1 := s2 _ _ em1
      have sa := sm1.trans s2
      refine ⟨_, rfl, t, _, _, _, rfl, rfl, SqT.of et, atI_nat (j := 0) rfl, _, _, _, _, true, rfl, .ty _, .base (.str _), kit_ty (by decide +kernel), _, rfl, iteF ?_⟩
      refine ⟨_, rfl, t, _, rfl, .inr (SqT.of et), rfl, _, rfl, ite2 (fun e => absurd e (by simp)) (fun _ => ?_)⟩
      refine ⟨_, rfl, t, _, _, _, rfl, rfl, SqT.of et, atI_nat (j := 0) rfl, rfl, _, rfl, ite2 (fun e => absurd e (by decide)) (fun _ => ?_)⟩
      refine ⟨_, rfl, _, _, rfl, rfl, _, rfl, ite2 (fun e => ?_) (fun _ => ?_)⟩
      · exfalso
        have := of_decide_eq_true e
        omega
      refine ⟨_, rfl, _, rfl, t, _, _, .int g, rfl, rfl, SqT.of et, atI_nat (j := 1) rfl, mm, g, mz, rfl, em1, hg, _, rfl, iteF ?_⟩
      refine ⟨_, rfl, t, _, _, .ref c, rfl, rfl, SqT.of et, atI_nat (j := 2) rfl, _, _, _, _, true, rfl, .ty _, .base (.tup ec), kit_ty (by decide +kernel), _, rfl, iteF ?_⟩
      refine ⟨_, rfl, a, rfl, ⟨_, SqT.of (sa _ _ ea)⟩, fun D nD => ?_⟩
      refine lc_tup (K := K) (a := a) (xs := xs) (fun i Hi => L2.Same H2 Hi ∧ Hi D = some (.lst (((List.range i).filter fun k => P56.on hs k g).map fun k => xs.getD k .non))) ⟨same_upd nD, upd_same⟩ (fun i Hi _ z => SqT.of (z.1 _ _ (sa _ _ ea))) ?_ ?_
      · rintro k x Hi hx ⟨si, eD⟩
        have kl : k < hs.length := by have := (List.getElem?_eq_some_iff.mp hx).1; omega
        obtain ⟨tk, etk, eTk⟩ := hl.get kl
        obtain rfl : V.ref tk = x := Option.some.inj (etk.symm.trans hx)
        have eo : P56.on hs k g = inV (.int g) ((hs[k]).map V.int) := by
          rw [inV_ints]
          unfold P56.on
          simp [List.getD_eq_getElem?_getD, kl]
        refine ⟨rfl, ?_⟩
        refine ⟨_, rfl, t, _, _, .int g, rfl, rfl, SqT.of (si _ _ et), atI_nat (j := 1) rfl, _, rfl, tk, _, rfl, .inr (SqT.of (si _ _ (sa _ _ eTk))), rfl, flat_ints _, ?_⟩
        refine ⟨_, rfl, ite2 (fun e => ?_) (fun e => ?_)⟩
        · have e' : P56.on hs k g = true := by rw [eo]; simpa using e
          refine ⟨_, rfl, _, eD, ?_, fun c o q => ?_, ?_⟩
          · rw [List.length_map]
            refine Nat.lt_of_le_of_lt (Nat.le_trans (List.length_filter_le _ _) (show (List.range k).length ≤ 1000 from ?_)) (by decide)
            rw [List.length_range]; omega
          · rw [upd_ne (ne_of_none q nD)]
            exact si _ _ q
          · rw [upd_same, List.range_succ, List.filter_append, List.filter_cons, if_pos e', List.map_append]
            simp [List.getD_eq_getElem?_getD, etk]
        · have e' : ¬ P56.on hs k g = true := by rw [eo]; simpa using e
          refine ⟨si, ?_⟩
          rw [List.range_succ, List.filter_append, List.filter_cons, if_neg e']
          simpa using eD
      rintro H3 ⟨s3, eD⟩
      rw [lh] at eD
      replace eD : H3 D = some (.lst ((P56.hold hs g).map fun k => xs.getD k .non)) := eD
      have sa := sa.trans s3
      have et := s3 _ _ et
      have ec := s3 _ _ ec
      have em1 := s3 _ _ em1
      have eL3 := s3 _ _ (s2 _ _ eL1)
      have hlen := P56.hold_len (held := hs) g
      refine ⟨_, rfl, D, _, rfl, .inl (SqL.of eD), _, rfl, t, _, _, .ref c, rfl, rfl, SqT.of et, atI_nat (j := 2) rfl, c, _, rfl, .inr (SqT.of ec), rfl, _, rfl, ite2 (fun e => absurd e ?_) (fun _ => ?_)⟩
      · rw [List.length_map, lu]
        simp
      refine ⟨_, rfl, D, _, rfl, .inl (SqL.of eD), _, rfl, ?_, ?_, ?_⟩
      · rw [List.length_map]; omega
      · rw [List.length_map]; omega
      have tn : (((P56.hold hs g).map fun k => xs.getD k V.non).length : Int).toNat = (P56.hold hs g).length := by rw [List.length_map, Int.toNat_natCast]
      have bks := fun i k u h1 h2 => (bks i k u h1 h2).keep fun c zs e => s3 _ _ (s2 _ _ e)
      refine for_range (lo := 0) (n := (((P56.hold hs g).map fun k => xs.getD k V.non).length : Int).toNat) (fun j σ Hk => ∃ (c9 : Option V) (add : List V), σ = [some (.ref a), some (.ref b), some (.int (N : Int)), some v, some (.ref L), some (.ref t), some (.ref mm), some (.int ((n + 1 : Nat) : Int)), some (.ref D), c9, none, none] ∧ (∀ c zs, H3 c = some (.tup zs) → Hk c = some (.tup zs)) ∧ L2.Same H Hk ∧ Hk D = some (.lst ((P56.hold hs g).map fun k => xs.getD k .non)) ∧ Hk L = some (.lst (ys ++ add)) ∧ add.length = j ∧ Stk hs Hk (ys ++ add) (fs ++ ((P56.hold hs g).take j).map fun k => (P56.rest (hs.getD k []) mz, n))) ?_ ?_ ?_
      · exact ⟨_, [], rfl, fun c zs e => e, sa, eD, by rw [List.append_nil]; exact eL3, rfl, by simpa using sk1.keep fun c zs e => s3 _ _ (s2 _ _ e)⟩
      · rintro j σ Hk hj ⟨c9, add, rfl, kk, sk0, eDk, eLk, la, stk⟩
        rw [tn] at hj
        have hj' : j < us.length := by omega
        obtain ⟨k, ek⟩ : ∃ k, (P56.hold hs g)[j]? = some k := ⟨_, List.getElem?_eq_getElem hj⟩
        obtain ⟨u, eu⟩ : ∃ u, us[j]? = some u := ⟨_, List.getElem?_eq_getElem hj'⟩
        obtain ⟨kl, _⟩ := P56.mem_hold.mp (List.mem_of_getElem? ek)
        obtain ⟨tk, etk, eTk⟩ := hl.get kl
        have es : ((P56.hold hs g).map fun k => xs.getD k V.non)[j]? = some (.ref tk) := by rw [List.getElem?_map, ek]; simp [List.getD_eq_getElem?_getD, etk]
        have e0 : hs.getD k [] = hs[k] := by rw [List.getD_eq_getElem?_getD, List.getElem?_eq_getElem kl]; rfl
        have eTk' := kk _ _ (sa _ _ eTk)
        have emk := kk _ _ em1
        rw [Int.zero_add]
        refine ⟨_, rfl, .inl ⟨rfl, _, SqL.of eLk⟩, _, rfl, t, _, _, .ref c, rfl, rfl, SqT.of (kk _ _ et), atI_nat (j := 2) rfl, _, rfl, c, _, _, u, rfl, rfl, SqT.of (kk _ _ ec), atI_nat (j := j) eu, _, rfl, mm, rfl, ⟨_, SqT.of emk⟩, fun Dw nDw => ?_⟩
        refine lc_tup (K := K) (a := mm) (xs := mz.map V.int) (fun i Hi => L2.Same Hk Hi ∧ Hi Dw = some (.lst ((P56.rest hs[k] (mz.take i)).map V.int))) ⟨same_upd nDw, upd_same⟩ (fun i Hi _ z => SqT.of (z.1 _ _ emk)) ?_ ?_
        · rintro i x Hi hx ⟨si, eDw⟩
          rw [List.getElem?_map] at hx
          obtain ⟨g', eg, rfl⟩ := Option.map_eq_some_iff.mp hx
          have il : i < mz.length := (List.getElem?_eq_some_iff.mp eg).1
          have tke : P56.rest hs[k] (mz.take (i + 1)) = P56.rest hs[k] (mz.take i) ++ (if inV (.int g') ((hs[k]).map V.int) = true then [] else [g']) := by
            unfold P56.rest
            rw [List.take_add_one, eg, List.filter_append, inV_ints]
            by_cases c : g' ∈ hs[k] <;> simp [c]
          refine ⟨rfl, ?_⟩
          refine ⟨_, rfl, _, rfl, _, rfl, D, _, _, .ref tk, rfl, rfl, SqL.of (si _ _ eDk), atI_nat (j := j) es, tk, _, rfl, .inr (SqT.of (si _ _ eTk')), rfl, flat_ints _, ?_⟩
          refine ⟨_, rfl, ite2 (fun e => ?_) (fun e => ?_)⟩
          · have e' : inV (.int g') ((hs[k]).map V.int) = false := by simpa using e
            refine ⟨_, rfl, _, eDw, ?_, fun c o q => ?_, ?_⟩
            · rw [List.length_map]
              refine Nat.lt_of_le_of_lt (Nat.le_trans (List.length_filter_le _ _) (show (mz.take i).length ≤ 1000 from ?_)) (by decide)
              rw [List.length_take]; omega
            · rw [upd_ne (ne_of_none q nDw)]
              exact si _ _ q
            · rw [upd_same, tke, e', if_neg Bool.false_ne_true, List.map_append]
              rfl
          · have e' : inV (.int g') ((hs[k]).map V.int) = true := by simpa using e
            refine ⟨si, ?_⟩
            rw [tke, e', if_pos rfl, List.append_nil]
            exact eDw
        rintro Hw ⟨sw, eDw⟩
        rw [List.length_map, List.take_length] at eDw
        refine ⟨Dw, _, rfl, .inl ⟨SqL.of eDw, fun p np => ⟨_, rfl, _, 1, rfl, rfl, (by show 3 ≤ sizeLine; decide), fun tt ntt => ?_⟩⟩⟩
        have sp := same_upd np (o := .tup ((P56.rest hs[k] mz).map V.int))
        have st := same_upd ntt (o := .tup [u, .ref p, .int (((n + 1 : Nat) : Int) - 1)])
        have sx := (sw.trans sp).trans st
        have eL4 := sx _ _ eLk
        have nn : ((n + 1 : Nat) : Int) - 1 = (n : Int) := by omega
        have kx : ∀ c zs, Hk c = some (.tup zs) → upd (upd (upd Hw p (.tup ((P56.rest hs[k] mz).map V.int))) tt (.tup [u, .ref p, .int (((n + 1 : Nat) : Int) - 1)])) L (.lst ((ys ++ add) ++ [.ref tt])) c = some (.tup zs) := fun c zs e => by
          rw [upd_ne (ne_of e eLk (by intro z; cases z))]
          exact sx _ _ e
        have up : ∀ c zs, upd (upd Hw p (.tup ((P56.rest hs[k] mz).map V.int))) tt (.tup [u, .ref p, .int (((n + 1 : Nat) : Int) - 1)]) c = some (.tup zs) → upd (upd (upd Hw p (.tup ((P56.rest hs[k] mz).map V.int))) tt (.tup [u, .ref p, .int (((n + 1 : Nat) : Int) - 1)])) L (.lst ((ys ++ add) ++ [.ref tt])) c = some (.tup zs) := fun c zs e => by
          rw [upd_ne (ne_of e eL4 (by intro z; cases z))]
          exact e
        refine ⟨L, _, _, rfl, rfl, eL4, ?_, _, add ++ [.ref tt], rfl, fun c zs e => kx _ _ (kk _ _ e), fun c o e => ?_, ?_, by rw [upd_same, List.append_assoc], by rw [List.length_append, la]; rfl, ?_⟩
        · refine Nat.lt_of_le_of_lt (show (ys ++ add).length ≤ 1000 from ?_) (by decide)
          rw [List.length_append]
          omega
        · rw [upd_ne (ne_of_none e nLH)]
          exact sx _ _ (sk0 _ _ e)
        · rw [upd_ne (ne_of_none (s2 _ _ eL1) nD).symm]
          exact sx _ _ eDk
        · have e1 : ((P56.hold hs g).take (j + 1)).map (fun k => (P56.rest (hs.getD k []) mz, n)) = ((P56.hold hs g).take j).map (fun k => (P56.rest (hs.getD k []) mz, n)) ++ [(P56.rest hs[k] mz, n)] := by
            rw [List.take_add_one, ek, List.map_append]
            simp [e0, List.getD_eq_getElem?_getD, kl]
          rw [e1, ← List.append_assoc, ← List.append_assoc]
          refine (stk.keep kx).app (.cons (q := tt) (m := p) (v := u) (up _ _ (by rw [upd_same, nn])) (up _ _ (st _ _ upd_same)) (Nat.le_trans (List.length_filter_le _ _) lm) ?_ .nil)
          have := bks j k u ek eu
          rw [e0] at this
          exact (this.keep kk).keep kx
      · rintro σ He ⟨c9, add, rfl, kk, sk0, eDk, eLk, la, stk⟩
        rw [tn] at la stk
        rw [List.take_length] at stk
        refine ⟨wts (fs ++ (P56.hold hs g).map fun k => (P56.rest (hs.getD k []) mz, n)), ?_, ys ++ add, _, _, _, _, _, _, rfl, sk0, eLk, stk, fun i e h => ?_, rfl⟩
        · rw [wl, wts_app, wts_le (n := n) ((P56.hold hs g).map fun k => (P56.rest (hs.getD k []) mz, n)) (fun e he => by obtain ⟨k, _, rfl⟩ := List.mem_map.mp he; rfl), List.length_map, Nat.pow_succ]
          have p13 : 0 < 13 ^ n := Nat.pow_pos (by decide)
          have : (P56.hold hs g).length * 13 ^ n ≤ 12 * 13 ^ n := Nat.mul_le_mul_right _ (by omega)
          omega
        · rcases Nat.lt_or_ge i fs.length with hi | hi
          · rw [List.getElem?_append_left hi] at h
            exact pos' i e h
          · rw [List.getElem?_append_right hi, List.getElem?_map] at h
            obtain ⟨k, ek, rfl⟩ := Option.map_eq_some_iff.mp h
            have := (List.getElem?_eq_some_iff.mp ek).1
            show i + 12 * n ≤ 12 * N
            omega
end
end K61
set_option Elab.async false
set_option linter.all false
set_option maxRecDepth 100000
set_option maxHeartbeats 4000000
set_option pp.maxSteps 400
set_option pp.deepTerms false
namespace K61
open PySem PySem.Spec PyProof.Rows L2
open Xk Az
section
variable {P : Program} {w : World} {K : PySem.W.Frag} {mg : Str → Option Value} {base : Heap}
/-- lists of numbers that are filled in place -/
def LL (h HL : Addr) (H0 H : Hp) (ls : List Addr) (hs : List (List Int)) : Prop := ls.length = hs.length ∧ ls.Nodup ∧ ∀ (i : Nat) (l : Addr) (gs : List Int), ls[i]? = some l → hs[i]? = some gs → l ≠ h ∧ l ≠ HL ∧ H0 l = none ∧ H l = some (.lst (gs.map V.int))
theorem LL.but {h HL : Addr} {H0 H H' : Hp} {ls : List Addr} {hs : List (List Int)} (a : LL h HL H0 H ls hs) (b : But h H H') : LL h HL H0 H' ls hs :=
  ⟨a.1, a.2.1, fun i l gs e1 e2 => by
    obtain ⟨h1, h2, h3, h4⟩ := a.2.2 i l gs e1 e2
    exact ⟨h1, h2, h3, b _ _ h1 h4⟩⟩
theorem LL.put {h HL : Addr} {H0 H : Hp} {ls : List Addr} {hs : List (List Int)} (a : LL h HL H0 H ls hs) {i : Nat} {l : Addr} {gs : List Int} (e1 : ls[i]? = some l) (e2 : hs[i]? = some gs) (x : Int) :
    LL h HL H0 (upd H l (.lst (gs.map V.int ++ [.int x]))) ls (hs.set i (gs ++ [x])) := by
  refine ⟨by rw [List.length_set]; exact a.1, a.2.1, fun j l' gs' f1 f2 => ?_⟩
  by_cases c : i = j
  · subst c
    obtain rfl : l = l' := Option.some.inj (e1.symm.trans f1)
    have il : i < hs.length := (List.getElem?_eq_some_iff.mp e2).1
    rw [List.getElem?_set_self il] at f2
    obtain rfl := Option.some.inj f2
    obtain ⟨h1, h2, h3, _⟩ := a.2.2 i l gs e1 e2
    exact ⟨h1, h2, h3, by rw [upd_same, List.map_append]; rfl⟩
  · rw [List.getElem?_set_ne c] at f2
    obtain ⟨h1, h2, h3, h4⟩ := a.2.2 j l' gs' f1 f2
    have ne : l' ≠ l := fun z => by
      subst z
      exact c (by
        have il := (List.getElem?_eq_some_iff.mp e1).1
        exact (List.getElem?_inj il a.2.1).mp (e1.trans f1.symm))
    exact ⟨h1, h2, h3, by rw [upd_ne ne]; exact h4⟩
theorem Hl.snoc {H : Hp} {xs : List V} {hs : List (List Int)} (h : Hl H xs hs) {t : Addr} {ns : List Int} (e : H t = some (.tup (ns.map V.int))) : Hl H (xs ++ [.ref t]) (hs ++ [ns]) := by
  induction h with
  | nil => exact .cons e .nil
  | cons e' _ ih => exact .cons e' ih
def spHeldg : Sp := fun vs H Q _ => ∃ (h b : Addr) (n : Int) (ws : List Int), vs = [.ref h, .ref b] ∧ H b = some (.tup (ws.map V.int)) ∧ b ≠ h ∧ ws.length ≤ 20 ∧ Sm ws ∧ Hand n H h ∧ n + 1000 ≤ far ∧
  ∀ t xs hs H', H' t = some (.tup xs) → Hl H' xs hs → hs.length ≤ 12 → Gs hs → (∀ w ∈ ws, ∃ k, k < hs.length ∧ P56.on hs k w = true) → Hand (n + 500) H' h → But h H H' → Q (.ref t) H'
theorem ok_heldg {f : Addr} {fd : FuncData} (D : Df K mg "_law_held" ["_law_hand_here", "_law_wishes_here"] sHeld f fd) (T : Txt mg) (cT : Ca P w K mg base 1 "_law_take" ["_law_hand_here", "_law_many"] spTake) : FnOk P w K mg base CX0 2 f fd ["_law_hand_here", "_law_wishes_here"] spHeldg := by
  refine D.fn.ok scHeld (fun vs H Q E h => ?_) (fun cdv A outer s H vs Q E hr h => ?_)
  · obtain ⟨h, b, n, ws, rfl, eb, nbh, l20, sw, hh, hn, q⟩ := h
    rfl
  · obtain ⟨h, b, n, ws, rfl, eb, nbh, l20, sw, hh, hn, q⟩ := h
    refine ⟨_, (pss_cons (ps_set (i := 3) scHeld.nd rfl (.inr rfl) (pe_lc (own := [("_law_k", 2)]) (g := gName 2) (tt := tYes) (by rfl) scHeld.nd (pi_range1 (by rfl) T.range (pa_cons (pe_op op_add pe_int (pe_ca cT hr (by decide) (by rfl) (pa_cons (pv 0) (pa_cons pe_int pa_nil)))) pa_nil)) (blkOk_by (own := [("_law_k", 2)]) (N := ["_law_hand_here", "_law_wishes_here", "_law_k", "_law_held_here", "_law_way", "_law_spots", "_law_spot", "_law_turn", "_law_some"]) (sc := defScope sHeld) (by decide +kernel)) (fun _ _ _ _ _ => pg_name (i := 2) scHeld.nd rfl (.inl rfl)) (fun _ _ _ _ _ => pts_nil) (fun _ _ _ _ _ => pe_lst pa_nil)))
      (pss_cons (ps_set (i := 4) scHeld.nd rfl (.inl rfl) (pe_ca cT hr (by decide) (by rfl) (pa_cons (pv 0) (pa_cons pe_int pa_nil))))
      (pss_cons (ps_for PassesOwn.never rfl (pi_range1 (by rfl) T.range (pa_cons (pe_callB call_len_seq (by rfl) T.len PySem.boot_len (pa_cons (pv 1) pa_nil)) pa_nil)) (pg_name (i := 2) scHeld.nd rfl (.inl rfl)) (pss_cons (ps_setLc (i := 5) (own := [("_law_turn", 7)]) (g := gName 7) (tt := tYes) (te := tCall spTake [] E0 (tCons (tVar 0) (tCons (tCB (rLn K) (tCons (tVar 3) tNil)) tNil))) (by rfl) scHeld.nd rfl rfl (sw_true rfl rfl rfl (by decide +kernel)) (pi_range1 (by rfl) T.range (pa_cons (pe_op op_add pe_int (pe_ca cT hr (by decide) (by rfl) (pa_cons (pv 0) (pa_cons pe_int pa_nil)))) pa_nil)) (blkOk_by (own := [("_law_turn", 7)]) (N := ["_law_hand_here", "_law_wishes_here", "_law_k", "_law_held_here", "_law_way", "_law_spots", "_law_spot", "_law_turn", "_law_some"]) (sc := defScope sHeld) (by decide +kernel)) (fun _ _ _ _ _ => pg_name (i := 7) scHeld.nd rfl (.inl rfl)) (fun _ _ _ _ _ => pts_nil) (fun _ _ _ _ _ => pe_ca cT hr (by decide) (by rfl) (pa_cons (pv 0) (pa_cons (pe_callB call_len_seq (by rfl) T.len PySem.boot_len (pa_cons (pv 3) pa_nil)) pa_nil))))
      (C8.pss_cut (ps_if (pt_cmpR op_eq (pv 4) pe_int (nomark _)) (pss_one (ps_set (i := 5) scHeld.nd rfl (.inl rfl) (pe_lst (pa_cons (pe_op op_mod (pv 2) (pe_callB call_len_seq (by rfl) T.len PySem.boot_len (pa_cons (pv 3) pa_nil))) pa_nil)))) pss_nil)
      (C8.pss_cut (ps_if (pt_cmpR op_eq (pv 4) pe_int (nomark _)) (pss_one (ps_set (i := 5) scHeld.nd rfl (.inl rfl) (pe_ifExp (pt_cmpR op_gt (pv 2) pe_int (nomark _)) (pe_lst (pa_cons pe_int (pa_cons (pe_ca cT hr (by decide) (by rfl) (pa_cons (pv 0) (pa_cons (pe_callB call_len_seq (by rfl) T.len PySem.boot_len (pa_cons (pv 3) pa_nil)) pa_nil))) pa_nil))) (pe_lst (pa_cons (pe_op op_sub (pe_callB call_len_seq (by rfl) T.len PySem.boot_len (pa_cons (pv 3) pa_nil)) pe_int) pa_nil))))) pss_nil)
      (pss_one (ps_for PassesOwn.never rfl (pi_list (pv 5)) (pg_name (i := 6) scHeld.nd rfl (.inl rfl)) (pss_one (ps_if (pt_cmpR op_notIn_seq (pe_ix ix_tup (pv 1) (pv 2) (fun _ _ => rfl)) (pe_ix ix_list (pv 3) (pv 6) (fun _ _ => rfl)) (by rfl)) (pss_one (ps_expr (pe_bm PySem.F.plainAttrs_list PySem.F.slot_list_append PySem.F.type_list_append mt_append (pe_ix ix_list (pv 3) (pv 6) (fun _ _ => rfl)) (pa_cons (pe_ix ix_tup (pv 1) (pv 2) (fun _ _ => rfl)) pa_nil)))) pss_nil))))))))
      (pss_one (ps_ret (pe_callTy call_tuple_of (by rfl) T.tuple (by decide +kernel) (pa_cons (pe_lc (own := [("_law_some", 8)]) (g := gName 8) (tt := tYes) (te := tCB (rTo K) (tCons (tVar 8) tNil)) (by rfl) scHeld.nd (pi_list (pv 3)) (blkOk_by (own := [("_law_some", 8)]) (N := ["_law_hand_here", "_law_wishes_here", "_law_k", "_law_held_here", "_law_way", "_law_spots", "_law_spot", "_law_turn", "_law_some"]) (sc := defScope sHeld) (by decide +kernel)) (fun _ _ _ _ _ => pg_name (i := 8) scHeld.nd rfl (.inl rfl)) (fun _ _ _ _ _ => pts_nil) (fun _ _ _ _ _ => pe_callTy call_tuple_of (by rfl) T.tuple (by decide +kernel) (pa_cons (pv 8) pa_nil))) pa_nil))))))), ?_⟩
    have fr : n + 1000 ≤ 1000000 := hn
    refine ⟨_, rfl, h, 4, n, rfl, by decide, by decide, hh, by show n ≤ 1000000; omega, fun d H1 d0 d1 h1 b1 => ?_⟩
    refine ⟨9, d, rfl, rfl, _, rfl, by omega, by omega, fun D nD => ?_⟩
    refine lc_range (lo := 0) (fun k Hj => L2.Same H1 Hj ∧ ∃ ls : List Addr, Hj D = some (.lst (ls.map V.ref)) ∧ ls.length = k ∧ LL h D H Hj ls (List.replicate k [])) ⟨same_upd nD, [], upd_same, rfl, rfl, List.nodup_nil, fun i l gs e => by simp at e⟩ ?_ ?_
    · rintro k Hj hk ⟨sj, ls, eD, lk, l1, l2, l3⟩
      refine ⟨rfl, ?_⟩
      unfold tYes
      refine iteT ⟨(by show 0 ≤ sizeLine; decide), fun l nl => ?_⟩
      have sl := same_upd nl (o := .lst [])
      have nlD : l ≠ D := (ne_of_none eD nl).symm
      have hj := (h1.same sj)
      refine ⟨_, sl _ _ eD, ?_, fun c o e => ?_, ls ++ [l], by rw [upd_same, List.map_append]; rfl, by rw [List.length_append, lk]; rfl, by simp [lk], ?_, fun i l' gs e1 e2 => ?_⟩
      · rw [List.length_map, lk]
        exact Nat.lt_of_le_of_lt (show k ≤ 1000 by omega) (by decide)
      · rw [upd_ne (ne_of_none e nD)]
        exact sl _ _ (sj _ _ e)
      · refine List.nodup_append.mpr ⟨l2, by simp, fun x hx y hy z => ?_⟩
        rw [List.mem_singleton.mp hy] at z
        obtain ⟨i, hi⟩ := List.getElem?_of_mem hx
        have il : i < k := by have := (List.getElem?_eq_some_iff.mp hi).1; omega
        obtain ⟨_, _, _, e⟩ := l3 i x [] hi (by simp [il])
        rw [z, nl] at e
        cases e
      · rcases Nat.lt_or_ge i ls.length with hi | hi
        · rw [List.getElem?_append_left hi] at e1
          have ik : i < k := by omega
          have e2' : (List.replicate k ([] : List Int))[i]? = some gs := by
            simp [show i < k + 1 by omega] at e2
            simp [ik, e2]
          obtain ⟨h1', h2', h3', h4'⟩ := l3 i l' gs e1 e2'
          exact ⟨h1', h2', h3', by rw [upd_ne h2']; exact sl _ _ h4'⟩
        · rw [List.getElem?_append_right hi] at e1
          have e0 : i - ls.length = 0 := by
            rcases Nat.eq_zero_or_pos (i - ls.length) with z | z
            · exact z
            · rw [List.getElem?_eq_none (show ([l] : List Addr).length ≤ i - ls.length from z)] at e1; cases e1
          rw [e0] at e1
          obtain rfl : l = l' := Option.some.inj e1
          obtain rfl : [] = gs := by
            have : i < k + 1 := (by have := (List.getElem?_eq_some_iff.mp e2).1; simpa using this)
            simp [this] at e2
            exact e2.symm
          have nh : l ≠ h := hj.fresh nl
          refine ⟨nh, nlD, ?_, by rw [upd_ne nlD, upd_same]; rfl⟩
          cases z : H l with
          | none => rfl
          | some o => rw [sj _ _ (b1 _ _ nh z)] at nl; cases nl
    rintro H2 ⟨s2, ls, eHL, lk, ll⟩
    have bA : But h H H2 := b1.trans (Same.but s2 h)
    have nDh : D ≠ h := h1.fresh nD
    refine ⟨_, rfl, h, 3, n + 1, rfl, by decide, by decide, h1.same s2, by show n + 1 ≤ 1000000; omega, fun way H3 w0 w1 h3 b3 => ?_⟩
    have bB := bA.trans b3
    have l9 : 9 ≤ ls.length ∧ ls.length ≤ 12 := by omega
    refine ⟨_, rfl, b, _, rfl, .inr (SqT.of (bB _ _ nbh eb)), _, rfl, by omega, by rw [List.length_map]; omega, ?_⟩
    have nof : ∀ {Hx Hy : Hp} {S : Addr}, But h Hx Hy → S ≠ h → Hy S = none → Hx S = none := fun {Hx Hy S} bb ns e => by
      cases z : Hx S with
      | none => rfl
      | some o => rw [bb _ _ ns z] at e; cases e
    refine for_range (lo := 0) (n := (((ws.map V.int).length : Nat) : Int).toNat) (fun k σ Hi => ∃ (c2 c5 c6 : Option V) (hs : List (List Int)), σ = [some (.ref h), some (.ref b), c2, some (.ref D), some (.int way), c5, c6, none, none] ∧ LL h D H Hi ls hs ∧ Hi D = some (.lst (ls.map V.ref)) ∧ (∀ gs ∈ hs, gs.length ≤ 2 * k ∧ Sm gs) ∧ (∀ i : Nat, i < k → ∃ (j : Nat) (gs : List Int), hs[j]? = some gs ∧ ws.getD i 0 ∈ gs) ∧ Hand (n + 2 + 5 * k) Hi h ∧ But h H Hi) ?_ ?_ ?_
    · exact ⟨_, _, _, _, rfl, ll.but b3, b3 _ _ nDh eHL, fun gs hg => by rw [(List.mem_replicate.mp hg).2]; exact ⟨Nat.zero_le _, fun x hx => by cases hx⟩, fun i hi => absurd hi (Nat.not_lt_zero _), h3.mono (by omega), bB⟩
    · rintro k σ Hi hk ⟨c2, c5, c6, hs, rfl, ll, eD, gl, on, hd, bi⟩
      have kl : k < ws.length := by rw [List.length_map, Int.toNat_natCast] at hk; exact hk
      rw [Int.zero_add]
      refine ⟨_, rfl, h, 2, n + 2 + 5 * k, rfl, by decide, by decide, hd, by show n + 2 + 5 * (k : Int) ≤ 1000000; omega, fun d2 H4 e0 e1 h4 b4 => ⟨1, d2, rfl, rfl, _, rfl, by omega, by omega, fun S nS => ?_⟩⟩
      have nSh : S ≠ h := h4.fresh nS
      have hiS : Hi S = none := nof b4 nSh nS
      refine lc_range (lo := 0) (fun j Hj => ∃ zs : List Int, Hj S = some (.lst (zs.map V.int)) ∧ zs.length = j ∧ (∀ z ∈ zs, 0 ≤ z ∧ z < (ls.length : Int)) ∧ Hand (n + 2 + 5 * k + 1 + j) Hj h ∧ But h Hi Hj) ⟨[], upd_same, rfl, fun z hz => absurd hz List.not_mem_nil, (h4.same (same_upd nS)).mono (by omega), b4.trans (Same.but (same_upd nS) h)⟩ ?_ ?_
      · rintro j Hj hj ⟨zs, eS, lz, bz, hj', bj⟩
        refine ⟨rfl, ?_⟩
        unfold tYes
        refine iteT ⟨_, rfl, _, rfl, D, _, rfl, .inl (SqL.of (bj _ _ nDh eD)), h, _, _, rfl, by rw [List.length_map]; omega, by rw [List.length_map]; exact lt30' (by omega), hj', by show n + 2 + 5 * (k : Int) + 1 + (j : Int) ≤ 1000000; omega, fun z H5 z0 z1 h5 b5 => ?_⟩
        rw [List.length_map] at z1
        refine ⟨_, b5 _ _ nSh eS, ?_, zs ++ [z], by rw [upd_same, List.map_append]; rfl, by rw [List.length_append, lz]; rfl, fun y hy => ?_, (h5.upd (Ne.symm nSh)).mono (by omega), fun c o nc e => ?_⟩
        · rw [List.length_map, lz]
          exact Nat.lt_of_le_of_lt (show j ≤ 1000 by omega) (by decide)
        · rcases List.mem_append.mp hy with y' | y'
          · exact bz y y'
          · rw [List.mem_singleton.mp y']; exact ⟨z0, z1⟩
        · rw [upd_ne (ne_of_none e hiS)]
          exact b5 _ _ nc (bj _ _ nc e)
      rintro H6 ⟨zs, eS, lz, bz, h6, b6⟩
      have lz1 : 1 ≤ zs.length ∧ zs.length ≤ 2 := by omega
      refine ⟨fun σ H' => ∃ (S : Addr) (zs : List Int), σ = [some (.ref h), some (.ref b), some (.int (k : Int)), some (.ref D), some (.int way), some (.ref S), c6, none, none] ∧ H' S = some (.lst (zs.map V.int)) ∧ S ≠ h ∧ Hi S = none ∧ (1 ≤ zs.length ∧ zs.length ≤ 2) ∧ (∀ z ∈ zs, 0 ≤ z ∧ z < (ls.length : Int)) ∧ Hand (n + 2 + 5 * k + 4) H' h ∧ But h Hi H', ?_, ?_⟩
      · refine ⟨_, rfl, rfl, _, rfl, ite2 (fun _ => ?_) (fun _ => ⟨S, zs, rfl, eS, nSh, hiS, lz1, bz, h6.mono (by omega), b6⟩)⟩
        refine ⟨_, rfl, _, rfl, D, _, rfl, .inl (SqL.of (b6 _ _ nDh eD)), _, _, rfl, rfl, by rw [List.length_map]; omega, (by show 1 ≤ sizeLine; decide), fun S' nS' => ?_⟩
        have s' := same_upd nS' (o := .lst [.int ((k : Int) % ((ls.map V.ref).length : Nat))])
        have nh' := h6.fresh nS'
        refine ⟨S', [(k : Int) % ((ls.map V.ref).length : Nat)], rfl, upd_same, nh', nof b6 nh' nS', ⟨by simp, by simp⟩, fun z hz => ?_, (h6.same s').mono (by omega), b6.trans (Same.but s' h)⟩
        rw [List.mem_singleton.mp hz, List.length_map]
        exact ⟨Int.emod_nonneg _ (by omega), Int.emod_lt_of_pos _ (by omega)⟩
      clear lz1 bz h6 b6 eS lz
      rintro σ H7 ⟨S, zs, rfl, eS, nSh, hiS, lz1, bz, h7, b7⟩
      refine ⟨fun σ H' => ∃ (S : Addr) (zs : List Int), σ = [some (.ref h), some (.ref b), some (.int (k : Int)), some (.ref D), some (.int way), some (.ref S), c6, none, none] ∧ H' S = some (.lst (zs.map V.int)) ∧ S ≠ h ∧ Hi S = none ∧ (1 ≤ zs.length ∧ zs.length ≤ 2) ∧ (∀ z ∈ zs, 0 ≤ z ∧ z < (ls.length : Int)) ∧ Hand (n + 2 + 5 * k + 5) H' h ∧ But h Hi H', ?_, ?_⟩
      · refine ⟨_, rfl, rfl, _, rfl, ite2 (fun _ => ?_) (fun _ => ⟨S, zs, rfl, eS, nSh, hiS, lz1, bz, h7.mono (by omega), b7⟩)⟩
        refine ⟨_, rfl, _, _, rfl, rfl, _, rfl, ite2 (fun _ => ?_) (fun _ => ?_)⟩
        · refine ⟨_, rfl, _, rfl, D, _, rfl, .inl (SqL.of (b7 _ _ nDh eD)), h, _, _, rfl, by rw [List.length_map]; omega, by rw [List.length_map]; exact lt30' (by omega), h7, by show n + 2 + 5 * (k : Int) + 4 ≤ 1000000; omega, fun z H8 z0 z1 h8 b8 => ⟨(by show 2 ≤ sizeLine; decide), fun S' nS' => ?_⟩⟩
          rw [List.length_map] at z1
          have s' := same_upd nS' (o := .lst [.int 0, .int z])
          have nh' := h8.fresh nS'
          refine ⟨S', [0, z], rfl, upd_same, nh', nof (b7.trans b8) nh' nS', ⟨by simp, by simp⟩, fun y hy => ?_, (h8.same s').mono (by omega), (b7.trans b8).trans (Same.but s' h)⟩
          simp only [List.mem_cons, List.not_mem_nil, or_false] at hy
          rcases hy with rfl | rfl
          · exact ⟨by decide, by omega⟩
          · exact ⟨z0, z1⟩
        · refine ⟨_, rfl, D, _, rfl, .inl (SqL.of (b7 _ _ nDh eD)), _, 1, rfl, rfl, (by show 1 ≤ sizeLine; decide), fun S' nS' => ?_⟩
          have s' := same_upd nS' (o := .lst [.int (((ls.map V.ref).length : Nat) - 1)])
          have nh' := h7.fresh nS'
          refine ⟨S', [((ls.map V.ref).length : Nat) - 1], rfl, upd_same, nh', nof b7 nh' nS', ⟨by simp, by simp⟩, fun y hy => ?_, (h7.same s').mono (by omega), b7.trans (Same.but s' h)⟩
          rw [List.mem_singleton.mp hy, List.length_map]
          omega
      clear lz1 bz h7 b7 eS
      rintro σ H8 ⟨S, zs, rfl, eS, nSh, hiS, lz1, bz, h8, b8⟩
      obtain ⟨wk, ewk⟩ : ∃ wk, ws[k]? = some wk := ⟨_, List.getElem?_eq_getElem kl⟩
      have ewd : ws.getD k 0 = wk := by rw [List.getD_eq_getElem?_getD, ewk]; rfl
      have swk := sw wk (List.mem_of_getElem? ewk)
      refine ⟨_, rfl, S, rfl, ⟨_, SqL.of eS⟩, ?_⟩
      refine for_list (K := K) (a := S) (xs := zs.map V.int) (fun j σ Hj => ∃ (c6 : Option V) (gz : List (List Int)), σ = [some (.ref h), some (.ref b), some (.int (k : Int)), some (.ref D), some (.int way), some (.ref S), c6, none, none] ∧ Hj S = some (.lst (zs.map V.int)) ∧ LL h D H Hj ls gz ∧ Hj D = some (.lst (ls.map V.ref)) ∧ (∀ gs ∈ gz, gs.length ≤ 2 * k + j ∧ Sm gs) ∧ (∀ i : Nat, i < k → ∃ (j : Nat) (gs : List Int), gz[j]? = some gs ∧ ws.getD i 0 ∈ gs) ∧ (1 ≤ j → ∃ (q : Nat) (gs : List Int), gz[q]? = some gs ∧ wk ∈ gs) ∧ Hand (n + 2 + 5 * k + 5) Hj h ∧ But h H Hj)
        ⟨_, hs, rfl, eS, ll.but b8, b8 _ _ nDh eD, fun gs hg => ⟨Nat.le_trans (gl gs hg).1 (Nat.le_add_right _ _), (gl gs hg).2⟩, on, fun z => absurd z (by decide), h8, bi.trans b8⟩ (fun j σ Hj _ z => by obtain ⟨_, _, _, e, _⟩ := z; exact SqL.of e) ?_ ?_
      · rintro j x σ Hj hx ⟨c6, gz, rfl, eSj, llj, eDj, glj, onj, nj, hj, bj⟩
        have jl : j < zs.length := by have := (List.getElem?_eq_some_iff.mp hx).1; rw [List.length_map] at this; exact this
        rw [List.getElem?_map] at hx
        obtain ⟨z, ez, rfl⟩ := Option.map_eq_some_iff.mp hx
        obtain ⟨z0, z1⟩ := bz z (List.mem_of_getElem? ez)
        obtain ⟨zn, rfl⟩ : ∃ zn : Nat, z = (zn : Int) := ⟨z.toNat, by omega⟩
        have zl : zn < ls.length := by omega
        have zl2 : zn < gz.length := by rw [← llj.1]; exact zl
        have e1 : ls[zn]? = some ls[zn] := List.getElem?_eq_getElem zl
        have e2 : gz[zn]? = some gz[zn] := List.getElem?_eq_getElem zl2
        generalize ls[zn] = lq at e1
        have mg := List.getElem_mem zl2
        generalize gz[zn] = gq at e2 mg
        obtain ⟨k1, k2, k3, k4⟩ := llj.2.2 zn lq gq e1 e2
        have lqS : lq ≠ S := fun z => by
          obtain ⟨_, _, _, e⟩ := ll.2.2 zn lq (hs.getD zn []) e1 (by
            have : zn < hs.length := by rw [← ll.1]; exact zl
            rw [List.getD_eq_getElem?_getD, List.getElem?_eq_getElem this]; rfl)
          rw [z, hiS] at e
          cases e
        have e3 : (ls.map V.ref)[zn]? = some (.ref lq) := by rw [List.getElem?_map, e1]; rfl
        have e4 : (ws.map V.int)[k]? = some (.int wk) := by rw [List.getElem?_map, ewk]; rfl
        refine ⟨_, rfl, _, rfl, b, _, _, .int wk, rfl, rfl, SqT.of (bj _ _ nbh eb), atI_nat (j := k) e4, _, rfl, _, rfl, D, _, _, .ref lq, rfl, rfl, SqL.of eDj, atI_nat (j := zn) e3, lq, _, rfl, .inl (SqL.of k4), rfl, flat_ints _, _, rfl, ite2 (fun e => ?_) (fun e => ?_)⟩
        · refine ⟨_, rfl, _, rfl, D, _, _, .ref lq, rfl, rfl, SqL.of eDj, atI_nat (j := zn) e3, .inl ⟨rfl, _, SqL.of k4⟩, _, rfl, _, rfl, b, _, _, .int wk, rfl, rfl, SqT.of (bj _ _ nbh eb), atI_nat (j := k) e4, lq, _, _, rfl, rfl, k4, ?_, _, gz.set zn (gq ++ [wk]), rfl, ?_, llj.put e1 e2 wk, ?_, fun gs hg => ?_, fun i hi => ?_, fun _ => ⟨zn, gq ++ [wk], List.getElem?_set_self zl2, by simp⟩, hj.upd (Ne.symm k1), fun c o nc e => ?_⟩
          · rw [List.length_map]
            have := (glj gq mg).1
            exact Nat.lt_of_le_of_lt (show gq.length ≤ 1000 by omega) (by decide)
          · rw [upd_ne (Ne.symm lqS)]; exact eSj
          · rw [upd_ne (Ne.symm k2)]; exact eDj
          · rcases List.mem_or_eq_of_mem_set hg with z | z
            · exact ⟨Nat.le_trans (glj gs z).1 (by omega), (glj gs z).2⟩
            · rw [z, List.length_append]
              have := glj gq mg
              exact ⟨by simp; omega, this.2.snoc swk.1 swk.2⟩
          · obtain ⟨jj, gs, f1, f2⟩ := onj i hi
            by_cases c : zn = jj
            · subst c
              obtain rfl := Option.some.inj (e2.symm.trans f1)
              exact ⟨zn, _, List.getElem?_set_self zl2, List.mem_append_left _ f2⟩
            · exact ⟨jj, gs, by rw [List.getElem?_set_ne c]; exact f1, f2⟩
          · rw [upd_ne (ne_of_none e k3)]
            exact bj _ _ nc e
        · have hin : wk ∈ gq := by
            have : inV (.int wk) (gq.map V.int) = true := by simpa using e
            rw [inV_ints] at this
            exact of_decide_eq_true this
          exact ⟨_, gz, rfl, eSj, llj, eDj, fun gs hg => ⟨Nat.le_trans (glj gs hg).1 (by omega), (glj gs hg).2⟩, onj, fun _ => ⟨zn, gq, e2, hin⟩, hj, bj⟩
      · rintro σ Hj ⟨c6, gz, rfl, eSj, llj, eDj, glj, onj, nj, hj, bj⟩
        rw [List.length_map] at glj nj
        refine ⟨_, _, _, gz, rfl, llj, eDj, fun gs hg => ⟨Nat.le_trans (glj gs hg).1 (by omega), (glj gs hg).2⟩, fun i hi => ?_, hj.mono (by omega), bj⟩
        rcases Nat.lt_or_ge i k with z | z
        · exact onj i z
        · obtain rfl : i = k := by omega
          rw [ewd]
          exact nj lz1.1
    · rintro σ He ⟨c2, c5, c6, hs, rfl, ll, eD, gl, on, hd, be⟩
      rw [List.length_map, Int.toNat_natCast] at gl on hd
      have lh := ll.1
      refine ⟨_, rfl, D, rfl, ⟨_, SqL.of eD⟩, fun D2 nD2 => ?_⟩
      refine lc_list (K := K) (a := D) (xs := ls.map V.ref) (fun j Hj => L2.Same He Hj ∧ ∃ zs : List V, Hj D2 = some (.lst zs) ∧ zs.length = j ∧ Hl Hj zs (hs.take j)) ⟨same_upd nD2, [], upd_same, rfl, .nil⟩ (fun j Hj _ z => SqL.of (z.1 _ _ eD)) ?_ ?_
      · rintro j v Hj hv ⟨sj, zs, eD2, lz, cz⟩
        have jl : j < ls.length := by have := (List.getElem?_eq_some_iff.mp hv).1; rw [List.length_map] at this; exact this
        have jh : j < hs.length := by omega
        rw [List.getElem?_map] at hv
        obtain ⟨l, el, rfl⟩ := Option.map_eq_some_iff.mp hv
        obtain ⟨_, _, _, e4⟩ := ll.2.2 j l hs[j] el (List.getElem?_eq_getElem jh)
        refine ⟨rfl, ?_⟩
        unfold tYes
        refine iteT ⟨_, rfl, l, _, rfl, .inl ⟨SqL.of (sj _ _ e4), fun p np => ?_⟩⟩
        have sp := same_upd np (o := .tup ((hs[j]).map V.int))
        have pD : p ≠ D2 := Ne.symm (ne_of_none eD2 np)
        refine ⟨_, sp _ _ eD2, ?_, fun c o e => ?_, zs ++ [.ref p], upd_same, by rw [List.length_append, lz]; rfl, ?_⟩
        · rw [lz]
          exact Nat.lt_of_le_of_lt (show j ≤ 100 by omega) (by decide)
        · rw [upd_ne (ne_of_none e nD2)]
          exact sp _ _ (sj _ _ e)
        · rw [List.take_add_one, List.getElem?_eq_getElem jh]
          refine (cz.map fun c ys e => ?_).snoc (by rw [upd_ne pD, upd_same])
          rw [upd_ne (ne_of e eD2 (by intro z; cases z))]
          exact sp _ _ e
      rintro Hb ⟨sb, zs, eD2, lz, cz⟩
      rw [List.length_map, lh, List.take_length] at cz
      refine ⟨D2, zs, rfl, .inl ⟨SqL.of eD2, fun t nt => ?_⟩⟩
      have st := same_upd nt (o := .tup zs)
      have sA := sb.trans st
      refine q t zs hs _ upd_same (cz.map fun c ys e => st _ _ e) (by omega) (fun gs hg => ⟨Nat.le_trans (gl gs hg).1 (by omega), (gl gs hg).2⟩) (fun w hw => ?_) ((hd.same sA).mono (by omega)) (be.trans (Same.but sA h))
      obtain ⟨i, hi⟩ := List.getElem?_of_mem hw
      have il := (List.getElem?_eq_some_iff.mp hi).1
      obtain ⟨j, gs, f1, f2⟩ := on i il
      rw [List.getD_eq_getElem?_getD, hi] at f2
      refine ⟨j, (List.getElem?_eq_some_iff.mp f1).1, ?_⟩
      unfold P56.on
      rw [List.getD_eq_getElem?_getD, f1]
      exact decide_eq_true f2
end
end K61
set_option Elab.async false
set_option linter.all false
set_option maxRecDepth 100000
set_option maxHeartbeats 4000000
set_option pp.maxSteps 400
set_option pp.deepTerms false
namespace K61
open PySem PySem.Spec PyProof.Rows L2
open Xk Az
section
variable {P : Program} {w : World} {K : PySem.W.Frag} {mg : Str → Option Value} {base : Heap}
/-- the number of a thing that is a whole one -/
def wh : PyData → Option Int
  | .int i => some i
  | _ => none
def spWholeG (K : PySem.W.Frag) : Sp := fun vs H Q _ => ∃ (v : V) (d : PyData), vs = [v] ∧ Dz K H v d ∧ Q (.bl (wh d).isSome) H
def inB (a b : Int) (d : PyData) : Bool := match wh d with
  | some i => decide (a ≤ i) && decide (i ≤ b)
  | none => false
def spWithin (K : PySem.W.Frag) : Sp := fun vs H Q _ => ∃ (v : V) (d : PyData) (a b : Int), vs = [v, .int a, .int b] ∧ Dz K H v d ∧ Q (.bl (inB a b d)) H
theorem ok_wholeG {f : Addr} {fd : FuncData} (D : Df K mg "is_whole" ["thing"] sIsWhole f fd) (T : Txt mg) : FnOk P w K mg base CX0 1 f fd ["thing"] (spWholeG K) := by
  refine D.fn.ok scIsWhole (fun vs H Q E h => ?_) (fun cdv A outer s H vs Q E hr h => ?_)
  · obtain ⟨v, d, rfl, h, q⟩ := h
    rfl
  · obtain ⟨v, d, rfl, h, q⟩ := h
    refine ⟨_, (pss_one (ps_ret (pe_and (pe_callB call_isi (by rfl) T.isi (by decide +kernel) (pa_cons (pv 0) (pa_cons (pe_bltn (v := .ty "int") (by rfl) T.int (by decide +kernel) rfl) pa_nil))) (pe_one (pe_not (pe_callB call_isi (by rfl) T.isi (by decide +kernel) (pa_cons (pv 0) (pa_cons (pe_bltn (v := .ty "bool") (by rfl) T.bool (by decide +kernel) rfl) pa_nil)))))))), ?_⟩
    cases d with
    | int i =>
      have ty : TyX K H v (.type "int") := h.ty
      refine ⟨_, rfl, _, _, _, _, true, rfl, .ty _, ty, kit_ty (by decide +kernel), true, rfl, iteT ?_⟩
      exact ⟨_, rfl, _, _, _, _, false, rfl, .ty _, ty, kit_ty (by decide +kernel), false, rfl, q⟩
    | bool b =>
      have ty : TyX K H v (.type "bool") := h.ty
      refine ⟨_, rfl, _, _, _, _, true, rfl, .ty _, ty, kit_ty (by decide +kernel), true, rfl, iteT ?_⟩
      exact ⟨_, rfl, _, _, _, _, true, rfl, .ty _, ty, kit_ty (by decide +kernel), true, rfl, q⟩
    | none  =>
      have ty : TyX K H v (.type "NoneType") := h.ty
      exact ⟨_, rfl, _, _, _, _, false, rfl, .ty _, ty, kit_ty (by decide +kernel), false, rfl, iteF q⟩
    | str x =>
      have ty : TyX K H v (.type "str") := h.ty
      exact ⟨_, rfl, _, _, _, _, false, rfl, .ty _, ty, kit_ty (by decide +kernel), false, rfl, iteF q⟩
    | list ds =>
      have ty : TyX K H v (.type "list") := h.ty
      exact ⟨_, rfl, _, _, _, _, false, rfl, .ty _, ty, kit_ty (by decide +kernel), false, rfl, iteF q⟩
    | tuple ds =>
      have ty : TyX K H v (.type "tuple") := h.ty
      exact ⟨_, rfl, _, _, _, _, false, rfl, .ty _, ty, kit_ty (by decide +kernel), false, rfl, iteF q⟩
    | dict ds =>
      have ty : TyX K H v (.type "dict") := h.ty
      exact ⟨_, rfl, _, _, _, _, false, rfl, .ty _, ty, kit_ty (by decide +kernel), false, rfl, iteF q⟩
theorem ok_within {f : Addr} {fd : FuncData} (D : Df K mg "is_within" ["thing", "least", "most"] sIsWithin f fd) (cWG : Ca P w K mg base 1 "is_whole" ["thing"] (spWholeG K)) : FnOk P w K mg base CX0 2 f fd ["thing", "least", "most"] (spWithin K) := by
  refine D.fn.ok scIsWithin (fun vs H Q E h => ?_) (fun cdv A outer s H vs Q E hr h => ?_)
  · obtain ⟨v, d, a, b, rfl, h, q⟩ := h
    rfl
  · obtain ⟨v, d, a, b, rfl, h, q⟩ := h
    refine ⟨_, (pss_one (ps_ret (pe_and (pe_ca cWG hr (by decide) (by rfl) (pa_cons (pv 0) pa_nil)) (pe_one (pe_chain op_le op_le (pv 1) (pv 0) (pv 2)))))), ?_⟩
    refine ⟨_, rfl, v, d, rfl, h, _, rfl, ?_⟩
    unfold inB at q
    cases w0 : wh d with
    | none =>
      rw [w0] at q
      exact iteF q
    | some i =>
      have ev : v = .int i := by
        cases h <;> simp [wh] at w0
        rw [w0]
      subst ev
      rw [w0] at q
      dsimp only at q
      refine iteT ⟨_, rfl, _, rfl, a, i, rfl, rfl, _, rfl, ?_⟩
      cases e : decide (a ≤ i) with
      | true =>
        rw [e, Bool.true_and] at q
        exact iteT ⟨_, rfl, i, b, rfl, rfl, q⟩
      | false =>
        rw [e, Bool.false_and] at q
        exact iteF q
section
variable {X : Cx}
def rSlU : V → Option Int → Option Int → Hp → VK → Prop := fun x lo hi H Q => ∃ a xs, x = .ref a ∧ H a = some (.tup xs) ∧ ∀ p H', L2.Same H H' → H' p = some (.tup (cutV xs lo hi)) → Q (.ref p) H'
theorem sl_tupU : SlR X rSlU := by
  intro pins s σ H x v vl vu lo hi sl Q I rx hs pl pu h
  obtain ⟨a, xs, rfl, e, q⟩ := h
  refine sl_tupA pins s σ H _ v vl vu lo hi sl Q I rx hs pl pu ⟨a, xs, rfl, SqT.of e, fun w => q a H (Same.refl H) ?_, fun _ p np => q p _ (same_upd np) upd_same⟩
  rw [e]
  unfold cutV
  rw [w.1, w.2, List.drop_zero, Nat.sub_zero, List.take_length]
def rCatU : R2 := fun x y H Q => ∃ a b xs ys, x = .ref a ∧ y = .ref b ∧ H a = some (.tup xs) ∧ H b = some (.tup ys) ∧ xs.length + ys.length ≤ sizeLine ∧ ∀ p H', L2.Same H H' → H' p = some (.tup (xs ++ ys)) → Q (.ref p) H'
theorem op_catU : OpR X (binaryOp .Add) rCatU := by
  intro pins s σ H x y v u Q I rx ry h
  obtain ⟨a, b, xs, ys, rfl, rfl, ea, eb, hz, q⟩ := h
  refine op_catA pins s σ H _ _ v u Q I rx ry ⟨a, b, xs, ys, rfl, rfl, SqT.of ea, SqT.of eb, hz, fun z => q b H (Same.refl H) ?_, fun _ z => q a H (Same.refl H) ?_, fun _ _ p np => q p _ (same_upd np) upd_same⟩
  · rw [z]; exact eb
  · rw [z, List.append_nil]; exact ea
end
theorem walk_zipM {a b : Addr} {xs ys : List V} {n : Nat} (l1 : n ≤ xs.length) (hn : n = ys.length) : Walk (RZ.ItzT K a b) n (fun H => SqT K H a xs ∧ SqT K H b ys) (YPair (fun i => xs[i]?) (fun i => ys[i]?)) := by
  refine ⟨fun i H hi s => ?_, fun H s => ⟨xs, ys, s.1, s.2, .inr (by omega)⟩, fun i H v H' hi s y => ?_⟩
  · exact ⟨xs, ys, xs[i]'(by omega), ys[i]'(by omega), s.1, s.2, List.getElem?_eq_getElem (by omega), List.getElem?_eq_getElem (by omega)⟩
  · obtain ⟨T, x, z, h1, h2, h3, h4, h5⟩ := y
    exact ⟨T, x, z, h1, h2, h3, h4 xs s.1, h5 ys s.2⟩
theorem cut1 (xs : List V) : cutV xs (some 1) none = xs.drop 1 := by
  unfold cutV
  have e1 : HT.sIx xs.length 0 (some 1) = min 1 xs.length := HT.sIx_nat xs.length 0 1
  have e2 : HT.sIx xs.length xs.length none = xs.length := rfl
  rw [e1, e2]
  cases xs with
  | nil => rfl
  | cons x r =>
    rw [show min 1 (x :: r).length = 1 by simp]
    exact List.take_of_length_le (by simp)
def bsR (ns : List Int) : List Bool := (List.range (ns.length - 1)).map fun i => decide (ns.getD i 0 < ns.getD (i + 1) 0)
def ris (ns : List Int) : Bool := (bsR ns).all id
theorem bsR_at {ns : List Int} {i : Nat} {x y : Int} (e1 : ns[i]? = some x) (e2 : (ns.drop 1)[i]? = some y) : (bsR ns)[i]? = some (decide (x < y)) := by
  rw [List.getElem?_drop, Nat.add_comm] at e2
  have h2 := (List.getElem?_eq_some_iff.mp e2).1
  unfold bsR
  rw [List.getElem?_map, List.getElem?_range (by omega)]
  simp [List.getD_eq_getElem?_getD, e1, e2]
def spRis : Sp := fun vs H Q _ => ∃ (a : Addr) (ns : List Int), vs = [.ref a] ∧ H a = some (.tup (ns.map V.int)) ∧ ns.length ≤ 1000 ∧ ∀ H', L2.Same H H' → Q (.bl (ris ns)) H'
theorem ok_ris {f : Addr} {fd : FuncData} (D : Df K mg "are_rising" ["things"] sAreRising f fd) (T : Txt mg) : FnOk P w K mg base CX0 1 f fd ["things"] spRis := by
  refine D.fn.ok scAreRising (fun vs H Q E h => ?_) (fun cdv A outer s H vs Q E hr h => ?_)
  · obtain ⟨a, ns, rfl, e, l1000, q⟩ := h
    rfl
  · obtain ⟨a, ns, rfl, e, l1000, q⟩ := h
    refine ⟨_, (pss_one (ps_ret (pe_callB (cr_all (by rfl)) (by rfl) T.all (by decide +kernel) (pa_cons (pe_lc (own := [("one", 1), ("other", 2)]) (g := (gTup K 2 (gCons (gName 1) (gCons (gName 2) gNil)))) (tt := tYes) (by rfl) scAreRising.nd (RZ.pi_zipA (by rfl) T.zip (pa_cons (pv 0) (pa_cons (pe_slice sl_tupU (pv 0) (po_some pe_int) po_none) pa_nil))) (blkOk_by (own := [("one", 1), ("other", 2)]) (N := ["things", "one", "other"]) (sc := defScope sAreRising) (by decide +kernel)) (fun _ _ _ _ _ => pg_tup (by rfl) (pgs_cons (pg_name (i := 1) scAreRising.nd rfl (.inl rfl)) (pgs_cons (pg_name (i := 2) scAreRising.nd rfl (.inl rfl)) pgs_nil))) (fun _ _ _ _ _ => pts_nil) (fun _ _ _ _ _ => pe_cmpR op_lt (pv 1) (pv 2) (nomark _))) pa_nil)))), ?_⟩
    refine ⟨_, rfl, _, rfl, 1, rfl, a, _, rfl, e, fun pz Hz sz ez => ?_⟩
    rw [cut1, ← List.map_drop] at ez
    refine ⟨a, pz, _, _, rfl, .inr ⟨SqT.of (sz _ _ e), SqT.of ez, fun Lz nLz => ?_⟩⟩
    refine lc_it (walk_zipM (K := K) (a := a) (b := pz) (xs := ns.map V.int) (ys := (ns.drop 1).map V.int) (n := ns.length - 1) (by rw [List.length_map]; omega) (by rw [List.length_map, List.length_drop])) (fun i Hi => L2.Same Hz Hi ∧ Hi Lz = some (.lst (((bsR ns).take i).map V.bl))) ⟨same_upd nLz, upd_same⟩ (fun i Hi _ p => ⟨SqT.of (p.1 _ _ (sz _ _ e)), SqT.of (p.1 _ _ ez)⟩) ?_ ?_
    · rintro i v Hi H' hi ⟨sm, hL⟩ ⟨t, x, z, rfl, nt, rfl, ex, ez'⟩
      have sm2 : L2.Same Hz (upd Hi t (.tup [x, z])) := sm.trans (same_upd nt)
      have hL2 : (upd Hi t (.tup [x, z])) Lz = some (.lst (((bsR ns).take i).map V.bl)) := same_upd nt _ _ hL
      replace ex : (ns.map V.int)[i]? = some x := ex
      replace ez' : ((ns.drop 1).map V.int)[i]? = some z := ez'
      rw [List.getElem?_map] at ex ez'
      obtain ⟨p, ep, rfl⟩ := Option.map_eq_some_iff.mp ex
      obtain ⟨r, er, rfl⟩ := Option.map_eq_some_iff.mp ez'
      refine ⟨t, _, rfl, SqT.of upd_same, rfl, _, _, rfl, _, _, rfl, rfl, rfl, ?_⟩
      unfold tYes
      refine iteT ⟨_, rfl, _, rfl, p, r, rfl, rfl, _, hL2, ?_, fun c o e => ?_, ?_⟩
      · rw [List.length_map, List.length_take]
        exact Nat.lt_of_le_of_lt (Nat.le_trans (Nat.min_le_left _ _) (show i ≤ 1000 by omega)) (by decide)
      · rw [upd_ne (ne_of_none e nLz)]
        exact sm2 _ _ e
      · rw [upd_same, List.take_add_one, bsR_at ep er, List.map_append]
        rfl
    · rintro He ⟨sm, hL⟩
      have tk : (bsR ns).take (ns.length - 1) = bsR ns := List.take_of_length_le (by unfold bsR; simp)
      rw [tk] at hL
      refine ⟨Lz, bsR ns, rfl, SqL.of hL, ?_⟩
      exact q He (sz.trans sm)
def num : PyData → Int
  | .int i => i
  | _ => 0
def isTup : PyData → Bool
  | .tuple _ => true
  | _ => false
theorem z_tup : ∀ d : PyData, PySem.W.kitOne K (.type (kindD d)) (.type "tuple") = some (isTup d)
  | .none => kit_ty (a := "NoneType") (b := "tuple") (r := false) (by decide +kernel)
  | .bool _ => kit_ty (a := "bool") (b := "tuple") (r := false) (by decide +kernel)
  | .int _ => kit_ty (a := "int") (b := "tuple") (r := false) (by decide +kernel)
  | .str _ => kit_ty (a := "str") (b := "tuple") (r := false) (by decide +kernel)
  | .list _ => kit_ty (a := "list") (b := "tuple") (r := false) (by decide +kernel)
  | .tuple _ => kit_ty (a := "tuple") (b := "tuple") (r := true) (by decide +kernel)
  | .dict _ => kit_ty (a := "dict") (b := "tuple") (r := false) (by decide +kernel)
def hvL (hs : List (List Int)) (ns : List Int) (g : Int) : List Bool := ns.map fun k => inV (.int g) ((hs.getD k.toNat []).map V.int)
def hvA (hs : List (List Int)) (ns ws : List Int) : List Bool := ws.map fun g => (hvL hs ns g).any id
def hb (hs : List (List Int)) (ws : List Int) (d : PyData) : Bool := match d with
  | .tuple ds => if ds.all (inB 0 ((hs.length : Int) - 1)) = true then ris (ds.map num) && (hvA hs (ds.map num) ws).all id else false
  | _ => false
theorem inB_int {a b : Int} {d : PyData} (h : inB a b d = true) : ∃ i, d = .int i ∧ a ≤ i ∧ i ≤ b := by
  unfold inB at h
  cases d with
  | int i =>
    simp only [wh, Bool.and_eq_true, decide_eq_true_eq] at h
    exact ⟨i, rfl, h.1, h.2⟩
  | _ => cases h
theorem ints_of {H : Hp} {a b : Int} : ∀ {xs : List V} {ds : List PyData}, DzAll K H xs ds → ds.all (inB a b) = true → xs = (ds.map num).map V.int ∧ ∀ k ∈ ds.map num, a ≤ k ∧ k ≤ b
  | [], _, .nil, _ => ⟨rfl, by simp⟩
  | _ :: _, _, .cons (d := d) hd hr, h => by
    rw [List.all_cons, Bool.and_eq_true] at h
    obtain ⟨i, rfl, h1, h2⟩ := inB_int h.1
    obtain ⟨e, q⟩ := ints_of hr h.2
    cases hd
    refine ⟨by rw [List.map_cons, List.map_cons, ← e]; rfl, fun k hk => ?_⟩
    rw [List.map_cons] at hk
    rcases List.mem_cons.mp hk with z | z
    · rw [z]; exact ⟨h1, h2⟩
    · exact q k z
theorem dz_len {H : Hp} : ∀ {xs : List V} {ds : List PyData}, DzAll K H xs ds → xs.length = ds.length
  | [], _, .nil => rfl
  | _ :: _, _, .cons _ hr => by rw [List.length_cons, List.length_cons, dz_len hr]
theorem dz_get {H : Hp} : ∀ {xs : List V} {ds : List PyData} {i : Nat} {v : V}, DzAll K H xs ds → xs[i]? = some v → ∃ d, ds[i]? = some d ∧ Dz K H v d
  | [], _, _, _, .nil, e => by simp at e
  | _ :: _, _, 0, _, .cons hd _, e => by
    cases e
    exact ⟨_, rfl, hd⟩
  | _ :: _, _, i + 1, _, .cons _ hr, e => dz_get (i := i) hr e
def tl (d : PyData) : Prop := ∀ ds, d = .tuple ds → ds.length ≤ 1000
def spHeld (K : PySem.W.Frag) : Sp := fun vs H Q _ => ∃ (a b : Addr) (v : V) (d : PyData) (xs : List V) (hs : List (List Int)) (ws : List Int), vs = [.ref a, .ref b, v] ∧ H a = some (.tup xs) ∧ Hl H xs hs ∧ hs.length ≤ 20 ∧ H b = some (.tup (ws.map V.int)) ∧ ws.length ≤ 20 ∧ Dz K H v d ∧ tl d ∧ ∀ H', L2.Same H H' → Q (.bl (hb hs ws d)) H'
theorem ok_held {f : Addr} {fd : FuncData} (D : Df K mg "shows_held" ["held", "wishes", "thing"] sShowsHeld f fd) (T : Txt mg) (cI : Ca P w K mg base 2 "is_within" ["thing", "least", "most"] (spWithin K)) (cR : Ca P w K mg base 1 "are_rising" ["things"] spRis) : FnOk P w K mg base CX0 3 f fd ["held", "wishes", "thing"] (spHeld K) := by
  refine D.fn.ok scShowsHeld (fun vs H Q E h => ?_) (fun cdv A outer s H vs Q E hr h => ?_)
  · obtain ⟨a, b, v, d, xs, hs, ws, rfl, ea, hl, l20, eb, w20, hz, htl, q⟩ := h
    rfl
  · obtain ⟨a, b, v, d, xs, hs, ws, rfl, ea, hl, l20, eb, w20, hz, htl, q⟩ := h
    refine ⟨_, (pss_cons (ps_if (PW.pt (pw_or (pt_not (pt_val (pe_callB call_isi (by rfl) T.isi (by decide +kernel) (pa_cons (pv 2) (pa_cons (pe_bltn (v := .ty "tuple") (by rfl) T.tuple (by decide +kernel) rfl) pa_nil))))) (pw_or1 (pt_not (pt_val (pe_callB (cr_all (by rfl)) (by rfl) T.all (by decide +kernel) (pa_cons (pe_lc (own := [("number", 3)]) (g := gName 3) (tt := tYes) (te := tCall (spWithin K) [] E0 (tCons (tVar 3) (tCons (tC (V.int 0)) (tCons (tOp (rI0 fun i j => V.int (i - j)) (tCB (rLn K) (tCons (tVar 0) tNil)) (tC (V.int 1))) tNil)))) (by rfl) scShowsHeld.nd (pi_tup (pv 2)) (blkOk_by (own := [("number", 3)]) (N := ["held", "wishes", "thing", "number", "disc", "wish"]) (sc := defScope sShowsHeld) (by decide +kernel)) (fun _ _ _ _ _ => pg_name (i := 3) scShowsHeld.nd rfl (.inl rfl)) (fun _ _ _ _ _ => pts_nil) (fun _ _ _ _ _ => pe_ca cI hr (by decide) (by rfl) (pa_cons (pv 3) (pa_cons pe_int (pa_cons (pe_op op_sub (pe_callB call_len_seq (by rfl) T.len PySem.boot_len (pa_cons (pv 0) pa_nil)) pe_int) pa_nil))))) pa_nil))))))) (pss_one (ps_ret pe_bl)) pss_nil)
      (pss_one (ps_ret (pe_and (pe_ca cR hr (by decide) (by rfl) (pa_cons (pv 2) pa_nil)) (pe_one (pe_callB (cr_all (by rfl)) (by rfl) T.all (by decide +kernel) (pa_cons (pe_lc (own := [("wish", 5)]) (g := gName 5) (tt := tYes) (te := tCB (rAny K) (tCons (tLc (iTup K (tVar 2)) (gName 4) tYes (tOp (rIn K false) (tVar 5) (tOp (rIxT K) (tVar 0) (tVar 4))) [4]) tNil)) (by rfl) scShowsHeld.nd (pi_tup (pv 1)) (blkOk_by (own := [("wish", 5)]) (N := ["held", "wishes", "thing", "number", "disc", "wish"]) (sc := defScope sShowsHeld) (by decide +kernel)) (fun _ _ _ _ _ => pg_name (i := 5) scShowsHeld.nd rfl (.inr rfl)) (fun _ _ _ _ _ => pts_nil) (fun _ _ _ _ _ => pe_callB (cr_any (by rfl)) (by rfl) T.any (by decide +kernel) (pa_cons (pe_lc (own := [("disc", 4)]) (g := gName 4) (tt := tYes) (te := tOp (rIn K false) (tVar 5) (tOp (rIxT K) (tVar 0) (tVar 4))) (by rfl) scShowsHeld.nd (pi_tup (pv 2)) (blkOk_by (own := [("disc", 4)]) (N := ["held", "wishes", "thing", "number", "disc", "wish"]) (sc := relS ⟨.function, [(".0", .local), ("wish", .cell), ("any", .globalImplicit), ("held", .free), ("thing", .free)], false, false, []⟩ (defScope sShowsHeld)) (by decide +kernel)) (fun _ _ _ _ _ => pg_name (i := 4) scShowsHeld.nd rfl (.inl rfl)) (fun _ _ _ _ _ => pts_nil) (fun _ _ _ _ _ => pe_cmpR op_in_seq (pv 5) (pe_ix ix_tup (pv 0) (pv 4) (fun _ _ => rfl)) (by rfl))) pa_nil))) pa_nil))))))), ?_⟩
    refine ⟨_, rfl, _, _, _, _, isTup d, rfl, .ty _, hz.ty, z_tup d, _, rfl, ?_⟩
    cases hz with
    | @tup t ys ds et ra =>
      have l1000 := htl _ rfl
      have ly := dz_len ra
      have lh := hl.len
      refine iteF ⟨_, rfl, t, rfl, ⟨_, SqT.of et⟩, fun D nD => ?_⟩
      refine lc_tup (K := K) (a := t) (xs := ys) (fun i Hi => L2.Same H Hi ∧ Hi D = some (.lst (((ds.map (inB 0 ((hs.length : Int) - 1))).take i).map V.bl))) ⟨same_upd nD, upd_same⟩ (fun i Hi _ z => SqT.of (z.1 _ _ et)) ?_ ?_
      · rintro i x Hi hx ⟨sm, eD⟩
        have il : i < ys.length := (List.getElem?_eq_some_iff.mp hx).1
        obtain ⟨di, edi, dzi⟩ := dz_get ra hx
        refine ⟨rfl, ?_⟩
        unfold tYes
        refine iteT ⟨_, rfl, _, rfl, a, xs, rfl, .inr (SqT.of (sm _ _ ea)), _, 1, rfl, rfl, x, di, 0, _, rfl, dzi.same sm, _, eD, ?_, fun c o e => ?_, ?_⟩
        · rw [List.length_map, List.length_take]
          exact Nat.lt_of_le_of_lt (Nat.le_trans (Nat.min_le_left _ _) (show i ≤ 1000 by omega)) (by decide)
        · rw [upd_ne (ne_of_none e nD)]
          exact sm _ _ e
        · rw [upd_same, List.take_add_one, List.getElem?_map, edi, List.map_append, lh]
          rfl
      · rintro H2 ⟨s2, eD⟩
        have tk : (ds.map (inB 0 ((hs.length : Int) - 1))).take ys.length = ds.map (inB 0 ((hs.length : Int) - 1)) := List.take_of_length_le (by rw [List.length_map]; omega)
        rw [tk] at eD
        refine ⟨D, _, rfl, SqL.of eD, _, rfl, ?_⟩
        have ea1 : (ds.map (inB 0 ((hs.length : Int) - 1))).all id = ds.all (inB 0 ((hs.length : Int) - 1)) := by rw [List.all_map]; rfl
        rw [ea1]
        cases c : ds.all (inB 0 ((hs.length : Int) - 1)) with
        | false =>
          have w := q H2 s2
          rw [show hb hs ws (.tuple ds) = false by unfold hb; dsimp only; rw [c]; rfl] at w
          exact iteT w
        | true =>
          obtain ⟨ey, rng⟩ := ints_of ra c
          have hq : hb hs ws (.tuple ds) = (ris (ds.map num) && (hvA hs (ds.map num) ws).all id) := by unfold hb; dsimp only; rw [c]; rfl
          rw [hq] at q
          subst ey
          have ln : (ds.map num).length ≤ 1000 := by rw [List.length_map]; exact l1000
          generalize ds.map num = ns at *
          refine iteF ⟨_, rfl, t, ns, rfl, s2 _ _ et, ln, fun H3 s3' => ⟨_, rfl, ?_⟩⟩
          have s3 := s2.trans s3'
          cases r : ris ns with
          | false =>
            have w := q H3 s3
            rw [r] at w
            exact iteF w
          | true =>
            rw [r] at q
            refine iteT ?_
            refine ⟨_, rfl, b, rfl, ⟨_, SqT.of (s3 _ _ eb)⟩, fun Dw nDw => ?_⟩
            refine lc_tup (K := K) (a := b) (xs := ws.map V.int) (fun i Hi => L2.Same H3 Hi ∧ Hi Dw = some (.lst (((hvA hs ns ws).take i).map V.bl))) ⟨same_upd nDw, upd_same⟩ (fun i Hi _ z => SqT.of (z.1 _ _ (s3 _ _ eb))) ?_ ?_
            · rintro i x Hi hx ⟨sm, eDw⟩
              rw [List.getElem?_map] at hx
              obtain ⟨g, eg, rfl⟩ := Option.map_eq_some_iff.mp hx
              have il : i < ws.length := (List.getElem?_eq_some_iff.mp eg).1
              refine ⟨rfl, ?_⟩
              refine ⟨_, rfl, t, rfl, ⟨_, SqT.of (sm _ _ (s3 _ _ et))⟩, fun Di nDi => ?_⟩
              refine lc_tup (K := K) (a := t) (xs := ns.map V.int) (fun j Hj => L2.Same Hi Hj ∧ Hj Di = some (.lst (((hvL hs ns g).take j).map V.bl))) ⟨same_upd nDi, upd_same⟩ (fun j Hj _ z => SqT.of (z.1 _ _ (sm _ _ (s3 _ _ et)))) ?_ ?_
              · rintro j y Hj hy ⟨sj, eDi⟩
                rw [List.getElem?_map] at hy
                obtain ⟨k, ek, rfl⟩ := Option.map_eq_some_iff.mp hy
                have jl : j < ns.length := (List.getElem?_eq_some_iff.mp ek).1
                have kb := rng k (List.mem_of_getElem? ek)
                obtain ⟨m, rfl⟩ : ∃ m : Nat, k = (m : Int) := ⟨k.toNat, by omega⟩
                have hm : m < hs.length := by omega
                have sA := (s3.trans sm).trans sj
                obtain ⟨tk, etk, eTk⟩ := hl.get hm
                refine ⟨rfl, ?_⟩
                unfold tYes
                refine iteT ⟨_, rfl, _, rfl, _, rfl, a, _, _, .ref tk, rfl, rfl, SqT.of (sA _ _ ea), atI_nat etk, tk, _, rfl, .inr (SqT.of (sA _ _ eTk)), rfl, flat_ints _, _, eDi, ?_, fun c o e => ?_, ?_⟩
                · rw [List.length_map, List.length_take]
                  exact Nat.lt_of_le_of_lt (Nat.le_trans (Nat.min_le_left _ _) (show j ≤ 1000 by omega)) (by decide)
                · rw [upd_ne (ne_of_none e nDi)]
                  exact sj _ _ e
                · rw [upd_same, List.take_add_one]
                  unfold hvL
                  rw [List.getElem?_map, ek, List.map_append]
                  simp [List.getD_eq_getElem?_getD, List.getElem?_eq_getElem hm]
              · rintro He ⟨sj, eDi⟩
                have tk : (hvL hs ns g).take (ns.map V.int).length = hvL hs ns g := List.take_of_length_le (by unfold hvL; simp)
                rw [tk] at eDi
                refine ⟨Di, _, rfl, SqL.of eDi, _, sj _ _ eDw, ?_, fun c o e => ?_, ?_⟩
                · rw [List.length_map, List.length_take]
                  exact Nat.lt_of_le_of_lt (Nat.le_trans (Nat.min_le_left _ _) (show i ≤ 1000 by omega)) (by decide)
                · rw [upd_ne (ne_of_none e nDw)]
                  exact sj _ _ (sm _ _ e)
                · rw [upd_same, List.take_add_one]
                  unfold hvA
                  rw [List.getElem?_map, eg, List.map_append]
                  rfl
            · rintro He ⟨sm, eDw⟩
              have tk : (hvA hs ns ws).take (ws.map V.int).length = hvA hs ns ws := List.take_of_length_le (by unfold hvA; simp)
              rw [tk] at eDw
              refine ⟨Dw, _, rfl, SqL.of eDw, ?_⟩
              exact q He (s3.trans sm)
    | _ => exact iteT (q H (Same.refl H))
theorem hb_least {hs : List (List Int)} {ws : List Int} {c : List Nat} (h : P56.Up hs c) (cv : P56.Covers hs ws c) : hb hs ws (.tuple ((P56.toI c).map .int)) = true := by
  have e1 : ((P56.toI c).map PyData.int).map num = P56.toI c := by
    rw [List.map_map]
    exact List.map_id _
  have a1 : ((P56.toI c).map PyData.int).all (inB 0 ((hs.length : Int) - 1)) = true := by
    rw [List.all_eq_true]
    intro d hd
    obtain ⟨i, hi, rfl⟩ := List.mem_map.mp hd
    unfold P56.toI at hi
    obtain ⟨k, hk, rfl⟩ := List.mem_map.mp hi
    have := h.2 k hk
    unfold inB
    simp only [wh, Bool.and_eq_true, decide_eq_true_eq]
    omega
  unfold hb
  dsimp only
  rw [if_pos a1, e1, Bool.and_eq_true]
  refine ⟨?_, ?_⟩
  · unfold ris bsR
    rw [List.all_eq_true]
    intro b hb
    obtain ⟨i, hi, rfl⟩ := List.mem_map.mp hb
    have hi := List.mem_range.mp hi
    have ln : (P56.toI c).length = c.length := by unfold P56.toI; rw [List.length_map]
    have h0 : i < c.length := by omega
    have h1 : i + 1 < c.length := by omega
    have := List.pairwise_iff_getElem.mp h.1 i (i + 1) h0 h1 (Nat.lt_succ_self i)
    simp only [P56.toI, List.getD_eq_getElem?_getD, List.getElem?_map, List.getElem?_eq_getElem h0, List.getElem?_eq_getElem h1, Option.map_some, Option.getD_some, id, decide_eq_true_eq]
    omega
  · unfold hvA
    rw [List.all_eq_true]
    intro b hb
    obtain ⟨g, hg, rfl⟩ := List.mem_map.mp hb
    have := cv g hg
    unfold P56.cov at this
    rw [List.any_eq_true] at this
    obtain ⟨k, hk, ho⟩ := this
    show (hvL hs (P56.toI c) g).any id = true
    rw [List.any_eq_true]
    refine ⟨true, ?_, rfl⟩
    unfold hvL P56.toI
    refine List.mem_map.mpr ⟨(k : Int), List.mem_map.mpr ⟨k, hk, rfl⟩, ?_⟩
    rw [inV_ints, Int.toNat_natCast]
    exact ho
end
end K61
set_option Elab.async false
set_option linter.all false
set_option maxRecDepth 100000
set_option maxHeartbeats 4000000
set_option pp.maxSteps 400
set_option pp.deepTerms false
namespace K61
open PySem PySem.Spec PyProof.Rows L2
open Xk Az
section
variable {P : Program} {w : World} {K : PySem.W.Frag} {mg : Str → Option Value} {base : Heap}
theorem nice_all {k n : Nat} : ∀ ds : List PyData, (∀ d ∈ ds, Nice d k n) → PyData.showableAll ds = true ∧ PyData.depthAll ds ≤ k ∧ piled (PyData.shownAll ds) ≤ ds.length * (n + 2)
  | [], _ => ⟨by simp [PyData.showableAll], by simp [PyData.depthAll], by simp [PyData.shownAll, piled_nil]⟩
  | d :: r, h => by
    obtain ⟨h1, h2, h3⟩ := nice_all r fun x hx => h x (List.mem_cons_of_mem _ hx)
    have hd := h d List.mem_cons_self
    refine ⟨by simp [PyData.showableAll, hd.sh, h1], ?_, ?_⟩
    · simp only [PyData.depthAll]
      have := hd.dp
      omega
    · simp only [PyData.shownAll, piled_cons, List.length_cons, Nat.succ_mul]
      have := hd.sz
      omega
theorem nice_tups {k n : Nat} (ds : List PyData) (h : ∀ d ∈ ds, Nice d k n) : Nice (.tuple ds) (k + 1) (ds.length * (n + 2) + 4) := by
  obtain ⟨h1, h2, h3⟩ := nice_all ds h
  refine ⟨by simp [PyData.showable, h1], ?_, ?_⟩
  · simp only [PyData.depth]
    omega
  · simp only [PyData.shown]
    have a := fmt_text (PyData.shownAll ds)
    omega
theorem lg {i : Int} (h0 : -(10 ^ 31) < i) (h1 : i < 10 ^ 31) : i.natAbs.log2 < 1920 := by
  have h2 : i.natAbs < 2 ^ 110 := by
    have : (10 : Int) ^ 31 < 2 ^ 110 := by decide
    omega
  exact Nat.lt_of_lt_of_le (PySem.Flt.log2_lt_of (by decide) h2) (by decide)
theorem tx_le {i : Int} (h0 : 0 ≤ i) (h1 : i < 10 ^ 31) : (Str.ofString (toString i)).length ≤ 40 := by
  have b : (10 : Int) ^ 31 < 10 ^ 39 := by decide
  exact Nat.le_trans (toString_length_le (v := i) h0 (k := 39) (by decide) (by omega)) (by decide)
theorem nice_sm {ns : List Int} (h : Sm ns) : Nice (.tuple (ns.map PyData.int)) 1 (ns.length * 42 + 4) := by
  have := nice_tups (k := 0) (n := 40) (ns.map PyData.int) fun d hd => by
    obtain ⟨i, hi, rfl⟩ := List.mem_map.mp hd
    obtain ⟨h0, h1⟩ := h i hi
    exact nice_int (lg (Int.lt_of_lt_of_le (by decide) h0) h1) (tx_le h0 h1)
  rw [List.length_map] at this
  exact this
def dHeld (hs : List (List Int)) : PyData := .tuple (hs.map fun gs => .tuple (gs.map .int))
theorem Hl.dz {H : Hp} {xs : List V} {hs : List (List Int)} (h : Hl H xs hs) : DzAll K H xs (hs.map fun gs => PyData.tuple (gs.map .int)) := by
  induction h with
  | nil => exact .nil
  | cons e _ ih => exact .cons (.tup e (dz_ints _)) ih
theorem nice_case {hs : List (List Int)} {ws : List Int} (l12 : hs.length ≤ 12) (g : Gs hs) (l20 : ws.length ≤ 20) (sw : Sm ws) : Nice (.tuple [dHeld hs, .tuple (ws.map .int)]) 3 60000 := by
  have n1 : Nice (dHeld hs) 2 25000 := by
    have := nice_tups (k := 1) (n := 1700) (hs.map fun gs => PyData.tuple (gs.map PyData.int)) fun d hd => by
      obtain ⟨gs, hg, rfl⟩ := List.mem_map.mp hd
      obtain ⟨a, b⟩ := g gs hg
      exact (nice_sm b).mono (by omega) (by omega)
    rw [List.length_map] at this
    unfold dHeld
    exact this.mono (by omega) (by omega)
  have n2 : Nice (.tuple (ws.map PyData.int)) 2 25000 := (nice_sm sw).mono (by omega) (by omega)
  refine (nice_tups (k := 2) (n := 25000) [dHeld hs, .tuple (ws.map .int)] fun d hd => ?_).mono (by omega) (by show 2 * 25002 + 4 ≤ 60000; decide)
  simp only [List.mem_cons, List.not_mem_nil, or_false] at hd
  rcases hd with rfl | rfl
  · exact n1
  · exact n2
/-- the answer, as a thing -/
def Ans (hs : List (List Int)) (ws : List Int) (d : PyData) : Prop := match P56.lack hs ws with
  | some w => d = .tuple [.str "lacks", .int w]
  | none => ∃ c, P56.Least hs ws c ∧ d = .tuple [.str "fewest", .tuple ((P56.toI c).map .int)]
theorem Ans.uniq {hs : List (List Int)} {ws : List Int} {d e : PyData} (h : Ans hs ws d) (h' : Ans hs ws e) : d = e := by
  unfold Ans at h h'
  cases z : P56.lack hs ws with
  | some w =>
    rw [z] at h h'
    exact h.trans h'.symm
  | none =>
    rw [z] at h h'
    obtain ⟨c, hc, rfl⟩ := h
    obtain ⟨c', hc', rfl⟩ := h'
    rw [hc.uniq hc']
theorem Few.ans {H : Hp} {hs : List (List Int)} {ws : List Int} {t : Addr} (h : Few H hs ws t (P56.lack hs ws)) : ∃ d, Dz K H (.ref t) d ∧ Ans hs ws d := by
  unfold Ans
  cases z : P56.lack hs ws with
  | some w =>
    rw [z] at h
    exact ⟨_, .tup h (.cons (.str _) (.cons (.int _) .nil)), rfl⟩
  | none =>
    rw [z] at h
    obtain ⟨c, cc, hc, e1, e2⟩ := h
    exact ⟨_, .tup e2 (.cons (.str _) (.cons (.tup e1 (dz_ints _)) .nil)), c, hc, rfl⟩
theorem Ans.nice {hs : List (List Int)} {ws : List Int} {d : PyData} (h : Ans hs ws d) (l12 : hs.length ≤ 12) (sw : Sm ws) : Nice d 2 4000 := by
  unfold Ans at h
  cases z : P56.lack hs ws with
  | some w =>
    rw [z] at h
    obtain rfl : d = .tuple [.str "lacks", .int w] := h
    have hw : w ∈ ws := List.mem_of_find?_eq_some z
    obtain ⟨h0, h1⟩ := sw w hw
    refine (nice_tups (k := 0) (n := 40) [.str "lacks", .int w] fun d hd => ?_).mono (by omega) (by show 2 * 42 + 4 ≤ 4000; decide)
    simp only [List.mem_cons, List.not_mem_nil, or_false] at hd
    rcases hd with rfl | rfl
    · exact nice_str (by decide +kernel)
    · exact nice_int (lg (Int.lt_of_lt_of_le (by decide) h0) h1) (tx_le h0 h1)
  | none =>
    rw [z] at h
    obtain ⟨c, hc, rfl⟩ := h
    have lc := hc.len
    have sc : Sm (P56.toI c) := fun x hx => by
      unfold P56.toI at hx
      obtain ⟨k, hk, rfl⟩ := List.mem_map.mp hx
      have := hc.up.2 k hk
      exact ⟨Int.natCast_nonneg _, Int.lt_of_le_of_lt (show ((k : Nat) : Int) ≤ 12 by omega) (by decide)⟩
    have n2 := nice_sm sc
    refine (nice_tups (k := 1) (n := 900) [.str "fewest", .tuple ((P56.toI c).map .int)] fun d hd => ?_).mono (by omega) (by show 2 * 902 + 4 ≤ 4000; decide)
    simp only [List.mem_cons, List.not_mem_nil, or_false] at hd
    rcases hd with rfl | rfl
    · exact (nice_str (by decide +kernel) : Nice (.str "fewest") 0 40).mono (by omega) (by omega)
    · refine n2.mono (by omega) ?_
      unfold P56.toI
      rw [List.length_map]
      omega
theorem lack_all {hs : List (List Int)} {ws : List Int} (h : ∀ w ∈ ws, ∃ k, k < hs.length ∧ P56.on hs k w = true) : P56.lack hs ws = none := by
  unfold P56.lack
  rw [List.find?_eq_none]
  intro w hw c
  obtain ⟨k, hk, ho⟩ := h w hw
  unfold P56.none_holds at c
  rw [List.all_eq_true] at c
  have := c k (List.mem_range.mpr hk)
  rw [ho] at this
  cases this
def spLaw (pB : Addr) (K : PySem.W.Frag) : Sp := fun vs H Q _ => ∃ (a : Addr) (ns : List Int), vs = [.ref a] ∧ SqL K H a (ns.map V.int) ∧ ns.length ≤ 63 ∧ LamX.Tabs (Tb pB) H ∧ ∀ H', Q (.bl true) H'
theorem ok_law {f : Addr} {fd : FuncData} {pB : Addr} (D : Df K mg "law" ["_law_script"] sLaw f fd) (T : Txt mg) (cH : Ca P w K mg base 1 "_law_hand" ["_law_script", "_law_k"] (spHand K)) (cT : Ca P w K mg base 1 "_law_take" ["_law_hand_here", "_law_many"] spTake) (cWi : Ca P w K mg base 3 "_law_wishes" ["_law_hand_here", "_law_many"] spWishes) (cHg : Ca P w K mg base 2 "_law_held" ["_law_hand_here", "_law_wishes_here"] spHeldg) (cLe : Ca P w K mg base 2 "_law_least" ["_law_held_here", "_law_wishes_here"] spLeast) (cFe : Ca P w K mg base 3 "fewest_discs" ["held", "wishes"] spFew) (cHd : Ca P w K mg base 3 "shows_held" ["held", "wishes", "thing"] (spHeld K)) (cBO : Ca P w K mg base 20 "book_of" ["held", "wishes", "many"] (spBO pB)) (cLB : Ca P w K mg base 3 "_law_is_book" ["_law_held_here", "_law_wishes_here", "_law_many", "_law_thing"] spLB) (cSN : Ca P w K mg base 33 "shows_none" ["held", "wishes", "many", "thing"] spSN) : Gn P w K mg base 34 f fd ["_law_script"] (spLaw pB K) := by
  refine gn_body D.fn scLaw (fun vs H Q E h => ?_) (fun cdv A outer s H vs Q E hg hr h => ?_)
  · obtain ⟨a, ns, rfl, hS, hlen, tb, q⟩ := h
    rfl
  · obtain ⟨a, ns, rfl, hS, hlen, tb, q⟩ := h
    refine ⟨_, (pss_cons (ps_set (i := 1) scLaw.nd rfl (.inl rfl) (pe_ca cH hr (by decide) (by rfl) (pa_cons (pv 0) (pa_cons pe_int pa_nil))))
      (pss_cons (ps_set (i := 2) scLaw.nd rfl (.inl rfl) (pe_ca cWi hr (by decide) (by rfl) (pa_cons (pv 1) (pa_cons (pe_op op_add pe_int (pe_ca cT hr (by decide) (by rfl) (pa_cons (pv 1) (pa_cons pe_int pa_nil)))) pa_nil))))
      (pss_cons (ps_set (i := 3) scLaw.nd rfl (.inl rfl) (pe_ca cHg hr (by decide) (by rfl) (pa_cons (pv 1) (pa_cons (pv 2) pa_nil))))
      (pss_cons (ps_set (i := 4) scLaw.nd rfl (.inl rfl) (pe_ca cLe hr (by decide) (by rfl) (pa_cons (pv 3) (pa_cons (pv 2) pa_nil))))
      (pss_cons (ps_if (PW.pt (pw_or (pt_cmpR op_ne (pe_callB (cr_reprZ hg hr) (by rfl) T.repr (by decide +kernel) (pa_cons (pe_ca cFe hr (by decide) (by rfl) (pa_cons (pv 3) (pa_cons (pv 2) pa_nil))) pa_nil)) (pe_callB (cr_reprZ hg hr) (by rfl) T.repr (by decide +kernel) (pa_cons (pe_tup (pa_cons pe_str (pa_cons (pv 4) pa_nil))) pa_nil)) (nomark _)) (pw_or1 (pt_cmpR op_notBl (pe_ca cHd hr (by decide) (by rfl) (pa_cons (pv 3) (pa_cons (pv 2) (pa_cons (pv 4) pa_nil)))) pe_bl (nomark _))))) (pss_one (ps_ret pe_bl)) pss_nil)
      (pss_cons (ps_if (pt_cmpR op_notN (pe_ca cBO hr (by decide) (by rfl) (pa_cons (pv 3) (pa_cons (pv 2) (pa_cons (pe_callB call_len_seq (by rfl) T.len PySem.boot_len (pa_cons (pv 4) pa_nil)) pa_nil)))) pe_non (nomark _)) (pss_one (ps_ret pe_bl)) pss_nil)
      (pss_cons (ps_set (i := 5) scLaw.nd rfl (.inl rfl) (pe_ca cBO hr (by decide) (by rfl) (pa_cons (pv 3) (pa_cons (pv 2) (pa_cons (pe_op op_sub (pe_callB call_len_seq (by rfl) T.len PySem.boot_len (pa_cons (pv 4) pa_nil)) pe_int) pa_nil)))))
      (pss_cons (ps_if (PW.pt (pw_or (pt_cmpR op_isN (pv 5) pe_non (nomark _)) (pw_or1 (pt_not (pt_val (pe_ca cLB hr (by decide) (by rfl) (pa_cons (pv 3) (pa_cons (pv 2) (pa_cons (pe_op op_sub (pe_callB call_len_seq (by rfl) T.len PySem.boot_len (pa_cons (pv 4) pa_nil)) pe_int) (pa_cons (pv 5) pa_nil)))))))))) (pss_one (ps_ret pe_bl)) pss_nil)
      (pss_one (ps_ret (pe_cmpR op_isBl (pe_ca cSN hr (by decide) (by rfl) (pa_cons (pv 3) (pa_cons (pv 2) (pa_cons (pe_op op_sub (pe_callB call_len_seq (by rfl) T.len PySem.boot_len (pa_cons (pv 4) pa_nil)) pe_int) (pa_cons (pv 5) pa_nil))))) pe_bl (nomark _)))))))))))), ?_⟩
    refine ⟨_, rfl, a, 0, ns, rfl, by decide, hS, fun p g m' np g0 m0' m1' => ?_⟩
    have hh : Hand 0 (upd H p (.lst [.int g, .int m', .int 0])) p := ⟨g, m', 0, upd_same, g0, m0', m1', Int.le_refl _, Int.le_refl _⟩
    have s1 := same_upd np (o := .lst [.int g, .int m', .int 0])
    have tb1 := tb.ext s1
    have x1 : LamX.ExtN H (upd H p (.lst [.int g, .int m', .int 0])) := LamX.ExtN.of s1
    refine ⟨_, rfl, _, rfl, p, 9, 0, rfl, by decide, by decide, hh, by decide, fun d H1 d0 d9 h1 b1 => ?_⟩
    refine ⟨_, _, rfl, rfl, p, 0 + 1, 12 + d, rfl, by omega, by omega, h1, by decide, fun bw ws H2 ebw lws sw h2 b2 => ?_⟩
    have s2 : L2.Same H H2 := fun c o e => b2 c o (ne_of_none e np) (b1 c o (ne_of_none e np) (s1 c o e))
    have l20 : ws.length ≤ 20 := by omega
    have nbp := h2.ne_tup (K := K) ebw
    refine ⟨_, rfl, _, rfl, p, bw, 0 + 1 + 30, ws, rfl, ebw, nbp, l20, sw, h2, by decide, fun ah xs hs H3 ea hl l12 gs all h3 b3 => ?_⟩
    have s3 : L2.Same H H3 := fun c o e => b3 c o (ne_of_none e np) (s2 c o e)
    have eb := b3 _ _ nbp ebw
    refine ⟨_, rfl, _, rfl, ah, bw, xs, hs, ws, rfl, ea, hl, l12, eb, l20, fun lv H4 s4 hlv => ?_⟩
    have lk := lack_all all
    rcases hlv with ⟨w, lk', _⟩ | ⟨c, cc, hc, rfl, ecc⟩
    · rw [lk] at lk'
      cases lk'
    have lc := hc.len
    have big : ∀ {x : Str} {n : Nat}, x.length ≤ n → n ≤ 60000 → x.length ≤ sizeLine := fun h1 h2 => Nat.le_trans (Nat.le_trans h1 h2) (by decide)
    refine ⟨_, rfl, _, rfl, ah, bw, xs, hs, ws, rfl, s4 _ _ ea, hl.map (fun b ys e => s4 _ _ e), l12, s4 _ _ eb, l20, fun t5 H5 s5 f5 => ?_⟩
    obtain ⟨d5, z5, a5⟩ := f5.ans (K := K)
    have n5 := a5.nice l12 sw
    obtain rfl : d5 = .tuple [.str "fewest", .tuple ((P56.toI c).map .int)] := a5.uniq (by unfold Ans; rw [lk]; exact ⟨c, hc, rfl⟩)
    refine ⟨_, _, rfl, z5, n5.sh, Nat.le_trans n5.dp (by decide), big n5.sz (by decide), ?_⟩
    refine ⟨_, rfl, (by show 2 ≤ sizeLine; decide), fun t6 nt6 => ?_⟩
    have s6 := same_upd nt6 (o := .tup [.str "fewest", .ref cc])
    have e6 : upd H5 t6 (.tup [.str "fewest", .ref cc]) t6 = some (.tup [.str "fewest", .ref cc]) := upd_same
    generalize upd H5 t6 (.tup [.str "fewest", .ref cc]) = H6 at *
    have s46 := s5.trans s6
    have ecc6 := s46 _ _ ecc
    refine ⟨_, _, rfl, .tup e6 (.cons (.str _) (.cons (.tup ecc6 (dz_ints _)) .nil)), n5.sh, Nat.le_trans n5.dp (by decide), big n5.sz (by decide), ?_⟩
    have s36 := s4.trans s46
    refine ⟨rfl, _, rfl, ?_⟩
    rw [show (!decide (V.str (PyData.tuple [.str "fewest", .tuple ((P56.toI c).map .int)]).shown = V.str (PyData.tuple [.str "fewest", .tuple ((P56.toI c).map .int)]).shown)) = false by simp]
    refine iteF ⟨_, rfl, _, rfl, _, rfl, ah, bw, .ref cc, _, xs, hs, ws, rfl, s36 _ _ ea, hl.map (fun b ys e => s36 _ _ e), by omega, s36 _ _ eb, l20, .tup ecc6 (dz_ints _), fun ds e => ?_, fun H7 s7 => ?_⟩
    · cases e
      rw [List.length_map]
      unfold P56.toI
      rw [List.length_map]
      omega
    rw [hb_least hc.up hc.cv]
    refine ⟨_, _, rfl, rfl, _, rfl, iteF ?_⟩
    have s37 := s36.trans s7
    have s47 := s46.trans s7
    have tb7 := tb.ext (s3.trans s37)
    have lcc : ((P56.toI c).map V.int).length = c.length := by unfold P56.toI; rw [List.length_map, List.length_map]
    refine ⟨_, rfl, _, rfl, _, rfl, cc, _, rfl, .inr (SqT.of (s47 _ _ ecc)), ah, bw, xs, hs, ws, c.length, (by rw [lcc]; rfl), s37 _ _ ea, hl.map (fun b ys e => s37 _ _ e), l12, s37 _ _ eb, l20, by omega, tb7, fun c' H8 hc' _ x8 t8 => ?_, fun v H8 no _ _ _ => absurd hc.cv (no c hc.up.2 (Nat.le_refl _))⟩
    refine ⟨rfl, _, rfl, ite2 (fun e => absurd e (by simp)) (fun _ => ?_)⟩
    obtain ⟨n, hn⟩ : ∃ n, c.length = n + 1 := by
      cases z : c.length with
      | succ n => exact ⟨n, rfl⟩
      | zero =>
        exfalso
        have ec : c = [] := List.eq_nil_of_length_eq_zero z
        obtain ⟨w, hw⟩ : ∃ w, w ∈ ws := by
          cases ws with
          | nil =>
            simp at lws
            omega
          | cons w r => exact ⟨w, List.mem_cons_self⟩
        have := hc.cv w hw
        rw [ec] at this
        cases this
    have en : (((P56.toI c).map V.int).length : Int) - 1 = (n : Int) := by rw [lcc, hn]; omega
    have eA : ∀ {b : Addr} {ys : List V}, H3 b = some (.tup ys) → H8 b = some (.tup ys) := fun e => exT x8 (s37 _ _ e)
    have ecc8 := exT x8 (s47 _ _ ecc)
    refine ⟨_, rfl, _, rfl, _, rfl, cc, _, rfl, .inr (SqT.of ecc8), _, 1, rfl, rfl, ah, bw, xs, hs, ws, n, (by show [V.ref ah, V.ref bw, V.int ((((P56.toI c).map V.int).length : Int) - 1)] = _; rw [en]), eA ea, hl.map (fun b ys e => eA e), l12, eA eb, l20, by omega, t8, fun c' H9 hc' le' _ _ => ?_, fun v H9 no x9 t9 bk => ?_⟩
    · exfalso
      obtain rfl := hc.uniq hc'
      omega
    obtain ⟨tv, rfl⟩ : ∃ t, v = .ref t := by
      cases n with
      | zero => obtain ⟨t, _, e, _⟩ := bk; exact ⟨t, e⟩
      | succ n => obtain ⟨t, _, _, _, e, _⟩ := bk; exact ⟨t, e⟩
    have eB : ∀ {b : Addr} {ys : List V}, H3 b = some (.tup ys) → H9 b = some (.tup ys) := fun e => exT x9 (eA e)
    have ecc9 := exT x9 ecc8
    refine ⟨_, rfl, rfl, _, rfl, ite2 (fun e => absurd e (by simp)) (fun _ => ?_)⟩
    refine ⟨_, rfl, _, rfl, _, rfl, cc, _, rfl, .inr (SqT.of ecc9), _, 1, rfl, rfl, _, rfl, ah, bw, xs, hs, ws, n, .ref tv, (by show [V.ref ah, V.ref bw, V.int ((((P56.toI c).map V.int).length : Int) - 1), V.ref tv] = _; rw [en]), eB ea, hl.map (fun b ys e => eB e), l12, eB eb, l20, by omega, bk, fun H10 s10 => ⟨_, rfl, iteF ?_⟩⟩
    refine ⟨_, rfl, _, rfl, _, rfl, cc, _, rfl, .inr (SqT.of (s10 _ _ ecc9)), _, 1, rfl, rfl, _, rfl, ah, bw, xs, hs, ws, n, .ref tv, (by show [V.ref ah, V.ref bw, V.int ((((P56.toI c).map V.int).length : Int) - 1), V.ref tv] = _; rw [en]), s10 _ _ (eB ea), hl.map (fun b ys e => s10 _ _ (eB e)), l12, s10 _ _ (eB eb), l20, by omega, bk.keep fun c ys e => s10 _ _ e, fun H11 s11 => ⟨_, _, rfl, rfl, ?_⟩⟩
    exact q H11
end
end K61
set_option Elab.async false
set_option linter.all false
set_option maxRecDepth 100000
set_option maxHeartbeats 4000000
set_option pp.maxSteps 400
set_option pp.deepTerms false
namespace K61
open PySem PySem.Spec PyProof.Rows L2
open Xk Az
theorem Ca.mono {P : Program} {w : World} {K : PySem.W.Frag} {mg : Str → Option Value} {base : Heap} {j k : Nat} {x : Str} {ps : List Str} {sp : Sp} (c : Ca P w K mg base j x ps sp) (h : j ≤ k) : Ca P w K mg base k x ps sp := by
  obtain ⟨f, fd, F, r⟩ := c.ex
  exact ⟨f, fd, F.mono h, r⟩
theorem Df.no {P : Program} {w : World} {K : PySem.W.Frag} {mg : Str → Option Value} {base : Heap} {k : Nat} {x : Str} {ps : List Str} {st : Stmt} {f : Addr} {fd : FuncData} (d : Df K mg x ps st f fd) : Ca P w K mg base k x ps (fun _ _ _ _ => False) :=
  ⟨f, fd, ⟨fun _ _ _ _ h => h.elim, fun _ _ _ _ _ _ _ _ _ _ _ _ _ h => h.elim⟩, d.mgf, d.fn.kp, d.bd⟩
theorem all_mk {l : PySem.W.OpenLaw} {w : World} {K : PySem.W.Frag} {h : Heap} {mg : Str → Option Value} {ts : List Addr} {cB pB fa f0 f1 f2 f3 f4 f5 f6 f7 f8 f9 f10 f11 f12 f13 f14 f15 f16 f17 f18 f19 f20 f21 f22 f23 : Addr}
    {od0 an0 od1 an1 od2 an2 od3 an3 od4 an4 od5 an5 od6 an6 od7 an7 od8 an8 od9 an9 od10 an10 od11 an11 od12 an12 od13 an13 od14 an14 od15 an15 od16 an16 od17 an17 od18 an18 od19 an19 od20 an20 od21 an21 od22 an22 od23 an23 : Option Addr}
    {sl0 sl1 sl2 sl3 sl4 sl5 sl6 sl7 sl8 sl9 sl10 sl11 sl12 sl13 sl14 sl15 sl16 sl17 sl18 sl19 sl20 sl21 sl22 sl23 : Array (Option Value)}
    {oc0 kV0 dc0 pm0 cd0 ct0 oc1 kV1 dc1 pm1 cd1 ct1 oc2 kV2 dc2 pm2 cd2 ct2 oc3 kV3 dc3 pm3 cd3 ct3 oc4 kV4 dc4 pm4 cd4 ct4 oc5 kV5 dc5 pm5 cd5 ct5 oc6 kV6 dc6 pm6 cd6 ct6 oc7 kV7 dc7 pm7 cd7 ct7 oc8 kV8 dc8 pm8 cd8 ct8 oc9 kV9 dc9 pm9 cd9 ct9 oc10 kV10 dc10 pm10 cd10 ct10 oc11 kV11 dc11 pm11 cd11 ct11 oc12 kV12 dc12 pm12 cd12 ct12 oc13 kV13 dc13 pm13 cd13 ct13 oc14 kV14 dc14 pm14 cd14 ct14 oc15 kV15 dc15 pm15 cd15 ct15 oc16 kV16 dc16 pm16 cd16 ct16 oc17 kV17 dc17 pm17 cd17 ct17 oc18 kV18 dc18 pm18 cd18 ct18 oc19 kV19 dc19 pm19 cd19 ct19 oc20 kV20 dc20 pm20 cd20 ct20 oc21 kV21 dc21 pm21 cd21 ct21 oc22 kV22 dc22 pm22 cd22 ct22 oc23 kV23 dc23 pm23 cd23 ct23 : Value}
    (X : K.In h) (G : h.Ns mainGlobals mg) (hfa : mg "law" = some (.ref fa))
    (a0 : PySem.W.nsIn K mainGlobals "is_whole" = some (some (.ref f0)))
    (l0 : K.lookup f0 = some ⟨oc0, od0, .func (PySem.W.fnOf "is_whole" "is_whole" (defArgs sIsWhole) (defBody sIsWhole) (defScope sIsWhole) .none kV0 dc0 pm0 an0 cd0 ct0), sl0⟩)
    (c0 : PySem.W.codeIn K cd0 "is_whole" = true)
    (k0 : PySem.W.keepIn K (.ref f0) = true)
    (a1 : PySem.W.nsIn K mainGlobals "is_within" = some (some (.ref f1)))
    (l1 : K.lookup f1 = some ⟨oc1, od1, .func (PySem.W.fnOf "is_within" "is_within" (defArgs sIsWithin) (defBody sIsWithin) (defScope sIsWithin) .none kV1 dc1 pm1 an1 cd1 ct1), sl1⟩)
    (c1 : PySem.W.codeIn K cd1 "is_within" = true)
    (k1 : PySem.W.keepIn K (.ref f1) = true)
    (a2 : PySem.W.nsIn K mainGlobals "are_rising" = some (some (.ref f2)))
    (l2 : K.lookup f2 = some ⟨oc2, od2, .func (PySem.W.fnOf "are_rising" "are_rising" (defArgs sAreRising) (defBody sAreRising) (defScope sAreRising) .none kV2 dc2 pm2 an2 cd2 ct2), sl2⟩)
    (c2 : PySem.W.codeIn K cd2 "are_rising" = true)
    (k2 : PySem.W.keepIn K (.ref f2) = true)
    (a3 : PySem.W.nsIn K mainGlobals "holders" = some (some (.ref f3)))
    (l3 : K.lookup f3 = some ⟨oc3, od3, .func (PySem.W.fnOf "holders" "holders" (defArgs sHolders) (defBody sHolders) (defScope sHolders) .none kV3 dc3 pm3 an3 cd3 ct3), sl3⟩)
    (c3 : PySem.W.codeIn K cd3 "holders" = true)
    (k3 : PySem.W.keepIn K (.ref f3) = true)
    (a4 : PySem.W.nsIn K mainGlobals "not_among" = some (some (.ref f4)))
    (l4 : K.lookup f4 = some ⟨oc4, od4, .func (PySem.W.fnOf "not_among" "not_among" (defArgs sNotAmong) (defBody sNotAmong) (defScope sNotAmong) .none kV4 dc4 pm4 an4 cd4 ct4), sl4⟩)
    (c4 : PySem.W.codeIn K cd4 "not_among" = true)
    (k4 : PySem.W.keepIn K (.ref f4) = true)
    (a5 : PySem.W.nsIn K mainGlobals "longer_by_one" = some (some (.ref f5)))
    (l5 : K.lookup f5 = some ⟨oc5, od5, .func (PySem.W.fnOf "longer_by_one" "longer_by_one" (defArgs sLongerByOne) (defBody sLongerByOne) (defScope sLongerByOne) .none kV5 dc5 pm5 an5 cd5 ct5), sl5⟩)
    (c5 : PySem.W.codeIn K cd5 "longer_by_one" = true)
    (k5 : PySem.W.keepIn K (.ref f5) = true)
    (a6 : PySem.W.nsIn K mainGlobals "fewest_discs" = some (some (.ref f6)))
    (l6 : K.lookup f6 = some ⟨oc6, od6, .func (PySem.W.fnOf "fewest_discs" "fewest_discs" (defArgs sFewestDiscs) (defBody sFewestDiscs) (defScope sFewestDiscs) .none kV6 dc6 pm6 an6 cd6 ct6), sl6⟩)
    (c6 : PySem.W.codeIn K cd6 "fewest_discs" = true)
    (k6 : PySem.W.keepIn K (.ref f6) = true)
    (a7 : PySem.W.nsIn K mainGlobals "shows_held" = some (some (.ref f7)))
    (l7 : K.lookup f7 = some ⟨oc7, od7, .func (PySem.W.fnOf "shows_held" "shows_held" (defArgs sShowsHeld) (defBody sShowsHeld) (defScope sShowsHeld) .none kV7 dc7 pm7 an7 cd7 ct7), sl7⟩)
    (c7 : PySem.W.codeIn K cd7 "shows_held" = true)
    (k7 : PySem.W.keepIn K (.ref f7) = true)
    (a8 : PySem.W.nsIn K mainGlobals "book_for" = some (some (.ref f8)))
    (l8 : K.lookup f8 = some ⟨oc8, od8, .func (PySem.W.fnOf "book_for" "book_for" (defArgs sBookFor) (defBody sBookFor) (defScope sBookFor) .none kV8 dc8 pm8 an8 cd8 ct8), sl8⟩)
    (c8 : PySem.W.codeIn K cd8 "book_for" = true)
    (k8 : PySem.W.keepIn K (.ref f8) = true)
    (a9 : PySem.W.nsIn K mainGlobals "book_of" = some (some (.ref f9)))
    (l9 : K.lookup f9 = some ⟨oc9, od9, .func (PySem.W.fnOf "book_of" "book_of" (defArgs sBookOf) (defBody sBookOf) (defScope sBookOf) .none kV9 dc9 pm9 an9 cd9 ct9), sl9⟩)
    (c9 : PySem.W.codeIn K cd9 "book_of" = true)
    (k9 : PySem.W.keepIn K (.ref f9) = true)
    (a10 : PySem.W.nsIn K mainGlobals "is_missing" = some (some (.ref f10)))
    (l10 : K.lookup f10 = some ⟨oc10, od10, .func (PySem.W.fnOf "is_missing" "is_missing" (defArgs sIsMissing) (defBody sIsMissing) (defScope sIsMissing) .none kV10 dc10 pm10 an10 cd10 ct10), sl10⟩)
    (c10 : PySem.W.codeIn K cd10 "is_missing" = true)
    (k10 : PySem.W.keepIn K (.ref f10) = true)
    (a11 : PySem.W.nsIn K mainGlobals "shows_by_taking" = some (some (.ref f11)))
    (l11 : K.lookup f11 = some ⟨oc11, od11, .func (PySem.W.fnOf "shows_by_taking" "shows_by_taking" (defArgs sShowsByTaking) (defBody sShowsByTaking) (defScope sShowsByTaking) .none kV11 dc11 pm11 an11 cd11 ct11), sl11⟩)
    (c11 : PySem.W.codeIn K cd11 "shows_by_taking" = true)
    (k11 : PySem.W.keepIn K (.ref f11) = true)
    (a12 : PySem.W.nsIn K mainGlobals "is_book" = some (some (.ref f12)))
    (l12 : K.lookup f12 = some ⟨oc12, od12, .func (PySem.W.fnOf "is_book" "is_book" (defArgs sIsBook) (defBody sIsBook) (defScope sIsBook) .none kV12 dc12 pm12 an12 cd12 ct12), sl12⟩)
    (c12 : PySem.W.codeIn K cd12 "is_book" = true)
    (k12 : PySem.W.keepIn K (.ref f12) = true)
    (a13 : PySem.W.nsIn K mainGlobals "shows_none" = some (some (.ref f13)))
    (l13 : K.lookup f13 = some ⟨oc13, od13, .func (PySem.W.fnOf "shows_none" "shows_none" (defArgs sShowsNone) (defBody sShowsNone) (defScope sShowsNone) .none kV13 dc13 pm13 an13 cd13 ct13), sl13⟩)
    (c13 : PySem.W.codeIn K cd13 "shows_none" = true)
    (k13 : PySem.W.keepIn K (.ref f13) = true)
    (a14 : PySem.W.nsIn K mainGlobals "_law_hand" = some (some (.ref f14)))
    (l14 : K.lookup f14 = some ⟨oc14, od14, .func (PySem.W.fnOf "_law_hand" "_law_hand" (defArgs sHand) (defBody sHand) (defScope sHand) .none kV14 dc14 pm14 an14 cd14 ct14), sl14⟩)
    (c14 : PySem.W.codeIn K cd14 "_law_hand" = true)
    (k14 : PySem.W.keepIn K (.ref f14) = true)
    (a15 : PySem.W.nsIn K mainGlobals "_law_take" = some (some (.ref f15)))
    (l15 : K.lookup f15 = some ⟨oc15, od15, .func (PySem.W.fnOf "_law_take" "_law_take" (defArgs sTake) (defBody sTake) (defScope sTake) .none kV15 dc15 pm15 an15 cd15 ct15), sl15⟩)
    (c15 : PySem.W.codeIn K cd15 "_law_take" = true)
    (k15 : PySem.W.keepIn K (.ref f15) = true)
    (a16 : PySem.W.nsIn K mainGlobals "_law_pick" = some (some (.ref f16)))
    (l16 : K.lookup f16 = some ⟨oc16, od16, .func (PySem.W.fnOf "_law_pick" "_law_pick" (defArgs sPick) (defBody sPick) (defScope sPick) .none kV16 dc16 pm16 an16 cd16 ct16), sl16⟩)
    (c16 : PySem.W.codeIn K cd16 "_law_pick" = true)
    (k16 : PySem.W.keepIn K (.ref f16) = true)
    (a17 : PySem.W.nsIn K mainGlobals "_law_lacks" = some (some (.ref f17)))
    (l17 : K.lookup f17 = some ⟨oc17, od17, .func (PySem.W.fnOf "_law_lacks" "_law_lacks" (defArgs sLacks) (defBody sLacks) (defScope sLacks) .none kV17 dc17 pm17 an17 cd17 ct17), sl17⟩)
    (c17 : PySem.W.codeIn K cd17 "_law_lacks" = true)
    (k17 : PySem.W.keepIn K (.ref f17) = true)
    (a18 : PySem.W.nsIn K mainGlobals "_law_end_right" = some (some (.ref f18)))
    (l18 : K.lookup f18 = some ⟨oc18, od18, .func (PySem.W.fnOf "_law_end_right" "_law_end_right" (defArgs sEndRight) (defBody sEndRight) (defScope sEndRight) .none kV18 dc18 pm18 an18 cd18 ct18), sl18⟩)
    (c18 : PySem.W.codeIn K cd18 "_law_end_right" = true)
    (k18 : PySem.W.keepIn K (.ref f18) = true)
    (a19 : PySem.W.nsIn K mainGlobals "_law_is_book" = some (some (.ref f19)))
    (l19 : K.lookup f19 = some ⟨oc19, od19, .func (PySem.W.fnOf "_law_is_book" "_law_is_book" (defArgs sLwIsBook) (defBody sLwIsBook) (defScope sLwIsBook) .none kV19 dc19 pm19 an19 cd19 ct19), sl19⟩)
    (c19 : PySem.W.codeIn K cd19 "_law_is_book" = true)
    (k19 : PySem.W.keepIn K (.ref f19) = true)
    (a20 : PySem.W.nsIn K mainGlobals "_law_least" = some (some (.ref f20)))
    (l20 : K.lookup f20 = some ⟨oc20, od20, .func (PySem.W.fnOf "_law_least" "_law_least" (defArgs sLeast) (defBody sLeast) (defScope sLeast) .none kV20 dc20 pm20 an20 cd20 ct20), sl20⟩)
    (c20 : PySem.W.codeIn K cd20 "_law_least" = true)
    (k20 : PySem.W.keepIn K (.ref f20) = true)
    (a21 : PySem.W.nsIn K mainGlobals "_law_wishes" = some (some (.ref f21)))
    (l21 : K.lookup f21 = some ⟨oc21, od21, .func (PySem.W.fnOf "_law_wishes" "_law_wishes" (defArgs sWishes) (defBody sWishes) (defScope sWishes) .none kV21 dc21 pm21 an21 cd21 ct21), sl21⟩)
    (c21 : PySem.W.codeIn K cd21 "_law_wishes" = true)
    (k21 : PySem.W.keepIn K (.ref f21) = true)
    (a22 : PySem.W.nsIn K mainGlobals "_law_held" = some (some (.ref f22)))
    (l22 : K.lookup f22 = some ⟨oc22, od22, .func (PySem.W.fnOf "_law_held" "_law_held" (defArgs sHeld) (defBody sHeld) (defScope sHeld) .none kV22 dc22 pm22 an22 cd22 ct22), sl22⟩)
    (c22 : PySem.W.codeIn K cd22 "_law_held" = true)
    (k22 : PySem.W.keepIn K (.ref f22) = true)
    (a23 : PySem.W.nsIn K mainGlobals "law" = some (some (.ref f23)))
    (l23 : K.lookup f23 = some ⟨oc23, od23, .func (PySem.W.fnOf "law" "law" (defArgs sLaw) (defBody sLaw) (defScope sLaw) .none kV23 dc23 pm23 an23 cd23 ct23), sl23⟩)
    (c23 : PySem.W.codeIn K cd23 "law" = true)
    (k23 : PySem.W.keepIn K (.ref f23) = true)
    (tcode : cd8 = .ref cB)
    (tmem : pB ∈ ts)
    (thd : PySem.W.codeHdIn K cB pB = true)
    (tlk : K.lookup pB = none)
    (z_int : PySem.W.nsIn K mainGlobals "int" = some none)
    (z_tuple : PySem.W.nsIn K mainGlobals "tuple" = some none)
    (z_len : PySem.W.nsIn K mainGlobals "len" = some none)
    (z_any : PySem.W.nsIn K mainGlobals "any" = some none)
    (z_range : PySem.W.nsIn K mainGlobals "range" = some none)
    (z_max : PySem.W.nsIn K mainGlobals "max" = some none)
    (z_min : PySem.W.nsIn K mainGlobals "min" = some none)
    (z_sorted : PySem.W.nsIn K mainGlobals "sorted" = some none)
    (z_sum : PySem.W.nsIn K mainGlobals "sum" = some none)
    (z_enumerate : PySem.W.nsIn K mainGlobals "enumerate" = some none)
    (z_repr : PySem.W.nsIn K mainGlobals "repr" = some none)
    (z_isinstance : PySem.W.nsIn K mainGlobals "isinstance" = some none)
    (z_bool : PySem.W.nsIn K mainGlobals "bool" = some none)
    (z_str : PySem.W.nsIn K mainGlobals "str" = some none)
    (z_all : PySem.W.nsIn K mainGlobals "all" = some none)
    (z_zip : PySem.W.nsIn K mainGlobals "zip" = some none)
    : ∃ (cB pB : Addr) (fd : FuncData), pB ∈ ts ∧ PySem.W.codeHdIn K cB pB = true ∧ K.lookup pB = none ∧ (∀ (s : Shared) (v : Value), BindsTo s fd ⟨[v], []⟩ [("_law_script", v)]) ∧
      (∀ (H : Hp) (a : Addr) (ns : List Int), ns.length ≤ 63 → H pB = some (.tbl #[]) → SqL K H a (ns.map V.int) → spLaw pB K [.ref a] H (fun v _ => v = .bl true) fun _ _ _ => False) ∧
      ∀ base : Heap, K.In base → base.Ns mainGlobals mg → base.NoDigits → LamX.TabB base mg cB pB → Gn l.prog w K mg base 34 fa fd ["_law_script"] (spLaw pB K) := by
  have e := hfa.symm.trans (PySem.W.mg_of X G a23)
  cases e
  have F0 := fun_mk (st := sIsWhole) l0 c0 k0
  have D0 : Df K mg "is_whole" ["thing"] sIsWhole f0 _ := ⟨F0, PySem.W.mg_of X G a0, F0.binds (ps := ["thing"]) fun _ _ _ _ _ _ us hl => match us, hl with | [_], _ => rfl⟩
  have F1 := fun_mk (st := sIsWithin) l1 c1 k1
  have D1 : Df K mg "is_within" ["thing", "least", "most"] sIsWithin f1 _ := ⟨F1, PySem.W.mg_of X G a1, F1.binds (ps := ["thing", "least", "most"]) fun _ _ _ _ _ _ us hl => match us, hl with | [_, _, _], _ => rfl⟩
  have F2 := fun_mk (st := sAreRising) l2 c2 k2
  have D2 : Df K mg "are_rising" ["things"] sAreRising f2 _ := ⟨F2, PySem.W.mg_of X G a2, F2.binds (ps := ["things"]) fun _ _ _ _ _ _ us hl => match us, hl with | [_], _ => rfl⟩
  have F3 := fun_mk (st := sHolders) l3 c3 k3
  have D3 : Df K mg "holders" ["held", "wish"] sHolders f3 _ := ⟨F3, PySem.W.mg_of X G a3, F3.binds (ps := ["held", "wish"]) fun _ _ _ _ _ _ us hl => match us, hl with | [_, _], _ => rfl⟩
  have F4 := fun_mk (st := sNotAmong) l4 c4 k4
  have D4 : Df K mg "not_among" ["things", "wishes"] sNotAmong f4 _ := ⟨F4, PySem.W.mg_of X G a4, F4.binds (ps := ["things", "wishes"]) fun _ _ _ _ _ _ us hl => match us, hl with | [_, _], _ => rfl⟩
  have F5 := fun_mk (st := sLongerByOne) l5 c5 k5
  have D5 : Df K mg "longer_by_one" ["held", "discs", "missing"] sLongerByOne f5 _ := ⟨F5, PySem.W.mg_of X G a5, F5.binds (ps := ["held", "discs", "missing"]) fun _ _ _ _ _ _ us hl => match us, hl with | [_, _, _], _ => rfl⟩
  have F6 := fun_mk (st := sFewestDiscs) l6 c6 k6
  have D6 : Df K mg "fewest_discs" ["held", "wishes"] sFewestDiscs f6 _ := ⟨F6, PySem.W.mg_of X G a6, F6.binds (ps := ["held", "wishes"]) fun _ _ _ _ _ _ us hl => match us, hl with | [_, _], _ => rfl⟩
  have F7 := fun_mk (st := sShowsHeld) l7 c7 k7
  have D7 : Df K mg "shows_held" ["held", "wishes", "thing"] sShowsHeld f7 _ := ⟨F7, PySem.W.mg_of X G a7, F7.binds (ps := ["held", "wishes", "thing"]) fun _ _ _ _ _ _ us hl => match us, hl with | [_, _, _], _ => rfl⟩
  have F8 := fun_mk (st := sBookFor) l8 c8 k8
  have D8 : Df K mg "book_for" ["held", "missing", "left"] sBookFor f8 _ := ⟨F8, PySem.W.mg_of X G a8, F8.binds (ps := ["held", "missing", "left"]) fun _ _ _ _ _ _ us hl => match us, hl with | [_, _, _], _ => rfl⟩
  have F9 := fun_mk (st := sBookOf) l9 c9 k9
  have D9 : Df K mg "book_of" ["held", "wishes", "many"] sBookOf f9 _ := ⟨F9, PySem.W.mg_of X G a9, F9.binds (ps := ["held", "wishes", "many"]) fun _ _ _ _ _ _ us hl => match us, hl with | [_, _, _], _ => rfl⟩
  have F10 := fun_mk (st := sIsMissing) l10 c10 k10
  have D10 : Df K mg "is_missing" ["missing", "thing"] sIsMissing f10 _ := ⟨F10, PySem.W.mg_of X G a10, F10.binds (ps := ["missing", "thing"]) fun _ _ _ _ _ _ us hl => match us, hl with | [_, _], _ => rfl⟩
  have F11 := fun_mk (st := sShowsByTaking) l11 c11 k11
  have D11 : Df K mg "shows_by_taking" ["held", "missing", "left", "wish", "books"] sShowsByTaking f11 _ := ⟨F11, PySem.W.mg_of X G a11, F11.binds (ps := ["held", "missing", "left", "wish", "books"]) fun _ _ _ _ _ _ us hl => match us, hl with | [_, _, _, _, _], _ => rfl⟩
  have F12 := fun_mk (st := sIsBook) l12 c12 k12
  have D12 : Df K mg "is_book" ["held", "missing", "left", "thing"] sIsBook f12 _ := ⟨F12, PySem.W.mg_of X G a12, F12.binds (ps := ["held", "missing", "left", "thing"]) fun _ _ _ _ _ _ us hl => match us, hl with | [_, _, _, _], _ => rfl⟩
  have F13 := fun_mk (st := sShowsNone) l13 c13 k13
  have D13 : Df K mg "shows_none" ["held", "wishes", "many", "thing"] sShowsNone f13 _ := ⟨F13, PySem.W.mg_of X G a13, F13.binds (ps := ["held", "wishes", "many", "thing"]) fun _ _ _ _ _ _ us hl => match us, hl with | [_, _, _, _], _ => rfl⟩
  have F14 := fun_mk (st := sHand) l14 c14 k14
  have D14 : Df K mg "_law_hand" ["_law_script", "_law_k"] sHand f14 _ := ⟨F14, PySem.W.mg_of X G a14, F14.binds (ps := ["_law_script", "_law_k"]) fun _ _ _ _ _ _ us hl => match us, hl with | [_, _], _ => rfl⟩
  have F15 := fun_mk (st := sTake) l15 c15 k15
  have D15 : Df K mg "_law_take" ["_law_hand_here", "_law_many"] sTake f15 _ := ⟨F15, PySem.W.mg_of X G a15, F15.binds (ps := ["_law_hand_here", "_law_many"]) fun _ _ _ _ _ _ us hl => match us, hl with | [_, _], _ => rfl⟩
  have F16 := fun_mk (st := sPick) l16 c16 k16
  have D16 : Df K mg "_law_pick" ["_law_hand_here", "_law_some"] sPick f16 _ := ⟨F16, PySem.W.mg_of X G a16, F16.binds (ps := ["_law_hand_here", "_law_some"]) fun _ _ _ _ _ _ us hl => match us, hl with | [_, _], _ => rfl⟩
  have F17 := fun_mk (st := sLacks) l17 c17 k17
  have D17 : Df K mg "_law_lacks" ["_law_wishes_here", "_law_thing"] sLacks f17 _ := ⟨F17, PySem.W.mg_of X G a17, F17.binds (ps := ["_law_wishes_here", "_law_thing"]) fun _ _ _ _ _ _ us hl => match us, hl with | [_, _], _ => rfl⟩
  have F18 := fun_mk (st := sEndRight) l18 c18 k18
  have D18 : Df K mg "_law_end_right" ["_law_held_here", "_law_wishes_here", "_law_many", "_law_thing"] sEndRight f18 _ := ⟨F18, PySem.W.mg_of X G a18, F18.binds (ps := ["_law_held_here", "_law_wishes_here", "_law_many", "_law_thing"]) fun _ _ _ _ _ _ us hl => match us, hl with | [_, _, _, _], _ => rfl⟩
  have F19 := fun_mk (st := sLwIsBook) l19 c19 k19
  have D19 : Df K mg "_law_is_book" ["_law_held_here", "_law_wishes_here", "_law_many", "_law_thing"] sLwIsBook f19 _ := ⟨F19, PySem.W.mg_of X G a19, F19.binds (ps := ["_law_held_here", "_law_wishes_here", "_law_many", "_law_thing"]) fun _ _ _ _ _ _ us hl => match us, hl with | [_, _, _, _], _ => rfl⟩
  have F20 := fun_mk (st := sLeast) l20 c20 k20
  have D20 : Df K mg "_law_least" ["_law_held_here", "_law_wishes_here"] sLeast f20 _ := ⟨F20, PySem.W.mg_of X G a20, F20.binds (ps := ["_law_held_here", "_law_wishes_here"]) fun _ _ _ _ _ _ us hl => match us, hl with | [_, _], _ => rfl⟩
  have F21 := fun_mk (st := sWishes) l21 c21 k21
  have D21 : Df K mg "_law_wishes" ["_law_hand_here", "_law_many"] sWishes f21 _ := ⟨F21, PySem.W.mg_of X G a21, F21.binds (ps := ["_law_hand_here", "_law_many"]) fun _ _ _ _ _ _ us hl => match us, hl with | [_, _], _ => rfl⟩
  have F22 := fun_mk (st := sHeld) l22 c22 k22
  have D22 : Df K mg "_law_held" ["_law_hand_here", "_law_wishes_here"] sHeld f22 _ := ⟨F22, PySem.W.mg_of X G a22, F22.binds (ps := ["_law_hand_here", "_law_wishes_here"]) fun _ _ _ _ _ _ us hl => match us, hl with | [_, _], _ => rfl⟩
  have F23 := fun_mk (st := sLaw) l23 c23 k23
  have D23 : Df K mg "law" ["_law_script"] sLaw fa _ := ⟨F23, PySem.W.mg_of X G a23, F23.binds (ps := ["_law_script"]) fun _ _ _ _ _ _ us hl => match us, hl with | [_], _ => rfl⟩
  have T : Txt mg := ⟨PySem.W.mg_none_of X G z_int,
    PySem.W.mg_none_of X G z_tuple,
    PySem.W.mg_none_of X G z_len,
    PySem.W.mg_none_of X G z_any,
    PySem.W.mg_none_of X G z_range,
    PySem.W.mg_none_of X G z_max,
    PySem.W.mg_none_of X G z_min,
    PySem.W.mg_none_of X G z_sorted,
    PySem.W.mg_none_of X G z_sum,
    PySem.W.mg_none_of X G z_enumerate,
    PySem.W.mg_none_of X G z_repr,
    PySem.W.mg_none_of X G z_isinstance,
    PySem.W.mg_none_of X G z_bool,
    PySem.W.mg_none_of X G z_str,
    PySem.W.mg_none_of X G z_all,
    PySem.W.mg_none_of X G z_zip⟩
  refine ⟨cB, pB, PySem.W.fnOf "law" "law" (defArgs sLaw) (defBody sLaw) (defScope sLaw) .none kV23 dc23 pm23 an23 cd23 ct23, tmem, thd, tlk, fun s v => .of_eq rfl, fun H a ns hl hH hS => ⟨a, ns, rfl, hS, hl, fun p hp => ?t, fun _ => rfl⟩, fun base kb gb nd TB => ?g⟩
  case t =>
    rw [List.mem_singleton.mp hp]
    exact .nil hH
  case g =>
    have cHo := D3.ca (ok_holders (P := l.prog) (w := w) (base := base) D3 T)
    have cNA := D4.ca (ok_na (P := l.prog) (w := w) (base := base) D4 T)
    have cLo := D5.ca (ok_longer D5 T cNA)
    have cFe := D6.ca (ok_few D6 T cHo cLo)
    have cBFn : ∀ n : Nat, Ca l.prog w K mg base (n + 5) "book_for" ["held", "missing", "left"] (spBF pB n) := by
      intro n
      induction n with
      | zero => exact D8.ca (ok_bf (n := 0) D8 tcode TB T cHo cNA D8.no)
      | succ n ih => exact D8.ca (ok_bf (n := n + 1) D8 tcode TB T cHo cNA ih)
    have cBF : ∀ n : Nat, n ≤ 14 → Ca l.prog w K mg base 19 "book_for" ["held", "missing", "left"] (spBF pB n) := fun n h => (cBFn n).mono (by omega)
    have cBO := D9.ca (ok_bo D9 T cFe cBF)
    have cW := D0.ca (ok_whole (P := l.prog) (w := w) (base := base) D0 T)
    have cMi := D10.ca (ok_miss D10 cW)
    have cIBn : ∀ n : Nat, Ca l.prog w K mg base (2 * n + 4) "is_book" ["held", "missing", "left", "thing"] (spIB n) := by
      intro n
      induction n with
      | zero => exact D12.ca (ok_ib (n := 0) D12 T cMi D11.no)
      | succ n ih => exact D12.ca (ok_ib (n := n + 1) D12 T cMi ((D11.ca (ok_tk (n := n) D11 T cHo cNA cMi ih)).mono (by omega)))
    have cIB : ∀ n : Nat, n ≤ 14 → Ca l.prog w K mg base 32 "is_book" ["held", "missing", "left", "thing"] (spIB n) := fun n h => (cIBn n).mono (by omega)
    have cSN := D13.ca (ok_sn D13 cIB)
    have cLk := D17.ca (ok_lacks (P := l.prog) (w := w) (base := base) D17 T)
    have cEn := D18.ca (ok_end D18 T cLk)
    have cLB := D19.ca (ok_lb D19 T cLk cEn)
    have cH := D14.ca (ok_hand (P := l.prog) (w := w) (base := base) D14 T)
    have cT := D15.ca (ok_take (P := l.prog) (w := w) (base := base) D15)
    have cP := D16.ca (ok_pick D16 T cT)
    have cWi := D21.ca (ok_wishes D21 T cT cP)
    have cHg := D22.ca (ok_heldg D22 T cT)
    have cLe := D20.ca (ok_least (P := l.prog) (w := w) (base := base) D20 T)
    have cWG := D0.ca (ok_wholeG (P := l.prog) (w := w) (base := base) D0 T)
    have cI := D1.ca (ok_within D1 cWG)
    have cR := D2.ca (ok_ris (P := l.prog) (w := w) (base := base) D2 T)
    have cHd := D7.ca (ok_held D7 T cI cR)
    exact ok_law D23 T cH cT cWi cHg cLe cFe cHd cBO cLB cSN
end K61
open PySem PySem.W PyProof.Rows L2
set_option maxRecDepth 100000 in
set_option maxHeartbeats 0 in
theorem PySem.Challenge.cw_takesworks_k61_many_discs_and_wishes_holds : PySem.Challenge.rw_takesworks_k61_many_discs_and_wishes.Holds := by
  w_on; o_law; k_head; (case hw => w_witness2)
  k_fill
  refine K61.walk_goT (l := PySem.Challenge.rw_takesworks_k61_many_discs_and_wishes) (n := 63) (k := 34) (x := "_law_script") (sp := K61.spLaw) rfl (by decide) rfl ⟨rfl, by decide, by decide⟩ (fun w h Y => ⟨PySem.W.km_in_of Y, PySem.W.km_tabs_of Y⟩) ?F
  case F =>
    intro w mg fa h KX G hmg
    refine' K61.all_mk KX G hmg ?a0 ?l0 ?c0 ?k0 ?a1 ?l1 ?c1 ?k1 ?a2 ?l2 ?c2 ?k2 ?a3 ?l3 ?c3 ?k3 ?a4 ?l4 ?c4 ?k4 ?a5 ?l5 ?c5 ?k5 ?a6 ?l6 ?c6 ?k6 ?a7 ?l7 ?c7 ?k7 ?a8 ?l8 ?c8 ?k8 ?a9 ?l9 ?c9 ?k9 ?a10 ?l10 ?c10 ?k10 ?a11 ?l11 ?c11 ?k11 ?a12 ?l12 ?c12 ?k12 ?a13 ?l13 ?c13 ?k13 ?a14 ?l14 ?c14 ?k14 ?a15 ?l15 ?c15 ?k15 ?a16 ?l16 ?c16 ?k16 ?a17 ?l17 ?c17 ?k17 ?a18 ?l18 ?c18 ?k18 ?a19 ?l19 ?c19 ?k19 ?a20 ?l20 ?c20 ?k20 ?a21 ?l21 ?c21 ?k21 ?a22 ?l22 ?c22 ?k22 ?a23 ?l23 ?c23 ?k23 ?tcode ?tmem ?thd ?tlk ?z_int ?z_tuple ?z_len ?z_any ?z_range ?z_max ?z_min ?z_sorted ?z_sum ?z_enumerate ?z_repr ?z_isinstance ?z_bool ?z_str ?z_all ?z_zip
    (case a0 => k_is)
    (case l0 => k_is)
    (case c0 => k_is)
    (case k0 => k_is)
    (case a1 => k_is)
    (case l1 => k_is)
    (case c1 => k_is)
    (case k1 => k_is)
    (case a2 => k_is)
    (case l2 => k_is)
    (case c2 => k_is)
    (case k2 => k_is)
    (case a3 => k_is)
    (case l3 => k_is)
    (case c3 => k_is)
    (case k3 => k_is)
    (case a4 => k_is)
    (case l4 => k_is)
    (case c4 => k_is)
    (case k4 => k_is)
    (case a5 => k_is)
    (case l5 => k_is)
    (case c5 => k_is)
    (case k5 => k_is)
    (case a6 => k_is)
    (case l6 => k_is)
    (case c6 => k_is)
    (case k6 => k_is)
    (case a7 => k_is)
    (case l7 => k_is)
    (case c7 => k_is)
    (case k7 => k_is)
    (case a8 => k_is)
    (case l8 => k_is)
    (case c8 => k_is)
    (case k8 => k_is)
    (case a9 => k_is)
    (case l9 => k_is)
    (case c9 => k_is)
    (case k9 => k_is)
    (case a10 => k_is)
    (case l10 => k_is)
    (case c10 => k_is)
    (case k10 => k_is)
    (case a11 => k_is)
    (case l11 => k_is)
    (case c11 => k_is)
    (case k11 => k_is)
    (case a12 => k_is)
    (case l12 => k_is)
    (case c12 => k_is)
    (case k12 => k_is)
    (case a13 => k_is)
    (case l13 => k_is)
    (case c13 => k_is)
    (case k13 => k_is)
    (case a14 => k_is)
    (case l14 => k_is)
    (case c14 => k_is)
    (case k14 => k_is)
    (case a15 => k_is)
    (case l15 => k_is)
    (case c15 => k_is)
    (case k15 => k_is)
    (case a16 => k_is)
    (case l16 => k_is)
    (case c16 => k_is)
    (case k16 => k_is)
    (case a17 => k_is)
    (case l17 => k_is)
    (case c17 => k_is)
    (case k17 => k_is)
    (case a18 => k_is)
    (case l18 => k_is)
    (case c18 => k_is)
    (case k18 => k_is)
    (case a19 => k_is)
    (case l19 => k_is)
    (case c19 => k_is)
    (case k19 => k_is)
    (case a20 => k_is)
    (case l20 => k_is)
    (case c20 => k_is)
    (case k20 => k_is)
    (case a21 => k_is)
    (case l21 => k_is)
    (case c21 => k_is)
    (case k21 => k_is)
    (case a22 => k_is)
    (case l22 => k_is)
    (case c22 => k_is)
    (case k22 => k_is)
    (case a23 => k_is)
    (case l23 => k_is)
    (case c23 => k_is)
    (case k23 => k_is)
    (case tcode => exact rfl)
    (case tmem => exact List.mem_singleton.mpr rfl)
    (case thd => first | kernel_rfl | exact rfl)
    (case tlk => first | kernel_rfl | exact rfl)
    (case z_int => k_is)
    (case z_tuple => k_is)
    (case z_len => k_is)
    (case z_any => k_is)
    (case z_range => k_is)
    (case z_max => k_is)
    (case z_min => k_is)
    (case z_sorted => k_is)
    (case z_sum => k_is)
    (case z_enumerate => k_is)
    (case z_repr => k_is)
    (case z_isinstance => k_is)
    (case z_bool => k_is)
    (case z_str => k_is)
    (case z_all => k_is)
    (case z_zip => k_is)
