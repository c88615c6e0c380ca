import PyProof.Rows.All
import Wide.All
import OpenK.AllK
import Wide.FinOn
import HandS.ForMost
import HandS.ForExc
import HandS.Wide
import HandS.Flow
import HandS.IsInst
import HandS.Codes
import HandS.ExcInit
import HandS.ExcField
import HandS.ExcIs
import HandS.CallSlots
import HandS.Defaults
import HandS.MakeKw
import HandS.MakeKwOnly
import KE.KExcIs
import KE.KTryMore
import HandS.RaiseMore
import HandS.FStrTup
import PyProof.ReprRoads
import PyProof.StrLawsRepr
import KE.GoesMore
import HandS.Iter
import HandS.Walk
import HandS.More
import KE.DataMinMax
import KE.SortData
import KE.KStar
import HandS.EndTab
import KE.DataMinKey
import KE.GoesZip
import KE.GoesEnum
import PyProof.NeKinds
import HandS.TupLe
import HandS.Zip
import HandS.SetFor
import HandS.Strs
import HandS.TupAny
import HandS.SortInts
import HandS.Style
import HandS.Conv
import PySem.Challenge.RW_takesworks_k62_wishes_by_names
set_option Elab.async false
set_option linter.all false
set_option maxRecDepth 100000
set_option maxHeartbeats 4000000
set_option pp.maxSteps 400
set_option pp.deepTerms false
/-! A caught exception that is kept: tracked as an object of its own, with its class and its dict. -/
namespace Xk
open PySem PySem.Spec PyProof.Rows L2
/-- at a: an exception of the class cls, its dict at d (if it has one) -/
def ExK (cls : Value) (d : Option Addr) (a : Addr) : HO := .ext fun h => ∃ oe : Obj, h.get? a = some oe ∧ Zc cls d oe ∧ ∃ vs, oe.data = .fields vs
theorem exK_ok {P : Program} {w : World} {H : Hp} {h : Heap} {a : Addr} {cls : Value} {d : Option Addr} {oe : Obj} {vs : Array Value}
    (e : h.get? a = some oe) (z : Zc cls d oe) (hd : oe.data = .fields vs) : ObjOk P w H h a (ExK cls d a) :=
  ⟨⟨oe, e, z, vs, hd⟩, ⟨oe, e⟩, fun _ _ y k => by
    obtain ⟨o, q, r⟩ := y
    exact ⟨o, k o q, r⟩⟩
theorem exK_at {P : Program} {w : World} {H : Hp} {h : Heap} {a : Addr} {cls : Value} {d : Option Addr} (hok : HOk P w H h) (e : H a = some (ExK cls d a)) :
    ∃ oe : Obj, h.get? a = some oe ∧ Zc cls d oe ∧ ∃ vs, oe.data = .fields vs := by
  have z : ObjOk P w H h a (.ext fun h => ∃ oe : Obj, h.get? a = some oe ∧ Zc cls d oe ∧ ∃ vs, oe.data = .fields vs) := hok a _ e
  exact z.1
section
variable {X : Cx} {pins : List (Addr × Obj)} {σ : L2.St} {H : Hp} {s : Shared}
/-- an object that came during the call, untracked as yet, is tracked from here on -/
theorem track {a : Addr} {o : HO} (I : Inv X pins σ H s) (h0 : X.s_0.heap.get? a = none) (na : H a = none) (nL : a ≠ X.env.locals)
    (nC : ∀ x c, X.env.cells.lookup x = some c → c ≠ a) (nP : ∀ p ∈ X.pn ++ pins, p.1 ≠ a) (new : ObjOk X.prog X.w (upd H a o) s.heap a o) : Inv X pins σ (upd H a o) s := by
  have n0 : ∀ {b : Addr} {u : Obj}, X.s_0.heap.get? b = some u → b ≠ a := fun {b u} e z => by
    rw [z, h0] at e
    cases e
  refine ⟨I.ok, I.os, I.bare, ⟨I.base.keep, I.base.slot, fun b u e n hx => ?_, I.base.there, fun b xs e => ?_, fun b u v e => ?_, fun b ps e => ?_⟩, I.loc, I.cell, ?_, fun x c e => ?_, fun p hp => ?_, fun b u e => ?_, I.len⟩
  · rw [upd_ne (n0 e)]
    exact I.base.free b u e n hx
  · have q := I.base.tups b xs e
    rw [upd_ne (ne_of_none q na)]
    exact q
  · have q := I.base.frzs b u v e
    rw [upd_ne (ne_of_none q na)]
    exact q
  · obtain ⟨m, q⟩ := I.base.tbls b ps e
    exact ⟨m, by rw [upd_ne (ne_of_none q na)]; exact q⟩
  · rw [upd_ne (Ne.symm nL)]
    exact I.free
  · rw [upd_ne (nC x c e)]
    exact I.freeC x c e
  · obtain ⟨e1, e2, e3⟩ := I.pin p hp
    exact ⟨e1, by rw [upd_ne (nP p hp)]; exact e2, e3⟩
  · by_cases hb : b = a
    · subst hb
      rw [upd_same] at e
      cases e
      exact new
    · rw [upd_ne hb] at e
      refine (I.hok b u e).stay (fun _ _ _ q => q) (fun c q => ?_) fun c xs q => ?_
      · rw [upd_ne (ne_of_none q na)]
        exact q
      · rw [upd_ne (ne_of_none q na)]
        exact q
end
theorem flying_kept {B h h' : Heap} {l : List Env} {a : Addr} {Z : Obj → Prop} (f : HandSPX.FlyingZ B l a Z h) (k : ∀ b o, h.get? b = some o → h'.get? b = some o) : HandSPX.FlyingZ B l a Z h' := by
  obtain ⟨f1, f2, f3, oe, vs, T, oT, ts, t1, t2, t3, t4, t5, t6, t7, t8, t9⟩ := f
  exact ⟨fun b o e => k b o (f1 b o e), f2, f3.of_keeps fun b o e _ => ⟨o, k b o e, rfl⟩, oe, vs, T, oT, ts, k _ _ t1, t2, t3, t4, t5, t6, k _ _ t7, t8, t9⟩
/-- what the clause 'except (A, B, C) as n' wishes of an exception of the body: slot i is n's; the exception is tracked -/
def wKeep (K : PySem.W.Frag) (cs : List Value) (i : Nat) (ts : Addr → TS) (Wout : WX) (D : Ends) : WX := fun cls d σ H =>
  ∃ b, PySem.W.exmAny K cls cs = some b ∧
    (b = true → ∀ a, H a = none → ts a { nx := fun σ' H' => D.nx (σ'.set i none) H', rt := D.rt, bk := fun σ' H' => D.bk (σ'.set i none) H', ct := fun σ' H' => D.ct (σ'.set i none) H' } (σ.set i (some (.ref a))) (upd H a (ExK cls d a))) ∧
    (b = false → Wout cls d σ H)
/-- a module's own class by its name -/
structure Nm (X : Cx) (x : Str) (C : Addr) : Prop where
  gl : Gl X x
  db : (x == ("__debug__" : Str)) = false
  mg : X.mg x = some (.ref C)
section
variable {X : Cx} {x1 x2 x3 n : Str} {C1 C2 C3 : Addr} {i : Nat} {body suite : List Stmt} {b₀ : Stmt} {p1 p2 p3 tp pos pos' : Pos} {tb : WX → TS} {ts : Addr → TS} {Wout : WX} {cx}
theorem ps_try_keep (hs : X.stack = X.env :: X.outer) (hf : X.env.frame = some X.env.locals) (hex : X.ex = []) (hN : X.N.Nodup) (hi : X.N[i]? = some n) (hln : X.env.kindOf n = some .local)
    (n1 : Nm X x1 C1) (n2 : Nm X x2 C2) (n3 : Nm X x3 C3) (tk : Takes X Wout)
    (hb : ∀ (W : WX) (pn : List (Addr × Obj)) (xe : Value → Shared → Prop), Takes (X.tr pn xe) W → PassesOwn (model X.prog X.w) X.A X.env xe → PSs (X.tr pn xe) body (tb W))
    (hsu : ∀ (a : Addr) (pn : List (Addr × Obj)), PSs (X.suite a pn) (b₀ :: suite) (ts a)) :
    PS X (.Try body [.ExceptHandler (some (.Tuple [.Name x1 p1, .Name x2 p2, .Name x3 p3] cx tp)) (some n) (b₀ :: suite) pos'] [] [] pos) (fun D σ H => tb (wKeep X.K [.ref C1, .ref C2, .ref C3] i ts Wout D) D σ H) := by
  refine ⟨fun pins s σ H D I h => ?_⟩
  have ok := I.ok
  have frs2 : X.A.frames = some (X.env :: X.outer) := by rw [ok.frames, hs]
  refine wpAny_Try_except ?_
  refine wpAny_mono ((hb (wKeep X.K [.ref C1, .ref C2, .ref C3] i ts Wout D) (X.pn ++ pins)
    (fun e s₁ => wpAny (model X.prog X.w) X.A (noteFrame e X.env) (fun _ s₂ => wpAny (model X.prog X.w) X.A (setFlight e none) (fun _ s₃ => wpAny (model X.prog X.w) X.A
      (handleBy e X.env [.ExceptHandler (some (.Tuple [.Name x1 p1, .Name x2 p2, .Name x3 p3] cx tp)) (some n) (b₀ :: suite) pos']) (SP X pins D) X.xe s₃) X.xe s₂) X.xe s₁)
    (fun u s' air => ?_) PassesOwn.looking).run [] s σ H D (I.toTry _) h) (fun f s1 hsp => ?_) (fun e s1 he => he)
  · obtain ⟨a, B, sI, pins', σ', H', cls, d, rfl, J', nb, up, sky, na, os, ag, b, hb1, hyes, hno⟩ := air
    have J : Inv X pins σ' H' sI := J'.ofTry ok
    have sky2 : Sky B (X.env :: X.outer) a (Zc cls d) X.env.locals s'.heap := by
      rw [← hs]
      exact sky
    refine Sky.land Zc.steady frs2 hf sky2 fun h3 fl3 up3 => ?_
    obtain ⟨oe3, vs3, he3, hz3, hd3⟩ := fl3.there
    have nfr : a ∉ frs (X.env :: X.outer) := fun hm => by
      obtain ⟨_, o', e', hnf⟩ := fl3.2.2.1.mem hm
      rw [he3] at e'
      cases e'
      exact hnf _ hd3
    have nL : a ≠ X.env.locals := fun z => nfr (List.mem_filterMap.mpr ⟨X.env, List.mem_cons_self, by rw [hf, z]⟩)
    have nF : a ∉ X.fs := fun hm => by
      obtain ⟨e, he, q⟩ := List.mem_filterMap.mp hm
      exact nfr (List.mem_filterMap.mpr ⟨e, List.mem_cons_of_mem _ he, q⟩)
    -- it was not there when the call began
    have aI : sI.heap.get? a = none := by
      cases e : sI.heap.get? a with
      | none => rfl
      | some o =>
        have z := nb a o e (by rw [hs]; exact nfr)
        rw [fl3.2.1] at z
        cases z
    have a0 : X.s_0.heap.get? a = none := by
      cases e : X.s_0.heap.get? a with
      | none => rfl
      | some o =>
        obtain ⟨o', z⟩ := J.base.there a o e (by rw [hex]; exact fun z => nomatch z)
        rw [aI] at z
        cases z
    have nP : ∀ p ∈ X.pn ++ pins, p.1 ≠ a := fun p hp z => by
      have q := (J.pin p hp).1
      rw [z, aI] at q
      cases q
    have trk : ∀ {h4 : Heap} {s4 : Shared}, s4.heap = h4 → HandSPX.FlyingZ B (X.env :: X.outer) a (Zc cls d) h4 → Inv X pins σ' H' s4 → Inv X pins σ' (upd H' a (ExK cls d a)) s4 := fun {h4 s4} e4 fl4 J4 => by
      subst e4
      obtain ⟨oe4, vs4, he4, hz4, hd4⟩ := fl4.there
      refine track J4 a0 na nL (fun x c e z => ?_) nP (exK_ok he4 hz4 hd4)
      obtain ⟨v, o, eo, ed⟩ := J4.cell x c e
      rw [z, he4] at eo
      cases eo
      rw [hd4] at ed
      cases ed
    have J3 : Inv X pins σ' H' { s' with heap := h3 } := J.landed nb fl3.1 (up.trans up3) os ag
    have S3 : Inv (X.suite a (X.pn ++ pins)) [] σ' H' { s' with heap := h3 } :=
      ⟨J3.ok.suite _ _, J3.os, J3.bare, J3.base, J3.loc, J3.cell, J3.free, J3.freeC, fun p hp => J3.pin p (by rw [List.append_nil] at hp; exact hp), J3.hok, J3.len⟩
    refine wpAny_handleBy_cons (codeAny_handlers_test ?_) (by intro q; cases q)
    have own : ∀ {x : Str} {C : Addr} {p : Pos} {Q : Value → Shared → Prop} {E : Value → Shared → Prop}, Nm X x C → Q (.ref C) { s' with heap := h3 } →
        wpAny (model X.prog X.w) (X.A.mark (some (.ref a))) (eval (.Name x p) X.env) Q E { s' with heap := h3 } := fun {x C p Q E} z q => ld_glob (X := X.suite a (X.pn ++ pins)) S3 z.gl z.mg q z.db
    have tup : ∀ {Q : Value → Shared → Prop} {E : Value → Shared → Prop}, Q (.ref h3.objs.size) { s' with heap := h3.push { cls := .type "tuple", data := .seq [Value.ref C1, .ref C2, .ref C3].toArray } } →
        wpAny (model X.prog X.w) (X.A.mark (some (.ref a))) (eval (.Tuple [.Name x1 p1, .Name x2 p2, .Name x3 p3] cx tp) X.env) Q E { s' with heap := h3 } := fun {Q E} q => by
      refine wpAny_Tuple_spliced ?_
      show wpAny _ _ (spliced ((false, eval (.Name x1 p1) X.env) :: (false, eval (.Name x2 p2) X.env) :: (false, eval (.Name x3 p3) X.env) :: [])) _ _ _
      exact Calls.spliced_cons (own n1 (Calls.spliced_cons (own n2 (Calls.spliced_cons (own n3 (Calls.spliced_nil ⟨by show 3 ≤ sizeLine; decide, q⟩))))))
    refine tup ?_
    have k4 : ∀ b o, h3.get? b = some o → (h3.push { cls := .type "tuple", data := .seq [Value.ref C1, .ref C2, .ref C3].toArray }).get? b = some o := fun b o e => Heap.get?_push_of_some _ e
    have t4 := Heap.get?_push_size h3 (o := { cls := .type "tuple", data := .seq [Value.ref C1, .ref C2, .ref C3].toArray }) rfl
    generalize h3.push { cls := .type "tuple", data := .seq [Value.ref C1, .ref C2, .ref C3].toArray } = h4 at k4 t4 ⊢
    have fl4 := flying_kept fl3 k4
    have J4 : Inv X pins σ' H' { s' with heap := h4 } := J3.kept k4
    have LT : PySem.W.Looks (model X.prog X.w) h4 (typeOf (.ref a)) cls := fun A Q E s k q => wpAny_typeOf_ref (k _ _ (k4 _ _ he3)) (by rw [hz3.1]; exact q)
    refine (PySem.W.exm_tup3 (M := model X.prog X.w) J4.kIn LT t4 hb1).here ?_
    cases b with
    | true =>
      refine codeAny_handlers_suite_as ?_
      refine HandSPX.lands_againZ fl4 fun h5 fl5 up5 => ?_
      have J5 : Inv X pins σ' H' { s' with heap := h5 } := J.landed nb fl5.1 ((up.trans up3).trans ((Heap.UpToSlots.of_keeps k4).trans up5)) os ag
      have T5 := trk rfl fl5 J5
      have S5 : Inv (X.suite a (X.pn ++ pins)) [] σ' (upd H' a (ExK cls d a)) { s' with heap := h5 } :=
        ⟨T5.ok.suite _ _, T5.os, T5.bare, T5.base, T5.loc, T5.cell, T5.free, T5.freeC, fun p hp => T5.pin p (by rw [List.append_nil] at hp; exact hp), T5.hok, T5.len⟩
      refine store_ok (X := X.suite a (X.pn ++ pins)) (v := .ref a) S5 hN hi (.inl hln) rfl (fun s6 S6 => ?_) (.inr hln)
      refine wpAny_mono ((hsu a (X.pn ++ pins)).run [] s6 _ _ _ S6 (hyes rfl a na)) (fun f s7 hsp => ?_) (fun _ _ z => False.elim z)
      have back : ∀ {σ7 : L2.St} {H7 : Hp}, Inv (X.suite a (X.pn ++ pins)) [] σ7 H7 s7 → Inv X pins σ7 H7 s7 := fun {σ7 H7} S7 =>
        ⟨ok, S7.os, S7.bare, S7.base, S7.loc, S7.cell, S7.free, S7.freeC, fun p hp => S7.pin p (by rw [List.append_nil]; exact hp), S7.hok, S7.len⟩
      cases f with
      | next =>
        obtain ⟨σ7, H7, S7, q7⟩ := hsp
        exact gone_ok (back S7) hN hi hln fun s8 J8 => ⟨_, _, J8, q7⟩
      | brk =>
        obtain ⟨σ7, H7, S7, q7⟩ := hsp
        exact gone_ok (back S7) hN hi hln fun s8 J8 => ⟨_, _, J8, q7⟩
      | cont =>
        obtain ⟨σ7, H7, S7, q7⟩ := hsp
        exact gone_ok (back S7) hN hi hln fun s8 J8 => ⟨_, _, J8, q7⟩
      | ret u =>
        obtain ⟨v7, σ7, H7, S7, r7, q7⟩ := hsp
        exact gone_ok (back S7) hN hi hln fun s8 J8 => ⟨_, _, _, J8, r7, q7⟩
    | false =>
      refine wpAny_handleBy_nil ?_
      obtain ⟨k1, k2, k3, oe, vs, T, oT, ts', he, hz, hd, h1, hr⟩ := id fl4
      unfold PySem.passOn
      refine wpAny_bind (wpAny_field he hd h1 ?_)
      rw [if_neg (by simp : ¬ ((Value.ref T == Value.none) = true))]
      have fin : wpAny (model X.prog X.w) X.A (setFlight (.ref a) X.env.frame) (fun _ s5 => wpAny (model X.prog X.w) X.A (throw (.ref a) : Sem Flow) (SP X pins D) X.xe s5) X.xe { s' with heap := h4 } := by
        rw [hf]
        refine HandSPX.setFlight_upZ fl4 fun h5 hh5 up5 => wpAny_throw (tk _ _ ?_)
        exact ⟨a, B, sI, pins, σ', H', cls, d, rfl, J, nb, (up.trans up3).trans ((Heap.UpToSlots.of_keeps k4).trans up5), .inr (.inr (by rw [hs]; exact hh5)), na, os, ag, hno rfl⟩
      first
        | exact wpAny_bind (wpAny_pure (wpAny_bind fin))
        | exact wpAny_bind fin
  · cases f with
    | next =>
      obtain ⟨σ', H', J', q⟩ := hsp
      exact wpAny_execs_nil ⟨σ', H', J'.ofTry ok, q⟩
    | brk =>
      obtain ⟨σ', H', J', q⟩ := hsp
      exact ⟨σ', H', J'.ofTry ok, q⟩
    | cont =>
      obtain ⟨σ', H', J', q⟩ := hsp
      exact ⟨σ', H', J'.ofTry ok, q⟩
    | ret u =>
      obtain ⟨v, σ', H', J', r, q⟩ := hsp
      exact ⟨v, σ', H', J'.ofTry ok, r, q⟩
end
end Xk
set_option Elab.async false
set_option linter.all false
set_option maxRecDepth 100000
set_option maxHeartbeats 4000000
set_option pp.maxSteps 400
set_option pp.deepTerms false
namespace Xk
open PySem PySem.Spec PyProof.Rows L2
/-- what an own exception class says, so that its kept instances are read and asked -/
structure XcC (K : PySem.W.Frag) (C : Addr) : Prop where
  cl : (PySem.W.clsIn K C).isSome = true
  ga : PySem.W.findIn K (.ref C) "__getattribute__" = some (some (.builtin "BaseException.__getattribute__"))
  gg : PySem.W.findIn K (.ref C) "__getattr__" = some none
  sb : PySem.W.subIn K (.ref C) (.type "BaseException") = some true
  hd : PySem.W.hasDictIn K C = true
  ha : PySem.W.findIn K (.ref C) "__class__" = some (some (.builtin "object.__class__"))
  hn : PySem.W.specialIn K (.builtin "object.__class__") "__get__" = some (some (.builtin "getset_descriptor.__get__"))
  ht : PySem.W.takesIn K (.builtin "object.__class__") = some true
  hm : PySem.W.mroIn K C (.type "object") = some true
/-- a kept exception of the class at C with the fields fs -/
def Kept (H : Hp) (a C : Addr) (fs : List (Str × V)) : Prop := ∃ d, H a = some (ExK (.ref C) (some d) a) ∧ H d = some (.xd fs)
theorem Kept.same {H H' : Hp} {a C : Addr} {fs : List (Str × V)} (k : Kept H a C fs) (s : L2.Same H H') : Kept H' a C fs := by
  obtain ⟨d, e1, e2⟩ := k
  exact ⟨d, s _ _ e1, s _ _ e2⟩
section
variable {X : Cx} {pins : List (Addr × Obj)} {σ : L2.St} {H : Hp} {s : Shared}
theorem Kept.inst {a C : Addr} {fs : List (Str × V)} (I : Inv X pins σ H s) (k : Kept H a C fs) :
    ∃ (oe od : Obj) (mA : Str → Option Value), PySem.W.InstAt s.heap a oe C (some od) ∧ (∀ n, PySem.W.lookIn n od = some (mA n)) ∧ ∀ f, RelO (fs.lookup f) (mA f) := by
  obtain ⟨d, e1, e2⟩ := k
  obtain ⟨oe, he, hz, vs, hv⟩ := exK_at I.hok e1
  have hx : ObjOk X.prog X.w H s.heap d (.xd fs) := I.hok d _ e2
  obtain ⟨mA, hns, hr⟩ := hx
  obtain ⟨od, ho, hl⟩ := lookIn_ns hns
  refine ⟨oe, od, mA, ⟨he, hz.1, by unfold PySem.W.notCls; rw [hv] <;> rfl, by rw [hz.2]; exact ho⟩, hl, hr⟩
end
/-- e.f of a kept exception -/
def tKf (C : Addr) (f : Str) (te : TE) : TE := fun σ H Q => te σ H fun x H1 => ∃ (a : Addr) (fs : List (Str × V)) (v : V), x = .ref a ∧ Kept H1 a C fs ∧ fs.lookup f = some v ∧ Q v H1
theorem pe_kf {X : Cx} {C : Addr} {e : Expr} {te : TE} {pos : Pos} {n : Str} (T : XcC X.K C) (hno : PySem.W.findIn X.K (.ref C) n = some none) (he : PE X e te)
    (hb : attributeBase e n X.env (eval e X.env) = eval e X.env := by rfl) : PE X (.Attribute e n pos) (tKf C n te) := by
  refine ⟨fun pins s σ H Q I h => attr_of hb (thn (he.run pins s σ H _ I h) fun u s1 z => ?_)⟩
  obtain ⟨x, H1, I1, rx, a, fs, v, ex, k, l, q⟩ := z
  subst ex
  obtain rfl : u = Value.ref a := rx
  obtain ⟨oe, od, mA, J, hl, hr⟩ := k.inst I1
  obtain ⟨y, hy, ry⟩ := RelO.some_of (v := v) (o := mA n) (by rw [← l]; exact hr n)
  exact HandSPX.exc_get I1.kIn J T.ga T.gg T.sb (PySem.W.findObj_own T.hd hno rfl (by rw [hl, hy])) (handed_of ry) ⟨v, H1, I1.tok _, ry, q⟩
/-- isinstance(e, c), isinstance(e, (c1, ..)) of a kept exception -/
def rIsK (K : PySem.W.Frag) (C : Addr) : List V → Hp → VK → Prop := fun xs H Q => ∃ (a : Addr) (fs : List (Str × V)) (c : V) (u : Value) (b : Bool), xs = [.ref a, c] ∧ Kept H a C fs ∧ ClsV c u ∧ PySem.W.kitOne K (.ref C) u = some b ∧ Q (.bl b) H
def rIsKT (K : PySem.W.Frag) (C : Addr) : List V → Hp → VK → Prop := fun xs H Q => ∃ (a tp : Addr) (fs : List (Str × V)) (cs : List V) (us : List Value) (b : Bool), xs = [.ref a, .ref tp] ∧ Kept H a C fs ∧
  H tp = some (.tup cs) ∧ Paired ClsV cs us ∧ PySem.W.kitAny K (.ref C) us = some b ∧ Q (.bl b) H
theorem call_isK {X : Cx} {C : Addr} (T : XcC X.K C) : CallR X (.builtin "isinstance") (rIsK X.K C) := by
  intro pins s σ H xs us Q I r h
  obtain ⟨a, fs, c, u, b, rfl, k, hc, e, q⟩ := h
  obtain ⟨u1, u2, rfl, r1, r2⟩ := vals2 r
  have e2 := hc.eq r2
  subst e2
  cases (show u1 = Value.ref a from r1)
  obtain ⟨oe, od, mA, J, _, _⟩ := k.inst I
  exact PySem.W.kia_one (PySem.W.kitx_exc (ox := oe) (od := some od) T.cl T.ga T.gg T.sb T.ha T.hn T.ht T.hm) I.kIn J e (fun z => nomatch z) fun tk => ⟨.bl b, H, I.tok tk, rfl, q⟩
theorem call_isKT {X : Cx} {C : Addr} (T : XcC X.K C) : CallR X (.builtin "isinstance") (rIsKT X.K C) := by
  intro pins s σ H xs us Q I r h
  obtain ⟨a, tp, fs, cs, ws, b, rfl, k, hT, hc, e, q⟩ := h
  obtain ⟨u1, u2, rfl, r1, r2⟩ := vals2 r
  cases (show u1 = Value.ref a from r1)
  cases (show u2 = Value.ref tp from r2)
  obtain ⟨oe, od, mA, J, _, _⟩ := k.inst I
  have ht : ObjOk X.prog X.w H s.heap tp (.tup cs) := I.hok tp _ hT
  obtain ⟨_, its, rv, o, h1, h2, n, h3⟩ := ht
  have e3 := ClsV.all hc rv
  subst e3
  obtain ⟨oc, od2, dt, sl⟩ := o
  simp only at h2 h3
  subst h2 h3
  exact PySem.W.kia_tup (PySem.W.kitx_exc (ox := oe) (od := some od) T.cl T.ga T.gg T.sb T.ha T.hn T.ht T.hm) I.kIn J h1 e (fun z => nomatch z) fun tk => ⟨.bl b, H, I.tok tk, rfl, q⟩
/-! ### B.__init__(self, ..), B an own class over ValueError without own __init__ -/
structure BiC (K : PySem.W.Frag) (B : Addr) : Prop where
  rd : PySem.W.readsIn K B (.type "type") = true
  sp : PySem.W.specialIn K (.ref B) "__getattribute__" = some (some (.builtin "type.__getattribute__"))
  fi : PySem.W.findCls K (.ref B) (.type "type") "__init__" = some (.val (.builtin "ValueError.__init__"))
theorem pe_binit {X : Cx} {B : Addr} {x : Str} {e : Expr} {es : List Expr} {ta : TA} {p1 p2 pos : Pos} {pl : Sem Bool} (T : BiC X.K B) (gl : Gl X x) (mg : X.mg x = some (.ref B)) (ha : PA X (e :: es) ta) (hdb : (x == ("__debug__" : Str)) = false := by decide)
    (hc : eval (.Call (.Attribute (.Name x p1) "__init__" p2) (e :: es) [] pos) X.env = (do
      let ov ← eval (.Name x p1) X.env
      standAt p2.atName
      let (f, first) ← holding [ov] (getMethod ov "__init__" pl)
      callWith pos f first (backTo pos (starEach (e :: es) X.env)) (backToKw pos (keywordEach [] X.env))) := by rfl)
    (he : starEach (e :: es) X.env = (false, eval e X.env) :: starEach es X.env := by rfl) (hpl : (backTo pos (starEach es X.env)).any (·.1) = false := by rfl) :
    PE X (.Call (.Attribute (.Name x p1) "__init__" p2) (e :: es) [] pos) (tVeI X.K ta) := by
  refine ⟨fun pins s σ H Q I h => PySem.W.methodCall_KW (ld_glob I gl mg ?_ hdb) hc⟩
  refine PySem.W.method_cls I.kIn T.sp (PySem.W.cls_value I.kIn T.rd T.fi (by decide +kernel) ?_)
  show wpAny _ _ (callWith pos (Value.builtin "ValueError.__init__") [] (backTo pos (starEach (e :: es) X.env)) []) _ _ _
  refine PyProof.Rows.callWith_method1 (thn (ha.run pos pins _ σ H _ (I.tok _) h) fun us s1 z => ?_) he hpl
  obtain ⟨vs, H1, I1, r1, a, C, ws, ev, hl, Tx, ea, q⟩ := z
  subst ev
  cases r1 with
  | @cons _ u0 _ ur ra rw' =>
    obtain rfl : u0 = Value.ref a := ra
    refine oinit_ok Tx I1 ea ?_ fun s' J => ⟨.non, H1, J, rfl, q⟩
    rw [← Paired.length rw', sizeLine_eq]
    omega
/-! ### calls in a try's body: what is raised is wished for at the slots -/
section
variable {X : Cx} {CX : CXT} {k n : Nat} {f C : Addr} {fd : FuncData} {ps ks : List Str} {sp : Sp} {dvs : List V} {ds : List Value} {E : L2.St → XK} {x : Str} {p pos : Pos} {e : Expr} {es : List Expr} {kws : List Keyword} {t tk : TA}
  {g : List Value → List Value → List Value} {gV : List V → List V → List V}
def tMakeS (C : Addr) (sp : Sp) (dvs : List V) (E : L2.St → XK) (t : TA) : TE := fun σ H Q => t σ H fun vs H1 => ∀ x dx, H1 x = none → H1 dx = none → dx ≠ x →
  sp (.ref x :: (vs ++ dvs)) (upd (upd H1 dx (.own x)) x (.ins C dx [])) (fun v H2 => v = .non ∧ Q (.ref x) H2) (E σ)
theorem pe_makeS (M : Mk X.K C f) (F : FnOk X.prog X.w X.K X.mg X.base CX k f fd ps sp) (room : Room (k + 1) X.A) (gl : Gl X x) (mg : X.mg x = some (.ref C)) (bd : Binds X.K fd ps ds) (rd : Vals dvs ds) (px : ∀ σ, PassesAt CX X σ (E σ))
    (ha : PA X (e :: es) t) (hdb : (x == ("__debug__" : Str)) = false := by decide) (he : starEach (e :: es) X.env = (false, eval e X.env) :: starEach es X.env := by rfl) (hpl : (backTo pos (starEach es X.env)).any (·.1) = false := by rfl) :
    PE X (.Call (.Name x p) (e :: es) [] pos) (tMakeS C sp dvs E t) := by
  refine ⟨fun pins s σ H Q I h => wpAny_Call_Name_kw (ld_glob I gl mg ?_ hdb)⟩
  refine PySem.W.callWith_K (h₀ := X.base) I.ok.mod.kin M.kp (thn (ha.run pos pins s σ H _ I h) fun us s1 z => ?_) he hpl
  obtain ⟨vs, H1, I1, r, q⟩ := z
  refine ⟨I1.kIn, ?_⟩
  have q1 := q (s1.heap.objs.size + 1) s1.heap.objs.size (I1.hok.fresh (Nat.le_succ _)) (I1.hok.fresh (Nat.le_refl _)) (Nat.ne_of_lt (Nat.lt_succ_self _))
  have I2 := Inv.made (C := C) I1
  have r2 : Vals (V.ref (s1.heap.objs.size + 1) :: (vs ++ dvs)) (Value.ref (s1.heap.objs.size + 1) :: (us ++ ds)) := .cons rfl (r.append rd)
  have many : (Value.ref (s1.heap.objs.size + 1) :: us ++ ds).length = ps.length := (r2.length.symm.trans (F.len _ _ _ _ q1))
  refine wpAny_call (make_map (f := f) I1.kIn M.makes M.init (beq_iff_eq.mp M.fn) (codeAny_mono (F.run _ X.stack _ _ ⟨Value.ref (s1.heap.objs.size + 1) :: us, []⟩ (Value.ref (s1.heap.objs.size + 1) :: (us ++ ds)) _ _ (E σ)
    (room.make C us []) (I2.env0.make C us []) (bd _ (Value.ref (s1.heap.objs.size + 1) :: us) I2.kIn many) r2 q1) fun r s' z => ?_))
  cases r with
  | error e => exact px σ pins _ _ e s' I2 z
  | ok fl =>
    cases fl with
    | ret u =>
      obtain ⟨v, H', I3, rv, ev, q3⟩ := I2.after z
      subst ev
      exact ⟨rv, ⟨V.ref (s1.heap.objs.size + 1), H', I3, rfl, q3⟩⟩
    | next => exact False.elim z
    | brk => exact False.elim z
    | cont => exact False.elim z
def tMakeKS (C : Addr) (m : Nat) (sp : Sp) (gV : List V → List V → List V) (E : L2.St → XK) (tk : TA) : TE := fun σ H Q => tk σ H fun zs H2 => zs.length = m ∧
  ∀ x dx, H2 x = none → H2 dx = none → dx ≠ x → sp (gV [.ref x] zs) (upd (upd H2 dx (.own x)) x (.ins C dx [])) (fun v H3 => v = .non ∧ Q (.ref x) H3) (E σ)
theorem pe_makeKS (M : Mk X.K C f) (F : FnOk X.prog X.w X.K X.mg X.base CX k f fd ps sp) (room : Room (k + 1) X.A) (gl : Gl X x) (mg : X.mg x = some (.ref C)) (kb : KBn X.K fd ps 1 ks g gV) (px : ∀ σ, PassesAt CX X σ (E σ)) (pk : PK X kws tk)
    (hall : (backToKw pos (keywordEach kws X.env)).all (·.1.isSome) = true := by rfl) (hks : (backToKw pos (keywordEach kws X.env)).filterMap (·.1) = ks := by rfl) (hdb : (x == ("__debug__" : Str)) = false := by decide)
    (hpl : ((backTo pos (starEach [] X.env)).any (·.1) || (backToKw pos (keywordEach kws X.env)).any (·.1.isNone)) = false := by rfl) :
    PE X (.Call (.Name x p) [] kws pos) (tMakeKS C ks.length sp gV E tk) := by
  refine ⟨fun pins s σ H Q I h => wpAny_Call_Name_kw (ld_glob I gl mg ?_ hdb)⟩
  refine PySem.W.callWith_KW0 (h₀ := X.base) I.ok.mod.kin M.kp hall (thn (pk.run pos pins s σ H _ I h) fun ws s1 z => ?_) hpl
  obtain ⟨zs, H1, I1, rz, l2, q⟩ := z
  refine ⟨I1.kIn, ?_⟩
  rw [hks]
  have q1 := q (s1.heap.objs.size + 1) s1.heap.objs.size (I1.hok.fresh (Nat.le_succ _)) (I1.hok.fresh (Nat.le_refl _)) (Nat.ne_of_lt (Nat.lt_succ_self _))
  have I2 := Inv.made (C := C) I1
  have r1 : Vals [V.ref (s1.heap.objs.size + 1)] [Value.ref (s1.heap.objs.size + 1)] := .cons rfl .nil
  have r2 := kb.rel r1 rz
  refine wpAny_call (make_map (f := f) I1.kIn M.makes M.init (beq_iff_eq.mp M.fn) (codeAny_mono (F.run _ X.stack _ _ ⟨[Value.ref (s1.heap.objs.size + 1)], ks.zip ws⟩ (g [Value.ref (s1.heap.objs.size + 1)] ws) _ _ (E σ)
    (room.make C [] (ks.zip ws)) (I2.env0.make C [] (ks.zip ws)) (kb.to _ [Value.ref (s1.heap.objs.size + 1)] ws I2.kIn rfl (rz.length.symm.trans l2)) r2 q1) fun r s' z => ?_))
  cases r with
  | error e => exact px σ pins _ _ e s' I2 z
  | ok fl =>
    cases fl with
    | ret u =>
      obtain ⟨v, H', I3, rv, ev, q3⟩ := I2.after z
      subst ev
      exact ⟨rv, ⟨V.ref (s1.heap.objs.size + 1), H', I3, rfl, q3⟩⟩
    | next => exact False.elim z
    | brk => exact False.elim z
    | cont => exact False.elim z
def tCallKS (m : Nat) (sp : Sp) (gV : List V → List V → List V) (E : L2.St → XK) (tk : TA) : TE := fun σ H Q => tk σ H fun zs H2 => zs.length = m ∧ sp (gV [] zs) H2 Q (E σ)
theorem pe_callKS (F : FnOk X.prog X.w X.K X.mg X.base CX k f fd ps sp) (room : Room k X.A) (gl : Gl X x) (mg : X.mg x = some (.ref f)) (kp : PySem.W.keepIn X.K (.ref f) = true) (kb : KBn X.K fd ps 0 ks g gV) (px : ∀ σ, PassesAt CX X σ (E σ)) (pk : PK X kws tk)
    (hall : (backToKw pos (keywordEach kws X.env)).all (·.1.isSome) = true := by rfl) (hks : (backToKw pos (keywordEach kws X.env)).filterMap (·.1) = ks := by rfl) (hdb : (x == ("__debug__" : Str)) = false := by decide)
    (hpl : ((backTo pos (starEach [] X.env)).any (·.1) || (backToKw pos (keywordEach kws X.env)).any (·.1.isNone)) = false := by rfl) :
    PE X (.Call (.Name x p) [] kws pos) (tCallKS ks.length sp gV E tk) := by
  refine ⟨fun pins s σ H Q I h => wpAny_Call_Name_kw (ld_glob I gl mg ?_ hdb)⟩
  refine PySem.W.callWith_KW0 (h₀ := X.base) I.ok.mod.kin kp hall (thn (pk.run pos pins s σ H _ I h) fun ws s1 z => ?_) hpl
  obtain ⟨zs, H1, I1, rz, l2, q⟩ := z
  refine ⟨I1.kIn, ?_⟩
  rw [hks]
  have rn : Vals [] [] := .nil
  have r2 := kb.rel rn rz
  refine wpAny_call (codeAny_mono (F.run X.A X.stack s1 H1 ⟨[], ks.zip ws⟩ (g [] ws) (gV [] zs) Q (E σ) room I1.env0 (kb.to s1 [] ws I1.kIn rfl (rz.length.symm.trans l2)) r2 q) fun r s' z => ?_)
  cases r with
  | error e => exact px σ pins _ _ e s' I1 z
  | ok fl =>
    cases fl with
    | ret u => exact I1.after z
    | next => exact False.elim z
    | brk => exact False.elim z
    | cont => exact False.elim z
end
end Xk
set_option Elab.async false
set_option linter.all false
set_option maxRecDepth 100000
set_option maxHeartbeats 4000000
set_option pp.maxSteps 400
set_option pp.deepTerms false
/-! Things of any kind: texts, numbers, truths, None, and lists, tuples, dicts of these, at any depth. -/
namespace Az
open PySem PySem.Spec PyProof.Rows L2
def keyD : Key → PyData
  | .inl i => .int i
  | .inr x => .str x
mutual
inductive Dz (K : PySem.W.Frag) (H : Hp) : V → PyData → Prop
  | non : Dz K H .non .none
  | bl (b : Bool) : Dz K H (.bl b) (.bool b)
  | int (i : Int) : Dz K H (.int i) (.int i)
  | str (x : Str) : Dz K H (.str x) (.str x)
  | lst {a : Addr} {xs : List V} {ds : List PyData} : H a = some (.lst xs) → a ≠ sysModules → DzAll K H xs ds → Dz K H (.ref a) (.list ds)
  | tup {a : Addr} {xs : List V} {ds : List PyData} : H a = some (.tup xs) → DzAll K H xs ds → Dz K H (.ref a) (.tuple ds)
  | dct {a : Addr} {kvs : List (Key × V)} {ds : List (PyData × PyData)} : H a = some (.dK kvs) → DzKv K H kvs ds → Dz K H (.ref a) (.dict ds)
inductive DzAll (K : PySem.W.Frag) (H : Hp) : List V → List PyData → Prop
  | nil : DzAll K H [] []
  | cons {v : V} {vs : List V} {d : PyData} {ds : List PyData} : Dz K H v d → DzAll K H vs ds → DzAll K H (v :: vs) (d :: ds)
inductive DzKv (K : PySem.W.Frag) (H : Hp) : List (Key × V) → List (PyData × PyData) → Prop
  | nil : DzKv K H [] []
  | cons {k : Key} {v : V} {kvs : List (Key × V)} {d : PyData} {ds : List (PyData × PyData)} : Dz K H v d → DzKv K H kvs ds → DzKv K H ((k, v) :: kvs) ((keyD k, d) :: ds)
end
section
variable {K : PySem.W.Frag} {H H' : Hp}
mutual
/-- what is read of a thing stays while its objects do -/
theorem Dz.keep (s : ∀ b o, H b = some o → (∀ x, o ≠ .own x) → H' b = some o) : ∀ {v : V} {d : PyData}, Dz K H v d → Dz K H' v d
  | _, _, .non => .non
  | _, _, .bl b => .bl b
  | _, _, .int i => .int i
  | _, _, .str x => .str x
  | _, _, .lst e n r => .lst (s _ _ e (fun _ z => by cases z)) n (DzAll.keep s r)
  | _, _, .tup e r => .tup (s _ _ e (fun _ z => by cases z)) (DzAll.keep s r)
  | _, _, .dct e r => .dct (s _ _ e (fun _ z => by cases z)) (DzKv.keep s r)
theorem DzAll.keep (s : ∀ b o, H b = some o → (∀ x, o ≠ .own x) → H' b = some o) : ∀ {v : List V} {d : List PyData}, DzAll K H v d → DzAll K H' v d
  | _, _, .nil => .nil
  | _, _, .cons h r => .cons (Dz.keep s h) (DzAll.keep s r)
theorem DzKv.keep (s : ∀ b o, H b = some o → (∀ x, o ≠ .own x) → H' b = some o) : ∀ {v : List (Key × V)} {d : List (PyData × PyData)}, DzKv K H v d → DzKv K H' v d
  | _, _, .nil => .nil
  | _, _, .cons h r => .cons (Dz.keep s h) (DzKv.keep s r)
end
theorem Dz.same {v : V} {d : PyData} (h : Dz K H v d) (s : L2.Same H H') : Dz K H' v d := h.keep fun b o e _ => s b o e
theorem DzAll.same {v : List V} {d : List PyData} (h : DzAll K H v d) (s : L2.Same H H') : DzAll K H' v d := h.keep fun b o e _ => s b o e
/-- the kind of a thing -/
def kindD : PyData → String
  | .none => "NoneType"
  | .bool _ => "bool"
  | .int _ => "int"
  | .str _ => "str"
  | .list _ => "list"
  | .tuple _ => "tuple"
  | .dict _ => "dict"
theorem Dz.ty {v : V} {d : PyData} (h : Dz K H v d) : TyX K H v (.type (kindD d)) := by
  cases h with
  | non => exact .base .non
  | bl b => exact .base (.bl b)
  | int i => exact .base (.int i)
  | str x => exact .base (.str x)
  | lst e _ _ => exact .base (.lst e)
  | tup e _ => exact .base (.tup e)
  | dct e _ => exact .base (.dK e)
end
section
variable {X : Cx} {pins : List (Addr × Obj)} {σ : L2.St} {H : Hp} {s : Shared}
theorem pairs_keys {P : Program} {w : World} : ∀ {es : List DictEntry} {vs : List (Key × Value)}, PySem.Pairs (mixKind P w) es vs → ∃ as, ReadsAll s.heap (es.map (·.key)) (vs.map fun p => keyD p.1) as ∧ as = []
  | _, _, .nil => ⟨[], .nil, rfl⟩
  | e :: es, (k, u) :: vs, .cons h1 h2 r => by
    obtain ⟨as, q, rfl⟩ := pairs_keys r
    rcases keyIs_shape (show keyIs k e.key = true from h1) with ⟨i, t, rfl, ek⟩ | ⟨x, t, rfl, ek⟩
    · refine ⟨[] ++ [], .cons ?_ q, rfl⟩
      show Reads s.heap e.key (.int i) []
      rw [ek]
      exact .int i t
    · refine ⟨[] ++ [], .cons ?_ q, rfl⟩
      show Reads s.heap e.key (.str x) []
      rw [ek]
      exact .str x t
theorem pairs_vals {P : Program} {w : World} : ∀ {es : List DictEntry} {vs : List (Key × Value)}, PySem.Pairs (mixKind P w) es vs → es.map (·.val) = vs.map (·.2)
  | _, _, .nil => rfl
  | e :: es, (k, u) :: vs, .cons h1 h2 r => by
    rw [List.map_cons, List.map_cons, pairs_vals r, h2]
mutual
theorem Dz.reads (I : Inv X pins σ H s) : ∀ (d : PyData) (v : V) (u : Value), Dz X.K H v d → RelV v u → ∃ as, Reads s.heap u d as ∧ sysModules ∉ as
  | .none, _, _, h, r => by
    cases h
    cases r
    exact ⟨[], .none, by simp⟩
  | .bool b, _, _, h, r => by
    cases h
    cases r
    exact ⟨[], .bool b, by simp⟩
  | .int i, _, _, h, r => by
    cases h
    obtain ⟨t, rfl⟩ := r
    exact ⟨[], .int i t, by simp⟩
  | .str x, _, _, h, r => by
    cases h
    obtain ⟨t, rfl⟩ := r
    exact ⟨[], .str x t, by simp⟩
  | .list ds, _, _, h, r => by
    cases h with
    | @lst a xs _ e ne ha =>
      cases r
      have ok : ObjOk X.prog X.w H s.heap a (.lst xs) := I.hok a _ e
      obtain ⟨_, its, n, rv, eh⟩ := ok
      obtain ⟨as, q, na⟩ := DzAll.reads I ds xs its ha rv
      refine ⟨a :: as, .list eh rfl rfl (by simpa using q), fun m => ?_⟩
      rcases List.mem_cons.mp m with z | z
      · exact ne z.symm
      · exact na z
  | .tuple ds, _, _, h, r => by
    cases h with
    | @tup a xs _ e ha =>
      cases r
      have ok : ObjOk X.prog X.w H s.heap a (.tup xs) := I.hok a _ e
      obtain ⟨_, its, rv, o, eh, ec, n, ed⟩ := ok
      obtain ⟨as, q, na⟩ := DzAll.reads I ds xs its ha rv
      exact ⟨as, .tuple eh ec ed (by simpa using q), na⟩
  | .dict ds, _, _, h, r => by
    cases h with
    | @dct a kvs _ e ha =>
      cases r
      obtain ⟨_, ne, vs, rel, o, es, ep, eh, ex, ed, _, pr, _⟩ := dk_of I.hok e
      obtain ⟨as, q1, rfl⟩ := pairs_keys (s := s) pr
      obtain ⟨bs, q2, nb⟩ := DzKv.reads I ds kvs vs ha rel
      have hk : (vs.map fun p => keyD p.1) = ds.map (·.1) := DzKv.keys ha rel
      rw [hk] at q1
      refine ⟨a :: [] ++ bs, .dict eh ex.1 ed q1 (by rw [pairs_vals pr]; exact q2), fun m => ?_⟩
      rcases List.mem_cons.mp m with z | z
      · rw [← z] at ne
        simp at ne
      · exact nb z
theorem DzAll.reads (I : Inv X pins σ H s) : ∀ (ds : List PyData) (vs : List V) (us : List Value), DzAll X.K H vs ds → Vals vs us → ∃ as, ReadsAll s.heap us ds as ∧ sysModules ∉ as
  | [], _, _, h, r => by
    cases h
    cases r
    exact ⟨[], .nil, by simp⟩
  | d :: ds, _, _, h, r => by
    cases h with
    | cons h1 h2 =>
      cases r with
      | cons r1 r2 =>
        obtain ⟨as, q1, n1⟩ := Dz.reads I d _ _ h1 r1
        obtain ⟨bs, q2, n2⟩ := DzAll.reads I ds _ _ h2 r2
        exact ⟨as ++ bs, .cons q1 q2, fun m => (List.mem_append.mp m).elim n1 n2⟩
theorem DzKv.reads (I : Inv X pins σ H s) : ∀ (ds : List (PyData × PyData)) (kvs : List (Key × V)) (vs : List (Key × Value)), DzKv X.K H kvs ds → KV kvs vs → ∃ as, ReadsAll s.heap (vs.map (·.2)) (ds.map (·.2)) as ∧ sysModules ∉ as
  | [], _, _, h, r => by
    cases h
    cases r
    exact ⟨[], .nil, by simp⟩
  | (_, d) :: ds, _, _, h, r => by
    cases h with
    | cons h1 h2 =>
      cases r with
      | cons r1 r2 =>
        obtain ⟨as, q1, n1⟩ := Dz.reads I d _ _ h1 r1.2
        obtain ⟨bs, q2, n2⟩ := DzKv.reads I ds _ _ h2 r2
        exact ⟨as ++ bs, .cons q1 q2, fun m => (List.mem_append.mp m).elim n1 n2⟩
theorem DzKv.keys {K : PySem.W.Frag} : ∀ {ds : List (PyData × PyData)} {kvs : List (Key × V)} {vs : List (Key × Value)}, DzKv K H kvs ds → KV kvs vs → (vs.map fun p => keyD p.1) = ds.map (·.1)
  | [], _, _, h, r => by
    cases h
    cases r
    rfl
  | (_, d) :: ds, _, _, h, r => by
    cases h with
    | cons h1 h2 =>
      cases r with
      | cons r1 r2 =>
        rw [List.map_cons, List.map_cons, DzKv.keys h2 r2, ← r1.1]
end
/-- repr of a thing -/
def rReprZ (K : PySem.W.Frag) : List V → Hp → VK → Prop := fun xs H Q => ∃ (v : V) (d : PyData), xs = [v] ∧ Dz K H v d ∧ d.showable = true ∧ d.depth ≤ 60 ∧ d.shown.length ≤ sizeLine ∧ Q (.str d.shown) H
theorem cr_reprZ {k : Nat} (quiet : X.A.guards = some []) (room : Room k X.A) : CallR X (.builtin "repr") (rReprZ X.K) := by
  intro pins s σ H xs us Q I r h
  obtain ⟨v, d, rfl, hd, hs, hp, hz, q⟩ := h
  obtain ⟨u, rfl, rx⟩ := vals1 r
  have hu := room.units
  cases hd with
  | non =>
    cases rx
    exact PySem.P.repr_of_none ⟨.str _, H, I.tok _, ⟨_, rfl⟩, q⟩
  | bl b =>
    cases rx
    exact PySem.P.repr_of_bool ⟨.str _, H, I.tok _, ⟨_, rfl⟩, q⟩
  | int i =>
    obtain ⟨t, rfl⟩ := rx
    exact PySem.P.repr_of_int (by simpa [PyData.showable] using hs) ⟨.str _, H, I.tok _, ⟨_, rfl⟩, q⟩
  | str x =>
    obtain ⟨t, rfl⟩ := rx
    exact PySem.P.repr_of_str ⟨.str _, H, I.tok _, ⟨_, rfl⟩, q⟩ hz
  | lst e n ha =>
    obtain ⟨as, rd, na⟩ := Dz.reads I _ _ u (.lst e n ha) rx
    cases rx
    exact repr_of_reads' rd hs (fun _ => na) quiet (by omega) (fun _ _ z => z) (fun h' u tk kept => ⟨.str _, H, I.kept kept, ⟨u, rfl⟩, q⟩) hz
  | tup e ha =>
    obtain ⟨as, rd, na⟩ := Dz.reads I _ _ u (.tup e ha) rx
    cases rx
    exact repr_of_reads' rd hs (fun _ => na) quiet (by omega) (fun _ _ z => z) (fun h' u tk kept => ⟨.str _, H, I.kept kept, ⟨u, rfl⟩, q⟩) hz
  | dct e ha =>
    obtain ⟨as, rd, na⟩ := Dz.reads I _ _ u (.dct e ha) rx
    cases rx
    exact repr_of_reads' rd hs (fun _ => na) quiet (by omega) (fun _ _ z => z) (fun h' u tk kept => ⟨.str _, H, I.kept kept, ⟨u, rfl⟩, q⟩) hz
/-- a list of written items: new, and no table of modules -/
def tLstZ (t : TA) : TE := fun σ H Q => t σ H fun xs H1 => xs.length ≤ sizeLine ∧ ∀ p, H1 p = none → p ≠ sysModules → Q (.ref p) (upd H1 p (.lst xs))
theorem pe_lstZ {es : List Expr} {t : TA} {pos : Pos} (h : PA X es t) : PE X (.List es pos) (tLstZ t) := by
  refine ⟨fun pins s σ H Q I hq => wpAny_List_spliced (thn (h.run pos pins s σ H _ I hq) fun us s1 z => ?_)⟩
  obtain ⟨xs, H1, I1, r, z, q⟩ := z
  refine ⟨by rw [← r.length]; exact z, ?_⟩
  have new : H1 s1.heap.objs.size = none := I1.hok.fresh (Nat.le_refl _)
  refine ⟨.ref s1.heap.objs.size, upd H1 s1.heap.objs.size (.lst xs), I1.laid (t' := s1.toks) (fun b u e => Heap.get?_push_of_some _ e) (Nat.le_refl _) ?_, rfl, q _ new (Nat.ne_of_gt I1.big)⟩
  exact ⟨z, us, 0, r, Heap.get?_push_size _ rfl⟩
end
end Az
namespace Az
open PySem PySem.Spec PyProof.Rows L2
/-- a thing that is shown in n signs at most, at most k deep -/
structure Nice (d : PyData) (k n : Nat) : Prop where
  sh : d.showable = true
  dp : d.depth ≤ k
  sz : d.shown.length ≤ n
theorem Nice.mono {d : PyData} {k k' n n' : Nat} (h : Nice d k n) (hk : k ≤ k') (hn : n ≤ n') : Nice d k' n' := ⟨h.sh, Nat.le_trans h.dp hk, Nat.le_trans h.sz hn⟩
theorem nice_int {i : Int} {n : Nat} (h : i.natAbs.log2 < 1920) (hn : (Str.ofString (toString i)).length ≤ n) : Nice (.int i) 0 n :=
  ⟨by simpa [PyData.showable] using h, by simp [PyData.depth], by simpa [PyData.shown] using hn⟩
theorem nice_none : Nice .none 0 4 := ⟨by simp [PyData.showable], by simp [PyData.depth], by simp only [PyData.shown]; decide +kernel⟩
theorem nice_bool (b : Bool) : Nice (.bool b) 0 5 := ⟨by simp [PyData.showable], by simp [PyData.depth], by simp only [PyData.shown]; cases b <;> decide +kernel⟩
theorem nice_str {x : Str} {n : Nat} (h : (reprText x).length ≤ n) : Nice (.str x) 0 n := ⟨by simp [PyData.showable], by simp [PyData.depth], by simpa [PyData.shown] using h⟩
theorem list_le : ∀ ts : List Str, (listText ts).length ≤ piled ts + 2
  | [] => by decide +kernel
  | t :: ts => by
    have e : (textFrom 0 "[" (t :: ts)).length = 1 + t.length + piled ts := by
      show (textFrom 1 (("[" : Str) ++ ((if 0 > 0 then ", " else "" : String) : Str) ++ t) ts).length = _
      rw [textFrom_length_pos ts 1 _ (by decide), strLen_append, strLen_append]
      rfl
    unfold listText
    rw [strLen_append, e, piled_cons]
    show 1 + t.length + piled ts + 1 ≤ _
    omega
theorem dict_le (ps : List Str) : (dictText ps).length ≤ piled ps + 2 := by
  unfold dictText
  rw [strLen_append, strLen_append]
  show 1 + (Str.join ", " ps).length + 1 ≤ _
  cases ps with
  | nil => decide
  | cons p r =>
    have := join_length_add (p :: r) (by simp)
    omega
theorem nice_tup1 {d : PyData} {k n : Nat} (h : Nice d k n) : Nice (.tuple [d]) (k + 1) (n + 4) := by
  refine ⟨by simp [PyData.showable, PyData.showableAll, h.sh], ?_, ?_⟩
  · simp only [PyData.depth, PyData.depthAll]
    have := h.dp
    omega
  · simp only [PyData.shown, PyData.shownAll]
    have a := fmt_text [d.shown]
    simp only [piled_cons, piled_nil] at a
    have := h.sz
    omega
theorem nice_lst1 {d : PyData} {k n : Nat} (h : Nice d k n) : Nice (.list [d]) (k + 1) (n + 4) := by
  refine ⟨by simp [PyData.showable, PyData.showableAll, h.sh], ?_, ?_⟩
  · simp only [PyData.depth, PyData.depthAll]
    have := h.dp
    omega
  · simp only [PyData.shown, PyData.shownAll]
    have a := list_le [d.shown]
    simp only [piled_cons, piled_nil] at a
    have := h.sz
    omega
theorem nice_dct1 {d : PyData} {k n m : Nat} {x : Str} (hx : (reprText x).length ≤ m) (h : Nice d k n) : Nice (.dict [(.str x, d)]) (k + 1) (n + m + 6) := by
  refine ⟨by simp [PyData.showable, PyData.showableKv, h.sh], ?_, ?_⟩
  · simp only [PyData.depth, PyData.depthKv]
    have := h.dp
    omega
  · simp only [PyData.shown, PyData.shownKv]
    have a := dict_le [reprText x ++ ": " ++ d.shown]
    simp only [piled_cons, piled_nil, strLen_append] at a
    have c : ((": " : Str)).length = 2 := by decide +kernel
    have := h.sz
    omega
theorem nice_tup0 : Nice (.tuple []) 1 2 := ⟨by simp [PyData.showable, PyData.showableAll], by simp [PyData.depth, PyData.depthAll], by simp only [PyData.shown, PyData.shownAll]; decide +kernel⟩
theorem nice_lst0 : Nice (.list []) 1 2 := ⟨by simp [PyData.showable, PyData.showableAll], by simp [PyData.depth, PyData.depthAll], by simp only [PyData.shown, PyData.shownAll]; decide +kernel⟩
theorem nice_dct0 : Nice (.dict []) 1 2 := ⟨by simp [PyData.showable, PyData.showableKv], by simp [PyData.depth, PyData.depthKv], by simp only [PyData.shown, PyData.shownKv]; decide +kernel⟩
end Az
set_option Elab.async false
set_option linter.all false
set_option maxRecDepth 100000
set_option maxHeartbeats 4000000
set_option pp.maxSteps 400
set_option pp.deepTerms false
namespace Az
open PySem PySem.Spec PyProof.Rows L2
/-! ### texts of signs that have a number of eight places -/
def Asc (x : Str) : Prop := ∀ c ∈ x.cps.toList, c < 16 ^ 8
theorem asc_str (s : String) : Asc (Str.ofString s) := fun c hc => by
  rw [Str.ofString_eq_toList] at hc
  simp only [List.mem_map] at hc
  obtain ⟨k, _, rfl⟩ := hc
  exact Nat.lt_of_lt_of_le (UInt32.toNat_lt k.val) (by decide)
theorem Asc.app {x y : Str} (h1 : Asc x) (h2 : Asc y) : Asc (x ++ y) := fun c hc => by
  rw [Str.cps_append, Array.toList_append, List.mem_append] at hc
  exact hc.elim (h1 c) (h2 c)
theorem asc_hex (l : List Char) (n : Nat) : ∀ c ∈ List.replicate n 48 ++ l.map Char.toNat, c < 16 ^ 8 := fun c hc => by
  rcases List.mem_append.mp hc with h | h
  · rw [(List.mem_replicate.mp h).2]
    decide
  · obtain ⟨k, _, rfl⟩ := List.mem_map.mp h
    exact Nat.lt_of_lt_of_le (UInt32.toNat_lt k.val) (by decide)
theorem asc_char {q c : Nat} (hc : c < 16 ^ 8) : ∀ d ∈ Builtin.Str.reprChar q c, d < 16 ^ 8 := fun d hd => by
  unfold Builtin.Str.reprChar at hd
  dsimp only at hd
  have two : ∀ a : Nat, a < 16 ^ 8 → d ∈ [92, a] → d < 16 ^ 8 := fun a ha h => by
    simp only [List.mem_cons, List.not_mem_nil, or_false] at h
    rcases h with h | h
    · rw [h]; decide
    · rw [h]; exact ha
  have app : ∀ (a : Nat) (l : List Nat), a < 16 ^ 8 → (∀ c ∈ l, c < 16 ^ 8) → d ∈ [92, a] ++ l → d < 16 ^ 8 := fun a l ha hl h => (List.mem_append.mp h).elim (two a ha) (hl d)
  split at hd
  · exact two c hc hd
  · split at hd
    · exact two 110 (by decide) hd
    · split at hd
      · exact two 114 (by decide) hd
      · split at hd
        · exact two 116 (by decide) hd
        · split at hd
          · simp only [List.mem_cons, List.not_mem_nil, or_false] at hd
            rw [hd]
            exact hc
          · split at hd
            · exact app 120 _ (by decide) (asc_hex _ _) hd
            · split at hd
              · exact app 117 _ (by decide) (asc_hex _ _) hd
              · exact app 85 _ (by decide) (asc_hex _ _) hd
theorem asc_fold {q : Nat} : ∀ (l : List Nat) (acc : Array Nat), (∀ c ∈ l, c < 16 ^ 8) → (∀ c ∈ acc.toList, c < 16 ^ 8) → ∀ c ∈ (l.foldl (fun out c => out ++ (Builtin.Str.reprChar q c).toArray) acc).toList, c < 16 ^ 8
  | [], acc, _, h => h
  | k :: r, acc, hl, ha => by
    rw [List.foldl_cons]
    refine asc_fold r _ (fun c hc => hl c (List.mem_cons_of_mem _ hc)) fun c hc => ?_
    rw [Array.toList_append, List.mem_append] at hc
    exact hc.elim (ha c) fun h => asc_char (hl k List.mem_cons_self) c (by simpa using h)
theorem asc_quote (x : Str) : reprQuote x < 16 ^ 8 := by
  unfold reprQuote
  split <;> decide
theorem asc_repr {x : Str} (h : Asc x) : Asc (reprText x) := fun c hc => by
  unfold reprText at hc
  rw [Array.toList_push, List.mem_append, ← Array.foldl_toList] at hc
  rcases hc with hc | hc
  · refine asc_fold x.cps.toList #[reprQuote x] h (fun d hd => ?_) c hc
    have z : d = reprQuote x := by simpa using hd
    rw [z]
    exact asc_quote x
  · have z : c = reprQuote x := by simpa using hc
    rw [z]
    exact asc_quote x
theorem asc_join : ∀ ts : List Str, (∀ t ∈ ts, Asc t) → Asc (Str.join ", " ts)
  | [], _ => fun c hc => by
    have z : c ∈ (Str.empty).cps.toList := hc
    simp [Str.empty] at z
  | [x], h => h x List.mem_cons_self
  | x :: y :: r, h => ((h x List.mem_cons_self).app (asc_str ", ")).app (asc_join (y :: r) fun t ht => h t (List.mem_cons_of_mem _ ht))
theorem asc_from : ∀ (ts : List Str) (k : Nat) (acc : Str), Asc acc → (∀ t ∈ ts, Asc t) → Asc (textFrom k acc ts)
  | [], _, _, h, _ => h
  | t :: ts, k, acc, h, ht => by
    unfold textFrom
    exact asc_from ts (k + 1) _ ((h.app (asc_str _)).app (ht t List.mem_cons_self)) fun u hu => ht u (List.mem_cons_of_mem _ hu)
mutual
/-- all texts within a thing -/
def ascD : PyData → Prop
  | .none | .bool _ | .int _ => True
  | .str x => Asc x
  | .list xs | .tuple xs => ascAll xs
  | .dict kvs => ascKv kvs
def ascAll : List PyData → Prop
  | [] => True
  | x :: xs => ascD x ∧ ascAll xs
def ascKv : List (PyData × PyData) → Prop
  | [] => True
  | (k, v) :: r => ascD k ∧ ascD v ∧ ascKv r
end
mutual
theorem asc_shown : ∀ d : PyData, ascD d → Asc d.shown
  | .none, _ => asc_str "None"
  | .bool b, _ => by
    simp only [PyData.shown]
    cases b
    · exact asc_str "False"
    · exact asc_str "True"
  | .int i, _ => asc_str (toString i)
  | .str x, h => asc_repr (by simpa [ascD] using h)
  | .list xs, h => by
    simp only [PyData.shown]
    exact (asc_from _ _ _ (asc_str "[") (asc_shownAll xs (by simpa [ascD] using h))).app (asc_str "]")
  | .tuple xs, h => by
    simp only [PyData.shown]
    exact ((asc_str "(").app (asc_join _ (asc_shownAll xs (by simpa [ascD] using h)))).app (asc_str _)
  | .dict kvs, h => by
    simp only [PyData.shown]
    exact ((asc_str "{").app (asc_join _ (asc_shownKv kvs (by simpa [ascD] using h)))).app (asc_str "}")
theorem asc_shownAll : ∀ xs : List PyData, ascAll xs → ∀ t ∈ PyData.shownAll xs, Asc t
  | [], _, t, ht => by
    simp [PyData.shownAll] at ht
  | x :: xs, h, t, ht => by
    have h' : ascD x ∧ ascAll xs := by simpa [ascAll] using h
    simp only [PyData.shownAll, List.mem_cons] at ht
    rcases ht with e | e
    · rw [e]
      exact asc_shown x h'.1
    · exact asc_shownAll xs h'.2 t e
theorem asc_shownKv : ∀ xs : List (PyData × PyData), ascKv xs → ∀ t ∈ PyData.shownKv xs, Asc t
  | [], _, t, ht => by
    simp [PyData.shownKv] at ht
  | (k, v) :: xs, h, t, ht => by
    have h' : ascD k ∧ ascD v ∧ ascKv xs := by simpa [ascKv] using h
    simp only [PyData.shownKv, List.mem_cons] at ht
    rcases ht with e | e
    · rw [e]
      exact ((asc_shown k h'.1).app (asc_str ": ")).app (asc_shown v h'.2.1)
    · exact asc_shownKv xs h'.2.2 t e
end
/-- str of a thing -/
def strD : PyData → Str
  | .str x => x
  | d => d.shown
theorem strD_asc {d : PyData} (h : ascD d) : Asc (strD d) := by
  cases d with
  | str x => simpa [strD, ascD] using h
  | _ => exact asc_shown _ h
theorem len_repr (x : Str) : x.length ≤ (reprText x).length := by
  have grow : ∀ (q : Nat) (l : List Nat) (acc : Array Nat), acc.size + l.length ≤ (l.foldl (fun out c => out ++ (Builtin.Str.reprChar q c).toArray) acc).size := fun q l => by
    induction l with
    | nil => intro acc; simp
    | cons k r ih =>
      intro acc
      have h := ih (acc ++ (Builtin.Str.reprChar q k).toArray)
      have one : 1 ≤ (Builtin.Str.reprChar q k).length := by
        unfold Builtin.Str.reprChar
        dsimp only
        repeat' split
        all_goals simp
        all_goals omega
      rw [List.foldl_cons]
      simp only [Array.size_append, List.size_toArray] at h
      simp only [List.length_cons]
      omega
  have h := grow (reprQuote x) x.cps.toList #[reprQuote x]
  unfold reprText
  show x.length ≤ ((x.cps.foldl (fun out c => out ++ (Builtin.Str.reprChar (reprQuote x) c).toArray) #[reprQuote x]).push (reprQuote x)).size
  rw [Array.size_push, ← Array.foldl_toList]
  have e : x.cps.toList.length = x.length := by simp [Str.length]
  omega
theorem strD_len {d : PyData} : (strD d).length ≤ d.shown.length := by
  cases d with
  | str x =>
    simp only [strD, PyData.shown]
    exact len_repr x
  | _ => exact Nat.le_refl _
section
variable {X : Cx}
def rStrZ (K : PySem.W.Frag) : List V → Hp → VK → Prop := fun xs H Q => ∃ (v : V) (d : PyData), xs = [v] ∧ Dz K H v d ∧ d.showable = true ∧ d.depth ≤ 60 ∧ d.shown.length ≤ sizeLine ∧ Q (.str (strD d)) H
theorem cr_strZ {k : Nat} (quiet : X.A.guards = some []) (room : Room k X.A) : CallR X (.type "str") (rStrZ X.K) := by
  intro pins s σ H xs us Q I r h
  obtain ⟨v, d, rfl, hd, hs, hp, hz, q⟩ := h
  obtain ⟨u, rfl, rx⟩ := vals1 r
  have hu := room.un
  cases hd with
  | non =>
    cases rx
    exact PySem.P.str_of_none ⟨.str _, H, I.tok _, ⟨_, rfl⟩, q⟩
  | bl b =>
    cases rx
    exact PySem.P.str_of_bool ⟨.str _, H, I.tok _, ⟨_, rfl⟩, q⟩
  | int i =>
    obtain ⟨t, rfl⟩ := rx
    exact PySem.P.str_of_int (by simpa [PyData.showable] using hs) ⟨.str _, H, I.tok _, ⟨_, rfl⟩, q⟩
  | str x =>
    obtain ⟨t, rfl⟩ := rx
    exact PySem.P.str_of_str ⟨.str _, H, I, ⟨_, rfl⟩, q⟩
  | lst e n ha =>
    obtain ⟨as, rd, na⟩ := Dz.reads I _ _ u (.lst e n ha) rx
    cases rx
    exact str_of_reads rd hs (fun _ => na) quiet (by omega) (fun _ _ z => z) (fun h' u tk kept => ⟨.str _, H, I.kept kept, ⟨u, rfl⟩, q⟩) hz
  | tup e ha =>
    obtain ⟨as, rd, na⟩ := Dz.reads I _ _ u (.tup e ha) rx
    cases rx
    exact str_of_reads rd hs (fun _ => na) quiet (by omega) (fun _ _ z => z) (fun h' u tk kept => ⟨.str _, H, I.kept kept, ⟨u, rfl⟩, q⟩) hz
  | dct e ha =>
    obtain ⟨as, rd, na⟩ := Dz.reads I _ _ u (.dct e ha) rx
    cases rx
    exact str_of_reads rd hs (fun _ => na) quiet (by omega) (fun _ _ z => z) (fun h' u tk kept => ⟨.str _, H, I.kept kept, ⟨u, rfl⟩, q⟩) hz
end
end Az
set_option Elab.async false
set_option linter.all false
set_option maxRecDepth 100000
set_option maxHeartbeats 4000000
set_option pp.maxSteps 400
set_option pp.deepTerms false
namespace Xt
open PySem PySem.Spec PyProof.Rows L2
open AutoSeq1 (wpAny_loadPart')
theorem meets_enumerate_newT (l : Addr) (items : Array Value) (n : Nat) (dct : Option Addr) (sl : Array (Option Value)) :
    Meets (Builtin.«enumerate.__new__» ⟨[.type "enumerate", .ref l], []⟩) (fun _ R s => s.heap.get? l = some { cls := .type "tuple", dict := dct, data := .seq items n, slots := sl } ∧
      R (.ok (.ret (.ref (s.heap.push { cls := .type "tuple_iterator", data := .fields #[.ref l, .int 0 0] }).objs.size)))
        { s with heap := (s.heap.push { cls := .type "tuple_iterator", data := .fields #[.ref l, .int 0 0] }).push { cls := .type "enumerate", data := .fields #[.none, .bool false, .ref s.heap.objs.size, rawInt 0, .none, .none] } }) :=
  .of_wp fun prog w A R s h => by
    obtain ⟨hp, g, d, tk, os⟩ := s; obtain ⟨hl, h⟩ := h
    have hsub := sub_enumerate
    have hL : Heap.IsTuple (Shared.heap ⟨hp, g, d, tk, os⟩) l items := ⟨_, hl, rfl, n, rfl⟩
    wp_walk using wpAny_loadPart' hl
    refine wpAny_stack_any fun st => wpAny_pure ?_
    split
    · rename_i c _ _ _ _ _
      cases (c == Value.type "enumerate")
      · wp_walk using wpAny_loadPart' hl, wpAny_pyIter_tuple hL
        exact ⟨_, rfl, h⟩
      · wp_walk using wpAny_loadPart' hl, wpAny_pyIter_tuple hL
        exact ⟨_, rfl, h⟩
    · wp_walk using wpAny_loadPart' hl, wpAny_pyIter_tuple hL
      exact ⟨_, rfl, h⟩
section
variable {prog : Program} {w : World} {A : Around} {E : Value → Shared → Prop} {s : Shared}
theorem call_enumerate_tuple {l : Addr} {items : Array Value} {Q : Value → Shared → Prop} (hL : s.heap.IsTuple l items)
    (h : ∀ h', IsEnum h' (s.heap.objs.size + 1) s.heap.objs.size 0 .none → h'.IsTupleIter s.heap.objs.size l 0 → h'.objs.size = s.heap.objs.size + 2 →
      (∀ b o, s.heap.get? b = some o → h'.get? b = some o) → Q (.ref (s.heap.objs.size + 1)) { s with heap := h' }) :
    wpAny (model prog w) A (call (.type "enumerate") [.ref l]) Q E s := by
  obtain ⟨⟨c, dct, dt, sl⟩, hl, hc, n, hd⟩ := hL
  replace hc : c = .type "tuple" := hc
  replace hd : dt = .seq items n := hd
  subst hc hd
  refine callType_new F.called_enumerate (by decide) (F.typeCall_enumerate_1 _) (F.newCall_enumerate_1 _) (fun obj => F.args_object_init_2 obj _) F.entry_enumerate_new
    (meets_enumerate_newT l items n dct sl) ⟨hl, ?_⟩
  have hz : (s.heap.push { cls := .type "tuple_iterator", data := .fields #[.ref l, .int 0 0] }).objs.size = s.heap.objs.size + 1 := Heap.size_push ..
  show _ ∧ _
  rw [hz]
  have he : IsEnum ((s.heap.push { cls := .type "tuple_iterator", data := .fields #[.ref l, .int 0 0] }).push
      { cls := .type "enumerate", data := .fields #[.none, .bool false, .ref s.heap.objs.size, rawInt 0, .none, .none] }) (s.heap.objs.size + 1) s.heap.objs.size 0 .none := by
    have := Heap.get?_push_size (s.heap.push { cls := .type "tuple_iterator", data := .fields #[.ref l, .int 0 0] })
      (o := { cls := .type "enumerate", data := .fields #[.none, .bool false, .ref s.heap.objs.size, rawInt 0, .none, .none] }) rfl
    rw [hz] at this; exact this
  refine ⟨⟨_, he, rfl⟩, h _ he ⟨_, Heap.get?_push_of_some _ (Heap.get?_push_size _ rfl), rfl, rfl⟩ (by rw [Heap.size_push, hz]) fun b o x => Heap.get?_push_of_some _ (Heap.get?_push_of_some _ x)⟩
end
/-- the tuple at a, each item in a new pair with its number -/
def IteT (K : PySem.W.Frag) (a : Addr) : It :=
  ⟨fun i H => ∃ (xs : List V) (x : V), SqT K H a xs ∧ xs[i]? = some x, fun i H v H' => ∃ T x, v = .ref T ∧ H T = none ∧ H' = upd H T (.tup [.int (i : Nat), x]) ∧ ∀ xs, SqT K H a xs → xs[i]? = some x, fun i H => ∃ xs : List V, SqT K H a xs ∧ xs.length = i⟩
theorem turn_enumT {P : Program} {w : World} {K : PySem.W.Frag} {elts : List Expr} {kk : Nat} {tpos : Pos} (a e it : Addr) (hae : a ≠ e) (hai : a ≠ it) :
    Turn P w K (.Tuple elts kk tpos) (IteT K a) [e, it] e (fun i h => (∃ old, IsEnum h e it ((i : Nat) : Int) old) ∧ h.IsTupleIter it a i ∧ e ≠ it) where
  mem := by simp
  obj := fun i h st b hb => by
    obtain ⟨⟨old, he⟩, ⟨o, ho, hc, hd⟩, _⟩ := st
    have e' : b = e ∨ b = it := by simpa using hb
    rcases e' with z | z
    · rw [z]; exact ⟨_, he, fun v q => nomatch q⟩
    · rw [z]; exact ⟨o, ho, fun v q => by rw [hd] at q; cases q⟩
  keep := fun i h h' st k => let ⟨⟨old, he⟩, hi, hne⟩ := st; ⟨⟨old, k e (by simp) _ he⟩, hi.at fun o q => k it (by simp) o q, hne⟩
  item := by
    intro X hP hw hK hc i pins s σ H E I hf st hg
    subst hP hw hK
    obtain ⟨⟨old, he⟩, hit, hne⟩ := st
    obtain ⟨xs, x, hq, hx⟩ := hg
    obtain ⟨its, rv, p, hz⟩ := I.tuple hq
    obtain ⟨u, hu, ru⟩ := rv.get hx
    have hel : e < s.heap.objs.size := Heap.lt_size he
    have hil : it < s.heap.objs.size := by obtain ⟨_, q, _⟩ := hit; exact Heap.lt_size q
    have hu' : its.toArray[i]? = some u := by simpa using hu
    have hi : i < its.toArray.size := by
      rcases Nat.lt_or_ge i its.toArray.size with h | h
      · exact h
      · rw [Array.getElem?_eq_none h] at hu'; cases hu'
    refine wpAny_pyNext_enum_itemD (Draws.tuple (A := X.A.in1) (I.ok.hd hc) it a hai its.toArray) he ⟨hit, p⟩ hi hne (by simp [Ne.symm hne]; exact ⟨hne, Ne.symm hae⟩) fun y h' tk hy ho hst' hT hsz hk => ?_
    obtain rfl : u = y := by rw [hu'] at hy; cases hy; rfl
    refine ⟨_, rfl, wpAny_letOwnedTupleGo_enum (s := { s with heap := h', toks := tk + 1 }) ho fun h'' he' sb => ?_⟩
    have hT2 : h''.get? s.heap.objs.size = some { cls := .type "tuple", data := .seq #[.int i tk, u] } := (sb.2 _ (Nat.ne_of_gt hel)).trans hT
    have new : ObjOk X.prog X.w (upd H s.heap.objs.size (.tup [.int (i : Nat), x])) h'' s.heap.objs.size (.tup [.int (i : Nat), x]) :=
      ⟨by show 2 ≤ sizeLine; decide, [.int i tk, u], .cons ⟨_, rfl⟩ (.cons ru .nil), ⟨_, hT2, rfl, _, rfl⟩⟩
    have I1 : Inv X pins σ (upd H s.heap.objs.size (.tup [.int (i : Nat), x])) { s with heap := h'', toks := tk + 1 } :=
      I.turnedNew (ch := [e, it]) (fun b ob hb q => (sb.2 b (fun z => hb (by simp [z]))).trans (hk b ob (fun z => hb (by simp [z])) (fun z => hb (by simp [z])) q)) hf (Nat.le_refl _) new
    refine ⟨.ref s.heap.objs.size, _, I1, rfl, ⟨_, x, rfl, I.hok.fresh (Nat.le_refl _), rfl, fun ys hy => by rw [I.tuple_inj hy hq]; exact hx⟩, ⟨⟨u, ?_⟩, hst'.1.at fun o q => (sb.2 it (Ne.symm hne)).trans q, hne⟩, fun b hb => ?_⟩
    · have e1 : ((i + 1 : Nat) : Int) = (i : Int) + 1 := by omega
      rw [e1]; exact he'
    · have hb' : b < s.heap.objs.size := by
        have e' : b = e ∨ b = it := by simpa using hb
        rcases e' with z | z
        · rw [z]; exact hel
        · rw [z]; exact hil
      rw [upd_ne (Nat.ne_of_lt hb')]
      exact (hf b hb).1
  done := by
    intro X hP hw hK hc i pins s σ H E I hf st hg
    subst hP hw hK
    obtain ⟨⟨old, he⟩, hit, hne⟩ := st
    obtain ⟨xs, hq, hx⟩ := hg
    obtain ⟨its, rv, p, hz⟩ := I.tuple hq
    obtain ⟨f0, f1, f2, f3, f4, f5⟩ := hf it (by simp)
    have hl := rv.length
    have en : its.toArray.size = i := by simp; omega
    exact wpAny_pyNext_enum_endD (Draws.tuple (A := X.A.in1) (I.ok.hd hc) it a hai its.toArray) he (by rw [en]; exact ⟨hit, p⟩) fun h' eb => ⟨rfl, I.turned (t' := s.toks) (fun b o hb q => eb b o hb q) f0 f1 f3 f4 f5⟩
  self := fun A i s Q E st h => let ⟨⟨_, he⟩, _⟩ := st; wpAny_pyIter_enum he h
def iEnumT (K : PySem.W.Frag) (ta : TA) : TI := fun σ H R => ta σ H fun vs H1 => ∃ a xs, vs = [.ref a] ∧ SqT K H1 a xs ∧ R (IteT K a) H1
theorem pi_enumT {X : Cx} {e : Expr} {ta : TA} {p pos tpos : Pos} {elts : List Expr} {kk : Nat} (hg : Gl X "enumerate") (hm : X.mg "enumerate" = none) (ha : PA X [e] ta) (hs : starEach [e] X.env = [(false, eval e X.env)] := by rfl) :
    PI X (.Tuple elts kk tpos) (.Call (.Name "enumerate" p) [e] [] pos) (iEnumT X.K ta) := by
  refine ⟨fun pins s σ H R I h => ?_⟩
  refine Call_ (ld_blt I hg hm boot_enumerate (PyProof.Rows.callWith_type1 (thn (ha.run pos pins s σ H _ I h) fun us s1 ⟨vs, H1, I1, r1, q1⟩ => ?_) hs rfl))
  obtain ⟨a, xs, ex, hq, q⟩ := q1
  subst ex
  cases r1 with
  | cons r rr =>
    cases rr
    cases r
    obtain ⟨its, rv, p', hz⟩ := I1.tuple hq
    have hal : a < s1.heap.objs.size := by obtain ⟨_, z, _⟩ := p'; exact Heap.lt_size z
    refine call_enumerate_tuple p' fun h' he hit hsz hk => wpAny_pyIter_enum he ?_
    have I2 : Inv X pins σ H1 { s1 with heap := h' } := I1.kept (t' := s1.toks) hk
    refine ⟨s1.heap.objs.size + 1, [s1.heap.objs.size + 1, s1.heap.objs.size], _, _, H1, rfl, I2, turn_enumT a (s1.heap.objs.size + 1) s1.heap.objs.size (Nat.ne_of_lt (Nat.lt_succ_of_lt hal)) (Nat.ne_of_lt hal), ⟨⟨.none, he⟩, hit, Nat.succ_ne_self _⟩, fun b hb => ?_, q⟩
    have e' : b = s1.heap.objs.size + 1 ∨ b = s1.heap.objs.size := by simpa using hb
    have hle : s1.heap.objs.size ≤ b := by
      rcases e' with z | z
      · rw [z]; exact Nat.le_add_right _ _
      · rw [z]; exact Nat.le_refl _
    exact I1.fpOk hle (I1.hok.fresh hle)
theorem walk_enumT {K : PySem.W.Frag} {a : Addr} {xs : List V} : Walk (IteT K a) xs.length (fun H => SqT K H a xs) (YPair (fun i => some (.int (i : Nat))) (fun i => xs[i]?)) := by
  refine ⟨fun i _ hi q => ⟨xs, xs[i], q, by simp [hi]⟩, fun _ q => ⟨xs, q, rfl⟩, fun i H v H' _ q y => ?_⟩
  obtain ⟨T, x, h1, h2, h3, h4⟩ := y
  exact ⟨T, .int (i : Nat), x, h1, h2, h3, rfl, h4 xs q⟩
end Xt
set_option Elab.async false
set_option linter.all false
set_option maxRecDepth 100000
set_option maxHeartbeats 4000000
set_option pp.maxSteps 400
set_option pp.deepTerms false
namespace Xt
open PySem PySem.Spec PyProof.Rows L2 Az PySem.W
/-- *e ahead of other items, e a tuple -/
def tStar (K : PySem.W.Frag) (ta : TE) (tr : TA) : TA := fun σ H Q => ta σ H fun x H1 => ∃ a xs, x = .ref a ∧ SqT K H1 a xs ∧ tr σ H1 fun ys H2 => Q (xs ++ ys) H2
theorem pa_star {X : Cx} {e : Expr} {es : List Expr} {te : TE} {t : TA} {p : Pos} (ha : PE X e te) (hr : PA X es t) : PA X (.Starred e p :: es) (tStar X.K te t) := by
  refine ⟨fun pos pins s σ H Q I h => ?_⟩
  refine items_star (thn (ha.run pins s σ H _ I h) fun u s1 ⟨x, H1, I1, r1, a, xs, ex, hq, q⟩ => ?_)
  subst ex
  obtain rfl : u = Value.ref a := r1
  refine star_tup I1 hq fun us s2 I2 rv => ?_
  exact thn (hr.run pos pins s2 σ H1 _ I2 q) fun ws s3 ⟨ys, H2, I3, r2, q2⟩ => ⟨xs ++ ys, H2, I3, rv.append r2, q2⟩
section
variable {prog : Program} {w : World} {A : Around} {E : Value → Shared → Prop} {s : Shared}
/-- min(a, b), compared where a heap stands -/
theorem call_min_twoH {a b : Value} {Q : Value → Shared → Prop}
    (h : wpAny (model prog w) A.in1 (pyIter (.ref s.heap.objs.size)) (fun it s₂ => ∃ I fp wr G n P St H bt, it = .ref I ∧ WalksS prog w A.in1 I fp wr G n P St ∧ St 0 s₂ ∧ (∀ b ∈ fp, b < s₂.heap.objs.size) ∧ 0 < n ∧
      (∀ b o, H.get? b = some o → b ∉ wr) ∧ (∀ b o, H.get? b = some o → s₂.heap.get? b = some o) ∧ CmpIn prog w A.in1 .Lt H P bt ∧ ∀ v s', P (argBest bt (n - 1)) v → Moved wr G s₂ s' → Q v s') E
      { s with heap := s.heap.push { cls := .type "tuple", data := .seq #[a, b] } }) :
    wpAny (model prog w) A (call (.builtin "min") [a, b]) Q E s := by
  have hname : (toString "min" ++ toString ".loop" : String) = "min.loop" := by decide
  refine call_function_tree F.kind_min F.plain_min F.entry_min (F.args_min2 _ _) ?_
  show wpAny _ A.in1 (Builtin.Builtins.bindParams "min" ["key", "default"] 0 ⟨[], []⟩ >>= _) _ _ s
  refine wpAny_bind (wpAny_of_eq (show Builtin.Builtins.bindParams "min" ["key", "default"] 0 ⟨[], []⟩ = pure [none, none] from rfl) ?_)
  show wpAny _ A.in1 (newTuple [a, b] >>= _) _ _ s
  refine wpAny_bind (wpAny_newObj_type ?_)
  refine wpAny_bind (wpAny_mono h (fun it s₂ h₂ => ?_) fun _ _ e => e)
  obtain ⟨I, fp, wr, G, n, P, St, H, bt, rfl, W, hst, hfp, hn, hw, hkeep, hcmp, hQ⟩ := h₂
  refine wpAny_bind (wpAny_newObj_type ?_)
  have hSf : s₂.heap.objs.size ∉ fp := fun hm => Nat.lt_irrefl _ (hfp _ hm)
  rw [hname]
  refine wpAny_pure ⟨plainId_quiet F.plain_min_loop _, codeAny_min_loop_firstH W H hw bt hcmp s₂.heap.objs.size hSf (fresh_in hkeep) _ hn (fun b o e => Heap.get?_push_of_some _ (hkeep b o e)) (W.frame 0 s₂ _ s₂.toks hst (Nat.le_refl _) fun b _ o e => Heap.get?_push_of_some _ e) (Heap.get?_push_size _ rfl) fun v s' hP hm => ?_⟩
  exact hQ v s' hP (Moved.drop_new (tk := s₂.toks) hm (Nat.le_refl _))
theorem min_two_data {a b : Value} {da db : PyData} {as bs : List Addr} {Q : Value → Shared → Prop} (hh : A.handled = none) (ra : Reads s.heap a da as) (rb : Reads s.heap b db bs) (ha : AlikeAll [da, db]) (hu : A.units + 1 + PyData.depthAll [da, db] < cLine)
    (h : ∀ h' tk, (∀ c o, s.heap.get? c = some o → h'.get? c = some o) → Q (if dataLt db da = true then b else a) { s with heap := h', toks := tk }) :
    wpAny (model prog w) A (call (.builtin "min") [a, b]) Q E s := by
  have hT : (s.heap.push { cls := .type "tuple", data := .seq #[a, b] }).IsTuple s.heap.objs.size #[a, b] := ⟨_, Heap.get?_push_size _ rfl, rfl, 0, rfl⟩
  have hr : ReadsAll s.heap (#[a, b] : Array Value).toList [da, db] (as ++ (bs ++ [])) := .cons ra (.cons rb .nil)
  have k0 : ∀ c o, s.heap.get? c = some o → (s.heap.push { cls := .type "tuple", data := .seq #[a, b] }).get? c = some o := fun c o e => Heap.get?_push_of_some _ e
  refine call_min_twoH (iter_tupleW (A := A.in1) (s := { s with heap := s.heap.push { cls := .type "tuple", data := .seq #[a, b] } }) hh hT fun s₂ e W st hfp hw hk => ?_)
  refine ⟨_, _, _, _, _, _, _, s.heap, _, rfl, W, st, hfp, (by simp), fun b o q => hw b o (k0 b o q), fun b o q => hk b o (k0 b o q), cmpIn_lt (A := A.in1) hr ha (by show A.units + 1 + _ < _; exact hu), fun v s' hP m => ?_⟩
  obtain ⟨h', tk, rfl, hk'⟩ := moved_old e rfl m
  have := h h' tk fun c o q => hk' c o (k0 c o q)
  have ev : v = if dataLt db da = true then b else a := by
    replace hP : (#[a, b] : Array Value)[argBest (fun i j => dataLt ([da, db].getD i .none) ([da, db].getD j .none)) 1]? = some v := hP
    cases c : dataLt db da with
    | true =>
      have e1 : argBest (fun i j => dataLt ([da, db].getD i .none) ([da, db].getD j .none)) 1 = 1 := by simp [argBest, c]
      rw [e1] at hP
      rw [if_pos rfl]
      exact (Option.some.inj hP).symm
    | false =>
      have e1 : argBest (fun i j => dataLt ([da, db].getD i .none) ([da, db].getD j .none)) 1 = 0 := by simp [argBest, c]
      rw [e1] at hP
      rw [if_neg Bool.false_ne_true]
      exact (Option.some.inj hP).symm
  rw [ev]
  exact this
end
/-- min(a, b) of two things that can be compared -/
def rMin2Z (K : PySem.W.Frag) : List V → Hp → VK → Prop := fun vs H Q => ∃ (a b : V) (da db : PyData), vs = [a, b] ∧ Dz K H a da ∧ Dz K H b db ∧ AlikeAll [da, db] ∧ PyData.depthAll [da, db] ≤ 50 ∧ Q (if dataLt db da = true then b else a) H
theorem cr_min2Z {X : Cx} {k : Nat} (hc : X.calm = true) (room : Room k X.A) : CallR X (.builtin "min") (rMin2Z X.K) := by
  intro pins s σ H vs us Q I r h
  obtain ⟨a, b, da, db, rfl, hda, hdb, al, dp, q⟩ := h
  cases r with
  | cons r1 rr =>
    cases rr with
    | cons r2 rr =>
      cases rr
      obtain ⟨as, ra, _⟩ := Dz.reads I _ _ _ hda r1
      obtain ⟨bs, rb, _⟩ := Dz.reads I _ _ _ hdb r2
      refine min_two_data (I.ok.hd hc) ra rb al (by have := room.units; omega) fun h' tk kk => ?_
      cases c : dataLt db da with
      | true => rw [c, if_pos rfl] at q; exact ⟨_, H, I.kept kk, r2, q⟩
      | false => rw [c, if_neg Bool.false_ne_true] at q; exact ⟨_, H, I.kept kk, r1, q⟩
/-- pairs of a number and a row of numbers -/
def pairD (p : Int × List Int) : PyData := .tuple [.int p.1, .tuple (p.2.map .int)]
def pairLt (p q : Int × List Int) : Bool := decide (p.1 < q.1 ∨ (p.1 = q.1 ∧ p.2 < q.2))
theorem alike_ints : ∀ xs ys : List Int, alikeAll (xs.map .int) (ys.map .int) = true
  | [], _ => by simp [alikeAll]
  | _ :: _, [] => by simp [alikeAll]
  | x :: xs, y :: ys => by simp [alikeAll, alike, alike_ints xs ys]
theorem alike_pairs (p q : Int × List Int) : AlikeAll [pairD p, pairD q] := by
  have al : ∀ p q : Int × List Int, alike (pairD p) (pairD q) = true := fun p q => by simp [pairD, alike, alikeAll, alike_ints]
  constructor
  · intro x hx y hy
    simp only [List.mem_cons, List.not_mem_nil, or_false] at hx hy
    rcases hx with rfl | rfl <;> rcases hy with rfl | rfl <;> exact al _ _
  · intro x hx
    simp only [List.mem_cons, List.not_mem_nil, or_false] at hx
    rcases hx with rfl | rfl <;> simp [pairD]
theorem eqv_ints : ∀ xs ys : List Int, PyData.eqvAll (xs.map .int) (ys.map .int) = decide (xs = ys)
  | [], [] => by simp [PyData.eqvAll]
  | [], _ :: _ => by simp [PyData.eqvAll]
  | _ :: _, [] => by simp [PyData.eqvAll]
  | x :: xs, y :: ys => by
    rw [List.map_cons, List.map_cons, PyData.eqvAll, eqv_ints xs ys]
    by_cases h1 : x = y <;> by_cases h2 : xs = ys <;> simp [PyData.eqv, h1, h2]
theorem lt_pairs (p q : Int × List Int) : dataLt (pairD p) (pairD q) = pairLt p q := by
  obtain ⟨a, xs⟩ := p
  obtain ⟨b, ys⟩ := q
  unfold pairD pairLt
  rw [dataLt_pair (by simp [alike]) (by simp [alike, alike_ints]), dataLt_int, dataLt_tuple]
  have e := dataLt_ints xs ys
  unfold rowLt at e
  rw [e]
  simp only [PyData.eqv, eqv_ints]
  by_cases h1 : a = b
  · subst h1
    by_cases h2 : xs = ys
    · subst h2
      simp [List.lt_irrefl]
    · simp [h2]
  · simp [h1]
theorem depth_ints : ∀ xs : List Int, PyData.depthAll (xs.map .int) = 0
  | [] => rfl
  | x :: xs => by
    rw [List.map_cons, PyData.depthAll, depth_ints xs]
    simp [PyData.depth]
theorem depth_pairs (p q : Int × List Int) : PyData.depthAll [pairD p, pairD q] ≤ 50 := by
  simp [pairD, PyData.depthAll, PyData.depth, depth_ints]
end Xt
set_option Elab.async false
set_option linter.all false
set_option maxRecDepth 100000
set_option maxHeartbeats 4000000
set_option pp.maxSteps 400
set_option pp.deepTerms false
/-! min(xs, key=lambda p: ..) in a def: the lambda is made anew each time, its code object once -/
namespace Xln
open PySem PySem.Spec PyProof.Rows L2 Az PySem.W LamX
/-- the names of a lambda of one parameter: the parameter, captured ones, globals -/
structure Lam1 (sc scope : Scope) (p : Str) : Prop where
  kind : scope.kind = .function
  co : scope.isCoroutine = false
  gen : scope.isGenerator = false
  par : scope.names.lookup p = some .local
  own : ∀ y ∈ scope.names, y.2 ≠ .cell ∧ (y.2 = .local → y.1 = p)
  free : ∀ y ∈ scope.names, y.2 = .free → sc.names.lookup y.1 = some .cell ∨ sc.names.lookup y.1 = some .free
/-- where the lambda's body stands -/
def lamX (X : Cx) (A : Around) (s : Shared) (H : Hp) (p : Str) (scope : Scope) (f c : Addr) : Cx :=
  { lamCx X A X.stack s H (fun _ _ _ => False) scope f c with N := p :: X.N, xe := fun _ _ => False }
section
variable {X : Cx} {pins : List (Addr × Obj)} {σ : L2.St} {H : Hp} {s : Shared}
theorem Lam1.has {scope : Scope} {p : Str} (L : Lam1 X.env.scope scope p) (ok : X.Ok) : ∀ y ∈ scope.names, y.2 = .free → ∃ c, X.env.cells.lookup y.1 = some c := fun y hy e =>
  (L.free y hy e).elim (fun k => ok.has _ (.inl k)) fun k => ok.has _ (.inr k)
theorem lam_in {A : Around} {scope : Scope} {f c : Addr} {p : Str} {v : V} {u : Value} {h₁ : Heap} {tk : Nat} (I : Inv X pins σ H s) (L : Lam1 X.env.scope scope p) (hp : p ∉ X.N) (fr : A.frames = some X.stack) (hd : A.handled = none) (rv : RelV v u)
    (hns : h₁.Ns s.heap.objs.size fun y => ([(p, u)] : List (Str × Value)).reverse.lookup y) (kp : ∀ b o, s.heap.get? b = some o → h₁.get? b = some o) :
    Inv (lamX X A s H p scope f c) [] (some v :: σ) H { s with heap := h₁, toks := tk } := by
  have z := I.env0
  have old : ∀ {y : Str} {a : Addr}, (cloFrom X.env.cells scope.names []).lookup y = some a → X.env.cells.lookup y = some a := fun {y a} e => by
    rcases cloFrom_mem (PySem.mem_of_lookup e) with q | ⟨q1, q2⟩
    · exact absurd q List.not_mem_nil
    · obtain ⟨a', e'⟩ := L.has I.ok _ q1 rfl
      replace e' : X.env.cells.lookup y = some a' := e'
      rw [e'] at q2 ⊢
      rw [q2]; rfl
  have look : ∀ {y : Str}, scope.names.lookup y = some .free → ∃ a, (cloFrom X.env.cells scope.names []).lookup y = some a := fun {y} e =>
    mem_lookup (cloFrom_has (cells := X.env.cells) (acc := []) (PySem.mem_of_lookup e))
  have nx : ∀ b : Addr, b ∉ (lamX X A s H p scope f c).ex := fun b y => absurd (show b ∈ ([] : List Addr) from y) List.not_mem_nil
  refine ⟨⟨z.mod, L.kind, rfl, rfl, Nat.le_refl _, fun y y' a e e' => I.ok.inj y y' a (old e) (old e'), fun y k => ?_, fun y a k _ => ?_, fun _ => hd, Around.frames_deeper fr, .inr ⟨rfl, rfl⟩, fun b y => absurd y (nx b), z.bs, z.bsz, fun b _ _ => nx b, fun b y => absurd y (nx b), z.funs, z.frf⟩,
    rfl, z.bare, Un.kept kp, ⟨_, hns, fun i y w e1 e2 e3 => ?_⟩, fun y a e => ?_, z.hok.fresh (Nat.le_refl _), fun y a e => I.freeC y a (old e), fun q hq => absurd (show q ∈ ([] : List (Addr × Obj)) from hq) List.not_mem_nil, z.hok.kept kp, congrArg Nat.succ I.len⟩
  · replace k : scope.names.lookup y = some .cell ∨ scope.names.lookup y = some .free := k
    rcases k with k | k
    · exact absurd rfl (L.own _ (PySem.mem_of_lookup k)).1
    · exact look k
  · exact absurd (show false = true from k) Bool.false_ne_true
  · cases i with
    | zero =>
      replace e1 : some p = some y := e1
      cases e1
      cases e2
      exact ⟨u, rv, .inl ⟨L.par, by simp⟩⟩
    | succ i =>
      replace e1 : X.N[i]? = some y := e1
      replace e2 : σ[i]? = some (some w) := e2
      have n : y ≠ p := fun q => hp (q ▸ List.mem_of_getElem? e1)
      replace e3 : Vis scope y := e3
      rcases e3 with k | k | k
      · exact absurd ((L.own _ (PySem.mem_of_lookup k)).2 rfl) n
      · exact absurd rfl (L.own _ (PySem.mem_of_lookup k)).1
      · obtain ⟨m, _, hl⟩ := I.loc
        have kf := L.free _ (PySem.mem_of_lookup k) rfl
        obtain ⟨u', r', q⟩ := hl i y w e1 e2 (kf.elim (fun k => .inr (.inl k)) fun k => .inr (.inr k))
        obtain ⟨a, ha⟩ := look k
        refine ⟨u', r', .inr ⟨.inr k, a, ha, ?_⟩⟩
        rcases q with ⟨k', _⟩ | ⟨_, a', e', o, ho, hd'⟩
        · replace k' : X.env.scope.names.lookup y = some .local := k'
          rcases kf with k2 | k2 <;> rw [show X.env.scope.names.lookup y = _ from k2] at k' <;> cases k'
        · have e2 := old ha
          rw [e'] at e2
          cases e2
          exact ⟨o, kp _ _ ho, hd'⟩
  · obtain ⟨w, o, ho, hd'⟩ := I.cell y a (old e)
    exact ⟨w, o, kp _ _ ho, hd'⟩
/-- the lambda called -/
theorem lam_call {A : Around} {params : Arguments} {body : Expr} {scope : Scope} {f c : Addr} {pm ctv : Value} {p : Str} {v : V} {u : Value} {k : Nat} {tb : TE} {Q : VK} {E : Value → Shared → Prop} (I : Inv X pins σ H s) (L : Lam1 X.env.scope scope p) (hp : p ∉ X.N)
    (hf : s.heap.get? f = some (kla_obj "<lambda>" (X.env.qual ++ "<lambda>") params body scope (cloFrom X.env.cells scope.names []) pm c ctv)) (hc : H c = some (CodeO c (X.env.qual ++ "<lambda>")))
    (bind : bindArgs (kla_fn "<lambda>" (X.env.qual ++ "<lambda>") params body scope (cloFrom X.env.cells scope.names []) pm (.ref c) ctv) ⟨[u], []⟩ = pure [(p, u)])
    (fr : A.frames = some X.stack) (room : Room (k + 1) A) (hb : Room k (A.deeper (lamEnv X scope s.heap.objs.size f c)) → PE (lamX X A s H p scope f c) body tb) (rv : RelV v u) (h : tb (some v :: σ) H Q) :
    wpAny (model X.prog X.w) A (call (.ref f) [u]) (fun y s' => CE X.stack X.prog X.w H s Q y s') E s := by
  obtain ⟨⟨oc, vs, t, hoc, hdc, hvc⟩, _, _⟩ := I.hok c _ hc
  refine wpAny_call (codeAny_mono (R := fun r s' => ∃ y, r = .ok (.ret y) ∧ CE X.stack X.prog X.w H s Q y s') (kla_callFunE room.depth hf rfl L.co L.gen rfl ⟨c, oc, vs, t, rfl, hoc, hdc, hvc⟩ ?_) fun r s' ⟨y, e, q⟩ => by subst e; exact q)
  rw [bind]
  refine wpAny_pure (wpAny_newFunctionEnv (fun y hy => (L.own y hy).1) (fun y hy => by rw [List.mem_singleton.mp hy]; exact L.par) (fun h₁ hns hsb => ⟨I.nolimit.fresh _ hsb, ?_⟩) L.kind)
  show codeAny _ _ (.expr body (lamEnv X scope s.heap.objs.size f c)) _ _
  have kp : ∀ b o, s.heap.get? b = some o → h₁.get? b = some o := fun b o e => hsb.extBut b o (Nat.ne_of_lt (Heap.lt_size e)) (Heap.get?_push_of_some _ e)
  have J := lam_in (A := A) (f := f) (c := c) (tk := s.toks + ([(p, u)] : List (Str × Value)).length) I L hp fr room.hd rv hns kp
  refine kla_codeExpr (wpAny_mono ((hb (room.deeper _)).run [] _ _ H Q J h) (fun y s' hq => ?_) fun _ _ q => False.elim q)
  obtain ⟨x, H', J', r, q⟩ := hq
  exact ⟨y, rfl, x, H', J'.os, J'.bare, J'.base, J'.hok, r, q⟩
end
/-! ## the walk of min -/
section
variable (X : Cx) (pins : List (Addr × Obj)) (σ : L2.St) (T : List (Addr × Str)) (H1 : Hp) (S It f c : Addr) (fo : Obj) (q : Str)
structure Jm (H : Hp) (s : Shared) : Prop where
  inv : Inv X pins σ H s
  ext : ExtN H1 H
  tab : Tabs T H
  fS : FpOk X pins H S
  fI : FpOk X pins H It
  fn : s.heap.get? f = some fo
  nf : H f = none
  cd : H c = some (CodeO c q)
  eS : ∃ o, s.heap.get? S = some o
  eI : ∃ o, s.heap.get? It = some o
end
section
variable {X : Cx} {pins : List (Addr × Obj)} {σ : L2.St} {T : List (Addr × Str)} {H1 : Hp} {S It f c : Addr} {fo : Obj} {q : Str}
theorem Jm.still {H : Hp} {s s' : Shared} (j : Jm X pins σ T H1 S It f c fo q H s) (m : Moved [S, It] (fun a b => b = a) s s') : Inv X pins σ H s' := by
  obtain ⟨h', g', d', t', o'⟩ := s'
  obtain rfl : g' = s.gens := m.gens
  obtain rfl : d' = s.drawn := m.drawn
  obtain rfl : o' = s.os := m.os
  refine Inv.turnedL (ch := [S, It]) j.inv (fun b o hb e => m.heap b o hb e) fun b hb => ?_
  rcases List.mem_cons.mp hb with e | e
  · rw [e]; exact j.fS
  · rw [List.mem_singleton.mp e]; exact j.fI
theorem Jm.moved {H : Hp} {s s' : Shared} (j : Jm X pins σ T H1 S It f c fo q H s) (hS : f ≠ S) (hI : f ≠ It) (m : Moved [S, It] (fun a b => b = a) s s') (eS : ∃ o, s'.heap.get? S = some o) (eI : ∃ o, s'.heap.get? It = some o) : Jm X pins σ T H1 S It f c fo q H s' := by
  refine ⟨j.still m, j.ext, j.tab, j.fS, j.fI, m.heap _ _ (fun z => ?_) j.fn, j.nf, j.cd, eS, eI⟩
  rcases List.mem_cons.mp z with e | e
  · exact hS e
  · exact hI (List.mem_singleton.mp e)
theorem moved_upd (s : Shared) (S It : Addr) (g : Obj → Obj) : Moved [S, It] (fun a b => b = a) s { s with heap := s.heap.update S g, toks := s.toks } :=
  ⟨fun b o hb e => (Heap.get?_update_other _ _ (fun z : S = b => hb (by rw [← z]; exact List.mem_cons_self))).trans e, rfl, rfl, rfl, Nat.le_refl _⟩
variable {Ky : Hp → V → PyData → Prop} {kd : V → PyData} {xs : List V} {A : Around} {n : Nat} {Pv : Nat → Value → Prop} {St : Nat → Shared → Prop} {fp : List Addr}
/-- what is asked of the key -/
structure KeyL (X : Cx) (pins : List (Addr × Obj)) (σ : L2.St) (T : List (Addr × Str)) (H1 : Hp) (S It f c : Addr) (fo : Obj) (q : Str) (Ky : Hp → V → PyData → Prop) (kd : V → PyData) (xs : List V) (A : Around) : Prop where
  turn : ∀ (H : Hp) (s : Shared) (v : V) (u : Value) (E : Value → Shared → Prop), Jm X pins σ T H1 S It f c fo q H s → v ∈ xs → RelV v u →
    wpAny (model X.prog X.w) A (call (.ref f) [u]) (fun k s' => ∃ y H', Jm X pins σ T H1 S It f c fo q H' s' ∧ RelV y k ∧ Ky H' y (kd v) ∧ (∀ b zs, H b = some (.tup zs) → H' b = some (.tup zs)) ∧
      (∀ b o, FpOk X pins H b → s.heap.get? b = some o → s'.heap.get? b = some o)) E s
  dz : ∀ H y d, Ky H y d → Dz X.K H y d
  keep : ∀ H H' y d, (∀ b zs, H b = some (.tup zs) → H' b = some (.tup zs)) → Ky H y d → Ky H' y d
  alike : ∀ v ∈ xs, ∀ v' ∈ xs, alike (kd v) (kd v') = true
  some : ∀ v ∈ xs, kd v ≠ .none ∧ (kd v).depth ≤ 50
  units : A.units + 60 < cLine
  irr : ∀ v ∈ xs, dataLt (kd v) (kd v) = false
  tr : ∀ u ∈ xs, ∀ v ∈ xs, ∀ z ∈ xs, dataLt (kd u) (kd v) = true → dataLt (kd v) (kd z) = true → dataLt (kd u) (kd z) = true
theorem KeyL.less {A : Around} (K : KeyL X pins σ T H1 S It f c fo q Ky kd xs A) {H : Hp} {s : Shared} {v v' : V} {y y' : V} {k k' : Value} {E : Value → Shared → Prop} {Q : Value → Shared → Prop} (j : Jm X pins σ T H1 S It f c fo q H s) (hv : v ∈ xs) (hv' : v' ∈ xs)
    (r : RelV y k) (r' : RelV y' k') (d : Ky H y (kd v)) (d' : Ky H y' (kd v')) (h : Q (.bool (dataLt (kd v) (kd v'))) s) : wpAny (model X.prog X.w) A (richCompare .Lt k k') Q E s := by
  obtain ⟨as, ra, _⟩ := Dz.reads j.inv _ _ _ (K.dz _ _ _ d) r
  obtain ⟨bs, rb, _⟩ := Dz.reads j.inv _ _ _ (K.dz _ _ _ d') r'
  refine rcLt_alike _ _ A s k k' as bs ra rb (K.alike v hv v' hv') (K.some v hv).1 ?_ X.prog X.w E Q h
  have := K.units
  have := (K.some v hv).2
  omega
variable {R : Result → Shared → Prop} {kw : List (Str × Value)}
theorem min_more (W : WalksS X.prog X.w A.in1 It fp [It] (fun a b => b = a) n Pv St) (hSf : S ∉ fp) (nfS : f ≠ S) (nfI : f ≠ It) (K : KeyL X pins σ T H1 S It f c fo q Ky kd xs A.in1) (hPv : ∀ i v, Pv i v → ∃ x, xs[i]? = some x ∧ RelV x v) (hnx : n = xs.length)
    (hSt : ∀ i s s', St i s → (∀ b o, b ∈ fp → s.heap.get? b = some o → s'.heap.get? b = some o) → St i s') (hfp : ∀ (H : Hp) (s : Shared) (i : Nat), Jm X pins σ T H1 S It f c fo q H s → St i s → ∀ (s' : Shared) (H' : Hp), Jm X pins σ T H1 S It f c fo q H' s' → (∀ b o, FpOk X pins H b → s.heap.get? b = some o → s'.heap.get? b = some o) → St i s')
    (hIt : ∀ i s, St i s → ∃ o, s.heap.get? It = some o) (hR : ∀ x v s' H', x ∈ xs → (∀ x' ∈ xs, dataLt (kd x') (kd x) = false) → RelV x v → Inv X pins σ H' s' → ExtN H1 H' → Tabs T H' → R (.ok (.ret v)) s') :
    ∀ (m j : Nat) (s : Shared) (H : Hp) (vb kb : Value) (e : Nat) (xb yb : V), n - (j + 1) = m → j + 1 ≤ n → Jm X pins σ T H1 S It f c fo q H s → St (j + 1) s → xb ∈ xs → (∀ i' x', i' ≤ j → xs[i']? = some x' → dataLt (kd x') (kd xb) = false) → RelV xb vb → RelV yb kb → Ky H yb (kd xb) →
      s.heap.get? S = some { cls := .type "list", dict := none, data := .seq #[vb, kb] e, slots := #[] } → codeAny (model X.prog X.w) A (.builtin "min.loop" ⟨[.ref It, .ref f, .ref S], kw⟩) R s := by
  have nS : S ∉ [It] := fun z => hSf (W.sub _ z)
  have sub : ∀ b ∈ [It], b ∈ [S, It] := fun b hb => List.mem_cons_of_mem _ hb
  have nm : (toString "min" ++ toString ".loop" : String) = "min.loop" := by decide
  have other : ∀ {b : Addr}, b ∉ [S, It] → S ≠ b := fun {b} hb z => hb (z ▸ List.mem_cons_self)
  intro m
  induction m with
  | zero =>
    intro j s H vb kb e xb yb hm hj J st hx mb rb ry ky hS
    have last : j + 1 = n := by omega
    refine codeAny_builtin F.entry_min_loop ?go
    case go =>
      rw [Around.under_plainId F.plain_min_loop _]
      show wpAny _ A.in1 (seqItems? (.ref S) >>= _) _ _ s
      refine wpAny_bind (wpAny_seqItems hS rfl ?_); show wpAny _ A.in1 (tryCatch (pyNext (.ref It)) _ >>= _) _ _ s
      refine wpAny_bind (wpAny_tryCatch (W.done s _ _ (last ▸ st) fun s' hm' => ?_))
      have hS' := hm'.heap S _ nS hS
      show wpAny _ A.in1 (updateSeq S (fun _ => #[]) >>= _) _ _ _
      refine wpAny_bind ?_
      refine wpAny_updateSeq hS' rfl (wpAny_bind (wpAny_letGo (wpAny_pure ?_)))
      exact hR xb vb _ H hx (fun x' hx' => by
        obtain ⟨i', hi', ei'⟩ := List.getElem_of_mem hx'
        exact mb i' x' (by omega) (by rw [List.getElem?_eq_getElem hi', ei'])) rb (J.still ((hm'.mono sub).then_heap (tk := s'.toks) (Nat.le_refl _) fun b o hb e => (Heap.get?_update_other _ _ (other hb)).trans e)) J.ext J.tab
  | succ m ih =>
    intro j s H vb kb e xb yb hm hj J st hx mb rb ry ky hS
    have lt : j + 1 < n := by omega
    refine codeAny_builtin F.entry_min_loop ?go
    case go =>
      rw [Around.under_plainId F.plain_min_loop _]
      show wpAny _ A.in1 (seqItems? (.ref S) >>= _) _ _ s
      refine wpAny_bind (wpAny_seqItems hS rfl ?_); show wpAny _ A.in1 (tryCatch (pyNext (.ref It)) _ >>= _) _ _ s
      refine wpAny_bind (wpAny_tryCatch (W.item (j + 1) s _ _ lt st fun v s' hP st' hm' => ?_))
      have hS' := hm'.heap S _ nS hS
      have J' := J.moved nfS nfI (hm'.mono sub) ⟨_, hS'⟩ (hIt _ _ st')
      obtain ⟨x, ex', rx⟩ := hPv _ _ hP
      have hx' := List.mem_of_getElem? ex'
      show wpAny _ A.in1 (tryCatch (holding [v] (call (.ref f) [v])) _ >>= _) _ _ _
      refine wpAny_bind (wpAny_tryCatch (wpAny_holding (wpAny_mono (K.turn H s' x v _ J' hx' rx) (fun kx s2 hk => ?_) fun _ _ y => y)))
      obtain ⟨y, H2, J2, r2, k2, tups, fps⟩ := hk
      have hS2 := fps S _ J'.fS hS'
      have st2 := hfp H s' _ J' st' s2 H2 J2 fps
      show wpAny _ A.in1 (tryCatch (holding [v, kx] (richCompare .Lt kx kb >>= _)) _ >>= _) _ _ _
      refine wpAny_bind (wpAny_tryCatch (wpAny_holding (wpAny_bind (K.less J2 hx' hx r2 ry k2 (K.keep _ _ _ _ tups ky) ?_))))
      refine wpAny_bind (wpAny_holding (wpAny_truthy_bool ?_)); refine wpAny_bind (wpAny_letGo (wpAny_pure ?_))
      cases b : dataLt (kd x) (kd xb) with
      | true =>
        simp only [if_true]
        refine wpAny_bind ?_
        refine wpAny_updateSeq hS2 rfl (wpAny_bind (wpAny_letGo ?_)); rw [nm]
        refine wpAny_pure ⟨plainId_quiet F.plain_min_loop _, ih (j + 1) _ H2 v kx _ x y (by omega) lt (J2.moved nfS nfI (moved_upd s2 S It _) ⟨_, Heap.get?_update_self _ hS2 rfl⟩ (by obtain ⟨o, e⟩ := J2.eI; exact ⟨o, (Heap.get?_update_other _ _ (fun z : S = It => nS (by rw [z]; exact List.mem_singleton.mpr rfl))).trans e⟩)) (hSt _ _ _ st2 fun b o hb e => ?_) hx' (fun i' x' hi' e' => by
          rcases Nat.lt_or_ge i' (j + 1) with c | c
          · cases z : dataLt (kd x') (kd x) with
            | false => rfl
            | true =>
              have := K.tr x' (List.mem_of_getElem? e') x hx' xb hx z b
              rw [mb i' x' (by omega) e'] at this
              cases this
          · obtain rfl : i' = j + 1 := by omega
            rw [ex'] at e'
            cases e'
            exact K.irr x hx') rx r2 k2 (Heap.get?_update_self _ hS2 rfl)⟩
        exact (Heap.get?_update_other _ _ (fun z : S = b => hSf (z ▸ hb))).trans e
      | false =>
        simp only [Bool.false_eq_true, if_false]
        refine wpAny_bind (wpAny_letGo ?_); rw [nm]
        exact wpAny_pure ⟨plainId_quiet F.plain_min_loop _, ih (j + 1) _ H2 vb kb e xb yb (by omega) lt J2 st2 hx (fun i' x' hi' e' => by
          rcases Nat.lt_or_ge i' (j + 1) with c | c
          · exact mb i' x' (by omega) e'
          · obtain rfl : i' = j + 1 := by omega
            rw [ex'] at e'
            cases e'
            exact b) rb ry (K.keep _ _ _ _ tups ky) hS2⟩
theorem min_first (W : WalksS X.prog X.w A.in1 It fp [It] (fun a b => b = a) n Pv St) (hSf : S ∉ fp) (nfS : f ≠ S) (nfI : f ≠ It) (K : KeyL X pins σ T H1 S It f c fo q Ky kd xs A.in1) (hPv : ∀ i v, Pv i v → ∃ x, xs[i]? = some x ∧ RelV x v) (hnx : n = xs.length)
    (hSt : ∀ i s s', St i s → (∀ b o, b ∈ fp → s.heap.get? b = some o → s'.heap.get? b = some o) → St i s') (hfp : ∀ (H : Hp) (s : Shared) (i : Nat), Jm X pins σ T H1 S It f c fo q H s → St i s → ∀ (s' : Shared) (H' : Hp), Jm X pins σ T H1 S It f c fo q H' s' → (∀ b o, FpOk X pins H b → s.heap.get? b = some o → s'.heap.get? b = some o) → St i s')
    (hIt : ∀ i s, St i s → ∃ o, s.heap.get? It = some o) (hR : ∀ x v s' H', x ∈ xs → (∀ x' ∈ xs, dataLt (kd x') (kd x) = false) → RelV x v → Inv X pins σ H' s' → ExtN H1 H' → Tabs T H' → R (.ok (.ret v)) s') (hn : 0 < n) {s : Shared} {H : Hp} {e : Nat} (J : Jm X pins σ T H1 S It f c fo q H s) (st : St 0 s)
    (hS : s.heap.get? S = some { cls := .type "list", dict := none, data := .seq #[] e, slots := #[] }) : codeAny (model X.prog X.w) A (.builtin "min.loop" ⟨[.ref It, .ref f, .ref S], kw⟩) R s := by
  have nS : S ∉ [It] := fun z => hSf (W.sub _ z)
  have sub : ∀ b ∈ [It], b ∈ [S, It] := fun b hb => List.mem_cons_of_mem _ hb
  have nm : (toString "min" ++ toString ".loop" : String) = "min.loop" := by decide
  refine codeAny_builtin F.entry_min_loop ?go
  case go =>
    rw [Around.under_plainId F.plain_min_loop _]
    show wpAny _ A.in1 (seqItems? (.ref S) >>= _) _ _ s
    refine wpAny_bind (wpAny_seqItems hS rfl ?_); show wpAny _ A.in1 (tryCatch (pyNext (.ref It)) _ >>= _) _ _ s
    refine wpAny_bind (wpAny_tryCatch (W.item 0 s _ _ hn st fun v s' hP st' hm' => ?_))
    have hS' := hm'.heap S _ nS hS
    have J' := J.moved nfS nfI (hm'.mono sub) ⟨_, hS'⟩ (hIt _ _ st')
    obtain ⟨x, ex', rx⟩ := hPv _ _ hP
    have hx' := List.mem_of_getElem? ex'
    show wpAny _ A.in1 (tryCatch (holding [v] (call (.ref f) [v])) _ >>= _) _ _ _
    refine wpAny_bind (wpAny_tryCatch (wpAny_holding (wpAny_mono (K.turn H s' x v _ J' hx' rx) (fun kx s2 hk => ?_) fun _ _ y => y)))
    obtain ⟨y, H2, J2, r2, k2, tups, fps⟩ := hk
    have hS2 := fps S _ J'.fS hS'
    have st2 := hfp H s' _ J' st' s2 H2 J2 fps
    show wpAny _ A.in1 (updateSeq S (fun _ => #[v, kx]) >>= _) _ _ _
    refine wpAny_bind ?_
    refine wpAny_updateSeq hS2 rfl ?_; rw [nm]
    refine wpAny_pure ⟨plainId_quiet F.plain_min_loop _, min_more W hSf nfS nfI K hPv hnx hSt hfp hIt hR _ 0 _ H2 v kx _ x y rfl hn (J2.moved nfS nfI (moved_upd s2 S It _) ⟨_, Heap.get?_update_self _ hS2 rfl⟩ (by obtain ⟨o, e⟩ := J2.eI; exact ⟨o, (Heap.get?_update_other _ _ (fun z : S = It => nS (by rw [z]; exact List.mem_singleton.mpr rfl))).trans e⟩)) (hSt _ _ _ st2 fun b o hb e => ?_) hx' (fun i' x' hi' e' => by
      obtain rfl : i' = 0 := by omega
      rw [ex'] at e'
      cases e'
      exact K.irr x hx') rx r2 k2 (Heap.get?_update_self _ hS2 rfl)⟩
    exact (Heap.get?_update_other _ _ (fun z : S = b => hSf (z ▸ hb))).trans e
end
section
theorem sqT_extN {K : PySem.W.Frag} {H H' : Hp} (s : ExtN H H') {t : Addr} {xs : List V} (q : SqT K H t xs) : SqT K H' t xs := by
  rcases q with (q | ⟨o, q⟩) | q
  · exact .inl (.inl (s _ _ q fun ps z => by cases z))
  · exact .inl (.inr ⟨o, s _ _ q fun ps z => by cases z⟩)
  · exact .inr q
/-- where the walk of a tuple stands -/
def Stt (xs : List V) (It l : Addr) (i : Nat) (s : Shared) : Prop := ∃ vs : Array Value, Vals xs vs.toList ∧ s.heap.IsTupleIter It l i ∧ s.heap.IsTuple l vs
theorem walk_tt {prog : Program} {w : World} {A : Around} {It l : Addr} {xs : List V} (hh : A.handled = none) (ne : l ≠ It) :
    WalksS prog w A It [It, l] [It] (fun a b => b = a) xs.length (fun i v => ∃ x, xs[i]? = some x ∧ RelV x v) (Stt xs It l) := by
  have W := fun vs : Array Value => (Walks.tuple (prog := prog) (w := w) (A := A) hh It l ne vs).toS
  have sz : ∀ {vs : Array Value}, Vals xs vs.toList → vs.size = xs.length := fun {vs} r => by rw [r.length, Array.length_toList]
  refine ⟨fun b hb => by simp at hb; simp [hb], fun _ => rfl, fun a b c h1 h2 => h2.trans h1, fun i s h' tk st le k => ?_, fun i s Q E hi st h => ?_, fun s Q E st h => ?_, fun i s Q E st h => ?_⟩
  · obtain ⟨vs, r, st⟩ := st
    exact ⟨vs, r, (W vs).frame i s h' tk st le k⟩
  · obtain ⟨vs, r, st⟩ := st
    refine (W vs).item i s Q E (by rw [sz r]; exact hi) st fun v s' hP st' hm => h v s' ?_ ⟨vs, r, st'⟩ hm
    obtain ⟨v', e', rx⟩ := r.get (List.getElem?_eq_getElem hi)
    rw [Array.getElem?_toList, show vs[i]? = some v from hP] at e'
    cases e'
    exact ⟨_, List.getElem?_eq_getElem hi, rx⟩
  · obtain ⟨vs, r, st⟩ := st
    exact (W vs).done s Q E (by rw [sz r]; exact st) h
  · obtain ⟨vs, r, st⟩ := st
    exact (W vs).self i s Q E st h
end
abbrev itO (l : Addr) : Obj := { cls := .type "tuple_iterator", data := .fields #[.ref l, .int 0 0] }
/-- min(e, key=lambda pn: body): some item -/
def tMinLam (K : PySem.W.Frag) (T : List (Addr × Str)) (Ky : Hp → V → PyData → Prop) (ta tb : TE) : TE := fun σ H Q => ta σ H fun x H1 => ∃ (l : Addr) (xs : List V) (kd : V → PyData), x = .ref l ∧ SqT K H1 l xs ∧ xs ≠ [] ∧ Tabs T H1 ∧
  (∀ v ∈ xs, ∀ v' ∈ xs, alike (kd v) (kd v') = true) ∧ (∀ v ∈ xs, kd v ≠ .none ∧ (kd v).depth ≤ 50) ∧ (∀ v ∈ xs, dataLt (kd v) (kd v) = false) ∧ (∀ u ∈ xs, ∀ v ∈ xs, ∀ z ∈ xs, dataLt (kd u) (kd v) = true → dataLt (kd v) (kd z) = true → dataLt (kd u) (kd z) = true) ∧
  (∀ H2, ExtN H1 H2 → Tabs T H2 → ∀ v ∈ xs, tb (some v :: σ) H2 fun y H3 => ExtN H2 H3 ∧ Tabs T H3 ∧ Ky H3 y (kd v)) ∧ ∀ v ∈ xs, (∀ v' ∈ xs, dataLt (kd v') (kd v) = false) → ∀ H', ExtN H1 H' → Tabs T H' → Q v H'
section
variable {X : Cx}
theorem pe_minLam {T : List (Addr × Str)} {Ky : Hp → V → PyData → Prop} {e : Expr} {params : Arguments} {body : Expr} {scope : Scope} {lpos kpos p pos : Pos} {pn : Str} {c P : Addr} {k : Nat} {ta tb : TE}
    (hg : Gl X "min") (hm : X.mg "min" = none) (calm : X.calm = true) (room : Room (k + 3) X.A) (ha : PE X e ta)
    (TB : TabB X.base X.mg c P) (hcode : X.env.code = .ref c) (hmT : (P, X.env.qual ++ "<lambda>") ∈ T) (hu : ∀ p ∈ T, p.1 = P → p.2 = X.env.qual ++ "<lambda>") (L : Lam1 X.env.scope scope pn) (hpn : pn ∉ X.N) (hdef : defaultsOf params X.env = ([], []))
    (hbind : ∀ (q : Str) (cl : List (Str × Addr)) (pm cv ctv u : Value), bindArgs (kla_fn "<lambda>" q params body scope cl pm cv ctv) ⟨[u], []⟩ = pure [(pn, u)])
    (hbody : ∀ (A : Around) (s : Shared) (H : Hp) (f c' : Addr), Room k (A.deeper (lamEnv X scope s.heap.objs.size f c')) → PE (lamX X A s H pn scope f c') body tb)
    (hdz : ∀ H y d, Ky H y d → Dz X.K H y d) (hkeep : ∀ (H H' : Hp) y d, (∀ b zs, H b = some (.tup zs) → H' b = some (.tup zs)) → Ky H y d → Ky H' y d)
    (hs0 : starEach [e] X.env = (false, eval e X.env) :: starEach [] X.env := by rfl) (he : backTo pos (starEach [e] X.env) = (false, eval e X.env) :: backTo pos (starEach [] X.env) := by rfl) (hpl : (backTo pos (starEach [e] X.env)).any (·.1) = false := by rfl) :
    PE X (.Call (.Name "min" p) [e] [⟨some "key", .Lambda params body scope lpos, kpos⟩] pos) (tMinLam X.K T Ky ta tb) := by
  refine ⟨fun pins s σ H Q I h => ?_⟩
  refine wpAny_Call_Name_kw (ld_blt I hg hm (u := .builtin "min") (by decide +kernel) ?_)
  refine PyProof.Rows.callWith_kw (thn ((pa_cons (hs := hs0) ha pa_nil).run pos pins s σ H (fun vs H1 => match vs with
    | [x] => ∃ (l : Addr) (xs : List V) (kd : V → PyData), x = .ref l ∧ SqT X.K H1 l xs ∧ xs ≠ [] ∧ Tabs T H1 ∧
      (∀ v ∈ xs, ∀ v' ∈ xs, alike (kd v) (kd v') = true) ∧ (∀ v ∈ xs, kd v ≠ .none ∧ (kd v).depth ≤ 50) ∧ (∀ v ∈ xs, dataLt (kd v) (kd v) = false) ∧ (∀ u ∈ xs, ∀ v ∈ xs, ∀ z ∈ xs, dataLt (kd u) (kd v) = true → dataLt (kd v) (kd z) = true → dataLt (kd u) (kd z) = true) ∧
      (∀ H2, ExtN H1 H2 → Tabs T H2 → ∀ v ∈ xs, tb (some v :: σ) H2 fun y H3 => ExtN H2 H3 ∧ Tabs T H3 ∧ Ky H3 y (kd v)) ∧ ∀ v ∈ xs, (∀ v' ∈ xs, dataLt (kd v') (kd v) = false) → ∀ H', ExtN H1 H' → Tabs T H' → Q v H'
    | _ => False) I h) fun us s1 hq => ?_) he hpl
  obtain ⟨ws, H1, I1, r1, q1⟩ := hq
  match ws, q1 with
  | [], q1 => exact False.elim q1
  | _ :: _ :: _, q1 => exact False.elim q1
  | [x], q1 =>
    obtain ⟨l, xs, kd, rfl, hs, ne, hT, hal, hso, hirr, htr, hbd, hq⟩ := q1
    obtain ⟨u, rfl, ru⟩ := vals1 r1
    cases ru
    show wpAny _ _ (evalAll ((do let v ← eval (.Lambda params body scope lpos) X.env; standAt pos; pure v) :: [])) _ _ s1
    refine wpAny_evalAll_cons (wpAny_bind (lam_make2 I1 TB hcode hmT hu hT hdef (L.has I1.ok) fun f c' pm ctv H2 s2 I2 eN T2 hf hfn hfr hco => wpAny_bind (wpAny_standAt (wpAny_pure (wpAny_evalAll_nil ?_)))))
    show wpAny _ _ (call (.builtin "min") [.ref l] [(Str.ofString "key", .ref f)]) _ _ s2
    have hs2 := sqT_extN eN hs
    obtain ⟨its, rx, hit, _⟩ := I2.tuple hs2
    have hIt : s2.heap.IsTuple l its.toArray := hit
    have hl : l < s2.heap.objs.size := by obtain ⟨o, ho, _⟩ := hIt; exact Heap.lt_size ho
    have hf' : f < s2.heap.objs.size := Heap.lt_size hf
    have hh : X.A.handled = none := I.ok.hd calm
    have nm : (toString "min" ++ toString ".loop" : String) = "min.loop" := by decide
    refine kmk_tree F.kind_min F.plain_min F.entry_min (kmk_min_key _ _) ?go
    case go =>
      show wpAny _ X.A.in1 (Builtin.Builtins.bindParams "min" ["key", "default"] 0 ⟨[], [(Str.ofString "key", .ref f)]⟩ >>= _) _ _ s2
      refine wpAny_bind (wpAny_of_eq (show Builtin.Builtins.bindParams "min" ["key", "default"] 0 ⟨[], [(Str.ofString "key", .ref f)]⟩ = pure [some (.ref f), none] from rfl) ?_)
      refine wpAny_bind (wpAny_pure (wpAny_bind (wpAny_pyIter_tuple hIt (wpAny_bind (wpAny_newObj_type ?_)))))
      rw [nm]
      -- the iterator, the list
      have sz : (s2.heap.push (itO l)).objs.size = s2.heap.objs.size + 1 := Heap.size_push ..
      show wpAny _ _ _ _ _ { s2 with heap := (s2.heap.push (itO l)).push { cls := .type "list", data := .seq #[] 0 } }
      have le1 : s2.heap.objs.size ≤ s2.heap.objs.size := Nat.le_refl _
      have le2 : s2.heap.objs.size ≤ (s2.heap.push (itO l)).objs.size := by rw [sz]; omega
      have kp : ∀ b o, s2.heap.get? b = some o → ((s2.heap.push (itO l)).push { cls := .type "list", data := .seq #[] 0 }).get? b = some o := fun b o e => Heap.get?_push_of_some _ (Heap.get?_push_of_some _ e)
      have J : Jm X pins σ T H1 (s2.heap.push (itO l)).objs.size s2.heap.objs.size f c' _ (X.env.qual ++ "<lambda>") H2 { s2 with heap := (s2.heap.push (itO l)).push { cls := .type "list", data := .seq #[] 0 } } :=
        ⟨I2.kept (t' := s2.toks) kp, eN, T2, I2.fpOk le2 (I2.hok.fresh le2), I2.fpOk le1 (I2.hok.fresh le1), kp _ _ hf, hfn, hco, ⟨_, Heap.get?_push_size _ rfl⟩, ⟨_, Heap.get?_push_of_some _ (Heap.get?_push_size _ rfl)⟩⟩
      have nS : (s2.heap.push (itO l)).objs.size ∉ [s2.heap.objs.size, l] := fun z => by
        rw [sz] at z
        rcases List.mem_cons.mp z with z | z
        · exact absurd z (Nat.succ_ne_self _)
        · exact absurd hl (by rw [← List.mem_singleton.mp z]; exact Nat.not_lt.mpr (Nat.le_succ _))
      have K : KeyL X pins σ T H1 (s2.heap.push (itO l)).objs.size s2.heap.objs.size f c' (kla_obj "<lambda>" (X.env.qual ++ "<lambda>") params body scope (cloFrom X.env.cells scope.names []) pm c' ctv) (X.env.qual ++ "<lambda>") Ky kd xs X.A.in1 := by
        refine ⟨fun H s v u E J hv rv => ?_, hdz, hkeep, hal, hso, ?_, hirr, htr⟩
        · have fr : X.A.in1.frames = some X.stack := by show X.A.frames = some X.stack; exact I.ok.frames
          refine wpAny_mono (lam_call (E := E) J.inv L hpn J.fn J.cd (hbind _ _ _ _ _ _) fr (room.in1.mono (by omega) : Room (k + 1) _) (fun hr => hbody _ _ _ _ _ hr) rv (hbd H J.ext J.tab v hv)) (fun y s' hq' => ?_) fun _ _ z => z
          obtain ⟨z, H', os, bare, un, hok, rz, eN', T', ky⟩ := hq'
          have I' : Inv X pins σ H' s' := J.inv.call' os un hok bare fun b hb => absurd hb List.not_mem_nil
          have kpt : ∀ b o, FpOk X pins H b → s.heap.get? b = some o → s'.heap.get? b = some o := fun b o fb e => un.keep _ _ e fb.1 (fun hz => by
            rcases List.mem_cons.mp (J.inv.stkSub b hz) with e' | e'
            · exact fb.2.1 e'
            · exact fb.2.2.1 e') List.not_mem_nil
          have fz : ∀ b o, s.heap.get? b = some o → FpOk X pins H b → FpOk X pins H' b := fun b o e fb => ⟨un.free _ _ e fb.1 List.not_mem_nil, fb.2⟩
          obtain ⟨oS, eS⟩ := J.eS
          obtain ⟨oI, eI⟩ := J.eI
          refine ⟨z, H', ⟨I', J.ext.trans eN', T', fz _ _ eS J.fS, fz _ _ eI J.fI, un.keep _ _ J.fn J.nf (fun hz => ?_) List.not_mem_nil, un.free _ _ J.fn J.nf List.not_mem_nil, eN' _ _ J.cd codeO_ne, ⟨_, kpt _ _ J.fS eS⟩, ⟨_, kpt _ _ J.fI eI⟩⟩, rz, ky, un.tups, kpt⟩
          exact hfr hz
        · have := room.units
          show X.A.units + 1 + 60 < cLine
          omega
      refine wpAny_pure ⟨plainId_quiet F.plain_min_loop _, min_first (A := X.A) (fp := [s2.heap.objs.size, l]) (St := Stt xs s2.heap.objs.size l) (walk_tt (A := X.A.in1) hh (Nat.ne_of_lt hl)) nS (Nat.ne_of_lt (Nat.lt_of_lt_of_le hf' le2)) (Nat.ne_of_lt hf') K
        (fun i v ⟨x, e, r⟩ => ⟨x, e, r⟩) rfl (fun i s s' st k => ?_) (fun H s i J st s' H' J' kk => ?_) (fun i s ⟨vs, r, ⟨o, e, _⟩, _⟩ => ⟨o, e⟩) (fun x v s' H' hx hm r I' e' t' => ⟨x, H', I', r, hq x hx hm H' e' t'⟩) (List.length_pos_iff.mpr ne) J ⟨its.toArray, by simpa using rx, ?_, ?_⟩ (Heap.get?_push_size _ rfl)⟩
      · obtain ⟨vs, r, ⟨o, e, r1⟩, ⟨o', e', r2⟩⟩ := st
        exact ⟨vs, r, ⟨o, k _ _ List.mem_cons_self e, r1⟩, ⟨o', k _ _ (by simp) e', r2⟩⟩
      · obtain ⟨vs, r, ⟨o, e, r1⟩, _⟩ := st
        obtain ⟨its', rx', hit', _⟩ := J'.inv.tuple (sqT_extN J'.ext hs)
        exact ⟨its'.toArray, by simpa using rx', ⟨o, kk _ _ J.fI e, r1⟩, hit'⟩
      · exact ⟨_, Heap.get?_push_of_some _ (Heap.get?_push_size _ rfl), rfl, rfl⟩
      · exact (hIt.push _).push _
end
end Xln
set_option Elab.async false
set_option linter.all false
set_option maxRecDepth 100000
set_option maxHeartbeats 4000000
set_option pp.maxSteps 400
set_option pp.deepTerms false
/-! zip(a list, a tuple) of one length; a list != [] -/
namespace Xt
open PySem PySem.Spec PyProof.Rows L2
def ItzLT (K : PySem.W.Frag) (a b : Addr) : It :=
  ⟨fun i H => ∃ (xs ys : List V) (x y : V), SqL K H a xs ∧ SqT K H b ys ∧ xs[i]? = some x ∧ ys[i]? = some y,
    fun i H v H' => ∃ T x y, v = .ref T ∧ H T = none ∧ H' = upd H T (.tup [x, y]) ∧ (∀ xs, SqL K H a xs → xs[i]? = some x) ∧ ∀ ys, SqT K H b ys → ys[i]? = some y,
    fun i H => ∃ xs ys : List V, SqL K H a xs ∧ SqT K H b ys ∧ xs.length = i ∧ ys.length = i⟩
theorem turn_zipLT {P : Program} {w : World} {K : PySem.W.Frag} {elts : List Expr} {kk : Nat} {tpos : Pos} {a b z TI TO i1 i2 : Addr} (D : ZipSep2 z TI TO i1 i2 [i1, a] [i2, b]) (n1 : a ≠ i1) (n2 : b ≠ i2) :
    Turn P w K (.Tuple elts kk tpos) (ItzLT K a b) [z, TI, TO, i1, i2] z (fun i h => IsZip h z TI TO .none ∧ IsTupOf2 h TI (.ref i1) (.ref i2) ∧ (∃ x y, IsTupOf2 h TO x y) ∧ h.IsListIter i1 a i ∧ h.IsTupleIter i2 b i) where
  mem := by simp
  obj := fun i h ⟨h1, h2, ⟨x, y, h3⟩, ⟨o1, e1, _, d1⟩, ⟨o2, e2, _, d2⟩⟩ c hc => by
    simp only [List.mem_cons, List.not_mem_nil, or_false] at hc
    rcases hc with rfl | rfl | rfl | rfl | rfl
    · exact ⟨_, h1, fun _ q => nomatch q⟩
    · exact ⟨_, h2, fun _ q => nomatch q⟩
    · exact ⟨_, h3, fun _ q => nomatch q⟩
    · exact ⟨o1, e1, fun _ q => by rw [d1] at q; cases q⟩
    · exact ⟨o2, e2, fun _ q => by rw [d2] at q; cases q⟩
  keep := fun i h h' ⟨h1, h2, ⟨x, y, h3⟩, h4, h5⟩ k => ⟨k z (by simp) _ h1, k TI (by simp) _ h2, ⟨x, y, k TO (by simp) _ h3⟩, h4.at fun o q => k i1 (by simp) o q, h5.at fun o q => k i2 (by simp) o q⟩
  item := by
    intro X hP hw hK hc i pins s σ H E I hf st hg
    subst hP hw hK
    obtain ⟨hz, hTI, ⟨x0, y0, hTO⟩, t1, t2⟩ := st
    obtain ⟨xs, ys, x, y, hqx, hqy, hx, hy⟩ := hg
    obtain ⟨us, r1, p1, _⟩ := I.list hqx
    obtain ⟨ws, r2, p2, _⟩ := I.tuple hqy
    obtain ⟨u, hu, ru⟩ := r1.get hx
    obtain ⟨v, hv, rv⟩ := r2.get hy
    have l1 : i < us.toArray.size := by simpa using (List.getElem?_eq_some_iff.mp hu).1
    have l2 : i < ws.toArray.size := by simpa using (List.getElem?_eq_some_iff.mp hv).1
    have nh := I.ok.hd hc
    have zl : z < s.heap.objs.size := Heap.lt_size hz
    refine wpAny_pyNext_zipD2_item D (Draws.list (A := X.A.in1) nh i1 a n1 us.toArray) (Draws.tuple (A := X.A.in1) nh i2 b n2 ws.toArray) hz hTI hTO ⟨t1, p1.isList⟩ ⟨t2, p2⟩ l1 l2 fun u' v' h' tk eu ev z' TO' s1 s2 hT hsz hk => ?_
    obtain rfl : u = u' := by
      have : us.toArray[i]? = some u := by simpa using hu
      rw [this] at eu; cases eu; rfl
    obtain rfl : v = v' := by
      have : ws.toArray[i]? = some v := by simpa using hv
      rw [this] at ev; cases ev; rfl
    refine ⟨_, rfl, wpAny_letOwnedTupleGo_zip (s := { s with heap := h', toks := tk }) z' fun h'' z'' sb => ?_⟩
    have hT2 : h''.get? s.heap.objs.size = some { cls := .type "tuple", data := .seq #[u, v] } := (sb.2 _ (Nat.ne_of_gt zl)).trans hT
    have I1 : Inv X pins σ (upd H s.heap.objs.size (.tup [x, y])) { s with heap := h'', toks := tk } :=
      I.turnedNew (ch := [z, TI, TO, i1, i2]) (fun c o hb q => (sb.2 c (fun e => hb (by simp [e]))).trans (hk c o (fun e => hb (by simp [e])) (fun e => hb (by simp [e])) (fun e => hb (by simp [e])) (fun e => hb (by simp [e])) q)) hf (Nat.le_refl _)
        ⟨by show 2 ≤ sizeLine; decide, [u, v], .cons ru (.cons rv .nil), ⟨_, hT2, rfl, _, rfl⟩⟩
    refine ⟨.ref s.heap.objs.size, _, I1, rfl, ⟨_, x, y, rfl, I.hok.fresh (Nat.le_refl _), rfl, fun l hl => by rw [I.list_inj hl hqx]; exact hx, fun l hl => by rw [I.tuple_inj hl hqy]; exact hy⟩,
      ⟨z'', (sb.2 _ D.TIz).trans (hk _ _ D.TIz D.TITO D.TIi1 D.TIi2 hTI), ⟨u, v, (sb.2 _ D.TOz).trans TO'⟩, s1.1.at fun o q => (sb.2 _ (Ne.symm D.zi1)).trans q, s2.1.at fun o q => (sb.2 _ (Ne.symm D.zi2)).trans q⟩, fun c hcm => ?_⟩
    have lt : c < s.heap.objs.size := by
      have hcm' := hcm
      simp only [List.mem_cons, List.not_mem_nil, or_false] at hcm'
      rcases hcm' with rfl | rfl | rfl | rfl | rfl
      · exact zl
      · exact Heap.lt_size hTI
      · exact Heap.lt_size hTO
      · exact Heap.lt_size t1.choose_spec.1
      · exact Heap.lt_size t2.choose_spec.1
    rw [upd_ne (Nat.ne_of_lt lt)]
    exact (hf c hcm).1
  done := by
    intro X hP hw hK hc i pins s σ H E I hf st hg
    subst hP hw hK
    obtain ⟨hz, hTI, ⟨x0, y0, hTO⟩, t1, t2⟩ := st
    obtain ⟨xs, ys, hqx, hqy, lx, ly⟩ := hg
    obtain ⟨us, r1, p1, _⟩ := I.list hqx
    obtain ⟨ws, r2, p2, _⟩ := I.tuple hqy
    have e1 : us.toArray.size = i := by rw [List.size_toArray, ← r1.length]; exact lx
    have e2 : ws.toArray.size = i := by rw [List.size_toArray, ← r2.length]; exact ly
    have nh := I.ok.hd hc
    exact wpAny_pyNext_zipD2_end D (Draws.list (A := X.A.in1) nh i1 a n1 us.toArray) (Draws.tuple (A := X.A.in1) nh i2 b n2 ws.toArray) hz hTI hTO ⟨t1, p1.isList⟩ ⟨t2, p2⟩ (by omega) (by omega) (.inl e1.symm) fun h' tk hk =>
      ⟨rfl, I.turnedL (t' := tk) (ch := [z, TI, TO, i1, i2]) (fun c o hb q => hk c o (fun e => hb (by simp [e])) (fun e => hb (by simp [e])) (fun e => hb (by simp [e])) (fun e => hb (by simp [e])) q) hf⟩
  self := fun A i s Q E st h => wpAny_pyIter_zip st.1 h
def iZipLT (K : PySem.W.Frag) (ta : TA) : TI := fun σ H R => ta σ H fun vs H1 => ∃ a b xs ys, vs = [.ref a, .ref b] ∧ SqL K H1 a xs ∧ SqT K H1 b ys ∧ R (ItzLT K a b) H1
theorem pi_zipLT {X : Cx} {e e2 : Expr} {ta : TA} {p pos tpos : Pos} {elts : List Expr} {kk : Nat} (hg : Gl X "zip") (hm : X.mg "zip" = none) (ha : PA X [e, e2] ta)
    (hs : starEach [e, e2] X.env = (false, eval e X.env) :: starEach [e2] X.env := by rfl) (hpl : (backTo pos (starEach [e2] X.env)).any (·.1) = false := by rfl) :
    PI X (.Tuple elts kk tpos) (.Call (.Name "zip" p) [e, e2] [] pos) (iZipLT X.K ta) := by
  refine ⟨fun pins s σ H R I h => ?_⟩
  refine Call_ (ld_blt I hg hm PyProof.Rows.boot_zip (PyProof.Rows.callWith_type1 (thn (ha.run pos pins s σ H _ I h) fun us s1 ⟨vs, H1, I1, r1, q1⟩ => ?go) hs hpl))
  case go =>
    obtain ⟨a, b, xs, ys, rfl, hqx, hqy, q⟩ := q1
    cases r1 with
    | cons r rr =>
      cases rr with
      | cons r' rr =>
        cases rr; cases r; cases r'
        obtain ⟨us, v1, p1, _⟩ := I1.list hqx
        obtain ⟨ws, v2, p2, _⟩ := I1.tuple hqy
        have la : a < s1.heap.objs.size := p1.lt
        have lb : b < s1.heap.objs.size := by obtain ⟨o, ho, _⟩ := id p2; exact Heap.lt_size ho
        refine zip_begins2 (begins_list a us.toArray) (begins_tuple b ws.toArray) p1.isList p2 fun h' hz hTI hTO h1 h2 _ hk => wpAny_pyIter_zip hz ?_
        have I2 : Inv X pins σ H1 { s1 with heap := h' } := I1.kept (t' := s1.toks) hk
        refine ⟨s1.heap.objs.size + 4, [s1.heap.objs.size + 4, s1.heap.objs.size + 2, s1.heap.objs.size + 3, s1.heap.objs.size, s1.heap.objs.size + 1], _, _, H1, rfl, I2,
          turn_zipLT (zip_sep2 (N := s1.heap.objs.size) (fp1 := [a]) (fp2 := [b]) (fun c hc => by rw [List.mem_singleton.mp hc]; exact la) (fun c hc => by rw [List.mem_singleton.mp hc]; exact lb)) (Nat.ne_of_lt la) (Nat.ne_of_lt (Nat.lt_succ_of_lt lb)),
          ⟨hz, hTI, ⟨_, _, hTO⟩, ⟨_, h1, rfl, rfl⟩, ⟨_, h2, rfl, rfl⟩⟩, fun c hc => ?_, q⟩
        have le : s1.heap.objs.size ≤ c := by
          simp only [List.mem_cons, List.not_mem_nil, or_false] at hc
          rcases hc with rfl | rfl | rfl | rfl | rfl
          · exact Nat.le_add_right _ _
          · exact Nat.le_add_right _ _
          · exact Nat.le_add_right _ _
          · exact Nat.le_refl _
          · exact Nat.le_add_right _ _
        exact I1.fpOk le (I1.hok.fresh le)
theorem walk_zipLT {K : PySem.W.Frag} {a b : Addr} {xs ys : List V} (e : xs.length = ys.length) : Walk (ItzLT K a b) xs.length (fun H => SqL K H a xs ∧ SqT K H b ys) (YPair (fun i => xs[i]?) (fun i => ys[i]?)) := by
  refine ⟨fun i H hi q => ⟨xs, ys, xs[i], ys[i]'(by omega), q.1, q.2, List.getElem?_eq_getElem hi, List.getElem?_eq_getElem (by omega)⟩, fun H q => ⟨xs, ys, q.1, q.2, rfl, e.symm⟩, fun i H v H' hi q y => ?_⟩
  obtain ⟨T, x, z, h1, h2, h3, h4, h5⟩ := y
  exact ⟨T, x, z, h1, h2, h3, h4 xs q.1, h5 ys q.2⟩
/-- a list of any things != [] -/
theorem op_neL0 {X : Cx} (hu : X.A.units + 64 < cLine) : OpR X (compareOp .NotEq) (fun x y H Q => ∃ a b xs, x = .ref a ∧ y = .ref b ∧ H a = some (.lst xs) ∧ H b = some (.lst []) ∧ Q (.bl (!xs.isEmpty)) H) := by
  intro pins s σ H x y v u Q I rx ry h
  obtain ⟨a, b, xs, rfl, rfl, ea, eb, q⟩ := h
  cases rx; cases ry
  obtain ⟨its, r1, p1, _⟩ := I.list (SqL.of ea)
  obtain ⟨its2, r2, p2, _⟩ := I.list (SqL.of eb)
  cases r2
  have l := r1.length
  cases xs with
  | nil =>
    cases r1
    exact (PySem.SeqAt.RcNeAt.lists (e := fun _ => true) p1.isList p2.isList rfl (by omega) (fun j h1 _ => absurd h1 (by simp))) _ _ _ _ ⟨.bl false, H, I, rfl, q⟩
  | cons x r =>
    refine (PySem.SeqAt.RcNeAt.lists_lengths p1.isList p2.isList ?_ (by omega)) _ _ _ _ ⟨.bl true, H, I, rfl, q⟩
    rw [List.size_toArray, ← l]
    simp
end Xt
set_option linter.all false
namespace P56
/-! ## rising rows -/
theorem lt_app : ∀ {a b : List Nat} (x y : List Nat), a.length = b.length → a < b → a ++ x < b ++ y
  | [], [], _, _, _, h => absurd h (List.lt_irrefl _)
  | [], _ :: _, _, _, e, _ => by simp at e
  | _ :: _, [], _, _, e, _ => by simp at e
  | a :: as, b :: bs, x, y, e, h => by
    rw [List.cons_append, List.cons_append, List.cons_lt_cons_iff]
    rw [List.cons_lt_cons_iff] at h
    rcases h with h | ⟨h1, h2⟩
    · exact .inl h
    · exact .inr ⟨h1, lt_app x y (by simpa using e) h2⟩
theorem lt_last : ∀ (d : List Nat) {k k' : Nat}, k < k' → d ++ [k] < d ++ [k']
  | [], _, _, h => by rw [List.nil_append, List.nil_append, List.cons_lt_cons_iff]; exact .inl h
  | x :: d, _, _, h => by
    rw [List.cons_append, List.cons_append, List.cons_lt_cons_iff]
    exact .inr ⟨rfl, lt_last d h⟩
/-- two strictly rising rows with the same members -/
theorem up_ext : ∀ {a b : List Nat}, a.Pairwise (· < ·) → b.Pairwise (· < ·) → (∀ k, k ∈ a ↔ k ∈ b) → a = b
  | [], [], _, _, _ => rfl
  | [], y :: b, _, _, h => absurd ((h y).2 List.mem_cons_self) (List.not_mem_nil)
  | x :: a, [], _, _, h => absurd ((h x).1 List.mem_cons_self) (List.not_mem_nil)
  | x :: a, y :: b, ha, hb, h => by
    rw [List.pairwise_cons] at ha hb
    have exy : x = y := by
      have h1 := (h x).1 List.mem_cons_self
      have h2 := (h y).2 List.mem_cons_self
      rw [List.mem_cons] at h1 h2
      rcases h1 with h1 | h1
      · exact h1
      · rcases h2 with h2 | h2
        · exact h2.symm
        · have := ha.1 _ h2; have := hb.1 _ h1; omega
    subst exy
    refine congrArg (x :: ·) (up_ext ha.2 hb.2 fun k => ⟨fun hk => ?_, fun hk => ?_⟩)
    · have := (h k).1 (List.mem_cons_of_mem _ hk)
      rw [List.mem_cons] at this
      rcases this with e | m
      · have := ha.1 _ hk; omega
      · exact m
    · have := (h k).2 (List.mem_cons_of_mem _ hk)
      rw [List.mem_cons] at this
      rcases this with e | m
      · have := hb.1 _ hk; omega
      · exact m
section
variable (held : List (List Int)) (ws : List Int)
def on (k : Nat) (w : Int) : Bool := decide (w ∈ held.getD k [])
def cov (c : List Nat) (w : Int) : Bool := c.any fun k => on held k w
/-- what the choice misses -/
def unc (c : List Nat) : List Int := ws.filter fun w => !cov held c w
def rest (h : List Int) (ms : List Int) : List Int := ms.filter fun w => !decide (w ∈ h)
def first (d : List Nat) : Nat := if 0 < d.length then d.getD (d.length - 1) 0 + 1 else 0
def step (p : List Nat × List Int) : List (List Nat × List Int) :=
  ((List.range' (first p.1) (held.length - first p.1)).map fun k => (p.1 ++ [k], rest (held.getD k []) p.2)).filter fun q => decide (q.2.length < p.2.length)
def level : Nat → List (List Nat × List Int)
  | 0 => [([], ws)]
  | n + 1 => (level n).flatMap (step held)
def hit (l : List (List Nat × List Int)) : Option (List Nat × List Int) := l.find? fun p => decide (p.2.length = 0)
def Up (c : List Nat) : Prop := c.Pairwise (· < ·) ∧ ∀ k ∈ c, k < held.length
def Covers (c : List Nat) : Prop := ∀ w ∈ ws, cov held c w = true
structure Least (c : List Nat) : Prop where
  up : Up held c
  cv : Covers held ws c
  le : ∀ c', Up held c' → Covers held ws c' → ¬ (c'.length < c.length ∨ (c'.length = c.length ∧ c' < c))
variable {held ws}
theorem unc_nil_iff {c : List Nat} : unc held ws c = [] ↔ Covers held ws c := by
  unfold unc Covers
  rw [List.filter_eq_nil_iff]
  exact ⟨fun h w hw => by simpa using h w hw, fun h w hw => by simp [h w hw]⟩
theorem rest_unc {c : List Nat} {k : Nat} : rest (held.getD k []) (unc held ws c) = unc held ws (c ++ [k]) := by
  unfold rest unc
  rw [List.filter_filter]
  refine List.filter_congr fun w _ => ?_
  unfold cov
  rw [List.any_append, List.any_cons, List.any_nil, Bool.or_false, Bool.not_or, Bool.and_comm]
  rfl
theorem first_le {d : List Nat} (h : d.Pairwise (· < ·)) {k : Nat} (hk : first d ≤ k) : ∀ x ∈ d, x < k := by
  intro x hx
  unfold first at hk
  obtain ⟨i, hi, rfl⟩ := List.mem_iff_getElem.1 hx
  have l0 : 0 < d.length := by omega
  rw [if_pos l0] at hk
  have e : d.getD (d.length - 1) 0 = d[d.length - 1] := by simp [List.getD_eq_getElem?_getD, show d.length - 1 < d.length by omega]
  rw [e] at hk
  by_cases c : i = d.length - 1
  · subst c; omega
  · have := List.pairwise_iff_getElem.1 h i (d.length - 1) hi (by omega) (by omega)
    omega
theorem le_first {d : List Nat} {k : Nat} (h : ∀ x ∈ d, x < k) : first d ≤ k := by
  unfold first
  split
  · rename_i l0
    have e : d.getD (d.length - 1) 0 = d[d.length - 1] := by simp [List.getD_eq_getElem?_getD, show d.length - 1 < d.length by omega]
    rw [e]
    exact h _ (List.getElem_mem _)
  · exact Nat.zero_le _
theorem mem_step {p q : List Nat × List Int} : q ∈ step held p ↔ ∃ k, first p.1 ≤ k ∧ k < held.length ∧ q = (p.1 ++ [k], rest (held.getD k []) p.2) ∧ q.2.length < p.2.length := by
  unfold step
  rw [List.mem_filter, List.mem_map]
  constructor
  · rintro ⟨⟨k, hk, rfl⟩, h⟩
    rw [List.mem_range'_1] at hk
    exact ⟨k, hk.1, by omega, rfl, by simpa using h⟩
  · rintro ⟨k, h1, h2, rfl, h⟩
    exact ⟨⟨k, List.mem_range'_1.2 (by omega), rfl⟩, by simpa using h⟩
theorem lev_ok : ∀ (i : Nat) (p : List Nat × List Int), p ∈ level held ws i → p.2 = unc held ws p.1 ∧ p.1.length = i ∧ Up held p.1
  | 0, p, h => by
    rw [level, List.mem_singleton] at h
    subst h
    refine ⟨?_, rfl, List.Pairwise.nil, fun k hk => absurd hk List.not_mem_nil⟩
    unfold unc
    exact (List.filter_eq_self.2 fun w _ => rfl).symm
  | i + 1, q, h => by
    rw [level, List.mem_flatMap] at h
    obtain ⟨p, hp, hq⟩ := h
    obtain ⟨e1, e2, e3⟩ := lev_ok i p hp
    obtain ⟨k, k1, k2, rfl, _⟩ := mem_step.1 hq
    refine ⟨?_, by simp [e2], ?_, ?_⟩
    · show rest (held.getD k []) p.2 = _
      rw [e1, rest_unc]
    · rw [List.pairwise_append]
      exact ⟨e3.1, List.pairwise_singleton _ _, fun a ha b hb => by rw [List.mem_singleton] at hb; subst hb; exact first_le e3.1 k1 a ha⟩
    · intro x hx
      rw [List.mem_append, List.mem_singleton] at hx
      rcases hx with hx | rfl
      · exact e3.2 x hx
      · exact k2
theorem step_sorted (p : List Nat × List Int) : (step held p).Pairwise fun a b => a.1 < b.1 := by
  unfold step
  refine List.Pairwise.filter _ ?_
  rw [List.pairwise_map]
  refine List.Pairwise.imp ?_ (List.pairwise_lt_range' (s := first p.1) (n := held.length - first p.1))
  intro a b h
  exact lt_last _ h
theorem lev_sorted : ∀ i : Nat, (level held ws i).Pairwise fun a b => a.1 < b.1
  | 0 => by rw [level]; exact List.pairwise_singleton _ _
  | i + 1 => by
    rw [level, List.flatMap, List.pairwise_flatten]
    refine ⟨fun l hl => ?_, ?_⟩
    · rw [List.mem_map] at hl
      obtain ⟨p, _, rfl⟩ := hl
      exact step_sorted p
    · rw [List.pairwise_map]
      refine List.Pairwise.imp_of_mem ?_ (lev_sorted i)
      intro a b ha hb h x hx y hy
      obtain ⟨k, _, _, rfl, _⟩ := mem_step.1 hx
      obtain ⟨k', _, _, rfl, _⟩ := mem_step.1 hy
      exact lt_app _ _ ((lev_ok i a ha).2.1.trans (lev_ok i b hb).2.1.symm) h
theorem lev_mem : ∀ (c : List Nat), Up held c → (∀ j, j < c.length → (unc held ws (c.take (j + 1))).length < (unc held ws (c.take j)).length) → (c, unc held ws c) ∈ level held ws c.length := by
  intro c
  generalize hn : c.length = n
  induction n generalizing c with
  | zero =>
    intro _ _
    have : c = [] := List.eq_nil_of_length_eq_zero hn
    subst this
    rw [level, List.mem_singleton]
    refine Prod.ext rfl ?_
    unfold unc
    exact List.filter_eq_self.2 fun w _ => rfl
  | succ n ih =>
    intro up th
    have hlt : n < c.length := by omega
    have ec : c = c.take n ++ [c[n]] := by
      rw [List.take_append_getElem, List.take_of_length_le (by omega)]
    have up' : Up held (c.take n) := ⟨up.1.sublist (List.take_sublist _ _), fun k hk => up.2 k (List.mem_of_mem_take hk)⟩
    have := ih (c.take n) (by rw [List.length_take]; omega) up' fun j hj => by
      have z := th j (by omega)
      rw [List.take_take, List.take_take, Nat.min_eq_left (by omega), Nat.min_eq_left (by omega)]
      exact z
    rw [level, List.mem_flatMap]
    refine ⟨_, this, mem_step.2 ⟨c[n], ?_, up.2 _ (List.getElem_mem _), ?_, ?_⟩⟩
    · refine le_first fun x hx => ?_
      have pw := up.1
      rw [ec, List.pairwise_append] at pw
      exact pw.2.2 x hx _ (List.mem_singleton.2 rfl)
    · show (c, unc held ws c) = (c.take n ++ [c[n]], rest (held.getD c[n] []) (unc held ws (c.take n)))
      rw [rest_unc, ← ec]
    · have z := th n (by omega)
      rw [List.take_of_length_le (by omega : c.length ≤ n + 1)] at z
      exact z
theorem Least.thrifty {c : List Nat} (h : Least held ws c) (j : Nat) (hj : j < c.length) : (unc held ws (c.take (j + 1))).length < (unc held ws (c.take j)).length := by
  refine Nat.lt_of_not_le fun hle => ?_
  have e : c.take (j + 1) = c.take j ++ [c[j]] := (List.take_append_getElem hj).symm
  rw [e, ← rest_unc] at hle
  have full : rest (held.getD c[j] []) (unc held ws (c.take j)) = unc held ws (c.take j) := by
    unfold rest
    refine List.Sublist.eq_of_length_le List.filter_sublist ?_
    exact hle
  have no : ∀ w ∈ unc held ws (c.take j), w ∉ held.getD c[j] [] := fun w hw => by
    rw [← full] at hw
    unfold rest at hw
    simpa using (List.mem_filter.1 hw).2
  refine h.le (c.eraseIdx j) ⟨h.up.1.sublist (List.eraseIdx_sublist _ _), fun k hk => h.up.2 k (List.mem_of_mem_eraseIdx hk)⟩ (fun w hw => ?_) (.inl ?_)
  · have hc := h.cv w hw
    unfold cov at hc ⊢
    rw [List.any_eq_true] at hc ⊢
    obtain ⟨k, hk, ok⟩ := hc
    have ce : c.eraseIdx j = c.take j ++ c.drop (j + 1) := List.eraseIdx_eq_take_drop_succ ..
    rw [ce]
    by_cases kj : k = c[j]
    · subst kj
      have nu : w ∉ unc held ws (c.take j) := fun hu => no w hu (by simpa [on] using ok)
      have cw : cov held (c.take j) w = true := by
        cases q : cov held (c.take j) w with
        | true => rfl
        | false => exact absurd (List.mem_filter.2 ⟨hw, by rw [q]; rfl⟩) nu
      unfold cov at cw
      rw [List.any_eq_true] at cw
      obtain ⟨k', hk', ok'⟩ := cw
      exact ⟨k', List.mem_append_left _ hk', ok'⟩
    · refine ⟨k, ?_, ok⟩
      have hc' : k ∈ c.take j ++ c[j] :: c.drop (j + 1) := by
        rw [← List.drop_eq_getElem_cons hj, List.take_append_drop]; exact hk
      rw [List.mem_append, List.mem_cons] at hc'
      rw [List.mem_append]
      rcases hc' with m | m | m
      · exact .inl m
      · exact absurd m kj
      · exact .inr m
  · rw [List.length_eraseIdx_of_lt hj]; omega
theorem Least.not_before {c : List Nat} (h : Least held ws c) {i : Nat} (hi : i < c.length) : hit (level held ws i) = none := by
  unfold hit
  rw [List.find?_eq_none]
  intro p hp z
  obtain ⟨e1, e2, e3⟩ := lev_ok i p hp
  have z' : p.2 = [] := List.eq_nil_of_length_eq_zero (by simpa using z)
  rw [e1, unc_nil_iff] at z'
  exact h.le p.1 e3 z' (.inl (by omega))
theorem Least.hits {c : List Nat} (h : Least held ws c) : hit (level held ws c.length) = some (c, []) := by
  have m := lev_mem c h.up h.thrifty
  have e0 : unc held ws c = [] := unc_nil_iff.2 h.cv
  rw [e0] at m
  cases q : hit (level held ws c.length) with
  | none =>
    unfold hit at q
    rw [List.find?_eq_none] at q
    exact absurd (by simp) (q _ m)
  | some p =>
    unfold hit at q
    rw [List.find?_eq_some_iff_append] at q
    obtain ⟨hp, as, bs, el, no⟩ := q
    have mp : p ∈ level held ws c.length := by rw [el]; simp
    obtain ⟨e1, e2, e3⟩ := lev_ok _ p mp
    have z' : p.2 = [] := List.eq_nil_of_length_eq_zero (by simpa using hp)
    have cvp : Covers held ws p.1 := by rw [e1, unc_nil_iff] at z'; exact z'
    have srt := lev_sorted (held := held) (ws := ws) c.length
    rw [el] at m srt
    rw [List.mem_append, List.mem_cons] at m
    rcases m with m | m | m
    · exact absurd (no _ m) (by simp)
    · rw [m]
    · rw [List.pairwise_append, List.pairwise_cons] at srt
      exact absurd (.inr ⟨e2, srt.2.1.1 _ m⟩) (h.le p.1 e3 cvp)
end
end P56
set_option linter.all false
namespace P56
/-! ## choices by codes -/
def choice (n code : Nat) : List Nat := (List.range n).filter fun k => code.testBit k
theorem choice_up (n code : Nat) : (choice n code).Pairwise (· < ·) := List.Pairwise.filter _ List.pairwise_lt_range
theorem mem_choice {n code k : Nat} : k ∈ choice n code ↔ k < n ∧ code.testBit k = true := by
  unfold choice
  rw [List.mem_filter, List.mem_range]
theorem choice_len (n code : Nat) : (choice n code).length ≤ n := by
  have := List.length_filter_le (fun k => code.testBit k) (List.range n)
  rw [List.length_range] at this
  exact this
def codeOf (c : List Nat) : Nat := c.foldr (fun k a => 2 ^ k ||| a) 0
theorem codeOf_bit : ∀ (c : List Nat) (j : Nat), (codeOf c).testBit j = decide (j ∈ c)
  | [], j => by simp [codeOf]
  | k :: c, j => by
    have e : codeOf (k :: c) = 2 ^ k ||| codeOf c := rfl
    rw [e, Nat.testBit_or, codeOf_bit c j, Nat.testBit_two_pow]
    by_cases h : k = j
    · simp [h]
    · simp [h, Ne.symm h]
theorem codeOf_lt {n : Nat} : ∀ (c : List Nat), (∀ k ∈ c, k < n) → codeOf c < 2 ^ n
  | [], _ => by simp [codeOf]; exact Nat.two_pow_pos n
  | k :: c, h => by
    have e : codeOf (k :: c) = 2 ^ k ||| codeOf c := rfl
    rw [e]
    exact Nat.or_lt_two_pow (Nat.pow_lt_pow_right (by decide) (h k List.mem_cons_self)) (codeOf_lt c fun j hj => h j (List.mem_cons_of_mem _ hj))
theorem choice_codeOf {n : Nat} {c : List Nat} (up : c.Pairwise (· < ·)) (h : ∀ k ∈ c, k < n) : choice n (codeOf c) = c := by
  refine up_ext (choice_up _ _) up fun k => ?_
  rw [mem_choice, codeOf_bit]
  simp only [decide_eq_true_eq]
  exact ⟨fun q => q.2, fun q => ⟨h k q, q⟩⟩
/-- the lowest bit taken away -/
theorem low_bit {code low : Nat} (h1 : code.testBit low = true) (h0 : ∀ j, j < low → code.testBit j = false) (j : Nat) : (code &&& (code - 1)).testBit j = (code.testBit j && decide (j ≠ low)) := by
  have m0 : code % 2 ^ low = 0 := by
    refine Nat.eq_of_testBit_eq fun i => ?_
    rw [Nat.testBit_mod_two_pow, Nat.zero_testBit]
    by_cases hi : i < low
    · rw [h0 i hi, Bool.and_false]
    · simp [hi]
  have q1 : (code / 2 ^ low) % 2 = 1 := by
    have := h1
    rw [Nat.testBit_eq_decide_div_mod_eq] at this
    exact of_decide_eq_true this
  have ec : code = 2 ^ (low + 1) * (code / 2 ^ low / 2) + 2 ^ low := by
    have a1 := Nat.div_add_mod code (2 ^ low)
    have a2 := Nat.div_add_mod (code / 2 ^ low) 2
    rw [m0] at a1
    rw [q1] at a2
    have a3 : code = 2 ^ low * (2 * (code / 2 ^ low / 2) + 1) := by rw [a2]; omega
    rw [Nat.mul_add, Nat.mul_one, ← Nat.mul_assoc, ← Nat.pow_succ] at a3
    exact a3
  have pp : 0 < 2 ^ low := Nat.two_pow_pos low
  have b1 : ∀ p, (2 ^ (low + 1) * p + 2 ^ low).testBit j = if j < low + 1 then decide (low = j) else p.testBit (j - (low + 1)) := fun p => by
    rw [Nat.testBit_two_pow_mul_add _ (Nat.pow_lt_pow_right (by decide) (Nat.lt_succ_self _)), Nat.testBit_two_pow]
  have b2 : ∀ p, (2 ^ (low + 1) * p + 2 ^ low - 1).testBit j = if j < low + 1 then decide (j < low) else p.testBit (j - (low + 1)) := fun p => by
    rw [show 2 ^ (low + 1) * p + 2 ^ low - 1 = 2 ^ (low + 1) * p + (2 ^ low - 1) by omega, Nat.testBit_two_pow_mul_add _ (by have := Nat.pow_lt_pow_right (a := 2) (by decide) (Nat.lt_succ_self low); omega), Nat.testBit_two_pow_sub_one]
  generalize code / 2 ^ low / 2 = p at ec
  subst ec
  rw [Nat.testBit_and, b1, b2]
  by_cases c1 : j < low + 1
  · simp only [c1, if_true]
    by_cases c2 : low = j
    · simp [c2]
    · simp [c2]
  · simp only [c1, if_false]
    have : j ≠ low := by omega
    simp [this]
theorem and_lt {code : Nat} (h : 0 < code) : code &&& (code - 1) < code := Nat.lt_of_le_of_lt Nat.and_le_right (by omega)
theorem choice_low {n code low : Nat} (hl : low < n) (h1 : code.testBit low = true) (h0 : ∀ j, j < low → code.testBit j = false) : choice n code = low :: choice n (code &&& (code - 1)) := by
  refine up_ext (choice_up _ _) ?_ fun k => ?_
  · rw [List.pairwise_cons]
    refine ⟨fun k hk => ?_, choice_up _ _⟩
    rw [mem_choice, low_bit h1 h0] at hk
    simp only [Bool.and_eq_true, decide_eq_true_eq] at hk
    rcases Nat.lt_trichotomy k low with q | q | q
    · rw [h0 k q] at hk; simp at hk
    · exact absurd q hk.2.2
    · exact q
  · rw [List.mem_cons, mem_choice, mem_choice, low_bit h1 h0]
    simp only [Bool.and_eq_true, decide_eq_true_eq]
    constructor
    · rintro ⟨a, b⟩
      by_cases e : k = low
      · exact .inl e
      · exact .inr ⟨a, b, e⟩
    · rintro (e | ⟨a, b, _⟩)
      · subst e; exact ⟨hl, h1⟩
      · exact ⟨a, b⟩
theorem choice_zero (n : Nat) : choice n 0 = [] := by
  unfold choice
  rw [List.filter_eq_nil_iff]
  simp
/-! ## what a disc, what a choice holds, by bits -/
section
variable (held : List (List Int)) (ws : List Int)
def bitsTo (k : Nat) : Nat → Nat
  | 0 => 0
  | m + 1 => bitsTo k m + if on held k (ws.getD m 0) = true then 2 ^ m else 0
variable {held ws}
theorem bitsTo_lt (k : Nat) : ∀ m, bitsTo held ws k m < 2 ^ m
  | 0 => by simp [bitsTo]
  | m + 1 => by
    have := bitsTo_lt k m
    rw [bitsTo, Nat.pow_succ]
    split <;> omega
theorem bitsTo_bit (k : Nat) : ∀ m j, (bitsTo held ws k m).testBit j = (decide (j < m) && on held k (ws.getD j 0))
  | 0, j => by simp [bitsTo]
  | m + 1, j => by
    have lt := bitsTo_lt (held := held) (ws := ws) k m
    have ih := bitsTo_bit k m j
    rw [bitsTo]
    cases o : on held k (ws.getD m 0) with
    | true =>
      rw [if_pos rfl, Nat.add_comm, show 2 ^ m + bitsTo held ws k m = 2 ^ m * 1 + bitsTo held ws k m by omega, Nat.testBit_two_pow_mul_add _ lt]
      by_cases c1 : j < m
      · rw [if_pos c1, ih]
        simp [c1, Nat.lt_succ_of_lt c1]
      · rw [if_neg c1]
        by_cases c2 : j = m
        · subst c2
          simp [o]
          rw [List.getD_eq_getElem?_getD] at o
          exact o
        · have : ¬ j < m + 1 := by omega
          rw [Nat.testBit_eq_decide_div_mod_eq, show (1 : Nat) / 2 ^ (j - m) = 0 from Nat.div_eq_of_lt (by have := Nat.pow_lt_pow_right (a := 2) (by decide) (show 0 < j - m by omega); omega)]
          simp [this]
    | false =>
      rw [if_neg Bool.false_ne_true, Nat.add_zero, ih]
      by_cases c1 : j < m
      · simp [c1, Nat.lt_succ_of_lt c1]
      · by_cases c2 : j = m
        · subst c2
          simp
          rw [List.getD_eq_getElem?_getD] at o
          exact o
        · have : ¬ j < m + 1 := by omega
          simp [c1, this]
variable (held ws)
def bits (k : Nat) : Nat := bitsTo held ws k ws.length
def told (c : List Nat) : Nat := c.foldr (fun k a => a ||| bits held ws k) 0
variable {held ws}
theorem told_bit (j : Nat) (hj : j < ws.length) : ∀ c, (told held ws c).testBit j = cov held c (ws.getD j 0)
  | [] => by simp [told, cov]
  | k :: c => by
    have e : told held ws (k :: c) = told held ws c ||| bits held ws k := rfl
    rw [e, Nat.testBit_or, told_bit j hj c]
    unfold bits
    rw [bitsTo_bit]
    unfold cov
    rw [List.any_cons, Bool.or_comm]
    simp [hj]
theorem told_lt : ∀ c, told held ws c < 2 ^ ws.length
  | [] => by simp [told]; exact Nat.two_pow_pos _
  | k :: c => by
    have e : told held ws (k :: c) = told held ws c ||| bits held ws k := rfl
    rw [e]
    exact Nat.or_lt_two_pow (told_lt c) (bitsTo_lt k _)
theorem told_full {c : List Nat} : told held ws c = 2 ^ ws.length - 1 ↔ Covers held ws c := by
  constructor
  · intro e w hw
    obtain ⟨j, hj, rfl⟩ := List.mem_iff_getElem.1 hw
    have := told_bit (held := held) (ws := ws) j hj c
    rw [e, Nat.testBit_two_pow_sub_one] at this
    have z : ws.getD j 0 = ws[j] := by simp [List.getD_eq_getElem?_getD, hj]
    rw [z] at this
    rw [← this]
    simpa using hj
  · intro h
    refine Nat.eq_of_testBit_eq fun j => ?_
    rw [Nat.testBit_two_pow_sub_one]
    by_cases hj : j < ws.length
    · rw [told_bit j hj, h]
      · simp [hj]
      · have z : ws.getD j 0 = ws[j] := by simp [List.getD_eq_getElem?_getD, hj]
        rw [z]; exact List.getElem_mem _
    · rw [Nat.testBit_lt_two_pow (Nat.lt_of_lt_of_le (told_lt c) (Nat.pow_le_pow_right (by decide) (by omega)))]
      simp [hj]
theorem told_low {n code low : Nat} (hl : low < n) (h1 : code.testBit low = true) (h0 : ∀ j, j < low → code.testBit j = false) :
    told held ws (choice n code) = told held ws (choice n (code &&& (code - 1))) ||| bits held ws low := by
  rw [choice_low hl h1 h0]
  rfl
end
/-! ## the least of all choices -/
abbrev Pr := Int × List Int
def prLt (p q : Pr) : Bool := decide (p.1 < q.1 ∨ (p.1 = q.1 ∧ p.2 < q.2))
def toI (c : List Nat) : List Int := c.map fun (k : Nat) => (k : Int)
def prOf (c : List Nat) : Pr := ((c.length : Int), toI c)
theorem toI_lt : ∀ a b : List Nat, toI a < toI b ↔ a < b
  | [], [] => by simp [toI, List.lt_irrefl]
  | [], b :: bs => by simp [toI]
  | a :: as, [] => by simp [toI]
  | a :: as, b :: bs => by
    have ih := toI_lt as bs
    unfold toI at ih ⊢
    rw [List.map_cons, List.map_cons, List.cons_lt_cons_iff, List.cons_lt_cons_iff, ih, Int.ofNat_lt, Int.ofNat_inj]
theorem prLt_of (a b : List Nat) : prLt (prOf a) (prOf b) = decide (a.length < b.length ∨ (a.length = b.length ∧ a < b)) := by
  unfold prLt prOf
  simp only [toI_lt, Int.ofNat_lt, Int.ofNat_inj]
theorem prLt_trans {p q r : Pr} (h1 : prLt p q = true) (h2 : prLt q r = true) : prLt p r = true := by
  unfold prLt at *
  simp only [decide_eq_true_eq] at *
  rcases h1 with h1 | ⟨e1, l1⟩ <;> rcases h2 with h2 | ⟨e2, l2⟩
  · left; omega
  · left; omega
  · left; omega
  · right; exact ⟨e1.trans e2, List.lt_trans l1 l2⟩
section
variable (held : List (List Int)) (ws : List Int)
/-- what stands behind the codes below t -/
def Bst (t : Nat) : Option Pr → Prop
  | none => ∀ code, code < t → ¬ Covers held ws (choice held.length code)
  | some p => ∃ code, code < t ∧ Covers held ws (choice held.length code) ∧ p = prOf (choice held.length code) ∧ ∀ c', c' < t → Covers held ws (choice held.length c') → prLt (prOf (choice held.length c')) p = false
variable {held ws}
theorem Bst.zero : Bst held ws 0 none := fun _ h => absurd h (Nat.not_lt_zero _)
theorem Bst.skip {t : Nat} {o : Option Pr} (h : Bst held ws t o) (n : ¬ Covers held ws (choice held.length t)) : Bst held ws (t + 1) o := by
  cases o with
  | none =>
    intro code hc
    by_cases e : code = t
    · subst e; exact n
    · exact h code (by omega)
  | some p =>
    obtain ⟨code, h1, h2, h3, h4⟩ := h
    refine ⟨code, by omega, h2, h3, fun c' hc' cv => ?_⟩
    by_cases e : c' = t
    · subst e; exact absurd cv n
    · exact h4 c' (by omega) cv
def nxt (o : Option Pr) (q : Pr) : Pr := if prLt q (o.getD (99, [])) = true then q else o.getD (99, [])
theorem Bst.take {t : Nat} {o : Option Pr} (h : Bst held ws t o) (hl : held.length < 99) (cv : Covers held ws (choice held.length t)) : Bst held ws (t + 1) (some (nxt o (prOf (choice held.length t)))) := by
  have irr : ∀ p : Pr, prLt p p = false := fun p => by unfold prLt; simp [List.lt_irrefl]
  cases o with
  | none =>
    have lt : prLt (prOf (choice held.length t)) ((none : Option Pr).getD (99, [])) = true := by
      have := choice_len held.length t
      unfold prLt prOf
      simp
      omega
    unfold nxt
    rw [if_pos lt]
    refine ⟨t, by omega, cv, rfl, fun c' hc' cv' => ?_⟩
    by_cases e : c' = t
    · subst e; exact irr _
    · exact absurd cv' (h c' (by omega))
  | some p =>
    obtain ⟨code, h1, h2, h3, h4⟩ := h
    have e0 : (some p).getD ((99, []) : Pr) = p := rfl
    unfold nxt
    rw [e0]
    cases c : prLt (prOf (choice held.length t)) p with
    | true =>
      rw [if_pos rfl]
      refine ⟨t, by omega, cv, rfl, fun c' hc' cv' => ?_⟩
      by_cases e : c' = t
      · subst e; exact irr _
      · cases q : prLt (prOf (choice held.length c')) (prOf (choice held.length t)) with
        | false => rfl
        | true => rw [← h4 c' (by omega) cv', prLt_trans q c]
    | false =>
      rw [if_neg Bool.false_ne_true]
      refine ⟨code, by omega, h2, h3, fun c' hc' cv' => ?_⟩
      by_cases e : c' = t
      · subst e; exact c
      · exact h4 c' (by omega) cv'
/-- behind all codes: the least choice that holds all -/
theorem Bst.end_ {o : Option Pr} (h : Bst held ws (2 ^ held.length) o) (all : ∀ w ∈ ws, ∃ k, k < held.length ∧ on held k w = true) : ∃ c, Least held ws c ∧ o = some (prOf c) := by
  cases o with
  | none =>
    have fl : ∀ k, k < held.length → (2 ^ held.length - 1).testBit k = true := fun k hk => by rw [Nat.testBit_two_pow_sub_one]; simpa using hk
    refine absurd ?_ (h (2 ^ held.length - 1) (by have := Nat.two_pow_pos held.length; omega))
    intro w hw
    obtain ⟨k, hk, ok⟩ := all w hw
    unfold cov
    rw [List.any_eq_true]
    exact ⟨k, mem_choice.2 ⟨hk, fl k hk⟩, ok⟩
  | some p =>
    obtain ⟨code, h1, h2, h3, h4⟩ := h
    refine ⟨choice held.length code, ⟨⟨choice_up _ _, fun k hk => (mem_choice.1 hk).1⟩, h2, fun c' up cv lt => ?_⟩, by rw [h3]⟩
    have e := choice_codeOf up.1 up.2
    have := h4 (codeOf c') (codeOf_lt c' up.2) (by rw [e]; exact cv)
    rw [e, h3, prLt_of] at this
    exact absurd lt (by simpa using this)
end
end P56
set_option linter.all false
namespace P56
section
variable {held : List (List Int)} {ws : List Int}
theorem first_snoc (d : List Nat) (k : Nat) : first (d ++ [k]) = k + 1 := by
  unfold first
  simp
def wt (n : Nat) (p : List Nat × List Int) : Nat := 2 ^ (n - first p.1)
theorem wt_sum (n f : Nat) : ∀ m, f + m ≤ n → ((List.range' f m).map fun k => 2 ^ (n - (k + 1))).sum + 2 ^ (n - (f + m)) ≤ 2 ^ (n - f)
  | 0, _ => by simp
  | m + 1, h => by
    have ih := wt_sum n f m (by omega)
    rw [List.range'_concat, List.map_append, List.sum_append, Nat.one_mul]
    have e : n - (f + m) = n - (f + m + 1) + 1 := by omega
    rw [e, Nat.pow_succ] at ih
    simp only [List.map_cons, List.map_nil, List.sum_cons, List.sum_nil]
    have e2 : f + (m + 1) = f + m + 1 := by omega
    rw [e2]
    omega
theorem sum_filter_le {α : Type} (g : α → Nat) (q : α → Bool) : ∀ l : List α, ((l.filter q).map g).sum ≤ (l.map g).sum
  | [] => Nat.le_refl _
  | x :: r => by
    have ih := sum_filter_le g q r
    rw [List.filter_cons]
    split
    · simp only [List.map_cons, List.sum_cons]; omega
    · simp only [List.map_cons, List.sum_cons]; omega
theorem step_wt (p : List Nat × List Int) : ((step held p).map (wt held.length)).sum ≤ wt held.length p := by
  unfold step
  refine Nat.le_trans (sum_filter_le _ _ _) ?_
  rw [List.map_map]
  have e : (wt held.length ∘ fun k => (p.1 ++ [k], rest (held.getD k []) p.2)) = fun k => 2 ^ (held.length - (k + 1)) := by
    funext k
    show 2 ^ (held.length - first (p.1 ++ [k])) = _
    rw [first_snoc]
  rw [e]
  by_cases h : first p.1 ≤ held.length
  · have := wt_sum held.length (first p.1) (held.length - first p.1) (by omega)
    exact Nat.le_trans (Nat.le_add_right _ _) this
  · rw [show held.length - first p.1 = 0 by omega]
    simp
theorem sum_flat {α β : Type} (g : β → Nat) (u : α → List β) (v : α → Nat) (h : ∀ x, ((u x).map g).sum ≤ v x) : ∀ l : List α, ((l.flatMap u).map g).sum ≤ (l.map v).sum
  | [] => Nat.le_refl _
  | x :: r => by
    have ih := sum_flat g u v h r
    have := h x
    rw [List.flatMap_cons, List.map_append, List.sum_append]
    simp only [List.map_cons, List.sum_cons]
    omega
theorem lev_wt : ∀ i, ((level held ws i).map (wt held.length)).sum ≤ 2 ^ held.length
  | 0 => by simp [level, wt, first]
  | i + 1 => by
    rw [level]
    exact Nat.le_trans (sum_flat _ _ _ step_wt _) (lev_wt i)
theorem len_le_sum {α : Type} (g : α → Nat) (h : ∀ x, 1 ≤ g x) : ∀ l : List α, l.length ≤ (l.map g).sum
  | [] => Nat.le_refl _
  | x :: r => by
    have ih := len_le_sum g h r
    have := h x
    simp only [List.length_cons, List.map_cons, List.sum_cons]
    omega
theorem lev_len (i : Nat) : (level held ws i).length ≤ 2 ^ held.length := Nat.le_trans (len_le_sum (wt held.length) (fun _ => Nat.two_pow_pos _) _) (lev_wt i)
theorem bst_ex (hl : held.length < 99) : ∀ t, ∃ o, Bst held ws t o
  | 0 => ⟨none, Bst.zero⟩
  | t + 1 => by
    obtain ⟨o, h⟩ := bst_ex hl t
    by_cases c : Covers held ws (choice held.length t)
    · exact ⟨_, h.take hl c⟩
    · exact ⟨o, h.skip c⟩
theorem least_ex (hl : held.length < 99) (all : ∀ w ∈ ws, ∃ k, k < held.length ∧ on held k w = true) : ∃ c, Least held ws c := by
  obtain ⟨o, h⟩ := bst_ex (held := held) (ws := ws) hl (2 ^ held.length)
  obtain ⟨c, hc, _⟩ := h.end_ all
  exact ⟨c, hc⟩
theorem Least.uniq {c c' : List Nat} (h : Least held ws c) (h' : Least held ws c') : c = c' := by
  have e : c.length = c'.length := by
    have a := h.le c' h'.up h'.cv
    have b := h'.le c h.up h.cv
    omega
  have a := h.hits
  rw [e, h'.hits] at a
  exact (congrArg Prod.fst (Option.some.inj a)).symm
theorem Least.len {c : List Nat} (h : Least held ws c) : c.length ≤ held.length := by
  rw [← choice_codeOf h.up.1 h.up.2]
  exact choice_len _ _
theorem lev_first {i : Nat} {p : List Nat × List Int} (h : p ∈ level held ws i) : first p.1 ≤ held.length ∧ p.1.length ≤ held.length ∧ p.2.length ≤ ws.length := by
  obtain ⟨e1, e2, e3⟩ := lev_ok i p h
  refine ⟨le_first e3.2, ?_, ?_⟩
  · rw [← choice_codeOf e3.1 e3.2]
    exact choice_len _ _
  · rw [e1]
    exact List.length_filter_le _ _
def none_holds (held : List (List Int)) (w : Int) : Bool := (List.range held.length).all fun k => !on held k w
def lack (held : List (List Int)) (ws : List Int) : Option Int := ws.find? (none_holds held)
theorem lack_none (h : lack held ws = none) : ∀ w ∈ ws, ∃ k, k < held.length ∧ on held k w = true := by
  intro w hw
  unfold lack at h
  rw [List.find?_eq_none] at h
  have z := h w hw
  unfold none_holds at z
  simp only [List.all_eq_true, List.mem_range, Bool.not_eq_true', Classical.not_forall] at z
  obtain ⟨k, hk, ok⟩ := z
  exact ⟨k, hk, by simpa using ok⟩
end
end P56
set_option linter.all false
set_option maxRecDepth 100000
/-! books: what a right one is, and that there is one -/
namespace P56
variable {held : List (List Int)} {ws ms : List Int} {n : Nat}
/-- the discs that hold w -/
def hold (held : List (List Int)) (w : Int) : List Nat := (List.range held.length).filter fun k => on held k w
theorem mem_hold {w : Int} {k : Nat} : k ∈ hold held w ↔ k < held.length ∧ on held k w = true := by
  unfold hold
  rw [List.mem_filter, List.mem_range]
theorem hold_len (w : Int) : (hold held w).length ≤ held.length := by
  unfold hold
  exact Nat.le_trans (List.length_filter_le _ _) (by simp)
/-- no so many discs hold all -/
def NoN (held : List (List Int)) (ms : List Int) (n : Nat) : Prop := ∀ c : List Nat, (∀ k ∈ c, k < held.length) → c.length ≤ n → ¬ Covers held ms c
theorem NoN.ne (h : NoN held ms n) : ms ≠ [] := fun e => h [] (by simp) (Nat.zero_le _) (by subst e; intro w hw; cases hw)
theorem NoN.less (h : NoN held ms (n + 1)) {k : Nat} (hk : k < held.length) : NoN held (rest (held.getD k []) ms) n := by
  intro c hc hl cv
  refine h (k :: c) (fun x hx => ?_) (Nat.succ_le_succ hl) fun w hw => ?_
  · rcases List.mem_cons.mp hx with rfl | hx
    · exact hk
    · exact hc x hx
  · unfold cov
    rw [List.any_cons]
    by_cases e : w ∈ held.getD k []
    · simp only [on, e, decide_true, Bool.true_or]
    · have := cv w (by unfold rest; rw [List.mem_filter]; exact ⟨hw, by simp only [e, decide_false, Bool.not_false]⟩)
      unfold cov at this
      rw [this, Bool.or_true]
theorem few_in : ∀ (l : List Nat), l.Nodup → ∀ c : List Nat, (l.filter fun x => decide (x ∈ c)).length ≤ c.length := by
  have one : ∀ (a : Nat) (l : List Nat), l.Nodup → (l.filter fun x => decide (x = a)).length ≤ 1 := by
    intro a l
    induction l with
    | nil => intro _; simp
    | cons x l ih =>
      intro nd
      have nd' := List.nodup_cons.mp nd
      by_cases e : x = a
      · have : (l.filter fun x => decide (x = a)) = [] := by
          rw [List.filter_eq_nil_iff]
          intro y hy z
          have z : y = a := of_decide_eq_true z
          exact nd'.1 (by rw [e, ← z]; exact hy)
        rw [List.filter_cons, if_pos (by simpa using e), List.length_cons, this]
        exact Nat.le_refl _
      · rw [List.filter_cons, if_neg (by simpa using e)]
        exact ih nd'.2
  have both : ∀ (p q : Nat → Bool) (l : List Nat), (l.filter fun x => p x || q x).length ≤ (l.filter p).length + (l.filter q).length := by
    intro p q l
    induction l with
    | nil => simp
    | cons x l ih =>
      rw [List.filter_cons, List.filter_cons, List.filter_cons]
      cases p x <;> cases q x <;> simp <;> omega
  intro l nd c
  induction c with
  | nil => simp
  | cons a c ih =>
    have e : (l.filter fun x => decide (x ∈ a :: c)) = l.filter fun x => decide (x = a) || decide (x ∈ c) := by
      congr 1
      funext x
      simp
    rw [e, List.length_cons]
    have := both (fun x => decide (x = a)) (fun x => decide (x ∈ c)) l
    have := one a l nd
    omega
theorem noN_least {c : List Nat} (h : Least held ws c) {m : Nat} (hm : m < c.length) : NoN held ws m := by
  intro d hd hl cv
  have nd : (List.range held.length).Nodup := List.nodup_range
  refine h.le ((List.range held.length).filter fun x => decide (x ∈ d)) ⟨List.Pairwise.filter _ List.pairwise_lt_range, fun k hk => List.mem_range.mp (List.mem_filter.mp hk).1⟩ (fun w hw => ?_) (.inl (Nat.lt_of_le_of_lt (few_in _ nd d) (Nat.lt_of_le_of_lt hl hm)))
  have := cv w hw
  unfold cov at this ⊢
  rw [List.any_eq_true] at this ⊢
  obtain ⟨k, hk, e⟩ := this
  exact ⟨k, List.mem_filter.mpr ⟨List.mem_range.mpr (hd k hk), decide_eq_true hk⟩, e⟩
theorem lack_no {w : Int} (h : lack held ws = some w) {c : List Nat} (hc : ∀ k ∈ c, k < held.length) : ¬ Covers held ws c := by
  intro cv
  have hw : w ∈ ws := List.mem_of_find?_eq_some h
  have hn : none_holds held w = true := List.find?_some h
  have := cv w hw
  unfold cov at this
  rw [List.any_eq_true] at this
  obtain ⟨k, hk, e⟩ := this
  unfold none_holds at hn
  rw [List.all_eq_true] at hn
  have := hn k (List.mem_range.mpr (hc k hk))
  rw [e] at this
  cases this
theorem noN_lack {w : Int} (h : lack held ws = some w) (m : Nat) : NoN held ws m := fun c hc _ => lack_no h hc
theorem bst_lack {w : Int} (h : lack held ws = some w) {t : Nat} : ∀ {o : Option Pr}, Bst held ws t o → o = none
  | none, _ => rfl
  | some p, hb => by
    obtain ⟨code, _, cv, _⟩ := hb
    exact absurd cv (lack_no h fun k hk => (mem_choice.mp hk).1)
end P56
set_option linter.all false
set_option maxRecDepth 100000
/-! books: what is asked of a thing of any kind, clause by clause -/
namespace P56
open PySem
variable {hs : List (List Int)} {ws ms : List Int} {n : Nat}
def num : PyData → Int
  | .int i => i
  | _ => 0
/-- a whole number among these -/
def mis (ms : List Int) : PyData → Bool
  | .int g => decide (g ∈ ms)
  | _ => false
theorem mis_int {d : PyData} (h : mis ms d = true) : ∃ g, d = .int g ∧ g ∈ ms := by
  cases d with
  | int g => exact ⟨g, rfl, of_decide_eq_true h⟩
  | _ => cases h
def bsR (ns : List Int) : List Bool := (List.range (ns.length - 1)).map fun i => decide (ns.getD i 0 < ns.getD (i + 1) 0)
def ris (ns : List Int) : Bool := (bsR ns).all id
theorem bsR_at {ns : List Int} {i : Nat} {x y : Int} (e1 : ns[i]? = some x) (e2 : (ns.drop 1)[i]? = some y) : (bsR ns)[i]? = some (decide (x < y)) := by
  rw [List.getElem?_drop, Nat.add_comm] at e2
  have h2 := (List.getElem?_eq_some_iff.mp e2).1
  unfold bsR
  rw [List.getElem?_map, List.getElem?_range (by omega)]
  simp [List.getD_eq_getElem?_getD, e1, e2]
theorem ris_step {ns : List Int} (h : ris ns = true) {i : Nat} (hi : i + 1 < ns.length) : ns[i]'(by omega) < ns[i + 1] := by
  unfold ris at h
  rw [List.all_eq_true] at h
  have := h (decide (ns.getD i 0 < ns.getD (i + 1) 0)) (by unfold bsR; exact List.mem_map.mpr ⟨i, List.mem_range.mpr (by omega), rfl⟩)
  simpa [List.getD_eq_getElem?_getD, List.getElem?_eq_getElem hi, List.getElem?_eq_getElem (show i < ns.length by omega)] using this
theorem ris_iff {ns : List Int} : ris ns = true ↔ ns.Pairwise (· < ·) := by
  refine ⟨fun h => ?_, fun h => ?_⟩
  · rw [List.pairwise_iff_getElem]
    intro i j hi hj hij
    induction j with
    | zero => omega
    | succ j ih =>
      have s := ris_step h (i := j) hj
      rcases Nat.lt_or_ge i j with c | c
      · exact Int.lt_trans (ih (by omega) c) s
      · obtain rfl : i = j := by omega
        exact s
  · unfold ris bsR
    rw [List.all_eq_true]
    intro b hb
    obtain ⟨i, hi, rfl⟩ := List.mem_map.mp hb
    have hi := List.mem_range.mp hi
    have h0 : i < ns.length := by omega
    have h1 : i + 1 < ns.length := by omega
    have := List.pairwise_iff_getElem.mp h i (i + 1) h0 h1 (Nat.lt_succ_self i)
    simpa [List.getD_eq_getElem?_getD, List.getElem?_eq_getElem h0, List.getElem?_eq_getElem h1] using this
/-- no disc holds two of them -/
def shr (hs : List (List Int)) (ns : List Int) : Bool := hs.all fun gs => decide ((ns.filter fun g => decide (g ∈ gs)).length < 2)
theorem two_iff {gs : List Int} : ∀ {ns : List Int}, (ns.filter fun g => decide (g ∈ gs)).length < 2 ↔ ns.Pairwise fun a b => ¬ (a ∈ gs ∧ b ∈ gs)
  | [] => by simp
  | x :: r => by
    have ih := two_iff (gs := gs) (ns := r)
    rw [List.pairwise_cons, List.filter_cons]
    by_cases c : x ∈ gs
    · rw [if_pos (by simpa using c), List.length_cons]
      refine ⟨fun h => ⟨fun b hb ⟨_, h2⟩ => ?_, ih.mp (by omega)⟩, fun ⟨h1, h2⟩ => ?_⟩
      · have : 0 < (r.filter fun g => decide (g ∈ gs)).length := List.length_pos_of_mem (a := b) (List.mem_filter.mpr ⟨hb, by simpa using h2⟩)
        omega
      · have : (r.filter fun g => decide (g ∈ gs)) = [] := by
          rw [List.filter_eq_nil_iff]
          intro b hb h
          exact h1 b hb ⟨c, by simpa using h⟩
        rw [this]
        simp
    · rw [if_neg (by simpa using c)]
      exact ⟨fun h => ⟨fun b _ ⟨h1, _⟩ => c h1, ih.mp h⟩, fun h => ih.mpr h.2⟩
def som (hs : List (List Int)) (ms : List Int) (n : Nat) : PyData → Bool
  | .tuple ds => ds.all (mis ms) && (ris (ds.map num) && (decide (n < ds.length) && shr hs (ds.map num)))
  | _ => false
def endB (hs : List (List Int)) (ms : List Int) (n : Nat) (x : Str) (w : PyData) : Bool := if x = "left" then decide (n = 0) && mis ms w else decide (x = "apart") && som hs ms n w
def tkB (hs : List (List Int)) (rc : List Int → PyData → Bool) (ms : List Int) (w bs : PyData) : Bool := mis ms w && match bs with
  | .tuple us => decide (us.length = (hold hs (num w)).length) && ((hold hs (num w)).zip us).all fun p => rc (rest (hs.getD p.1 []) ms) p.2
  | _ => false
def ibk (hs : List (List Int)) : Nat → List Int → PyData → Bool
  | 0, ms, d => match d with
    | .tuple [.str x, w] => endB hs ms 0 x w
    | _ => false
  | n + 1, ms, d => match d with
    | .tuple [.str x, w] => endB hs ms (n + 1) x w
    | .tuple [.str x, w, bs] => decide (x = "take") && tkB hs (ibk hs n) ms w bs
    | _ => false
/-- the tuples of a thing, one in another, are not too long -/
def Wd : Nat → PyData → Prop
  | 0, d => match d with
    | .tuple _ => False
    | _ => True
  | k + 1, d => match d with
    | .tuple ds => ds.length ≤ 1000 ∧ ∀ e ∈ ds, Wd k e
    | _ => True
theorem Wd.of {k : Nat} {ds : List PyData} (h : Wd k (.tuple ds)) : ds.length ≤ 1000 ∧ ∀ e ∈ ds, ∃ j, Wd j e := by
  cases k with
  | zero => exact h.elim
  | succ k => exact ⟨h.1, fun e he => ⟨k, h.2 e he⟩⟩
end P56
set_option linter.all false
set_option maxRecDepth 100000
/-! books made by hand: their shape, that they are right, that they show what they say -/
namespace P56
open PySem
inductive Al2 (R : Nat → PyData → Prop) : List Nat → List PyData → Prop
  | nil : Al2 R [] []
  | cons {k : Nat} {d : PyData} {ks : List Nat} {ds : List PyData} (h : R k d) (r : Al2 R ks ds) : Al2 R (k :: ks) (d :: ds)
section
variable {R S : Nat → PyData → Prop} {ks : List Nat} {ds : List PyData}
theorem Al2.len (h : Al2 R ks ds) : ds.length = ks.length := by
  induction h with
  | nil => rfl
  | cons _ _ ih => rw [List.length_cons, List.length_cons, ih]
theorem Al2.snoc (h : Al2 R ks ds) {k : Nat} {d : PyData} (q : R k d) : Al2 R (ks ++ [k]) (ds ++ [d]) := by
  induction h with
  | nil => exact .cons q .nil
  | cons h _ ih => exact .cons h ih
theorem Al2.mem (h : Al2 R ks ds) {d : PyData} (m : d ∈ ds) : ∃ k ∈ ks, R k d := by
  induction h with
  | nil => cases m
  | @cons k d' ks ds h r ih =>
    rcases List.mem_cons.mp m with z | z
    · subst z; exact ⟨k, List.mem_cons_self, h⟩
    · obtain ⟨k', h1, h2⟩ := ih z
      exact ⟨k', List.mem_cons_of_mem _ h1, h2⟩
theorem Al2.memL (h : Al2 R ks ds) {k : Nat} (m : k ∈ ks) : ∃ d ∈ ds, R k d := by
  induction h with
  | nil => cases m
  | @cons k' d' ks ds h r ih =>
    rcases List.mem_cons.mp m with z | z
    · subst z; exact ⟨d', List.mem_cons_self, h⟩
    · obtain ⟨d, h1, h2⟩ := ih z
      exact ⟨d, List.mem_cons_of_mem _ h1, h2⟩
theorem Al2.zip (h : Al2 R ks ds) : ∀ p ∈ ks.zip ds, R p.1 p.2 := by
  induction h with
  | nil => intro p hp; cases hp
  | cons h _ ih =>
    intro p hp
    rcases List.mem_cons.mp hp with z | z
    · subst z; exact h
    · exact ih p z
end
def OB (hs : List (List Int)) : Nat → List Int → PyData → Prop
  | 0, ms, d => ∃ g ∈ ms, d = .tuple [.str "left", .int g]
  | n + 1, ms, d => (∃ ns : List Int, ns.Sublist ms ∧ n + 1 < ns.length ∧ shr hs ns = true ∧ d = .tuple [.str "apart", .tuple (ns.map .int)]) ∨
    ∃ g ∈ ms, ∃ us : List PyData, d = .tuple [.str "take", .int g, .tuple us] ∧ Al2 (fun k u => OB hs n (rest (hs.getD k []) ms) u) (hold hs g) us
variable {hs : List (List Int)}
theorem rest_up {gs ms : List Int} (h : ms.Pairwise (· < ·)) : (rest gs ms).Pairwise (· < ·) := h.sublist List.filter_sublist
theorem rest_len {gs ms : List Int} : (rest gs ms).length ≤ ms.length := List.length_filter_le _ _
theorem ob_ibk : ∀ {n : Nat} {ms : List Int} {d : PyData}, ms.Pairwise (· < ·) → OB hs n ms d → ibk hs n ms d = true
  | 0, ms, d, up, h => by
    obtain ⟨g, hg, rfl⟩ := h
    simp [ibk, endB, mis, hg]
  | n + 1, ms, d, up, h => by
    rcases h with ⟨ns, sub, ln, sh, rfl⟩ | ⟨g, hg, us, rfl, al⟩
    · have e1 : (ns.map PyData.int).map num = ns := by rw [List.map_map]; exact List.map_id _
      have e2 : (ns.map PyData.int).all (mis ms) = true := by
        rw [List.all_eq_true]
        intro d hd
        obtain ⟨g, hg, rfl⟩ := List.mem_map.mp hd
        exact decide_eq_true (sub.subset hg)
      have e3 : ris ns = true := ris_iff.mpr (up.sublist sub)
      show endB hs ms (n + 1) "apart" (.tuple (ns.map .int)) = true
      unfold endB
      rw [if_neg (by decide)]
      unfold som
      dsimp only
      rw [e2, e1, e3, sh, List.length_map, decide_eq_true ln]
      rfl
    · show (decide (("take" : Str) = "take") && tkB hs (ibk hs n) ms (.int g) (.tuple us)) = true
      unfold tkB
      rw [show mis ms (.int g) = true from decide_eq_true hg]
      show (decide (("take" : Str) = "take") && (true && (decide (us.length = (hold hs g).length) && ((hold hs g).zip us).all _))) = true
      rw [decide_eq_true (al.len), decide_eq_true rfl]
      simp only [Bool.true_and]
      rw [List.all_eq_true]
      intro p hp
      exact ob_ibk (rest_up up) (al.zip p hp)
theorem wd_ints (k : Nat) {ns : List Int} (h : ns.length ≤ 1000) : Wd (k + 1) (.tuple (ns.map .int)) := by
  refine ⟨by rw [List.length_map]; exact h, fun e he => ?_⟩
  obtain ⟨i, _, rfl⟩ := List.mem_map.mp he
  cases k <;> trivial
theorem ob_wd (l12 : hs.length ≤ 12) : ∀ {n : Nat} {ms : List Int} {d : PyData}, ms.length ≤ 20 → OB hs n ms d → Wd (2 * n + 2) d
  | 0, ms, d, l, h => by
    obtain ⟨g, hg, rfl⟩ := h
    refine ⟨by show 2 ≤ 1000; decide, fun e he => ?_⟩
    simp only [List.mem_cons, List.not_mem_nil, or_false] at he
    rcases he with rfl | rfl <;> trivial
  | n + 1, ms, d, l, h => by
    rcases h with ⟨ns, sub, ln, sh, rfl⟩ | ⟨g, hg, us, rfl, al⟩
    · have := sub.length_le
      refine ⟨by show 2 ≤ 1000; decide, fun e he => ?_⟩
      simp only [List.mem_cons, List.not_mem_nil, or_false] at he
      rcases he with rfl | rfl
      · trivial
      · exact wd_ints _ (by omega)
    · have h1 := al.len
      have h2 := hold_len (held := hs) g
      refine ⟨by show 3 ≤ 1000; decide, fun e he => ?_⟩
      simp only [List.mem_cons, List.not_mem_nil, or_false] at he
      rcases he with rfl | rfl | rfl
      · trivial
      · trivial
      · refine ⟨by omega, fun e he => ?_⟩
        obtain ⟨k, _, hk⟩ := al.mem he
        exact ob_wd l12 (Nat.le_trans rest_len l) hk
/-- discs that hold all of some, of which none holds two, are as many at least -/
theorem few_apart : ∀ {ns : List Int} {c : List Nat}, (∀ gs ∈ hs, ns.Pairwise fun a b => ¬ (a ∈ gs ∧ b ∈ gs)) → (∀ k ∈ c, k < hs.length) → Covers hs ns c → ns.length ≤ c.length
  | [], c, _, _, _ => Nat.zero_le _
  | x :: r, c, pw, hc, cv => by
    have hx := cv x List.mem_cons_self
    unfold cov at hx
    rw [List.any_eq_true] at hx
    obtain ⟨k, hk, ho⟩ := hx
    have kl := hc k hk
    have xk : x ∈ hs.getD k [] := of_decide_eq_true ho
    have gm : hs.getD k [] ∈ hs := by rw [List.getD_eq_getElem?_getD, List.getElem?_eq_getElem kl]; exact List.getElem_mem kl
    have h2 : Covers hs r (c.erase k) := fun w hw => by
      have := cv w (List.mem_cons_of_mem _ hw)
      unfold cov at this ⊢
      rw [List.any_eq_true] at this ⊢
      obtain ⟨j, hj, oj⟩ := this
      refine ⟨j, ?_, oj⟩
      have njk : j ≠ k := fun z => by
        subst z
        exact (List.pairwise_cons.mp (pw _ gm)).1 w hw ⟨xk, of_decide_eq_true oj⟩
      exact (List.mem_erase_of_ne njk).mpr hj
    have := few_apart (c := c.erase k) (fun gs hg => (List.pairwise_cons.mp (pw gs hg)).2) (fun j hj => hc j (List.mem_of_mem_erase hj)) h2
    rw [List.length_erase_of_mem hk] at this
    have : 0 < c.length := List.length_pos_of_mem hk
    rw [List.length_cons]
    omega
theorem noN_take {ms : List Int} {g : Int} {n : Nat} (hg : g ∈ ms) (h : ∀ k ∈ hold hs g, NoN hs (rest (hs.getD k []) ms) n) : NoN hs ms (n + 1) := fun c hc lc cv => by
  have hx := cv g hg
  unfold cov at hx
  rw [List.any_eq_true] at hx
  obtain ⟨k, hk, ho⟩ := hx
  have kl := hc k hk
  refine h k (mem_hold.mpr ⟨kl, ho⟩) (c.erase k) (fun j hj => hc j (List.mem_of_mem_erase hj)) ?_ fun w hw => ?_
  · rw [List.length_erase_of_mem hk]
    omega
  · unfold rest at hw
    rw [List.mem_filter] at hw
    have := cv w hw.1
    unfold cov at this ⊢
    rw [List.any_eq_true] at this ⊢
    obtain ⟨j, hj, oj⟩ := this
    refine ⟨j, ?_, oj⟩
    have njk : j ≠ k := fun z => by
      subst z
      have : w ∈ hs.getD j [] := of_decide_eq_true oj
      have h2 := hw.2
      rw [decide_eq_true this] at h2
      cases h2
    exact (List.mem_erase_of_ne njk).mpr hj
theorem ob_noN : ∀ {n : Nat} {ms : List Int} {d : PyData}, OB hs n ms d → NoN hs ms n
  | 0, ms, d, h => fun c _ lc cv => by
    obtain ⟨g, hg, _⟩ := h
    have := cv g hg
    rw [List.eq_nil_of_length_eq_zero (Nat.le_zero.mp lc)] at this
    cases this
  | n + 1, ms, d, h => by
    rcases h with ⟨ns, sub, ln, sh, _⟩ | ⟨g, hg, us, _, al⟩
    · intro c hc lc cv
      unfold shr at sh
      rw [List.all_eq_true] at sh
      have := few_apart (fun gs hg => two_iff.mp (of_decide_eq_true (sh gs hg))) hc (fun w hw => cv w (sub.subset hw))
      omega
    · refine noN_take hg fun k hk => ?_
      obtain ⟨d, _, hd⟩ := al.memL hk
      exact ob_noN hd
/-- whatever is taken for a book shows what it says -/
theorem ibk_noN : ∀ {n : Nat} {ms : List Int} {d : PyData}, ibk hs n ms d = true → NoN hs ms n := by
  have fin : ∀ {n : Nat} {ms : List Int} {x : Str} {w : PyData}, endB hs ms n x w = true → NoN hs ms n := by
    intro n ms x w h
    unfold endB at h
    by_cases xl : x = "left"
    · rw [if_pos xl, Bool.and_eq_true] at h
      obtain ⟨g, rfl, hg⟩ := mis_int h.2
      obtain rfl := of_decide_eq_true h.1
      exact ob_noN (d := .tuple [.str "left", .int g]) ⟨g, hg, rfl⟩
    · rw [if_neg xl, Bool.and_eq_true] at h
      have h2 := h.2
      cases w with
      | tuple ds =>
        unfold som at h2
        simp only [Bool.and_eq_true] at h2
        obtain ⟨h3, h4, h5, h6⟩ := h2
        intro c hc lc cv
        unfold shr at h6
        rw [List.all_eq_true] at h6
        have := few_apart (fun gs hg => two_iff.mp (of_decide_eq_true (h6 gs hg))) hc (fun w hw => by
          obtain ⟨d, hd, rfl⟩ := List.mem_map.mp hw
          obtain ⟨g, rfl, hg⟩ := mis_int (List.all_eq_true.mp h3 d hd)
          exact cv g hg)
        rw [List.length_map] at this
        have := of_decide_eq_true h5
        omega
      | _ => cases h2
  intro n
  induction n with
  | zero =>
    intro ms d h
    unfold ibk at h
    split at h
    · exact fin h
    · cases h
  | succ n ih =>
    intro ms d h
    unfold ibk at h
    split at h
    · exact fin h
    · rename_i x w bs
      rw [Bool.and_eq_true] at h
      have h2 := h.2
      unfold tkB at h2
      rw [Bool.and_eq_true] at h2
      obtain ⟨g, rfl, hg⟩ := mis_int h2.1
      have h3 := h2.2
      cases bs with
      | tuple us =>
        replace h3 : (decide (us.length = (hold hs g).length) && ((hold hs g).zip us).all fun p => ibk hs n (rest (hs.getD p.1 []) ms) p.2) = true := h3
        rw [Bool.and_eq_true] at h3
        have lu := of_decide_eq_true h3.1
        refine noN_take hg fun k hk => ?_
        obtain ⟨i, hi, ei⟩ := List.getElem_of_mem hk
        have hz : (k, us[i]'(by omega)) ∈ (hold hs g).zip us := by
          refine List.mem_of_getElem? (i := i) ?_
          rw [List.getElem?_zip_eq_some]
          exact ⟨by rw [List.getElem?_eq_getElem hi, ei], List.getElem?_eq_getElem (by omega)⟩
        exact ih (List.all_eq_true.mp h3.2 _ hz)
      | _ => cases h3
    · cases h
end P56
set_option linter.all false
set_option maxRecDepth 100000
/-! the wish that is on the fewest discs, of these the least; the book that is made of it -/
namespace P56
open PySem PySem.W
def ltP (p q : Int × Int) : Bool := decide (p.1 < q.1 ∨ (p.1 = q.1 ∧ p.2 < q.2))
def cntP (hs : List (List Int)) (g : Int) : Int × Int := (((hold hs g).length : Nat), g)
theorem ltP_irr (p : Int × Int) : ltP p p = false := decide_eq_false (by omega)
theorem ltP_tr {p q r : Int × Int} (h1 : ltP p q = true) (h2 : ltP q r = true) : ltP p r = true := by
  have a := of_decide_eq_true h1
  have b := of_decide_eq_true h2
  exact decide_eq_true (by omega)
theorem lt_twos (a b c d : Int) : dataLt (.tuple [.int a, .int b]) (.tuple [.int c, .int d]) = ltP (a, b) (c, d) := by
  rw [dataLt_pair (by simp [alike]) (by simp [alike]), dataLt_int, dataLt_int]
  unfold ltP
  simp only [PyData.eqv]
  by_cases h1 : a = c
  · subst h1
    by_cases h2 : b = d
    · subst h2
      simp
    · simp [h2]
  · simp [h1]
def IsW (hs : List (List Int)) (ms : List Int) (g : Int) : Prop := g ∈ ms ∧ ∀ g' ∈ ms, ltP (cntP hs g') (cntP hs g) = false
theorem IsW.uniq {hs : List (List Int)} {ms : List Int} {g g' : Int} (h : IsW hs ms g) (h' : IsW hs ms g') : g = g' := by
  have a := of_decide_eq_false (h.2 g' h'.1)
  have b := of_decide_eq_false (h'.2 g h.1)
  unfold cntP at a b
  dsimp only at a b
  omega
def BD (hs : List (List Int)) : Nat → List Int → PyData → Prop
  | 0, ms, d => ∃ g, IsW hs ms g ∧ d = .tuple [.str "left", .int g]
  | n + 1, ms, d => ∃ g, IsW hs ms g ∧ ∃ us : List PyData, d = .tuple [.str "take", .int g, .tuple us] ∧ Al2 (fun k u => BD hs n (rest (hs.getD k []) ms) u) (hold hs g) us
theorem Al2.uniq {R : Nat → PyData → Prop} (u : ∀ k d d', R k d → R k d' → d = d') {ks : List Nat} {ds : List PyData} (h : Al2 R ks ds) : ∀ {ds' : List PyData}, Al2 R ks ds' → ds = ds' := by
  induction h with
  | nil => intro ds' h'; cases h'; rfl
  | cons h _ ih =>
    intro ds' h'
    cases h' with
    | cons h2 r2 => rw [u _ _ _ h h2, ih r2]
theorem BD.uniq {hs : List (List Int)} : ∀ {n : Nat} {ms : List Int} {d d' : PyData}, BD hs n ms d → BD hs n ms d' → d = d'
  | 0, ms, d, d', ⟨g, h, e⟩, ⟨g', h', e'⟩ => by rw [e, e', h.uniq h']
  | n + 1, ms, d, d', ⟨g, h, us, e, a⟩, ⟨g', h', us', e', a'⟩ => by
    obtain rfl := h.uniq h'
    have q : us = us' := Al2.uniq (R := fun k u => BD hs n (rest (hs.getD k []) ms) u) (fun k d d' x y => BD.uniq x y) a a'
    rw [e, e', q]
theorem Al2.imp {R S : Nat → PyData → Prop} (i : ∀ k d, R k d → S k d) {ks : List Nat} {ds : List PyData} (h : Al2 R ks ds) : Al2 S ks ds := by
  induction h with
  | nil => exact .nil
  | cons h _ ih => exact .cons (i _ _ h) ih
theorem BD.ob {hs : List (List Int)} : ∀ {n : Nat} {ms : List Int} {d : PyData}, BD hs n ms d → OB hs n ms d
  | 0, ms, d, ⟨g, h, e⟩ => ⟨g, h.1, e⟩
  | n + 1, ms, d, ⟨g, h, us, e, a⟩ => .inr ⟨g, h.1, us, e, a.imp fun k d x => BD.ob x⟩
end P56
set_option Elab.async false
set_option linter.all false
set_option maxRecDepth 100000
set_option maxHeartbeats 4000000
namespace K62
open PySem PySem.Spec PyProof.Rows L2
/-! ## defs that show things: promises where no showing is under way -/
structure Gn (P : Program) (w : World) (K : PySem.W.Frag) (mg : Str → Option Value) (base : Heap) (k : Nat) (f : Addr) (fd : FuncData) (ps : List Str) (sp : Sp) : Prop where
  many : ∀ vs H Q E, sp vs H Q E → vs.length = ps.length
  go : ∀ (A : Around) (outer : List Env) (s : Shared) (H : Hp) (args : Args) (us : List Value) (vs : List V) (Q : VK) (E : XK), A.guards = some [] → Room k A →
    Env0 P w K mg base A outer s H → BindsTo s fd args (ps.zip us) → Vals vs us → sp vs H Q E → codeAny (model P w) A (.call (.ref f) args) (CR CX0 outer P w H s Q E) s
section
variable {P : Program} {w : World} {K : PySem.W.Frag} {mg : Str → Option Value} {base : Heap}
theorem gn_body {x qual : Str} {st : Stmt} {f : Addr} {fd : FuncData} {N ps : List Str} {k : Nat} {sp : Sp} (F : Fun K x qual st f fd) (S : FnScope N ps (defScope st))
    (many : ∀ vs H Q E, sp vs H Q E → vs.length = ps.length)
    (body : ∀ (cdv : Value) (A : Around) (outer : List Env) (s : Shared) (H : Hp) (vs : List V) (Q : VK) (E : XK), A.guards = some [] →
      Room k (A.deeper (envOfC qual (defScope st) s.heap.objs.size f cdv)) → sp vs H Q E →
      ∃ t, PSs (cxOf CX0 P w K mg base N qual (defScope st) f cdv A outer s H E).nox (defBody st) t ∧ t { nx := fun _ H' => Q .non H', rt := Q } (start N vs) H) :
    Gn P w K mg base (k + 1) f fd ps sp := by
  obtain ⟨oc, od, kV, doc, pm, an, cdv, ct, osl, rfl, lk, hcd⟩ := F.ex
  refine ⟨many, fun A outer s H args us vs Q E hg room en bd rv hsp => ?_⟩
  have kin : K.In s.heap := en.mod.kin.keeps fun b o q => (en.bs b o q).1
  refine Att.call_fn kin (en.mod.nolimit.keeps fun b o q => (en.bs b o q).1) lk hcd room.depth bd ?_ (fun s1 inc => ?_) S.co S.gen S.kind
  · refine List.all_eq_true.mpr fun y hy => ?_
    rcases S.par y.1 (List.of_mem_zip (a := y.1) (b := y.2) hy).1 with q | q
    · rw [q]; rfl
    · rw [q]; rfl
  · obtain ⟨t, ht, hq⟩ := body cdv A outer s H vs Q E hg (room.deeper _) hsp
    have I := inv_start (CX := CX0) (E := E) S room.hd en (many _ _ _ _ hsp) rv inc
    refine wpAny_mono (ht.nox.run [] s1 _ H _ I hq) (fun fl s' hs => ?_) fun _ _ z => z
    cases fl with
    | ret u =>
      obtain ⟨v, _, H', J, r, q⟩ := hs
      exact ⟨v, H', J.os, J.bare, J.base, J.hok, r, q⟩
    | next =>
      obtain ⟨_, H', J, q⟩ := hs
      exact ⟨.non, H', J.os, J.bare, J.base, J.hok, rfl, q⟩
    | brk =>
      obtain ⟨_, _, _, z⟩ := hs
      exact False.elim z
    | cont =>
      obtain ⟨_, _, _, z⟩ := hs
      exact False.elim z
end
section
variable {X : Cx} {k : Nat} {f : Addr} {fd : FuncData} {ps : List Str} {sp : Sp} {x : Str} {p pos : Pos} {e : Expr} {es : List Expr} {t : TA}
theorem pe_gn (F : Gn X.prog X.w X.K X.mg X.base k f fd ps sp) (quiet : X.A.guards = some []) (room : Room k X.A) (gl : Gl X x) (mgf : X.mg x = some (.ref f))
    (kp : PySem.W.keepIn X.K (.ref f) = true) (bd : Binds X.K fd ps []) (ha : PA X (e :: es) t) (hdb : (x == ("__debug__" : Str)) = false := by decide)
    (he : starEach (e :: es) X.env = (false, eval e X.env) :: starEach es X.env := by rfl) (hpl : (backTo pos (starEach es X.env)).any (·.1) = false := by rfl) :
    PE X (.Call (.Name x p) (e :: es) [] pos) (tCall sp [] E0 t) := by
  refine ⟨fun pins s σ H Q I h => wpAny_Call_Name_kw (ld_glob I gl mgf ?_ hdb)⟩
  refine PySem.W.callWith_K (h₀ := X.base) I.ok.mod.kin kp ?_ he hpl
  refine thn (ha.run pos pins s σ H _ I h) fun us s1 z => ?_
  obtain ⟨vs, H1, I1, rv, q⟩ := z
  have q' : sp vs H1 Q E0 := by
    have z := q
    rw [List.append_nil] at z
    exact z
  have many : us.length = ps.length := rv.length.symm.trans (F.many _ _ _ _ q')
  have b1 := bd s1 us I1.kIn (by rw [List.append_nil]; exact many)
  rw [List.append_nil] at b1
  refine ⟨I1.kIn, wpAny_call (codeAny_mono (F.go X.A X.stack s1 H1 ⟨us, []⟩ us vs Q E0 quiet room I1.env0 b1 rv q') fun r s' hr => ?_)⟩
  cases r with
  | error z => exact False.elim hr
  | ok fl =>
    cases fl with
    | ret u => exact I1.after hr
    | next => exact False.elim hr
    | brk => exact False.elim hr
    | cont => exact False.elim hr
/-- repr of data at any depth -/
theorem cr_reprD (quiet : X.A.guards = some []) (room : Room k X.A) : CallR X (.builtin "repr") (fun xs H Q => ∃ (a : Addr) (d : PyData), xs = [.ref a] ∧ Dp X.K H (.ref a) d ∧ d.showable = true ∧ d.hasDict = false ∧
    d.depth ≤ 50 ∧ d.shown.length ≤ sizeLine ∧ Q (.str d.shown) H) := by
  intro pins s σ H xs us Q I r h
  obtain ⟨a, d, rfl, hd, hs, hn, hp, hz, q⟩ := h
  obtain ⟨u, rfl, rx⟩ := vals1 r
  obtain ⟨as, rd⟩ := Dp.reads I d _ u hd rx
  cases rx
  have hu := room.units
  exact repr_of_reads' rd hs (fun z => absurd (hn.symm.trans z) Bool.false_ne_true) quiet (by omega) (fun _ _ z => z) (fun h' u tk kept => ⟨.str d.shown, H, I.kept kept, ⟨u, rfl⟩, q⟩) hz
theorem cr_repr_bl : CallR X (.builtin "repr") (fun xs H Q => ∃ b : Bool, xs = [.bl b] ∧ Q (.str (if b then "True" else "False")) H) := by
  intro pins s σ H xs us Q I r h
  obtain ⟨b, rfl, q⟩ := h
  obtain ⟨u, rfl, rx⟩ := vals1 r
  cases rx
  exact PySem.P.repr_of_bool ⟨.str _, H, I.tok _, ⟨_, rfl⟩, q⟩
end
end K62
set_option Elab.async false
set_option linter.all false
set_option maxRecDepth 100000
set_option maxHeartbeats 4000000
namespace K62
open PySem PySem.Spec PyProof.Rows L2
theorem law_go {P : Program} {w : World} {K : PySem.W.Frag} {mg mb : Str → Option Value} {k : Nat} {fa a : Addr} {fd : FuncData} {x : Str} {sp : Sp} {z : Shared} {vs : List Value} {ns : List Int}
    (kin : K.In z.heap) (nsG : z.heap.Ns mainGlobals mg) (nsB : z.heap.Ns builtinsNs mb) (same : ∀ y : Str, y ≠ "__name__" → mb y = bootBuiltins y) (lim : z.heap.NoLimit) (dig : z.heap.NoDigits) (no : z.gens = #[])
    (at_ : z.heap.get? a = some { cls := .type "list", data := .seq vs.toArray }) (intsA : IntsAre vs ns) (many : ns.length ≤ sizeLine) (room : Room k callerA)
    (F : ∀ base : Heap, K.In base → base.Ns mainGlobals mg → base.NoDigits → Gn P w K mg base k fa fd [x] sp) (bind : ∀ (s : Shared) (u : Value), BindsTo s fd ⟨[u], []⟩ [(x, u)])
    (hsp : ∀ H : Hp, SqL K H a (ns.map V.int) → sp [.ref a] H (fun v _ => v = .bl true) fun _ _ _ => False) :
    codeAny (model P w) callerA (.call (.ref fa) ⟨[.ref a], []⟩) (fun r s' => r = .ok (.ret (.bool true)) ∧ OldK z.heap s'.heap ∧ s'.os = z.os ∧ AllBare s'.gens) z := by
  have rv : Vals (ns.map V.int) vs := vals_ints intsA
  have sz : (ns.map V.int).length ≤ sizeLine := by rw [List.length_map]; exact many
  -- what is tracked: the script, unless it is the module's own
  let u : HO := .frz { cls := .type "list", data := .seq vs.toArray } (.lst (ns.map V.int))
  let H : Hp := fun b => if b = a ∧ K.lookup a = none then some u else none
  have only : ∀ b o, H b = some o → b = a ∧ K.lookup a = none ∧ o = u := fun b o e => by
    by_cases c : b = a ∧ K.lookup a = none
    · have e2 : H b = some u := if_pos c
      rw [e2] at e
      exact ⟨c.1, c.2, (Option.some.inj e).symm⟩
    · have e2 : H b = none := if_neg c
      rw [e2] at e
      cases e
  have sq : SqL K H a (ns.map V.int) := by
    cases hk : K.lookup a with
    | none => exact .inl (.inr ⟨_, if_pos ⟨rfl, hk⟩⟩)
    | some o =>
      have e := kin a o hk
      rw [at_] at e
      cases e
      exact .inr ⟨_, vs.toArray, _, hk, rfl, rfl, rfl, by rw [List.size_toArray, ← rv.length]; exact sz, by simpa using rv⟩
  have hok : HOk P w H z.heap := fun b o e => by
    obtain ⟨rfl, _, rfl⟩ := only b o e
    exact ⟨at_, sz, vs, _, rv, at_⟩
  have dictFree : ∀ {b : Addr} {o : Obj} {es : Array DictEntry} {ep : Nat}, z.heap.get? b = some o → o.data = .dict es ep → H b = none := fun {b o es ep} e d => by
    cases q : H b with
    | none => rfl
    | some v =>
      obtain ⟨rfl, _, _⟩ := only b v q
      rw [at_] at e
      cases e
      cases (show Data.seq vs.toArray _ = Data.dict es ep from d)
  have nsK : ∀ {b : Addr} {m : Str → Option Value}, z.heap.Ns b m → (hidT z.heap H).Ns b m := fun {b m} q => by
    obtain ⟨o, es, ep, e, d, r⟩ := q
    exact ⟨o, es, ep, hidT_get e (dictFree e d), d, r⟩
  have kb : K.In (hidT z.heap H) := fun b o e => by
    refine hidT_get (kin b o e) ?_
    cases q : H b with
    | none => rfl
    | some v =>
      obtain ⟨rfl, n, _⟩ := only b v q
      rw [n] at e
      cases e
  have limB : (hidT z.heap H).NoLimit := by
    obtain ⟨mc, h1, h2⟩ := lim
    exact ⟨mc, nsK h1, h2⟩
  have digB : (hidT z.heap H).NoDigits := by
    obtain ⟨mc, h1, h2⟩ := dig
    exact ⟨mc, nsK h1, h2⟩
  have en : Env0 P w K mg (hidT z.heap H) callerA [] z H :=
    ⟨rfl, ⟨kb, nsK nsG, ⟨mb, nsK nsB, same⟩, limB⟩, fun _ _ e => of_hidT e, Nat.le_of_eq (hidT_size _ _), trivial, (fun b hb => absurd (show b ∈ ([] : List Addr) from hb) List.not_mem_nil), hok, .of_eq no⟩
  refine codeAny_mono ((F _ kb (nsK nsG) digB).go callerA [] z H ⟨[.ref a], []⟩ [.ref a] [.ref a] _ _ rfl room en (bind z (.ref a)) (.cons rfl .nil) (hsp H sq)) fun r s' h => ?_
  match r, h with
  | .error e, h => exact False.elim h
  | .ok .next, h => exact False.elim h
  | .ok .brk, h => exact False.elim h
  | .ok .cont, h => exact False.elim h
  | .ok (.ret y), h =>
    obtain ⟨v, H', os, bare, un, hok', r', q⟩ := h
    obtain rfl : v = .bl true := q
    obtain rfl : y = Value.bool true := r'
    refine ⟨rfl, OldK.of_keep fun b o e => ?_, os, bare⟩
    cases q : H b with
    | none => exact un.keep b o e q (fun y => by cases y) (fun y => by cases y)
    | some v =>
      obtain ⟨rfl, _, rfl⟩ := only b v q
      have e2 := (hok' _ _ (un.frzs _ _ _ q)).1
      rw [at_] at e
      cases e
      exact e2
theorem walk_go {l : PySem.W.OpenLaw} {n k : Nat} {q : Program} {loose : List Str} {XP : (Str → Option Value) → Heap → Prop} {YP : World → Heap → Prop} {d : DefRec} {K : Params → PySem.W.Frag} {sp : PySem.W.Frag → Sp} {x : Str}
    (most : l.most = some n) (small : n ≤ sizeLine) (nodef : d.params.defaults = []) (room : Room k callerA) (hY : ∀ (w : World) (h : Heap), YP w h → (K w.params).In h)
    (F : ∀ (w : World) (mg : Str → Option Value) (fa : Addr) (h : Heap), (K w.params).In h → h.Ns mainGlobals mg → mg d.name = some (.ref fa) →
      ∃ fd : FuncData, (∀ (s : Shared) (u : Value), BindsTo s fd ⟨[u], []⟩ [(x, u)]) ∧ ∀ base : Heap, (K w.params).In base → base.Ns mainGlobals mg → base.NoDigits →
        Gn l.prog w (K w.params) mg base k fa fd [x] (sp (K w.params)))
    (hsp : ∀ (K : PySem.W.Frag) (H : Hp) (a : Addr) (ns : List Int), ns.length ≤ n → SqL K H a (ns.map V.int) → sp K [.ref a] H (fun v _ => v = .bl true) fun _ _ _ => False) :
    PySem.W.WalkO q loose XP YP l.row.toRowW d [] (fun f vs => PySem.call f vs) := by
  refine Att.attach_call most nodef fun w s₀ s₁ mg mb fa o pm cd doc a vs ns G Y _ _ _ hmg hobj hints hlen hg => ?_
  have kin := hY w _ Y
  obtain ⟨fd, hb, hF⟩ := F w mg fa _ kin G.T.g hmg
  exact law_go kin G.T.g G.T.b G.T.builtins G.T.nolimit G.T.nodigits hg hobj hints (Nat.le_trans hlen small) room hF hb fun H hS => hsp _ H a ns hlen hS
end K62
set_option Elab.async false
set_option linter.all false
set_option maxRecDepth 100000
set_option maxHeartbeats 4000000
set_option pp.maxSteps 400
set_option pp.deepTerms false
namespace K62
open PySem PySem.Spec PyProof.Rows L2
/-! ## the law's end with one table of code objects -/
theorem law_goT {P : Program} {w : World} {K : PySem.W.Frag} {mg mb : Str → Option Value} {k : Nat} {fa a cB pB : Addr} {fd : FuncData} {x : Str} {sp : Sp} {z : Shared} {vs : List Value} {ns : List Int}
    (kin : K.In z.heap) (nsG : z.heap.Ns mainGlobals mg) (nsB : z.heap.Ns builtinsNs mb) (same : ∀ y : Str, y ≠ "__name__" → mb y = bootBuiltins y) (lim : z.heap.NoLimit) (dig : z.heap.NoDigits) (no : z.gens = #[])
    (hC : PySem.W.CodeHd z.heap cB pB) (hP : z.heap.get? pB = some (PySem.W.tabObj #[])) (nP : K.lookup pB = none)
    (bmain : ∃ (bm : Addr) (ob : Obj), mg "__builtins__" = some (.ref bm) ∧ bm ≠ builtinsNs ∧ z.heap.get? bm = some ob ∧ ob.cls = .type "module" ∧ ob.dict = some builtinsNs ∧ ob.data = .plain)
    (at_ : z.heap.get? a = some { cls := .type "list", data := .seq vs.toArray }) (intsA : IntsAre vs ns) (many : ns.length ≤ sizeLine) (room : Room k callerA)
    (F : ∀ base : Heap, K.In base → base.Ns mainGlobals mg → base.NoDigits → LamX.TabB base mg cB pB → Gn P w K mg base k fa fd [x] sp) (bind : ∀ (s : Shared) (u : Value), BindsTo s fd ⟨[u], []⟩ [(x, u)])
    (hsp : ∀ H : Hp, H pB = some (.tbl #[]) → SqL K H a (ns.map V.int) → sp [.ref a] H (fun v _ => v = .bl true) fun _ _ _ => False) :
    codeAny (model P w) callerA (.call (.ref fa) ⟨[.ref a], []⟩) (fun r s' => r = .ok (.ret (.bool true)) ∧ OldK z.heap s'.heap ∧ s'.os = z.os ∧ AllBare s'.gens) z := by
  have rv : Vals (ns.map V.int) vs := vals_ints intsA
  have sz : (ns.map V.int).length ≤ sizeLine := by rw [List.length_map]; exact many
  let u : HO := .frz { cls := .type "list", data := .seq vs.toArray } (.lst (ns.map V.int))
  let H : Hp := fun b => if b = pB then some (.tbl #[]) else if b = a ∧ K.lookup a = none then some u else none
  have apart : a ≠ pB := fun e => by
    rw [e, hP] at at_
    cases at_
  have Ht : H pB = some (.tbl #[]) := if_pos rfl
  have Ho : ∀ b, b ≠ pB → H b = if b = a ∧ K.lookup a = none then some u else none := fun b n => if_neg n
  have only : ∀ b o, b ≠ pB → H b = some o → b = a ∧ K.lookup a = none ∧ o = u := fun b o n e => by
    rw [Ho b n] at e
    by_cases c : b = a ∧ K.lookup a = none
    · rw [if_pos c] at e
      exact ⟨c.1, c.2, (Option.some.inj e).symm⟩
    · rw [if_neg c] at e
      cases e
  have sq : SqL K H a (ns.map V.int) := by
    cases hk : K.lookup a with
    | none => exact .inl (.inr ⟨_, (Ho a apart).trans (if_pos ⟨rfl, hk⟩)⟩)
    | some o =>
      have e := kin a o hk
      rw [at_] at e
      cases e
      exact .inr ⟨_, vs.toArray, _, hk, rfl, rfl, rfl, by rw [List.size_toArray, ← rv.length]; exact sz, by simpa using rv⟩
  have hok : HOk P w H z.heap := fun b o e => by
    by_cases c : b = pB
    · subst c
      rw [Ht] at e
      cases e
      exact hP
    · obtain ⟨rfl, _, rfl⟩ := only b o c e
      exact ⟨at_, sz, vs, _, rv, at_⟩
  have clear : ∀ {b : Addr} {o : Obj}, z.heap.get? b = some o → (∀ xs n, o.data ≠ .seq xs n) → o.data ≠ .fields #[] → H b = none := fun {b o} e d1 d2 => by
    cases q : H b with
    | none => rfl
    | some v =>
      by_cases c : b = pB
      · rw [c, hP] at e
        cases e
        exact absurd rfl d2
      · obtain ⟨rfl, _, _⟩ := only b v c q
        rw [at_] at e
        cases e
        exact absurd rfl (d1 _ _)
  have nsK : ∀ {b : Addr} {m : Str → Option Value}, z.heap.Ns b m → (hidT z.heap H).Ns b m := fun {b m} q => by
    obtain ⟨o, es, ep, e, d, r⟩ := q
    exact ⟨o, es, ep, hidT_get e (clear e (fun _ _ y => by rw [d] at y; cases y) fun y => by rw [d] at y; cases y), d, r⟩
  have kb : K.In (hidT z.heap H) := fun b o e => by
    refine hidT_get (kin b o e) ?_
    cases q : H b with
    | none => rfl
    | some v =>
      by_cases c : b = pB
      · rw [c, nP] at e
        cases e
      · obtain ⟨rfl, n, _⟩ := only b v c q
        rw [n] at e
        cases e
  have limB : (hidT z.heap H).NoLimit := by
    obtain ⟨mc, h1, h2⟩ := lim
    exact ⟨mc, nsK h1, h2⟩
  have digB : (hidT z.heap H).NoDigits := by
    obtain ⟨mc, h1, h2⟩ := dig
    exact ⟨mc, nsK h1, h2⟩
  have tb : LamX.TabB (hidT z.heap H) mg cB pB := by
    refine ⟨?_, ?_, fun e => ?_⟩
    · obtain ⟨o, us, f1, f2, f3, f4, f5, f6, f7, e, r1, r2, r3, r⟩ := hC
      refine ⟨o, us, f1, f2, f3, f4, f5, f6, f7, hidT_get e (clear e (fun _ _ y => ?_) fun y => ?_), r1, r2, r3, r⟩
      · rw [r2] at y; cases y
      · rw [r2] at y
        cases y
        simp at r3
    · obtain ⟨bm, ob, b1, b2, b3, b4, b5, b6⟩ := bmain
      refine ⟨bm, ob, b1, b2, fun y => ?_, fun y => ?_, hidT_get b3 (clear b3 (fun _ _ y => ?_) fun y => ?_), b4, b5, b6⟩
      · obtain ⟨o, es, ep, e, d, _⟩ := nsG
        rw [y, e] at b3
        cases b3
        rw [d] at b6
        cases b6
      · rw [y, hP] at b3
        cases b3
        cases b6
      · rw [b6] at y; cases y
      · rw [b6] at y; cases y
    · obtain ⟨o, es, ep, e', d, _⟩ := nsG
      rw [e, hP] at e'
      cases e'
      cases d
  have en : Env0 P w K mg (hidT z.heap H) callerA [] z H :=
    ⟨rfl, ⟨kb, nsK nsG, ⟨mb, nsK nsB, same⟩, limB⟩, fun _ _ e => of_hidT e, Nat.le_of_eq (hidT_size _ _), trivial, (fun b hb => absurd (show b ∈ ([] : List Addr) from hb) List.not_mem_nil), hok, .of_eq no⟩
  refine codeAny_mono ((F _ kb (nsK nsG) digB tb).go callerA [] z H ⟨[.ref a], []⟩ [.ref a] [.ref a] _ _ rfl room en (bind z (.ref a)) (.cons rfl .nil) (hsp H Ht sq)) fun r s' h => ?_
  match r, h with
  | .error e, h => exact False.elim h
  | .ok .next, h => exact False.elim h
  | .ok .brk, h => exact False.elim h
  | .ok .cont, h => exact False.elim h
  | .ok (.ret y), h =>
    obtain ⟨v, H', os, bare, un, hok', r', q⟩ := h
    obtain rfl : v = .bl true := q
    obtain rfl : y = Value.bool true := r'
    have stay : ∀ b o, b ≠ pB → z.heap.get? b = some o → s'.heap.get? b = some o := fun b o n e => by
      cases q : H b with
      | none => exact un.keep b o e q (fun y => by cases y) (fun y => by cases y)
      | some v =>
        obtain ⟨rfl, _, rfl⟩ := only b v n q
        have e2 := (hok' _ _ (un.frzs _ _ _ q)).1
        rw [at_] at e
        cases e
        exact e2
    obtain ⟨more, hm⟩ := un.tbls pB #[] Ht
    have grown := hok' pB _ hm
    refine ⟨rfl, ⟨fun b o e => ?_, fun b o e => ?_⟩, os, bare⟩
    · by_cases c : b = pB
      · subst c
        rw [hP] at e
        cases e
        refine .inr (.inl ⟨(hC.tab hP).isCodeTable, rfl, #[], more, rfl, ?_⟩)
        exact grown
      · exact .inl (stay b o c e)
    · by_cases c : b = pB
      · subst c
        exact ⟨_, grown⟩
      · exact ⟨o, stay b o c e⟩
theorem walk_goT {l : PySem.W.OpenLaw} {n k : Nat} {q : Program} {loose : List Str} {XP : (Str → Option Value) → Heap → Prop} {YP : World → Heap → Prop} {d : DefRec} {K : Params → PySem.W.Frag} {sp : Addr → PySem.W.Frag → Sp} {x : Str} {ts : List Addr}
    (most : l.most = some n) (small : n ≤ sizeLine) (nodef : d.params.defaults = []) (room : Room k callerA) (hY : ∀ (w : World) (h : Heap), YP w h → (K w.params).In h ∧ ∀ P ∈ ts, h.get? P = some (PySem.W.tabObj #[]))
    (F : ∀ (w : World) (mg : Str → Option Value) (fa : Addr) (h : Heap), (K w.params).In h → h.Ns mainGlobals mg → mg d.name = some (.ref fa) →
      ∃ (cB pB : Addr) (fd : FuncData), pB ∈ ts ∧ PySem.W.codeHdIn (K w.params) cB pB = true ∧ (K w.params).lookup pB = none ∧ (∀ (s : Shared) (u : Value), BindsTo s fd ⟨[u], []⟩ [(x, u)]) ∧
        (∀ (H : Hp) (a : Addr) (ns : List Int), ns.length ≤ n → H pB = some (.tbl #[]) → SqL (K w.params) H a (ns.map V.int) → sp pB (K w.params) [.ref a] H (fun v _ => v = .bl true) fun _ _ _ => False) ∧
        ∀ base : Heap, (K w.params).In base → base.Ns mainGlobals mg → base.NoDigits → LamX.TabB base mg cB pB → Gn l.prog w (K w.params) mg base k fa fd [x] (sp pB (K w.params))) :
    PySem.W.WalkO q loose XP YP l.row.toRowW d [] (fun f vs => PySem.call f vs) := by
  refine Att.attach_call most nodef fun w s₀ s₁ mg mb fa o pm cd doc a vs ns G Y _ _ _ hmg hobj hints hlen hg => ?_
  obtain ⟨kin, tabs⟩ := hY w _ Y
  obtain ⟨cB, pB, fd, mem, hc, nP, hb, hsp, hF⟩ := F w mg fa _ kin G.T.g hmg
  exact law_goT kin G.T.g G.T.b G.T.builtins G.T.nolimit G.T.nodigits hg (PySem.W.codeHd_of_K kin hc) (tabs pB mem) nP G.T.bmain hobj hints (Nat.le_trans hlen small) room hF hb fun H hH hS => hsp H a ns hlen hH hS
end K62
set_option Elab.async false
set_option linter.all false
set_option maxRecDepth 100000
set_option maxHeartbeats 4000000
set_option pp.maxSteps 400
set_option pp.deepTerms false
namespace K62
open PySem PySem.Spec PyProof.Rows L2
open Xk Az
def top (i : Nat) : Stmt := PySem.Challenge.pw_takesworks_k62_wishes_by_names.main.body.getD i (.Pass ⟨0, 0, 0, 0⟩)
abbrev sIsWhole : Stmt := top 1
abbrev sIsWithin : Stmt := top 2
abbrev sAreRising : Stmt := top 3
abbrev sHolders : Stmt := top 5
abbrev sNotAmong : Stmt := top 6
abbrev sLongerByOne : Stmt := top 7
abbrev sFewestDiscs : Stmt := top 8
abbrev sShowsHeld : Stmt := top 9
abbrev sBookFor : Stmt := top 11
abbrev sBookOf : Stmt := top 12
abbrev sIsMissing : Stmt := top 13
abbrev sShowsByTaking : Stmt := top 14
abbrev sShowsBySome : Stmt := top 15
abbrev sIsBook : Stmt := top 16
abbrev sShowsNone : Stmt := top 17
abbrev sHand : Stmt := top 19
abbrev sTake : Stmt := top 20
abbrev sPick : Stmt := top 21
abbrev sNumbers : Stmt := top 22
abbrev sCase : Stmt := top 23
abbrev sAlike : Stmt := top 24
abbrev sRight : Stmt := top 25
abbrev sLaw : Stmt := top 26
theorem scIsWhole : FnScope ["thing"] ["thing"] (defScope sIsWhole) := ⟨rfl, rfl, rfl, by decide +kernel, rfl, by decide +kernel, by decide +kernel⟩
theorem scIsWithin : FnScope ["thing", "least", "most"] ["thing", "least", "most"] (defScope sIsWithin) := ⟨rfl, rfl, rfl, by decide +kernel, rfl, by decide +kernel, by decide +kernel⟩
theorem scAreRising : FnScope ["things", "one", "other"] ["things"] (defScope sAreRising) := ⟨rfl, rfl, rfl, by decide +kernel, rfl, by decide +kernel, by decide +kernel⟩
theorem scHolders : FnScope ["held", "wish", "number", "things"] ["held", "wish"] (defScope sHolders) := ⟨rfl, rfl, rfl, by decide +kernel, rfl, by decide +kernel, by decide +kernel⟩
theorem scNotAmong : FnScope ["things", "wishes", "wish"] ["things", "wishes"] (defScope sNotAmong) := ⟨rfl, rfl, rfl, by decide +kernel, rfl, by decide +kernel, by decide +kernel⟩
theorem scLongerByOne : FnScope ["held", "discs", "missing", "first", "longer", "number", "choice", "rest"] ["held", "discs", "missing"] (defScope sLongerByOne) := ⟨rfl, rfl, rfl, by decide +kernel, rfl, by decide +kernel, by decide +kernel⟩
theorem scFewestDiscs : FnScope ["held", "wishes", "wish", "choices", "discs", "missing", "longer"] ["held", "wishes"] (defScope sFewestDiscs) := ⟨rfl, rfl, rfl, by decide +kernel, rfl, by decide +kernel, by decide +kernel⟩
theorem scShowsHeld : FnScope ["held", "wishes", "thing", "number", "disc", "wish"] ["held", "wishes", "thing"] (defScope sShowsHeld) := ⟨rfl, rfl, rfl, by decide +kernel, rfl, by decide +kernel, by decide +kernel⟩
theorem scBookFor : FnScope ["held", "missing", "left", "wish", "disc"] ["held", "missing", "left"] (defScope sBookFor) := ⟨rfl, rfl, rfl, by decide +kernel, rfl, by decide +kernel, by decide +kernel⟩
theorem scBookOf : FnScope ["held", "wishes", "many", "answer", "found"] ["held", "wishes", "many"] (defScope sBookOf) := ⟨rfl, rfl, rfl, by decide +kernel, rfl, by decide +kernel, by decide +kernel⟩
theorem scIsMissing : FnScope ["missing", "thing"] ["missing", "thing"] (defScope sIsMissing) := ⟨rfl, rfl, rfl, by decide +kernel, rfl, by decide +kernel, by decide +kernel⟩
theorem scShowsByTaking : FnScope ["held", "missing", "left", "wish", "books", "discs", "disc", "book"] ["held", "missing", "left", "wish", "books"] (defScope sShowsByTaking) := ⟨rfl, rfl, rfl, by decide +kernel, rfl, by decide +kernel, by decide +kernel⟩
theorem scShowsBySome : FnScope ["held", "missing", "left", "some", "on_one_disc", "wish", "known", "things", "shared"] ["held", "missing", "left", "some"] (defScope sShowsBySome) := ⟨rfl, rfl, rfl, by decide +kernel, rfl, by decide +kernel, by decide +kernel⟩
theorem scIsBook : FnScope ["held", "missing", "left", "thing"] ["held", "missing", "left", "thing"] (defScope sIsBook) := ⟨rfl, rfl, rfl, by decide +kernel, rfl, by decide +kernel, by decide +kernel⟩
theorem scShowsNone : FnScope ["held", "wishes", "many", "thing"] ["held", "wishes", "many", "thing"] (defScope sShowsNone) := ⟨rfl, rfl, rfl, by decide +kernel, rfl, by decide +kernel, by decide +kernel⟩
theorem scHand : FnScope ["_law_script", "_law_k", "_law_cell", "_law_great"] ["_law_script", "_law_k"] (defScope sHand) := ⟨rfl, rfl, rfl, by decide +kernel, rfl, by decide +kernel, by decide +kernel⟩
theorem scTake : FnScope ["_law_hand_here", "_law_size", "_law_digit", "_law_mixed"] ["_law_hand_here", "_law_size"] (defScope sTake) := ⟨rfl, rfl, rfl, by decide +kernel, rfl, by decide +kernel, by decide +kernel⟩
theorem scPick : FnScope ["_law_hand_here", "_law_some"] ["_law_hand_here", "_law_some"] (defScope sPick) := ⟨rfl, rfl, rfl, by decide +kernel, rfl, by decide +kernel, by decide +kernel⟩
theorem scNumbers : FnScope ["_law_hand_here", "_law_size", "_law_found", "_law_number", "_law_k"] ["_law_hand_here", "_law_size"] (defScope sNumbers) := ⟨rfl, rfl, rfl, by decide +kernel, rfl, by decide +kernel, by decide +kernel⟩
theorem scCase : FnScope ["_law_hand_here", "_law_most_discs", "_law_most_wanted", "_law_things", "_law_wanted", "_law_thin", "_law_discs_here", "_law_k", "_law_one_wish", "_law_spot", "_law_one", "_law_some"] ["_law_hand_here", "_law_most_discs", "_law_most_wanted"] (defScope sCase) := ⟨rfl, rfl, rfl, by decide +kernel, rfl, by decide +kernel, by decide +kernel⟩
theorem scAlike : FnScope ["_law_told", "_law_one"] ["_law_told"] (defScope sAlike) := ⟨rfl, rfl, rfl, by decide +kernel, rfl, by decide +kernel, by decide +kernel⟩
theorem scRight : FnScope ["_law_hand_here", "_law_discs_here", "_law_wanted", "_law_few", "_law_some", "_law_paper", "_law_told", "_law_book"] ["_law_hand_here", "_law_discs_here", "_law_wanted"] (defScope sRight) := ⟨rfl, rfl, rfl, by decide +kernel, rfl, by decide +kernel, by decide +kernel⟩
theorem scLaw : FnScope ["_law_script", "_law_k", "_law_hand_here", "_law_discs_here", "_law_wanted"] ["_law_script"] (defScope sLaw) := ⟨rfl, rfl, rfl, by decide +kernel, rfl, by decide +kernel, by decide +kernel⟩
/-! ## objects -/
/-- all that was tracked stands but for the hand -/
def But (h : Addr) (H H' : Hp) : Prop := ∀ b o, b ≠ h → H b = some o → H' b = some o
theorem But.refl (h : Addr) (H : Hp) : But h H H := fun _ _ _ e => e
theorem But.trans {h : Addr} {H H1 H2 : Hp} (p : But h H H1) (q : But h H1 H2) : But h H H2 := fun b o n e => q b o n (p b o n e)
theorem Same.but {H H' : Hp} (s : Same H H') (h : Addr) : But h H H' := fun b o _ e => s b o e
theorem But.seqT {K : PySem.W.Frag} {h : Addr} {H H' : Hp} (s : But h H H') {t : Addr} {xs : List V} (n : t ≠ h) (q : SqT K H t xs) : SqT K H' t xs := by
  rcases q with (q | ⟨o, q⟩) | q
  · exact .inl (.inl (s _ _ n q))
  · exact .inl (.inr ⟨o, s _ _ n q⟩)
  · exact .inr q
theorem But.seqL {K : PySem.W.Frag} {h : Addr} {H H' : Hp} (s : But h H H') {t : Addr} {xs : List V} (n : t ≠ h) (q : SqL K H t xs) : SqL K H' t xs := by
  rcases q with (q | ⟨o, q⟩) | q
  · exact .inl (.inl (s _ _ n q))
  · exact .inl (.inr ⟨o, s _ _ n q⟩)
  · exact .inr q
theorem Same.seqT {K : PySem.W.Frag} {H H' : Hp} (s : Same H H') {t : Addr} {xs : List V} (q : SqT K H t xs) : SqT K H' t xs := by
  rcases q with (q | ⟨o, q⟩) | q
  · exact .inl (.inl (s _ _ q))
  · exact .inl (.inr ⟨o, s _ _ q⟩)
  · exact .inr q
theorem same_upd {H : Hp} {p : Addr} {o : HO} (h : H p = none) : Same H (upd H p o) := fun b x e => by
  rw [upd_ne (ne_of_none e h)]
  exact e
theorem but_upd {H : Hp} {p : Addr} {o : HO} : But p H (upd H p o) := fun b x n e => by
  rw [upd_ne n]
  exact e
/-- the hand: what is left of the cell, what it is mixed of, how often it was asked -/
def Hand (n : Int) (H : Hp) (a : Addr) : Prop := ∃ g m c : Int, H a = some (.lst [.int g, .int m, .int c]) ∧ 0 ≤ g ∧ 0 ≤ m ∧ m < 2305843009213693951 ∧ 0 ≤ c ∧ c ≤ n
theorem Hand.mono {n n' : Int} {H : Hp} {a : Addr} (h : Hand n H a) (l : n ≤ n') : Hand n' H a := by
  obtain ⟨g, m, c, e, h1, h2, h3, h4, h5⟩ := h
  exact ⟨g, m, c, e, h1, h2, h3, h4, Int.le_trans h5 l⟩
theorem Hand.same {n : Int} {H H' : Hp} {a : Addr} (h : Hand n H a) (s : Same H H') : Hand n H' a := by
  obtain ⟨g, m, c, e, r⟩ := h
  exact ⟨g, m, c, s _ _ e, r⟩
theorem Hand.at_ {n : Int} {H : Hp} {a : Addr} (h : Hand n H a) : ∃ xs, H a = some (.lst xs) := by
  obtain ⟨g, m, c, e, r⟩ := h
  exact ⟨_, e⟩
theorem Hand.ne_tup {K : PySem.W.Frag} {n : Int} {H : Hp} {a t : Addr} {xs : List V} (h : Hand n H a) (e : H t = some (.tup xs)) : t ≠ a := by
  obtain ⟨ys, e2⟩ := h.at_
  exact ne_of e e2 (by intro z; cases z)
theorem But.free {h l : Addr} {H H' : Hp} (b : But h H H') (ne : l ≠ h) (e : H' l = none) : H l = none := by
  cases q : H l with
  | none => rfl
  | some o =>
    rw [b l o ne q] at e
    cases e
theorem Hand.fresh {n : Int} {H : Hp} {a l : Addr} (h : Hand n H a) (e : H l = none) : l ≠ a := by
  obtain ⟨xs, q⟩ := h.at_
  exact (ne_of_none q e).symm
theorem Hand.upd {n : Int} {H : Hp} {a p : Addr} {x : HO} (h : Hand n H a) (ne : a ≠ p) : Hand n (L2.upd H p x) a := by
  obtain ⟨g, m, c, e, r⟩ := h
  exact ⟨g, m, c, by rw [upd_ne ne]; exact e, r⟩
section
variable {X : Cx}
theorem cr_alt {f : Value} {r1 r2 : List V → Hp → VK → Prop} (h1 : CallR X f r1) (h2 : CallR X f r2) : CallR X f (fun xs H Q => r1 xs H Q ∨ r2 xs H Q) :=
  fun pins s σ H xs us Q I r h => h.elim (h1 pins s σ H xs us Q I r) (h2 pins s σ H xs us Q I r)
end
end K62
set_option Elab.async false
set_option linter.all false
set_option maxRecDepth 100000
set_option maxHeartbeats 4000000
set_option pp.maxSteps 400
set_option pp.deepTerms false
namespace K62
open PySem PySem.Spec PyProof.Rows L2
open Xk Az
section
variable {P : Program} {w : World} {K : PySem.W.Frag} {mg : Str → Option Value} {base : Heap}
/-- a def that may be called by its name -/
structure Ca (P : Program) (w : World) (K : PySem.W.Frag) (mg : Str → Option Value) (base : Heap) (k : Nat) (x : Str) (ps : List Str) (sp : Sp) : Prop where
  ex : ∃ (f : Addr) (fd : FuncData), FnOk P w K mg base CX0 k f fd ps sp ∧ mg x = some (.ref f) ∧ PySem.W.keepIn K (.ref f) = true ∧ Binds K fd ps []
/-- a def of the text, as the head finds it -/
structure Df (K : PySem.W.Frag) (mg : Str → Option Value) (x : Str) (ps : List Str) (st : Stmt) (f : Addr) (fd : FuncData) : Prop where
  fn : Fun K x x st f fd
  mgf : mg x = some (.ref f)
  bd : Binds K fd ps []
theorem Df.ca {k : Nat} {x : Str} {ps : List Str} {st : Stmt} {f : Addr} {fd : FuncData} {sp : Sp} (d : Df K mg x ps st f fd)
    (h : FnOk P w K mg base CX0 k f fd ps sp) : Ca P w K mg base k x ps sp := ⟨f, fd, h, d.mgf, d.fn.kp, d.bd⟩
section
variable {X : Cx} {k j : Nat} {x : Str} {ps : List Str} {sp : Sp} {p pos : Pos} {e : Expr} {es : List Expr} {t : TA}
theorem pe_ca (c : Ca X.prog X.w X.K X.mg X.base k x ps sp) (hr : Room j X.A) (hk : k ≤ j) (hg : Gl X x) (ha : PA X (e :: es) t) (hdb : (x == ("__debug__" : Str)) = false := by decide)
    (he : starEach (e :: es) X.env = (false, eval e X.env) :: starEach es X.env := by rfl) (hpl : (backTo pos (starEach es X.env)).any (·.1) = false := by rfl) :
    PE X (.Call (.Name x p) (e :: es) [] pos) (tCall sp [] E0 t) := by
  obtain ⟨f, fd, F, hm, kp, b⟩ := c.ex
  exact pe_call F (hr.mono hk) hg hm kp b .nil pass0 ha hdb he hpl
end
/-- what the top has left, besides the defs -/
structure Txt (mg : Str → Option Value) : Prop where
  int : mg "int" = none
  tuple : mg "tuple" = none
  len : mg "len" = none
  any : mg "any" = none
  range : mg "range" = none
  max : mg "max" = none
  min : mg "min" = none
  sorted : mg "sorted" = none
  enumerate : mg "enumerate" = none
  isi : mg "isinstance" = none
  bool : mg "bool" = none
  str : mg "str" = none
  all : mg "all" = none
  zip : mg "zip" = none
  repr : mg "repr" = none
abbrev far : Int := 1000000
def spHand (K : PySem.W.Frag) : Sp := fun vs H Q _ => ∃ (a : Addr) (k : Int) (ns : List Int), vs = [.ref a, .int k] ∧ 0 ≤ k ∧ SqL K H a (ns.map V.int) ∧
  ∀ p g m, H p = none → 0 ≤ g → 0 ≤ m → m < 2305843009213693951 → Q (.ref p) (upd H p (.lst [.int g, .int m, .int 0]))
def spTake : Sp := fun vs H Q _ => ∃ (h : Addr) (many n : Int), vs = [.ref h, .int many] ∧ 0 < many ∧ many < 10 ^ 30 ∧ Hand n H h ∧ n ≤ far ∧
  ∀ d H', 0 ≤ d → d < many → Hand (n + 1) H' h → But h H H' → Q (.int d) H'
def spPick : Sp := fun vs H Q _ => ∃ (h : Addr) (n : Int) (s : V), vs = [.ref h, s] ∧ Hand n H h ∧ n ≤ far ∧
  ((∃ (l : Addr) (xs : List V), s = .ref l ∧ H l = some (.lst xs) ∧ l ≠ h ∧ xs ≠ [] ∧ xs.length < 1000 ∧ ∀ v H', v ∈ xs → Hand (n + 1) H' h → But h H H' → Q v H') ∨
   (∃ x : Str, s = .str x ∧ 0 < x.length ∧ x.length < 1000 ∧ ∀ c H', c ∈ x.cps.toList → Hand (n + 1) H' h → But h H H' → Q (.str ⟨#[c]⟩) H'))
theorem wide30 {g many : Int} (m1 : 0 < many) (m2 : many < 10 ^ 30) : CDivW g many := by
  have h : (10 : Int) ^ 30 < 2 ^ 110 := by decide
  exact wide_div (b := 110) m1 (by omega) (by decide) (by decide)
theorem lt30 {n : Nat} (h : n < 1000) : (n : Int) < 10 ^ 30 := Int.lt_trans (Int.ofNat_lt.mpr h) (by decide)
theorem b01 (b : Bool) : -(2 ^ 64) < (if b = true then (1 : Int) else 0) ∧ (if b = true then (1 : Int) else 0) < 2 ^ 64 := by cases b <;> decide
theorem b0 (b : Bool) : 0 ≤ (if b = true then (1 : Int) else 0) := by cases b <;> decide
theorem ok_hand {f : Addr} {fd : FuncData} (D : Df K mg "_law_hand" ["_law_script", "_law_k"] sHand f fd) (T : Txt mg) : FnOk P w K mg base CX0 1 f fd ["_law_script", "_law_k"] (spHand K) := by
  refine D.fn.ok scHand (fun vs H Q E h => ?_) (fun cdv A outer s H vs Q E hr h => ?_)
  · obtain ⟨a, k, ns, rfl, hk, hS, q⟩ := h
    rfl
  · obtain ⟨a, k, ns, rfl, hk, hS, q⟩ := h
    refine ⟨_, (pss_cons (ps_set (i := 2) scHand.nd rfl (.inl rfl) pe_int)
      (pss_cons (ps_if (pt_cmpR op_lt (pv 1) (pe_callB call_len_seq (by rfl) T.len PySem.boot_len (pa_cons (pv 0) pa_nil)) (nomark _)) (pss_one (ps_set (i := 2) scHand.nd rfl (.inl rfl) (pe_ix ix_list (pv 0) (pv 1) (fun _ _ => rfl)))) pss_nil)
      (pss_cons (ps_set (i := 3) scHand.nd rfl (.inl rfl) (pe_op op_mul (pe_op op_mod (pv 2) (pe_op op_mulW (pe_op op_mulW (pe_op op_pow pe_int pe_int) (pe_op op_pow pe_int pe_int)) (pe_op op_pow pe_int pe_int))) (pe_callTy call_int1 (by rfl) T.int (by decide +kernel) (pa_cons (pe_cmpR op_ge (pv 2) (pe_op op_pow pe_int pe_int) (nomark _)) pa_nil))))
      (pss_one (ps_ret (pe_lst (pa_cons (pv 3) (pa_cons (pe_op op_mod (pe_op op_add (pe_op op_add (pe_op op_mod (pv 2) pe_int) (pe_op op_mul pe_int (pv 1))) pe_int) pe_int) (pa_cons pe_int pa_nil))))))))), ?_⟩
    refine ⟨_, rfl, _, rfl, a, _, rfl, .inl hS, k, _, rfl, rfl, _, rfl, ?_⟩
    refine ite2 (fun e => ?_) (fun e => ?_)
    · have hlt : k < ((ns.map V.int).length : Int) := of_decide_eq_true e
      rw [List.length_map] at hlt
      obtain ⟨j, rfl⟩ : ∃ j : Nat, k = (j : Int) := ⟨k.toNat, by omega⟩
      have hj : j < ns.length := by omega
      have hat : atI (ns.map V.int) ((j : Nat) : Int) = some (.int ns[j]) := atI_nat (by rw [List.getElem?_map, List.getElem?_eq_getElem hj]; rfl)
      refine ⟨_, rfl, _, rfl, a, _, _, _, rfl, rfl, hS, hat, ?_⟩
      refine ⟨_, rfl, 10, 60, rfl, rfl, ⟨by decide, by decide, by decide⟩, 10, 60, rfl, rfl, ⟨by decide, by decide, by decide⟩, _, _, rfl, rfl, ?_, 10, 60, rfl, rfl, ⟨by decide, by decide, by decide⟩, _, _, rfl, rfl, ?_, ns[j], _, rfl, rfl, ?_, ?_⟩
      · exact wide_mul (a := 300) (b := 300) (by decide +kernel) (by decide +kernel) (by decide) (by decide) (by decide)
      · exact wide_mul (a := 600) (b := 300) (by decide +kernel) (by decide +kernel) (by decide) (by decide) (by decide)
      · show (0 : Int) < 10 ^ (60 : Int).toNat * 10 ^ (60 : Int).toNat * 10 ^ (60 : Int).toNat
        decide +kernel
      · refine ⟨_, rfl, 10, 18, rfl, rfl, ⟨by decide, by decide, by decide⟩, ns[j], _, rfl, rfl, .inr ⟨_, rfl, _, _, rfl, rfl, .inr (b01 _), ?_⟩⟩
        refine ⟨_, rfl, _, rfl, ns[j], 2305843009213693951, rfl, rfl, (by show (0 : Int) < 2305843009213693951; decide), _, rfl, 7919, _, rfl, rfl, .inl (by decide), _, _, rfl, rfl, _, _, rfl, rfl, _, _, rfl, rfl, (by show (0 : Int) < 2305843009213693951; decide), (by show 3 ≤ sizeLine; decide), fun p np => ?_⟩
        refine q p _ _ np ?_ (Int.emod_nonneg _ (by decide)) (Int.emod_lt_of_pos _ (by decide))
        exact Int.mul_nonneg (Int.emod_nonneg _ (by decide +kernel)) (b0 _)
    · refine ⟨_, rfl, 10, 60, rfl, rfl, ⟨by decide, by decide, by decide⟩, 10, 60, rfl, rfl, ⟨by decide, by decide, by decide⟩, _, _, rfl, rfl, ?_, 10, 60, rfl, rfl, ⟨by decide, by decide, by decide⟩, _, _, rfl, rfl, ?_, 0, _, rfl, rfl, ?_, ?_⟩
      · exact wide_mul (a := 300) (b := 300) (by decide +kernel) (by decide +kernel) (by decide) (by decide) (by decide)
      · exact wide_mul (a := 600) (b := 300) (by decide +kernel) (by decide +kernel) (by decide) (by decide) (by decide)
      · show (0 : Int) < 10 ^ (60 : Int).toNat * 10 ^ (60 : Int).toNat * 10 ^ (60 : Int).toNat
        decide +kernel
      · refine ⟨_, rfl, 10, 18, rfl, rfl, ⟨by decide, by decide, by decide⟩, 0, _, rfl, rfl, .inr ⟨_, rfl, _, _, rfl, rfl, .inr (b01 _), ?_⟩⟩
        refine ⟨_, rfl, _, rfl, 0, 2305843009213693951, rfl, rfl, (by show (0 : Int) < 2305843009213693951; decide), _, rfl, 7919, _, rfl, rfl, .inl (by decide), _, _, rfl, rfl, _, _, rfl, rfl, _, _, rfl, rfl, (by show (0 : Int) < 2305843009213693951; decide), (by show 3 ≤ sizeLine; decide), fun p np => ?_⟩
        refine q p _ _ np ?_ (Int.emod_nonneg _ (by decide)) (Int.emod_lt_of_pos _ (by decide))
        exact Int.mul_nonneg (Int.emod_nonneg _ (by decide +kernel)) (b0 _)
theorem ok_take {f : Addr} {fd : FuncData} (D : Df K mg "_law_take" ["_law_hand_here", "_law_size"] sTake f fd) : FnOk P w K mg base CX0 1 f fd ["_law_hand_here", "_law_size"] spTake := by
  refine D.fn.ok scTake (fun vs H Q E h => ?_) (fun cdv A outer s H vs Q E hr h => ?_)
  · obtain ⟨h, many, n, rfl, _⟩ := h
    rfl
  · obtain ⟨h, many, n, rfl, m1, m2, ⟨g, m, c, hh, g0, k0, k1, c0, c1⟩, hn, q⟩ := h
    refine ⟨_, pss_cons (ps_if (pt_cmpR op_gt (pe_ix ix_list (pv 0) pe_int (fun _ _ => rfl)) pe_int (nomark _))
        (pss_cons (ps_set (i := 2) scTake.nd rfl (.inl rfl) (pe_op op_mod (pe_ix ix_list (pv 0) pe_int (fun _ _ => rfl)) (pv 1)))
        (pss_cons (ps_asg (pe_op op_fdivW (pe_ix ix_list (pv 0) pe_int (fun _ _ => rfl)) (pv 1)) (pg_sub (pv 0) pe_int set_list))
        (pss_one (ps_ret (pv 2))))) pss_nil)
      (pss_cons (ps_asg (pe_op op_add (pe_ix ix_list (pv 0) pe_int (fun _ _ => rfl)) pe_int) (pg_sub (pv 0) pe_int set_list))
      (pss_cons (ps_set (i := 3) scTake.nd rfl (.inl rfl) (pe_op op_mod (pe_op op_mul (pe_op op_add (pe_op op_add (pe_ix ix_list (pv 0) pe_int (fun _ _ => rfl))
          (pe_op op_mul (pe_op op_mul pe_int (pe_ix ix_list (pv 0) pe_int (fun _ _ => rfl))) (pe_ix ix_list (pv 0) pe_int (fun _ _ => rfl)))) pe_int) pe_int) pe_int))
      (pss_cons (ps_set (i := 3) scTake.nd rfl (.inl rfl) (pe_op op_mod (pe_op op_mul (pv 3) (pe_op op_add (pe_op op_mod (pv 3) pe_int) (pe_op op_mul pe_int (pe_ix ix_list (pv 0) pe_int (fun _ _ => rfl))))) pe_int))
      (pss_one (ps_ret (pe_op op_mod (pe_op op_add (pe_op op_fdiv (pv 3) pe_int) (pe_op op_fdiv (pv 3) pe_int)) (pv 1))))))), ?_⟩
    have far' : n ≤ 1000000 := hn
    refine ⟨_, rfl, h, _, 0, _, rfl, rfl, SqL.of hh, atI_nat (j := 0) rfl, g, 0, rfl, rfl, _, rfl, ite2 (fun e => ?_) (fun e => ?_)⟩
    · refine ⟨_, rfl, h, _, 0, _, rfl, rfl, SqL.of hh, atI_nat (j := 0) rfl, _, rfl, g, many, rfl, rfl, m1, ?_⟩
      refine ⟨_, rfl, h, _, 0, _, rfl, rfl, SqL.of hh, atI_nat (j := 0) rfl, _, rfl, g, many, rfl, rfl, wide30 m1 m2, _, rfl, h, _, 0, 0, rfl, rfl, hh, rfl, ?_⟩
      refine ⟨_, rfl, ?_⟩
      exact q _ _ (Int.emod_nonneg _ (by omega)) (Int.emod_lt_of_pos _ m1) ⟨g / many, m, c, upd_same, Int.ediv_nonneg g0 (by omega), k0, k1, c0, by omega⟩ but_upd
    · refine ⟨_, rfl, h, _, 2, _, rfl, rfl, SqL.of hh, atI_nat (j := 2) rfl, c, 1, rfl, rfl, _, rfl, h, _, 2, 2, rfl, rfl, hh, rfl, ?_⟩
      have h2 : (upd H h (.lst [.int g, .int m, .int (c + 1)])) h = some (.lst [.int g, .int m, .int (c + 1)]) := upd_same
      have s2 := SqL.of (K := K) h2
      refine ⟨_, rfl, h, _, 1, _, rfl, rfl, s2, atI_nat (j := 1) rfl, _, rfl, h, _, 2, _, rfl, rfl, s2, atI_nat (j := 2) rfl, 65537, c + 1, rfl, rfl, .inl (by decide), _, rfl, h, _, 2, _, rfl, rfl, s2, atI_nat (j := 2) rfl, _, c + 1, rfl, rfl, .inr (by omega),
        m, _, rfl, rfl, _, 11, rfl, rfl, _, 48271, rfl, rfl, .inr (by decide), _, 2305843009213693921, rfl, rfl, (by show (0 : Int) < 2305843009213693921; decide), ?_⟩
      generalize (m + 65537 * (c + 1) * (c + 1) + 11) * 48271 = z
      have z0 : 0 ≤ z % 2305843009213693921 := Int.emod_nonneg _ (by decide)
      have z1 : z % 2305843009213693921 < 2305843009213693921 := Int.emod_lt_of_pos _ (by decide)
      refine ⟨_, rfl, _, rfl, _, 1000003, rfl, rfl, (by show (0 : Int) < 1000003; decide), _, rfl, h, _, 2, _, rfl, rfl, s2, atI_nat (j := 2) rfl, 99991, c + 1, rfl, rfl, .inl (by decide), _, _, rfl, rfl, _, _, rfl, rfl, .inl (by omega),
        _, 2305843009213693907, rfl, rfl, (by show (0 : Int) < 2305843009213693907; decide), ?_⟩
      refine ⟨_, rfl, _, 97, rfl, rfl, ⟨by decide, by decide⟩, _, rfl, _, 1000033, rfl, rfl, ⟨by decide, by decide⟩, _, _, rfl, rfl, _, rfl, _, many, rfl, rfl, m1, ?_⟩
      exact q _ _ (Int.emod_nonneg _ (by omega)) (Int.emod_lt_of_pos _ m1) ⟨g, m, c + 1, h2, g0, k0, k1, by omega, by omega⟩ but_upd
theorem ok_pick {f : Addr} {fd : FuncData} (D : Df K mg "_law_pick" ["_law_hand_here", "_law_some"] sPick f fd) (T : Txt mg) (cT : Ca P w K mg base 1 "_law_take" ["_law_hand_here", "_law_size"] spTake) : FnOk P w K mg base CX0 2 f fd ["_law_hand_here", "_law_some"] spPick := by
  refine D.fn.ok scPick (fun vs H Q E h => ?_) (fun cdv A outer s H vs Q E hr h => ?_)
  · obtain ⟨h, n, s, rfl, hh, hn, q⟩ := h
    rfl
  · obtain ⟨h, n, s, rfl, hh, hn, q⟩ := h
    refine ⟨_, (pss_one (ps_ret (pe_ix ix_seq (pv 1) (pe_ca cT hr (by decide) (by rfl) (pa_cons (pv 0) (pa_cons (pe_callB (cr_alt call_len_seq call_len_str) (by rfl) T.len PySem.boot_len (pa_cons (pv 1) pa_nil)) pa_nil))) (fun _ _ => rfl)))), ?_⟩
    refine ⟨_, rfl, _, rfl, _, rfl, ?_⟩
    rcases q with ⟨l, xs, rfl, hl, nl, ne, few, q⟩ | ⟨x, rfl, pos, few, q⟩
    · have pos : 0 < xs.length := List.length_pos_iff.mpr ne
      refine .inl ⟨l, xs, rfl, .inl (SqL.of hl), h, (xs.length : Int), n, rfl, by omega, lt30 few, hh, hn, fun d H' d0 d1 hh' bt => ?_⟩
      obtain ⟨j, rfl⟩ : ∃ j : Nat, d = (j : Int) := ⟨d.toNat, by omega⟩
      have hj : j < xs.length := by omega
      refine .inl ⟨l, xs, _, xs[j], rfl, rfl, SqL.of (bt _ _ nl hl), atI_nat (List.getElem?_eq_getElem hj), ?_⟩
      exact q _ H' (List.getElem_mem hj) hh' bt
    · have sz : x.length ≤ sizeLine := Nat.le_trans (show x.length ≤ 1000 by omega) (by decide)
      refine .inr ⟨x, rfl, sz, h, (x.length : Int), n, rfl, by omega, lt30 few, hh, hn, fun d H' d0 d1 hh' bt => ?_⟩
      obtain ⟨j, rfl⟩ : ∃ j : Nat, d = (j : Int) := ⟨d.toNat, by omega⟩
      have hj : j < x.cps.toList.length := by
        have : x.length = x.cps.toList.length := by rw [Array.length_toList]; rfl
        omega
      refine .inr (.inr ⟨x, _, x.cps.toList[j], rfl, rfl, sz, atI_nat (List.getElem?_eq_getElem hj), ?_⟩)
      exact q _ H' (List.getElem_mem hj) hh' bt
end
end K62
set_option Elab.async false
set_option linter.all false
set_option maxRecDepth 100000
set_option maxHeartbeats 4000000
set_option pp.maxSteps 400
set_option pp.deepTerms false
namespace K62
open PySem PySem.Spec PyProof.Rows L2
open Xk Az
section
variable {P : Program} {w : World} {K : PySem.W.Frag} {mg : Str → Option Value} {base : Heap}
/-- numbers that are not too great -/
def Sm (ns : List Int) : Prop := ∀ x ∈ ns, 0 ≤ x ∧ x < 10 ^ 31
theorem Sm.snoc {ns : List Int} (h : Sm ns) {j : Int} (h0 : 0 ≤ j) (h1 : j < 10 ^ 31) : Sm (ns ++ [j]) := fun x hx => by
  rcases List.mem_append.mp hx with z | z
  · exact h x z
  · rw [List.mem_singleton.mp z]; exact ⟨h0, h1⟩
def spNumbers : Sp := fun vs H Q _ => ∃ (h : Addr) (n many : Int), vs = [.ref h, .int many] ∧ 0 ≤ many ∧ many ≤ 20 ∧ Hand n H h ∧ n + 100 ≤ far ∧
  ∀ L (ns : List Int) H', H' L = some (.lst (ns.map V.int)) → L ≠ h → H L = none → (ns.length : Int) = many → Sm ns → ns.Pairwise (· < ·) → Hand (n + 30) H' h → But h H H' → Q (.ref L) H'
theorem ok_numbers {f : Addr} {fd : FuncData} (D : Df K mg "_law_numbers" ["_law_hand_here", "_law_size"] sNumbers f fd) (T : Txt mg) (cT : Ca P w K mg base 1 "_law_take" ["_law_hand_here", "_law_size"] spTake) (cP : Ca P w K mg base 2 "_law_pick" ["_law_hand_here", "_law_some"] spPick) : FnOk P w K mg base CX0 3 f fd ["_law_hand_here", "_law_size"] spNumbers := by
  refine D.fn.ok scNumbers (fun vs H Q E h => ?_) (fun cdv A outer s H vs Q E hr h => ?_)
  · obtain ⟨h, n, many, rfl, m0, m1, hh, hn, q⟩ := h
    rfl
  · obtain ⟨h, n, many, rfl, m0, m1, hh, hn, q⟩ := h
    refine ⟨_, (pss_cons (ps_par (i := 2) (j := 3) (by rfl) scNumbers.nd rfl rfl (by decide) rfl rfl (pa_cons (pe_lst pa_nil) (pa_cons (pe_ca cP hr (by decide) (by rfl) (pa_cons (pv 0) (pa_cons (pe_lst (pa_cons pe_int (pa_cons pe_int (pa_cons pe_int (pa_cons pe_int (pa_cons (pe_op op_pow pe_int pe_int) pa_nil)))))) pa_nil))) pa_nil)) (by rfl))
      (pss_cons (ps_for PassesOwn.never rfl (pi_range1 (by rfl) T.range (pa_cons (pv 1) pa_nil)) (pg_name (i := 4) scNumbers.nd rfl (.inl rfl)) (pss_cons (ps_expr (pe_bm PySem.F.plainAttrs_list PySem.F.slot_list_append PySem.F.type_list_append mt_append (pv 2) (pa_cons (pv 3) pa_nil)))
      (pss_one (ps_set (i := 3) scNumbers.nd rfl (.inl rfl) (pe_op op_add (pe_op op_add (pv 3) pe_int) (pe_ca cP hr (by decide) (by rfl) (pa_cons (pv 0) (pa_cons (pe_lst (pa_cons pe_int (pa_cons pe_int (pa_cons pe_int (pa_cons pe_int (pa_cons (pe_op op_pow pe_int pe_int) pa_nil)))))) pa_nil))))))))
      (pss_one (ps_ret (pv 2))))), ?_⟩
    have fr : n + 100 ≤ 1000000 := hn
    refine ⟨(by show 0 ≤ sizeLine; decide), fun L nL => ?_⟩
    have s0 := same_upd nL (o := .lst [])
    refine ⟨_, rfl, 10, 29, rfl, rfl, ⟨by decide, by decide, by decide⟩, (by show 5 ≤ sizeLine; decide), fun l1 n1 => ?_⟩
    have s1 := same_upd n1 (o := .lst [.int 0, .int 0, .int 1, .int 7, .int (10 ^ (29 : Int).toNat)])
    have Lh := hh.fresh nL
    refine ⟨h, n, _, rfl, (hh.same s0).same s1, by show n ≤ 1000000; omega, .inl ⟨l1, _, rfl, upd_same, (hh.same s0).fresh n1, by simp, by show 5 < 1000; decide, fun v H1 mv h1 b1 => ⟨_, _, rfl, ?_⟩⟩⟩
    obtain ⟨i0, rfl, i00, i01⟩ : ∃ i : Int, v = .int i ∧ 0 ≤ i ∧ i < 10 ^ 30 := by
      simp only [List.mem_cons, List.not_mem_nil, or_false] at mv
      rcases mv with e | e | e | e | e <;> exact ⟨_, e, by decide, by decide⟩
    have eL : H1 L = some (.lst (([] : List Int).map V.int)) := b1 _ _ Lh (s1 _ _ upd_same)
    have bt1 : But h H H1 := (Same.but (s0.trans s1) h).trans b1
    refine ⟨_, rfl, _, rfl, by omega, by omega, for_range (lo := 0) (n := many.toNat) (fun k σ Hi => ∃ (ns : List Int) (j : Int) (c4 : Option V), σ = [some (.ref h), some (.int many), some (.ref L), some (.int j), c4] ∧ Hi L = some (.lst (ns.map V.int)) ∧ ns.length = k ∧ ((Sm ns ∧ ns.Pairwise (· < ·) ∧ ∀ x ∈ ns, x < j) ∧ 0 ≤ j ∧ j < 10 ^ 30 + k * 10 ^ 29) ∧ Hand (n + 1 + k) Hi h ∧ But h H Hi) ?_ ?_ ?_⟩
    · exact ⟨[], i0, none, rfl, eL, rfl, ⟨⟨by simp [Sm], by simp, by simp⟩, i00, by omega⟩, h1.mono (by omega), bt1⟩
    · rintro k σ Hi hk ⟨ns, j, c4, rfl, eLi, lk, ⟨⟨sN, pN, lN⟩, j0, j1⟩, hdi, bi⟩
      have k20 : k < 20 := by omega
      refine ⟨_, rfl, .inl ⟨rfl, _, SqL.of eLi⟩, _, rfl, L, _, _, rfl, rfl, eLi, ?_, ?_⟩
      · rw [List.length_map]
        exact Nat.lt_of_le_of_lt (show ns.length ≤ 100 by omega) (by decide)
      have hd2 : Hand (n + 1 + k) (upd Hi L (.lst (ns.map V.int ++ [.int j]))) h := hdi.upd (Ne.symm Lh)
      have e2 : (upd Hi L (.lst (ns.map V.int ++ [.int j]))) L = some (.lst ((ns ++ [j]).map V.int)) := by rw [upd_same, List.map_append]; rfl
      have bi2 : But h H (upd Hi L (.lst (ns.map V.int ++ [.int j]))) := fun b x nb e => by
        rw [upd_ne (ne_of_none e nL)]
        exact bi b x nb e
      refine ⟨_, rfl, j, 1, rfl, rfl, _, rfl, 10, 27, rfl, rfl, ⟨by decide, by decide, by decide⟩, (by show 5 ≤ sizeLine; decide), fun l2 n2 => ?_⟩
      have s2 := same_upd n2 (o := .lst [.int 0, .int 0, .int 1, .int 5, .int (10 ^ (27 : Int).toNat)])
      refine ⟨h, n + 1 + k, _, rfl, hd2.same s2, by show n + 1 + (k : Int) ≤ 1000000; omega, .inl ⟨l2, _, rfl, upd_same, hd2.fresh n2, by simp, by show 5 < 1000; decide, fun v H3 mv h3 b3 => ?_⟩⟩
      obtain ⟨i1, rfl, i10, i11⟩ : ∃ i : Int, v = .int i ∧ 0 ≤ i ∧ i < 10 ^ 28 := by
        simp only [List.mem_cons, List.not_mem_nil, or_false] at mv
        rcases mv with e | e | e | e | e <;> exact ⟨_, e, by decide, by decide⟩
      refine ⟨_, _, rfl, rfl, ns ++ [j], _, _, rfl, b3 _ _ Lh (s2 _ _ e2), by rw [List.length_append, lk]; rfl, ⟨⟨sN.snoc j0 (by omega), List.pairwise_append.mpr ⟨pN, List.pairwise_singleton _ _, fun x hx y hy => by rw [List.mem_singleton.mp hy]; exact lN x hx⟩, fun x hx => by
        rcases List.mem_append.mp hx with z | z
        · have := lN x z
          omega
        · rw [List.mem_singleton.mp z]
          omega⟩, by omega, by omega⟩, h3.mono (by omega), bi2.trans ((Same.but s2 h).trans b3)⟩
    rintro σ He ⟨ns, j, c4, rfl, eLe, lk, ⟨⟨sN, pN, _⟩, _, _⟩, hde, be⟩
    exact ⟨_, rfl, q L ns He eLe Lh nL (by omega) sN pN (hde.mono (by omega)) be⟩
theorem dpAll_ints {H : Hp} : ∀ gs : List Int, DpAll K H (gs.map V.int) (gs.map PyData.int)
  | [] => .nil
  | g :: r => .cons (.int g) (dpAll_ints r)
theorem lay_ints : ∀ gs : List Int, PyData.canLayAll0 (gs.map PyData.int) = true
  | [] => by simp [PyData.canLayAll0]
  | g :: r => by simp [PyData.canLayAll0, PyData.canLay0, lay_ints r]
theorem depth_ints : ∀ gs : List Int, PyData.depthAll (gs.map PyData.int) ≤ 1
  | [] => by simp [PyData.depthAll]
  | g :: r => by
    have := depth_ints r
    simp only [List.map_cons, PyData.depthAll, PyData.depth]
    omega
theorem ixN_nat {n j : Nat} (h : j < n) : ixN n (j : Int) = some j := by
  unfold ixN
  rw [if_pos (by omega), if_pos (by omega)]
  simp
theorem shaped_list {ds : List PyData} (q1 : PyData.canLayAll0 ds = true) (q2 : PyData.depthAll ds ≤ 3) : SeqAt.shaped (.list ds) = true := by
  unfold SeqAt.shaped
  have h1 : (PyData.list ds).canLay0 = true := by simp only [PyData.canLay0]; exact q1
  have h2 : (PyData.list ds).depth ≤ 64 := by simp only [PyData.depth]; omega
  rw [h1, decide_eq_true h2]
  rfl
theorem lt30' {i : Int} (h : i < 1000) : i < 10 ^ 30 := Int.lt_trans h (by decide)
/-- held: tuples of numbers -/
inductive Hl (H : Hp) : List V → List (List Int) → Prop
  | nil : Hl H [] []
  | cons {t : Addr} {ns : List Int} {xs : List V} {hs : List (List Int)} (e : H t = some (.tup (ns.map V.int))) (r : Hl H xs hs) : Hl H (.ref t :: xs) (ns :: hs)
def Gs (hs : List (List Int)) : Prop := ∀ gs ∈ hs, gs.length ≤ 40 ∧ Sm gs
theorem Hl.of {H : Hp} : ∀ xs : List V, (∀ v ∈ xs, ∃ t, ∃ ns : List Int, v = .ref t ∧ H t = some (.tup (ns.map V.int)) ∧ ns.length ≤ 40 ∧ Sm ns) → ∃ hs, Hl H xs hs ∧ Gs hs
  | [], _ => ⟨[], .nil, fun _ h => by cases h⟩
  | x :: r, h => by
    obtain ⟨hs, q, g⟩ := Hl.of r fun v hv => h v (List.mem_cons_of_mem _ hv)
    obtain ⟨t, ns, rfl, e, e2⟩ := h x List.mem_cons_self
    refine ⟨ns :: hs, .cons e q, fun gs hg => ?_⟩
    rcases List.mem_cons.mp hg with z | z
    · rw [z]; exact e2
    · exact g gs z
theorem Hl.len {H : Hp} {xs : List V} {hs : List (List Int)} (h : Hl H xs hs) : xs.length = hs.length := by
  induction h with
  | nil => rfl
  | cons _ _ ih => rw [List.length_cons, List.length_cons, ih]
theorem Hl.map {H H' : Hp} {xs : List V} {hs : List (List Int)} (h : Hl H xs hs) (k : ∀ b ys, H b = some (.tup ys) → H' b = some (.tup ys)) : Hl H' xs hs := by
  induction h with
  | nil => exact .nil
  | cons e _ ih => exact .cons (k _ _ e) ih
theorem Hl.get {H : Hp} {xs : List V} {hs : List (List Int)} (h : Hl H xs hs) {i : Nat} (hi : i < hs.length) : ∃ t, xs[i]? = some (.ref t) ∧ H t = some (.tup ((hs[i]).map V.int)) := by
  induction h generalizing i with
  | nil => simp at hi
  | cons e _ ih =>
    cases i with
    | zero => exact ⟨_, rfl, e⟩
    | succ i => exact ih (by simpa using hi)
/-- lists of numbers, apart from the hand and the list that has them -/
def Li (m : Nat) (h L : Addr) (H : Hp) (v : V) : Prop := ∃ l, ∃ ns : List Int, v = .ref l ∧ l ≠ L ∧ l ≠ h ∧ H l = some (.lst (ns.map V.int)) ∧ ns.length ≤ m ∧ Sm ns
theorem Li.but {m : Nat} {h L : Addr} {H H' : Hp} {v : V} (a : Li m h L H v) (s : But h H H') : Li m h L H' v := by
  obtain ⟨l, ns, e, n1, n2, q, lm⟩ := a
  exact ⟨l, ns, e, n1, n2, s _ _ n2 q, lm⟩
theorem Li.upd {m : Nat} {h L : Addr} {H : Hp} {v : V} {o : HO} (a : Li m h L H v) : Li m h L (L2.upd H L o) v := by
  obtain ⟨l, ns, e, n1, n2, q, lm⟩ := a
  exact ⟨l, ns, e, n1, n2, by rw [upd_ne n1]; exact q, lm⟩
def rTo (K : PySem.W.Frag) : List V → Hp → VK → Prop := fun xs H Q => ∃ p ys, xs = [V.ref p] ∧ ((SqL K H p ys ∧ ∀ (l : Addr), H l = none → Q (V.ref l) (L2.upd H l (HO.tup ys))) ∨ (SqT K H p ys ∧ Q (V.ref p) H))
theorem cut_ints (ns : List Int) (lo hi : Option Int) : cutV (ns.map V.int) lo hi = ((ns.drop (HT.sIx ns.length 0 lo)).take (HT.sIx ns.length ns.length hi - HT.sIx ns.length 0 lo)).map V.int := by
  unfold cutV
  rw [List.length_map, List.map_take, List.map_drop]
theorem cut_len (ns : List Int) (lo hi : Option Int) : ((ns.drop (HT.sIx ns.length 0 lo)).take (HT.sIx ns.length ns.length hi - HT.sIx ns.length 0 lo)).length ≤ ns.length := by
  rw [List.length_take, List.length_drop]
  omega
theorem lists_dp {m : Nat} {h L : Addr} {H : Hp} : ∀ xs : List V, (∀ v ∈ xs, Li m h L H v) → ∃ ds, DpAll K H xs ds ∧ PyData.canLayAll0 ds = true ∧ PyData.depthAll ds ≤ 3
  | [], _ => ⟨[], .nil, by simp [PyData.canLayAll0], by simp [PyData.depthAll]⟩
  | v :: r, q => by
    obtain ⟨ds, q1, q2, q3⟩ := lists_dp r (fun w hw => q w (List.mem_cons_of_mem _ hw))
    obtain ⟨l, ns, rfl, _, _, e, _, _⟩ := q v List.mem_cons_self
    refine ⟨.list (ns.map PyData.int) :: ds, .cons (.lst (SqL.of e) (dpAll_ints ns)) q1, ?_, ?_⟩
    · simp [PyData.canLayAll0, PyData.canLay0, q2, lay_ints ns]
    · have := depth_ints ns
      simp only [PyData.depthAll, PyData.depth]
      omega
def spCase : Sp := fun vs H Q _ => ∃ (h : Addr) (n md mw : Int), vs = [.ref h, .int md, .int mw] ∧ 0 ≤ md ∧ md ≤ 12 ∧ 0 ≤ mw ∧ mw ≤ 16 ∧ Hand n H h ∧ n + 2000 ≤ far ∧
  ∀ t a b xs hs (ws : List Int) H', H' t = some (.tup [.ref a, .ref b]) → H' a = some (.tup xs) → Hl H' xs hs → (hs.length : Int) ≤ md → Gs hs → H' b = some (.tup (ws.map V.int)) → ws.length ≤ 20 → Sm ws → ws.Pairwise (· < ·) → (ws.length : Int) ≤ mw → Hand (n + 1000) H' h → But h H H' → Q (.ref t) H'
theorem ok_case {f : Addr} {fd : FuncData} (D : Df K mg "_law_case" ["_law_hand_here", "_law_most_discs", "_law_most_wanted"] sCase f fd) (T : Txt mg) (cT : Ca P w K mg base 1 "_law_take" ["_law_hand_here", "_law_size"] spTake) (cP : Ca P w K mg base 2 "_law_pick" ["_law_hand_here", "_law_some"] spPick) (cNu : Ca P w K mg base 3 "_law_numbers" ["_law_hand_here", "_law_size"] spNumbers) : FnOk P w K mg base CX0 4 f fd ["_law_hand_here", "_law_most_discs", "_law_most_wanted"] spCase := by
  refine D.fn.ok scCase (fun vs H Q E h => ?_) (fun cdv A outer s H vs Q E hr h => ?_)
  · obtain ⟨h, n, md, mw, rfl, d0, d1, w0, w1, hh, hn, q⟩ := h
    rfl
  · obtain ⟨h, n, md, mw, rfl, d0, d1, w0, w1, hh, hn, q⟩ := h
    refine ⟨_, (pss_cons (ps_set (i := 3) scCase.nd rfl (.inl rfl) (pe_ca cNu hr (by decide) (by rfl) (pa_cons (pv 0) (pa_cons (pe_op op_add pe_int (pe_ca cT hr (by decide) (by rfl) (pa_cons (pv 0) (pa_cons (pe_op op_add (pv 2) pe_int) pa_nil)))) pa_nil))))
      (pss_cons (ps_set (i := 4) scCase.nd rfl (.inl rfl) (pe_slice sl_list (pe_lc (own := [("_law_one", 10)]) (g := gName 10) (by rfl) scCase.nd (pi_list (pv 3)) (blkOk_by (own := [("_law_one", 10)]) (N := ["_law_hand_here", "_law_most_discs", "_law_most_wanted", "_law_things", "_law_wanted", "_law_thin", "_law_discs_here", "_law_k", "_law_one_wish", "_law_spot", "_law_one", "_law_some"]) (sc := defScope sCase) (by decide +kernel)) (fun _ _ _ _ _ => pg_name (i := 10) scCase.nd rfl (.inl rfl)) (fun _ _ _ _ _ => (pts_one (pt_cmpR op_gt (pe_ca cT hr (by decide) (by rfl) (pa_cons (pv 0) (pa_cons pe_int pa_nil))) pe_int (nomark _)))) (fun _ _ _ _ _ => pv 10)) po_none (po_some (pv 2))))
      (pss_cons (ps_asg (pe_tup (pa_cons (pe_ca cP hr (by decide) (by rfl) (pa_cons (pv 0) (pa_cons (pe_lst (pa_cons pe_int (pa_cons pe_int (pa_cons pe_int (pa_cons pe_int (pa_cons pe_int pa_nil)))))) pa_nil))) (pa_cons (pe_lst pa_nil) pa_nil))) (pg_tup (by rfl) (pgs_cons (pg_name (i := 5) scCase.nd rfl (.inr rfl)) (pgs_cons (pg_name (i := 6) scCase.nd rfl (.inl rfl)) pgs_nil))))
      (pss_cons (ps_for PassesOwn.never rfl (pi_range1 (by rfl) T.range (pa_cons (pe_ca cT hr (by decide) (by rfl) (pa_cons (pv 0) (pa_cons (pe_op op_add (pv 1) pe_int) pa_nil))) pa_nil)) (pg_name (i := 7) scCase.nd rfl (.inl rfl)) (pss_one (ps_expr (pe_bm PySem.F.plainAttrs_list PySem.F.slot_list_append PySem.F.type_list_append mt_append (pv 6) (pa_cons (pe_lc (own := [("_law_one", 10)]) (g := gName 10) (by rfl) scCase.nd (pi_list (pv 3)) (blkOk_by (own := [("_law_one", 10)]) (N := ["_law_hand_here", "_law_most_discs", "_law_most_wanted", "_law_things", "_law_wanted", "_law_thin", "_law_discs_here", "_law_k", "_law_one_wish", "_law_spot", "_law_one", "_law_some"]) (sc := defScope sCase) (by decide +kernel)) (fun _ _ _ _ _ => pg_name (i := 10) scCase.nd rfl (.inl rfl)) (fun _ _ _ _ _ => (pts_one (pt_cmpR op_eq (pe_ca cT hr (by decide) (by rfl) (pa_cons (pv 0) (pa_cons (pv 5) pa_nil))) pe_int (nomark _)))) (fun _ _ _ _ _ => pv 10)) pa_nil)))))
      (C8.pss_cut (ps_if (PW.pt (pw_and (pt_cmpR (op_neD hr.units) (pv 6) (pe_lst pa_nil) (nomark _)) (pw_and1 (pt_cmpR op_gt (pe_ca cT hr (by decide) (by rfl) (pa_cons (pv 0) (pa_cons pe_int pa_nil))) pe_int (nomark _))))) (pss_one (ps_for PassesOwn.never rfl (pi_list (pv 4)) (pg_name (i := 8) scCase.nd rfl (.inr rfl)) (pss_one (ps_if (pt_not (pt_val (pe_callB (cr_any (by rfl)) (by rfl) T.any (by decide +kernel) (pa_cons (pe_lc (own := [("_law_some", 11)]) (g := gName 11) (tt := tYes) (te := tOp (rIn K false) (tVar 8) (tVar 11)) (by rfl) scCase.nd (pi_list (pv 6)) (blkOk_by (own := [("_law_some", 11)]) (N := ["_law_hand_here", "_law_most_discs", "_law_most_wanted", "_law_things", "_law_wanted", "_law_thin", "_law_discs_here", "_law_k", "_law_one_wish", "_law_spot", "_law_one", "_law_some"]) (sc := defScope sCase) (by decide +kernel)) (fun _ _ _ _ _ => pg_name (i := 11) scCase.nd rfl (.inl rfl)) (fun _ _ _ _ _ => pts_nil) (fun _ _ _ _ _ => pe_cmpR op_in_seq (pv 8) (pv 11) (by rfl))) pa_nil)))) (pss_cons (ps_set (i := 9) scCase.nd rfl (.inl rfl) (pe_ca cT hr (by decide) (by rfl) (pa_cons (pv 0) (pa_cons (pe_callB call_len_seq (by rfl) T.len PySem.boot_len (pa_cons (pv 6) pa_nil)) pa_nil))))
      (pss_one (ps_asg (pe_callB cr_sortedI (by rfl) T.sorted (by decide +kernel) (pa_cons (pe_op op_cat (pe_ix ix_list (pv 6) (pv 9) (fun _ _ => rfl)) (pe_lst (pa_cons (pv 8) pa_nil))) pa_nil)) (pg_sub (pv 6) (pv 9) set_list)))) pss_nil)))) pss_nil)
      (pss_one (ps_ret (pe_tup (pa_cons (pe_callTy call_tuple_of (by rfl) T.tuple (by decide +kernel) (pa_cons (pe_lc (own := [("_law_some", 11)]) (g := gName 11) (tt := tYes) (te := tCB (rTo K) (tCons (tVar 11) tNil)) (by rfl) scCase.nd (pi_list (pv 6)) (blkOk_by (own := [("_law_some", 11)]) (N := ["_law_hand_here", "_law_most_discs", "_law_most_wanted", "_law_things", "_law_wanted", "_law_thin", "_law_discs_here", "_law_k", "_law_one_wish", "_law_spot", "_law_one", "_law_some"]) (sc := defScope sCase) (by decide +kernel)) (fun _ _ _ _ _ => pg_name (i := 11) scCase.nd rfl (.inl rfl)) (fun _ _ _ _ _ => pts_nil) (fun _ _ _ _ _ => pe_callTy call_tuple_of (by rfl) T.tuple (by decide +kernel) (pa_cons (pv 11) pa_nil))) pa_nil)) (pa_cons (pe_callTy call_tuple_of (by rfl) T.tuple (by decide +kernel) (pa_cons (pv 4) pa_nil)) pa_nil)))))))))), ?_⟩
    have fr : n + 2000 ≤ 1000000 := hn
    refine ⟨_, rfl, _, rfl, _, rfl, mw, 4, rfl, rfl, h, mw + 4, n, rfl, by omega, lt30' (by omega), hh, by show n ≤ 1000000; omega, fun d H1 e0 e1 h1 b1 => ?_⟩
    refine ⟨1, d, rfl, rfl, h, n + 1, 1 + d, rfl, by omega, by omega, h1, by show n + 1 + 100 ≤ 1000000; omega, fun L ns H2 eL Lh nL ln sN pN h2 b2 => ?_⟩
    have bt2 : But h H H2 := b1.trans b2
    have ns20 : ns.length ≤ 20 := by omega
    clear b1 b2 h1
    -- wishes
    have h2' : Hand (n + 31) H2 h := h2.mono (by omega)
    refine ⟨_, rfl, L, rfl, ⟨_, SqL.of eL⟩, fun D nD => ?_⟩
    have Dh := h2'.fresh nD
    refine lc_list (K := K) (a := L) (xs := ns.map V.int) (fun i Hi => ∃ ws : List Int, Hi D = some (.lst (ws.map V.int)) ∧ (ws.length ≤ i ∧ Sm ws ∧ ws.Sublist (ns.take i)) ∧ Hand (n + 31 + i) Hi h ∧ But h H2 Hi) ⟨[], upd_same, ⟨Nat.le_refl _, by simp [Sm], by simp⟩, (h2'.same (same_upd nD)).mono (by omega), Same.but (same_upd nD) h⟩ ?_ ?_ ?_
    · rintro i Hi _ ⟨ws, _, _, _, bi⟩
      exact SqL.of (bi _ _ Lh eL)
    · rintro i x Hi hx ⟨ws, eD, ⟨lw, sw, sub⟩, hdi, bi⟩
      rw [List.getElem?_map] at hx
      obtain ⟨g, eg, rfl⟩ := Option.map_eq_some_iff.mp hx
      have il : i < ns.length := (List.getElem?_eq_some_iff.mp eg).1
      refine ⟨rfl, ?_⟩
      refine ⟨_, rfl, h, 5, n + 31 + i, rfl, by decide, by decide, hdi, by show n + 31 + (i : Int) ≤ 1000000; omega, fun d H3 e0 e1 h3 b3 => ⟨d, 0, rfl, rfl, _, rfl, ite2 (fun e => ?_) (fun e => ?_)⟩⟩
      · refine ⟨_, rfl, _, b3 _ _ Dh eD, ?_, ws ++ [g], by rw [upd_same, List.map_append]; rfl, ?_, (h3.upd (Ne.symm Dh)).mono (by omega), fun b x nb e => ?_⟩
        · rw [List.length_map]
          exact Nat.lt_of_le_of_lt (show ws.length ≤ 100 by omega) (by decide)
        · refine ⟨?_, sw.snoc (sN g (List.mem_of_getElem? eg)).1 (sN g (List.mem_of_getElem? eg)).2, by rw [List.take_add_one, eg]; exact sub.append (List.Sublist.refl _)⟩
          rw [List.length_append]
          exact Nat.add_le_add_right lw 1
        · rw [upd_ne (ne_of_none e nD)]
          exact b3 b x nb (bi b x nb e)
      · exact ⟨ws, b3 _ _ Dh eD, ⟨Nat.le_succ_of_le lw, sw, by rw [List.take_add_one]; exact sub.trans (List.sublist_append_left _ _)⟩, h3.mono (by omega), bi.trans b3⟩
    rintro H3 ⟨ws0, eD, ⟨lw, sw0, sub0⟩, h3, b3⟩
    rw [List.length_map] at lw h3
    refine ⟨_, rfl, mw, rfl, D, _, rfl, SqL.of eD, fun W nW => ?_⟩
    obtain ⟨ws, ews, lws, sw, pw, lmw⟩ : ∃ ws : List Int, cutV (ws0.map V.int) none (some mw) = ws.map V.int ∧ ws.length ≤ 20 ∧ Sm ws ∧ ws.Pairwise (· < ·) ∧ (ws.length : Int) ≤ mw := ⟨_, cut_ints ws0 none (some mw), Nat.le_trans (cut_len ws0 none (some mw)) (by omega), fun x hx => sw0 x (List.mem_of_mem_drop (List.mem_of_mem_take hx)), pN.sublist (((List.take_sublist _ _).trans (List.drop_sublist _ _)).trans (sub0.trans (List.take_sublist _ _))), (by
      obtain ⟨kw, rfl⟩ : ∃ k : Nat, mw = (k : Int) := ⟨mw.toNat, by omega⟩
      rw [List.length_take, HT.sIx_nat]
      omega)⟩
    clear sub0
    rw [ews]
    have h3' : Hand (n + 60) H3 h := h3.mono (by omega)
    have sW := same_upd nW (o := .lst (ws.map V.int))
    have eW : (upd H3 W (.lst (ws.map V.int))) W = some (.lst (ws.map V.int)) := upd_same
    have eL3 := sW _ _ (b3 _ _ Lh eL)
    have hW := h3'.same sW
    have Wh := h3'.fresh nW
    have btW : But h H (upd H3 W (.lst (ws.map V.int))) := (bt2.trans b3).trans (Same.but sW h)
    generalize upd H3 W (.lst (ws.map V.int)) = H4 at eW eL3 hW btW ⊢
    clear b3 h3 h3' sW eD lw ews nW h2 h2' nD
    -- thin, held
    refine ⟨_, rfl, (by show 5 ≤ sizeLine; decide), fun l1 n1 => ?_⟩
    have s1 := same_upd n1 (o := .lst [.int 2, .int 2, .int 3, .int 4, .int 6])
    refine ⟨h, n + 60, _, rfl, hW.same s1, by show n + 60 ≤ 1000000; omega, .inl ⟨l1, _, rfl, upd_same, hW.fresh n1, by simp, by show 5 < 1000; decide, fun v H5 mv h5 b5 => ?_⟩⟩
    obtain ⟨th, rfl, th1, th2⟩ : ∃ i : Int, v = .int i ∧ 0 < i ∧ i < 1000 := by
      simp only [List.mem_cons, List.not_mem_nil, or_false] at mv
      rcases mv with e | e | e | e | e <;> exact ⟨_, e, by decide, by decide⟩
    refine ⟨(by show 0 ≤ sizeLine; decide), fun HL nHL => ⟨(by show 2 ≤ sizeLine; decide), fun tp ntp => ?_⟩⟩
    have sH := same_upd nHL (o := .lst [])
    have sP := same_upd ntp (o := .tup [.int th, .ref HL])
    have HLh := h5.fresh nHL
    have h6 := (h5.same sH).same sP
    have bt6 := (btW.trans (Same.but s1 h)).trans (b5.trans (Same.but (sH.trans sP) h))
    have eW6 := sP _ _ (sH _ _ (b5 _ _ Wh (s1 _ _ eW)))
    have eL6 := sP _ _ (sH _ _ (b5 _ _ Lh (s1 _ _ eL3)))
    have eH6 : (upd (upd H5 HL (.lst [])) tp (.tup [.int th, .ref HL])) HL = some (.lst []) := sP _ _ upd_same
    have WHL : W ≠ HL := ne_of_none (b5 _ _ Wh (s1 _ _ eW)) nHL
    have LHL : L ≠ HL := ne_of_none (b5 _ _ Lh (s1 _ _ eL3)) nHL
    have nH0 : H HL = none := by
      cases z : H HL with
      | none => rfl
      | some x =>
        have := b5 _ _ HLh (s1 _ _ (btW _ _ HLh z))
        rw [nHL] at this
        cases this
    refine ⟨tp, _, rfl, SqT.of upd_same, rfl, ?_⟩
    generalize upd (upd H5 HL (.lst [])) tp (.tup [.int th, .ref HL]) = H6 at h6 bt6 eW6 eL6 eH6 ⊢
    clear b5 h5 s1 sH sP btW eW eL3 hW eL nHL ntp n1 mv
    refine ⟨_, _, rfl, _, _, rfl, rfl, ?_⟩
    refine ⟨_, rfl, _, rfl, md, 1, rfl, rfl, h, md + 1, n + 61, rfl, by omega, lt30' (by omega), h6.mono (by omega), by show n + 61 ≤ 1000000; omega, fun dk H7 dk0 dk1 h7 b7 => ?_⟩
    refine ⟨_, rfl, by omega, by omega, for_range (lo := 0) (n := dk.toNat) (fun k σ Hi => ∃ (xs : List V) (c7 c8 c9 c10 c11 : Option V), σ = [some (.ref h), some (.int md), some (.int mw), some (.ref L), some (.ref W), some (.int th), some (.ref HL), c7, c8, c9, c10, c11] ∧ Hi HL = some (.lst xs) ∧ xs.length = k ∧ (∀ v ∈ xs, Li 20 h HL Hi v) ∧
        Hi L = some (.lst (ns.map V.int)) ∧ Hi W = some (.lst (ws.map V.int)) ∧ Hand (n + 62 + 30 * k) Hi h ∧ But h H Hi) ?_ ?_ ?_⟩
    · exact ⟨[], _, _, _, _, _, rfl, b7 _ _ HLh eH6, rfl, by simp, b7 _ _ Lh eL6, b7 _ _ Wh eW6, h7.mono (by omega), bt6.trans b7⟩
    · rintro k σ Hi hk ⟨xs, c7, c8, c9, c10, c11, rfl, eHi, lx, cx, eLi, eWi, hdi, bi⟩
      have k20 : k < 20 := by omega
      refine ⟨_, rfl, .inl ⟨rfl, _, SqL.of eHi⟩, _, rfl, L, rfl, ⟨_, SqL.of eLi⟩, fun D nD => ?_⟩
      have Dh := hdi.fresh nD
      refine lc_list (K := K) (a := L) (xs := ns.map V.int) (fun i Hj => ∃ gs : List Int, Hj D = some (.lst (gs.map V.int)) ∧ (gs.length ≤ i ∧ Sm gs) ∧ Hand (n + 62 + 30 * k + i) Hj h ∧ But h Hi Hj) ⟨[], upd_same, ⟨Nat.le_refl _, by simp [Sm]⟩, (hdi.same (same_upd nD)).mono (by omega), Same.but (same_upd nD) h⟩ ?_ ?_ ?_
      · rintro i Hj _ ⟨gs, _, _, _, bj⟩
        exact SqL.of (bj _ _ Lh eLi)
      · rintro i x Hj hx ⟨gs, eD, ⟨lg, sg⟩, hdj, bj⟩
        rw [List.getElem?_map] at hx
        obtain ⟨g, eg, rfl⟩ := Option.map_eq_some_iff.mp hx
        have il : i < ns.length := (List.getElem?_eq_some_iff.mp eg).1
        refine ⟨rfl, ?_⟩
        refine ⟨_, rfl, _, rfl, h, th, n + 62 + 30 * k + i, rfl, th1, lt30' th2, hdj, by show n + 62 + 30 * (k : Int) + i ≤ 1000000; omega, fun d H3 e0 e1 h3 b3 => ⟨rfl, _, rfl, ite2 (fun e => ?_) (fun e => ?_)⟩⟩
        · refine ⟨_, rfl, _, b3 _ _ Dh eD, ?_, gs ++ [g], by rw [upd_same, List.map_append]; rfl, ?_, (h3.upd (Ne.symm Dh)).mono (by omega), fun b x nb e => ?_⟩
          · rw [List.length_map]
            exact Nat.lt_of_le_of_lt (show gs.length ≤ 100 by omega) (by decide)
          · refine ⟨?_, sg.snoc (sN g (List.mem_of_getElem? eg)).1 (sN g (List.mem_of_getElem? eg)).2⟩
            rw [List.length_append]
            exact Nat.add_le_add_right lg 1
          · rw [upd_ne (ne_of_none e nD)]
            exact b3 b x nb (bj b x nb e)
        · exact ⟨gs, b3 _ _ Dh eD, ⟨Nat.le_succ_of_le lg, sg⟩, h3.mono (by omega), bj.trans b3⟩
      rintro H8 ⟨gs, eD, ⟨lg, sg⟩, h8, b8⟩
      rw [List.length_map] at h8
      have DHL : D ≠ HL := Ne.symm (ne_of_none eHi nD)
      refine ⟨HL, _, _, rfl, rfl, b8 _ _ HLh eHi, ?_, ?_⟩
      · rw [lx]
        exact Nat.lt_of_le_of_lt (show k ≤ 100 by omega) (by decide)
      · refine ⟨xs ++ [.ref D], _, _, _, _, _, rfl, upd_same, by rw [List.length_append, lx]; rfl, ?_, by rw [upd_ne LHL]; exact b8 _ _ Lh eLi, by rw [upd_ne WHL]; exact b8 _ _ Wh eWi, (h8.upd (Ne.symm HLh)).mono (by omega), fun b x nb e => ?_⟩
        · intro v hv
          rcases List.mem_append.mp hv with z | z
          · exact ((cx v z).but b8).upd
          · rw [List.mem_singleton.mp z]
            exact ⟨D, gs, rfl, DHL, Dh, by rw [upd_ne DHL]; exact eD, by rw [List.length_map] at lg; omega, sg⟩
        · rw [upd_ne (ne_of_none e nH0)]
          exact b8 b x nb (bi b x nb e)
    rintro σ H9 ⟨xs, c7, c8, c9, c10, c11, rfl, eH9, lx, cx, eL9, eW9, h9, b9⟩
    have lx20 : (xs.length : Int) ≤ md := by omega
    have h9' : Hand (n + 700) H9 h := h9.mono (by omega)
    have flat : ∀ gs : List Int, (gs.map V.int).all flatV = true := fun gs => by
      rw [List.all_eq_true]
      intro v hv
      obtain ⟨g, _, rfl⟩ := List.mem_map.mp hv
      rfl
    clear h9 h7 b7 h6 bt6 eW6 eL6 eH6 bt2
    refine ⟨fun σ Hi => ∃ (ys : List V) (c7 c8 c9 c10 c11 : Option V), σ = [some (.ref h), some (.int md), some (.int mw), some (.ref L), some (.ref W), some (.int th), some (.ref HL), c7, c8, c9, c10, c11] ∧ Hi HL = some (.lst ys) ∧ (ys.length : Int) ≤ md ∧ (∀ v ∈ ys, Li 40 h HL Hi v) ∧
        Hi W = some (.lst (ws.map V.int)) ∧ Hand (n + 800) Hi h ∧ But h H Hi, ?_, ?_⟩
    · have up : ∀ {Hi : Hp} {ys : List V} {m : Nat}, m ≤ 40 → (∀ v ∈ ys, Li m h HL Hi v) → ∀ v ∈ ys, Li 40 h HL Hi v := fun hm q v hv => by
        obtain ⟨l, gs, e, n1, n2, e2, lg, sg⟩ := q v hv
        exact ⟨l, gs, e, n1, n2, e2, Nat.le_trans lg hm, sg⟩
      refine ⟨_, rfl, (by show 0 ≤ sizeLine; decide), fun le nle => ?_⟩
      have se := same_upd nle (o := .lst [])
      have bE : But h H9 (upd H9 le (.lst [])) := Same.but se h
      obtain ⟨ds, q1, q2, q3⟩ := lists_dp (K := K) xs (fun v hv => (cx v hv).but bE)
      refine ⟨.list ds, .list [], .lst (SqL.of (se _ _ eH9)) q1, .lst (SqL.of upd_same) .nil, shaped_list q2 q3, rfl, _, rfl, ite2 (fun e => ?_) (fun e => ?_)⟩
      · have xne : xs ≠ [] := fun z => by
          subst z
          cases q1
          simp [PyData.eqv, PyData.eqvAll] at e
        have xpos : 0 < xs.length := List.length_pos_iff.mpr xne
        refine ⟨_, rfl, h, 4, n + 700, rfl, by decide, by decide, h9'.same se, by show n + 700 ≤ 1000000; omega, fun d Ha d0' d1' ha ba => ⟨d, 0, rfl, rfl, _, rfl, ite2 (fun e2 => ?_) (fun e2 => ?_)⟩⟩
        · have bA : But h H9 Ha := bE.trans ba
          refine ⟨_, rfl, W, rfl, ⟨_, SqL.of (bA _ _ Wh eW9)⟩, ?_⟩
          refine for_list (K := K) (a := W) (xs := ws.map V.int) (fun i σ Hi => ∃ (ys : List V) (c7 c8 c9 c10 c11 : Option V), σ = [some (.ref h), some (.int md), some (.int mw), some (.ref L), some (.ref W), some (.int th), some (.ref HL), c7, c8, c9, c10, c11] ∧ Hi HL = some (.lst ys) ∧ ys.length = xs.length ∧ (∀ v ∈ ys, Li (20 + i) h HL Hi v) ∧
            Hi W = some (.lst (ws.map V.int)) ∧ Hand (n + 701 + i) Hi h ∧ But h H Hi) ?_ ?_ ?_ ?_
          · exact ⟨xs, _, _, _, _, _, rfl, bA _ _ HLh eH9, rfl, fun v hv => (cx v hv).but bA, bA _ _ Wh eW9, ha.mono (by omega), b9.trans bA⟩
          · rintro i σ Hi _ ⟨ys, _, _, _, _, _, _, _, _, _, e, _⟩
            exact SqL.of e
          · rintro i x σ Hi hx ⟨ys, c7, c8, c9, c10, c11, rfl, eHi, ly, cy, eWi, hdi, bi⟩
            rw [List.getElem?_map] at hx
            obtain ⟨g, eg, rfl⟩ := Option.map_eq_some_iff.mp hx
            have il : i < ws.length := (List.getElem?_eq_some_iff.mp eg).1
            refine ⟨_, rfl, HL, rfl, ⟨_, SqL.of eHi⟩, fun D nD => ?_⟩
            refine lc_list (K := K) (a := HL) (xs := ys) (fun j Hj => L2.Same Hi Hj ∧ ∃ bs : List Bool, Hj D = some (.lst (bs.map V.bl)) ∧ bs.length = j) ⟨same_upd nD, [], upd_same, rfl⟩ ?_ ?_ ?_
            · rintro j Hj _ ⟨sj, _⟩
              exact SqL.of (sj _ _ eHi)
            · rintro j v Hj hv ⟨sj, bs, eD, lb⟩
              have jl : j < ys.length := (List.getElem?_eq_some_iff.mp hv).1
              obtain ⟨l, gs, rfl, n1, n2, el, lg, sg⟩ := cy v (List.mem_of_getElem? hv)
              refine ⟨rfl, ?_⟩
              unfold tYes
              refine iteT ⟨_, rfl, _, rfl, l, _, rfl, .inl (SqL.of (sj _ _ el)), rfl, flat gs, ?_⟩
              refine ⟨_, eD, ?_, fun b x e => ?_, bs ++ [inV (.int g) (gs.map V.int)], by rw [upd_same, List.map_append]; rfl, by rw [List.length_append, lb]; rfl⟩
              · rw [List.length_map, lb]
                exact Nat.lt_of_le_of_lt (show j ≤ 100 by omega) (by decide)
              · rw [upd_ne (ne_of_none e nD)]
                exact sj b x e
            rintro Hb ⟨sb, bs, eD, lb⟩
            refine ⟨D, bs, rfl, SqL.of eD, _, rfl, ite2 (fun e3 => ?_) (fun e3 => ?_)⟩
            · refine ⟨_, rfl, _, rfl, HL, ys, rfl, .inl (SqL.of (sb _ _ eHi)), h, (ys.length : Int), n + 701 + i, rfl, by omega, lt30' (by omega), hdi.same sb, by show n + 701 + (i : Int) ≤ 1000000; omega, fun d Hc f0 f1 hc bc => ?_⟩
              have bC : But h Hi Hc := (Same.but sb h).trans bc
              obtain ⟨j, rfl⟩ : ∃ j : Nat, d = (j : Int) := ⟨d.toNat, by omega⟩
              have hj : j < ys.length := by omega
              obtain ⟨l, gs, el', n1, n2, el, lg, sg⟩ := cy ys[j] (List.getElem_mem hj)
              have eHc := bC _ _ HLh eHi
              refine ⟨_, rfl, _, rfl, HL, ys, _, .ref l, rfl, rfl, SqL.of eHc, atI_nat (by rw [List.getElem?_eq_getElem hj, el']), ?_⟩
              refine ⟨_, rfl, (by show 1 ≤ sizeLine; decide), fun lw nlw => ?_⟩
              have slw := same_upd nlw (o := .lst [.int g])
              refine ⟨l, lw, _, _, rfl, rfl, slw _ _ (bC _ _ n2 el), upd_same, ?_, fun lc nlc => ?_⟩
              · rw [List.length_map]
                exact Nat.le_trans (show gs.length + 1 ≤ 100 by omega) (by decide)
              have slc := same_upd nlc (o := .lst (gs.map V.int ++ [.int g]))
              refine ⟨lc, gs ++ [g], rfl, SqL.of (by rw [upd_same, List.map_append]; rfl), fun ns' p perm _ np => ?_⟩
              have sp := same_upd np (o := .lst (ns'.map V.int))
              have sA := (slw.trans slc).trans sp
              have eHp := sA _ _ eHc
              refine ⟨_, rfl, _, rfl, HL, _, _, j, rfl, rfl, eHp, ixN_nat hj, ?_⟩
              have ph := ((hc.same slw).same slc).fresh np
              have pHL : p ≠ HL := Ne.symm (ne_of_none (slc _ _ (slw _ _ eHc)) np)
              have bF : But h Hi (upd (upd (upd Hc lw (.lst [.int g])) lc (.lst (gs.map V.int ++ [.int g]))) p (.lst (ns'.map V.int))) := bC.trans (Same.but sA h)
              refine ⟨_, _, _, _, _, _, rfl, upd_same, by rw [List.length_set]; exact ly, fun v hv => ?_, by rw [upd_ne WHL]; exact bF _ _ Wh eWi, ((hc.same sA).upd (Ne.symm HLh)).mono (by omega), fun b x nb e => ?_⟩
              · rcases List.mem_or_eq_of_mem_set hv with z | z
                · obtain ⟨l2, g2, r1, r2, r3, r4, r5, r6⟩ := ((cy v z).but bF).upd (o := .lst (ys.set j (.ref p)))
                  exact ⟨l2, g2, r1, r2, r3, r4, by omega, r6⟩
                · subst z
                  refine ⟨p, ns', rfl, pHL, ph, by rw [upd_ne pHL, upd_same], ?_, fun x hx => (sg.snoc (sw g (List.mem_of_getElem? eg)).1 (sw g (List.mem_of_getElem? eg)).2) x (perm.mem_iff.mp hx)⟩
                  rw [perm.length_eq, List.length_append]
                  show gs.length + 1 ≤ _
                  omega
              · rw [upd_ne (ne_of_none e nH0)]
                exact bF b x nb (bi b x nb e)
            · refine ⟨ys, _, _, _, _, _, rfl, sb _ _ eHi, ly, fun v hv => ?_, sb _ _ eWi, (hdi.same sb).mono (by omega), bi.trans (Same.but sb h)⟩
              obtain ⟨l2, g2, r1, r2, r3, r4, r5, r6⟩ := (cy v hv).but (Same.but sb h)
              exact ⟨l2, g2, r1, r2, r3, r4, by omega, r6⟩
          · rintro σ Hz ⟨ys, c7, c8, c9, c10, c11, rfl, eHi, ly, cy, eWi, hdi, bi⟩
            rw [List.length_map] at cy hdi
            exact ⟨ys, _, _, _, _, _, rfl, eHi, by omega, up (by omega) cy, eWi, hdi.mono (by omega), bi⟩
        · have bA : But h H9 Ha := bE.trans ba
          exact ⟨xs, _, _, _, _, _, rfl, bA _ _ HLh eH9, lx20, up (by decide) (fun v hv => (cx v hv).but bA), bA _ _ Wh eW9, ha.mono (by omega), b9.trans bA⟩
      · exact ⟨xs, _, _, _, _, _, rfl, se _ _ eH9, lx20, up (by decide) (fun v hv => (cx v hv).but bE), se _ _ eW9, (h9'.same se).mono (by omega), b9.trans bE⟩
    rintro σ Hi ⟨ys, c7, c8, c9, c10, c11, rfl, eHi, ly, cy, eWi, hdi, bi⟩
    refine ⟨_, rfl, HL, rfl, ⟨_, SqL.of eHi⟩, fun D nD => ?_⟩
    refine lc_list (K := K) (a := HL) (xs := ys) (fun j Hj => L2.Same Hi Hj ∧ ∃ zs : List V, Hj D = some (.lst zs) ∧ zs.length = j ∧ ∀ v ∈ zs, ∃ t, ∃ gs : List Int, v = .ref t ∧ Hj t = some (.tup (gs.map V.int)) ∧ gs.length ≤ 40 ∧ Sm gs) ⟨same_upd nD, [], upd_same, rfl, by simp⟩ ?_ ?_ ?_
    · rintro j Hj _ ⟨sj, _⟩
      exact SqL.of (sj _ _ eHi)
    · rintro j v Hj hv ⟨sj, zs, eD, lz, cz⟩
      have jl : j < ys.length := (List.getElem?_eq_some_iff.mp hv).1
      obtain ⟨l, gs, rfl, n1, n2, el, lg, sg⟩ := cy v (List.mem_of_getElem? hv)
      refine ⟨rfl, ?_⟩
      unfold tYes
      refine iteT ⟨_, rfl, l, _, rfl, .inl ⟨SqL.of (sj _ _ el), fun p np => ?_⟩⟩
      have sp := same_upd np (o := .tup (gs.map V.int))
      have pD : p ≠ D := Ne.symm (ne_of_none eD np)
      refine ⟨_, sp _ _ eD, ?_, fun b x e => ?_, zs ++ [.ref p], upd_same, by rw [List.length_append, lz]; rfl, fun v hv => ?_⟩
      · rw [lz]
        exact Nat.lt_of_le_of_lt (show j ≤ 100 by omega) (by decide)
      · rw [upd_ne (ne_of_none e nD)]
        exact sp _ _ (sj b x e)
      · rcases List.mem_append.mp hv with z | z
        · obtain ⟨t, g2, e1, e2, e3⟩ := cz v z
          refine ⟨t, g2, e1, ?_, e3⟩
          rw [upd_ne (fun q => by rw [q, eD] at e2; cases e2)]
          exact sp _ _ e2
        · rw [List.mem_singleton.mp z]
          exact ⟨p, gs, rfl, by rw [upd_ne pD, upd_same], lg, sg⟩
    rintro Hb ⟨sb, zs, eD, lz, cz⟩
    refine ⟨D, zs, rfl, .inl ⟨SqL.of eD, fun ta nta => ?_⟩⟩
    have s1 := same_upd nta (o := .tup zs)
    refine ⟨_, rfl, W, _, rfl, .inl ⟨SqL.of (s1 _ _ (sb _ _ eWi)), fun tb ntb => ?_⟩⟩
    have s2 := same_upd ntb (o := .tup (ws.map V.int))
    refine ⟨(by show 2 ≤ sizeLine; decide), fun tt ntt => ?_⟩
    have s3 := same_upd ntt (o := .tup [.ref ta, .ref tb])
    have sA := (s1.trans s2).trans s3
    obtain ⟨hs, hl, sh⟩ := Hl.of (H := upd (upd (upd Hb ta (.tup zs)) tb (.tup (ws.map V.int))) tt (.tup [.ref ta, .ref tb])) zs fun v hv => by
      obtain ⟨t, g2, e1, e2, e3⟩ := cz v hv
      exact ⟨t, g2, e1, sA _ _ e2, e3⟩
    have lhs := hl.len
    exact q tt ta tb zs hs ws _ upd_same (s3 _ _ (s2 _ _ upd_same)) hl (by omega) sh (s3 _ _ upd_same) lws sw pw lmw (((hdi.same sb).same sA).mono (by omega)) (bi.trans (Same.but (sb.trans sA) h))
end
end K62
set_option Elab.async false
set_option linter.all false
set_option maxRecDepth 100000
set_option maxHeartbeats 4000000
set_option pp.maxSteps 400
set_option pp.deepTerms false
namespace K62
open PySem PySem.Spec PyProof.Rows L2
open Xk Az
section
variable {P : Program} {w : World} {K : PySem.W.Frag} {mg : Str → Option Value} {base : Heap}
theorem flat_ints (gs : List Int) : (gs.map V.int).all flatV = true := by
  rw [List.all_eq_true]
  intro v hv
  obtain ⟨g, _, rfl⟩ := List.mem_map.mp hv
  rfl
theorem inV_ints (g : Int) : ∀ gs : List Int, inV (.int g) (gs.map V.int) = decide (g ∈ gs)
  | [] => by simp [inV]
  | x :: r => by
    have ih := inV_ints g r
    unfold inV at ih ⊢
    rw [List.map_cons, List.any_cons, ih]
    by_cases c : x = g
    · simp [eqV, c]
    · simp [eqV, c, Ne.symm c]
def spHolders : Sp := fun vs H Q _ => ∃ (a : Addr) (g : Int) (xs : List V) (hs : List (List Int)), vs = [.ref a, .int g] ∧ H a = some (.tup xs) ∧ Hl H xs hs ∧ hs.length ≤ 12 ∧
  ∀ L (ns : List Int) H', L2.Same H H' → H' L = some (.lst (ns.map V.int)) → (ns.isEmpty = ((List.range hs.length).all fun k => !P56.on hs k g)) → ns = P56.toI (P56.hold hs g) → Q (.ref L) H'
def spNA (K : PySem.W.Frag) : Sp := fun vs H Q _ => ∃ (a b : Addr) (gs ms : List Int), vs = [.ref a, .ref b] ∧ H a = some (.tup (gs.map V.int)) ∧ H b = some (.tup (ms.map V.int)) ∧ ms.length ≤ 20 ∧
  ∀ t H', L2.Same H H' → H' t = some (.tup ((P56.rest gs ms).map V.int)) → Q (.ref t) H'
theorem ok_holders {f : Addr} {fd : FuncData} (D : Df K mg "holders" ["held", "wish"] sHolders f fd) (T : Txt mg) : FnOk P w K mg base CX0 1 f fd ["held", "wish"] spHolders := by
  refine D.fn.ok scHolders (fun vs H Q E h => ?_) (fun cdv A outer s H vs Q E hr h => ?_)
  · obtain ⟨a, g, xs, hs, rfl, ea, hl, l12, q⟩ := h
    rfl
  · obtain ⟨a, g, xs, hs, rfl, ea, hl, l12, q⟩ := h
    refine ⟨_, (pss_one (ps_ret (pe_lc (own := [("number", 2), ("things", 3)]) (g := (gTup K 2 (gCons (gName 2) (gCons (gName 3) gNil)))) (tt := tTest (tOp (rIn K false) (tVar 1) (tVar 3))) (by rfl) scHolders.nd (Xt.pi_enumT (by rfl) T.enumerate (pa_cons (pv 0) pa_nil)) (blkOk_by (own := [("number", 2), ("things", 3)]) (N := ["held", "wish", "number", "things"]) (sc := defScope sHolders) (by decide +kernel)) (fun _ _ _ _ _ => pg_tup (by rfl) (pgs_cons (pg_name (i := 2) scHolders.nd rfl (.inl rfl)) (pgs_cons (pg_name (i := 3) scHolders.nd rfl (.inl rfl)) pgs_nil))) (fun _ _ _ _ _ => (pts_one (pt_cmpR op_in_seq (pv 1) (pv 3) (by rfl)))) (fun _ _ _ _ _ => pv 2)))), ?_⟩
    have lh := hl.len
    refine ⟨_, rfl, a, xs, rfl, SqT.of ea, fun D nD => ?_⟩
    refine lc_it (Xt.walk_enumT (K := K) (a := a) (xs := xs)) (fun i Hi => L2.Same H Hi ∧ ∃ ns : List Int, Hi D = some (.lst (ns.map V.int)) ∧ ns.length ≤ i ∧ (ns.isEmpty = ((List.range i).all fun k => !P56.on hs k g)) ∧ ns = P56.toI ((List.range i).filter fun k => P56.on hs k g)) ⟨same_upd nD, [], upd_same, Nat.le_refl _, rfl, rfl⟩ (fun i Hi _ z => SqT.of (z.1 _ _ ea)) ?_ ?_
    · rintro i v Hi H' hi ⟨sm, ns, eD, ln, en, ef⟩ ⟨t, x, z, rfl, nt, rfl, ex, ez⟩
      have hi' : i < hs.length := by omega
      obtain ⟨tk, etk, eTk⟩ := hl.get hi'
      obtain rfl : V.ref tk = z := Option.some.inj (etk.symm.trans ez)
      obtain rfl : V.int (i : Nat) = x := Option.some.inj ex
      have st := same_upd nt (o := .tup [.int (i : Nat), .ref tk])
      have eo : P56.on hs i g = inV (.int g) ((hs[i]).map V.int) := by
        rw [inV_ints]
        unfold P56.on
        simp [List.getD_eq_getElem?_getD, hi']
      refine ⟨t, _, rfl, SqT.of upd_same, rfl, _, _, rfl, _, _, rfl, rfl, rfl, ?_⟩
      refine ⟨_, rfl, _, rfl, tk, _, rfl, .inr (SqT.of (st _ _ (sm _ _ eTk))), rfl, flat_ints _, ?_⟩
      refine ⟨_, rfl, ite2 (fun e => ?_) (fun e => ?_)⟩
      · refine ⟨_, rfl, _, st _ _ eD, ?_, fun c o q => ?_, ns ++ [(i : Int)], by rw [upd_same, List.map_append]; rfl, by rw [List.length_append]; exact Nat.add_le_add_right ln 1, ?_, ?_⟩
        · rw [List.length_map]
          exact Nat.lt_of_le_of_lt (show ns.length ≤ 1000 by omega) (by decide)
        · rw [upd_ne (ne_of_none q nD)]
          exact st _ _ (sm _ _ q)
        · rw [List.range_succ, List.all_append, List.all_cons, eo]
          simp at e
          simp [e]
        · have e' : P56.on hs i g = true := by rw [eo]; simpa using e
          rw [List.range_succ, List.filter_append, List.filter_cons, if_pos e', ef]
          simp [P56.toI]
      · refine ⟨sm.trans st, ns, st _ _ eD, Nat.le_succ_of_le ln, ?_, ?_⟩
        · rw [List.range_succ, List.all_append, List.all_cons, eo, en]
          simp at e
          simp [e]
        · have e' : ¬ P56.on hs i g = true := by rw [eo]; simpa using e
          rw [List.range_succ, List.filter_append, List.filter_cons, if_neg e', ef]
          simp
    · rintro He ⟨sm, ns, eD, ln, en, ef⟩
      rw [lh] at en ef
      exact q D ns He sm eD en ef
theorem ok_na {f : Addr} {fd : FuncData} (D : Df K mg "not_among" ["things", "wishes"] sNotAmong f fd) (T : Txt mg) : FnOk P w K mg base CX0 1 f fd ["things", "wishes"] (spNA K) := by
  refine D.fn.ok scNotAmong (fun vs H Q E h => ?_) (fun cdv A outer s H vs Q E hr h => ?_)
  · obtain ⟨a, b, gs, ms, rfl, ea, eb, l20, q⟩ := h
    rfl
  · obtain ⟨a, b, gs, ms, rfl, ea, eb, l20, q⟩ := h
    refine ⟨_, (pss_one (ps_ret (pe_callTy call_tuple_of (by rfl) T.tuple (by decide +kernel) (pa_cons (pe_lc (own := [("wish", 2)]) (g := gName 2) (tt := tTest (tOp (rIn K true) (tVar 2) (tVar 0))) (by rfl) scNotAmong.nd (pi_tup (pv 1)) (blkOk_by (own := [("wish", 2)]) (N := ["things", "wishes", "wish"]) (sc := defScope sNotAmong) (by decide +kernel)) (fun _ _ _ _ _ => pg_name (i := 2) scNotAmong.nd rfl (.inl rfl)) (fun _ _ _ _ _ => (pts_one (pt_cmpR op_notIn_seq (pv 2) (pv 0) (by rfl)))) (fun _ _ _ _ _ => pv 2)) pa_nil)))), ?_⟩
    refine ⟨_, rfl, b, rfl, ⟨_, SqT.of eb⟩, fun D nD => ?_⟩
    refine lc_tup (K := K) (a := b) (xs := ms.map V.int) (fun i Hi => L2.Same H Hi ∧ Hi D = some (.lst ((P56.rest gs (ms.take i)).map V.int))) ⟨same_upd nD, upd_same⟩ (fun i Hi _ z => SqT.of (z.1 _ _ eb)) ?_ ?_
    · rintro i x Hi hx ⟨sm, eD⟩
      rw [List.getElem?_map] at hx
      obtain ⟨g, eg, rfl⟩ := Option.map_eq_some_iff.mp hx
      have il : i < ms.length := (List.getElem?_eq_some_iff.mp eg).1
      have tk : P56.rest gs (ms.take (i + 1)) = P56.rest gs (ms.take i) ++ (if inV (.int g) (gs.map V.int) = true then [] else [g]) := by
        unfold P56.rest
        rw [List.take_add_one, eg, List.filter_append, inV_ints]
        by_cases c : g ∈ gs <;> simp [c]
      refine ⟨rfl, ?_⟩
      refine ⟨_, rfl, _, rfl, a, _, rfl, .inr (SqT.of (sm _ _ ea)), rfl, flat_ints _, ?_⟩
      refine ⟨_, rfl, ite2 (fun e => ?_) (fun e => ?_)⟩
      · have e' : inV (.int g) (gs.map V.int) = false := by simpa using e
        refine ⟨_, rfl, _, eD, ?_, fun c o q => ?_, ?_⟩
        · rw [List.length_map]
          refine Nat.lt_of_le_of_lt (Nat.le_trans (List.length_filter_le _ _) (show (ms.take i).length ≤ 1000 from ?_)) (by decide)
          rw [List.length_take]; omega
        · rw [upd_ne (ne_of_none q nD)]
          exact sm _ _ q
        · rw [upd_same, tk, e', if_neg Bool.false_ne_true, List.map_append]
          rfl
      · have e' : inV (.int g) (gs.map V.int) = true := by simpa using e
        refine ⟨sm, ?_⟩
        rw [tk, e', if_pos rfl, List.append_nil]
        exact eD
    · rintro He ⟨sm, eD⟩
      rw [List.length_map, List.take_length] at eD
      refine ⟨D, _, rfl, .inl ⟨SqL.of eD, fun p np => ?_⟩⟩
      exact q p _ (sm.trans (same_upd np)) upd_same
end
end K62
set_option Elab.async false
set_option linter.all false
set_option maxRecDepth 100000
set_option maxHeartbeats 4000000
set_option pp.maxSteps 400
set_option pp.deepTerms false
namespace K62
open PySem PySem.Spec PyProof.Rows L2
open Xk Az
section
variable {P : Program} {w : World} {K : PySem.W.Frag} {mg : Str → Option Value} {base : Heap}
/-- choices, with what each one misses -/
inductive ChL (H : Hp) : List V → List (List Nat × List Int) → Prop
  | nil : ChL H [] []
  | cons {t c r : Addr} {p : List Nat × List Int} {xs : List V} {ps : List (List Nat × List Int)} (e1 : H t = some (.tup [.ref c, .ref r])) (e2 : H c = some (.tup ((P56.toI p.1).map V.int))) (e3 : H r = some (.tup (p.2.map V.int))) (rest : ChL H xs ps) : ChL H (.ref t :: xs) (p :: ps)
theorem ChL.len {H : Hp} {xs : List V} {ps : List (List Nat × List Int)} (h : ChL H xs ps) : xs.length = ps.length := by
  induction h with
  | nil => rfl
  | cons _ _ _ _ ih => rw [List.length_cons, List.length_cons, ih]
theorem ChL.keep {H H' : Hp} {xs : List V} {ps : List (List Nat × List Int)} (h : ChL H xs ps) (k : ∀ b ys, H b = some (.tup ys) → H' b = some (.tup ys)) : ChL H' xs ps := by
  induction h with
  | nil => exact .nil
  | cons e1 e2 e3 _ ih => exact .cons (k _ _ e1) (k _ _ e2) (k _ _ e3) ih
theorem ChL.same {H H' : Hp} {xs : List V} {ps : List (List Nat × List Int)} (h : ChL H xs ps) (s : L2.Same H H') : ChL H' xs ps := h.keep fun b ys e => s _ _ e
theorem ChL.app {H : Hp} {xs ys : List V} {ps qs : List (List Nat × List Int)} (h : ChL H xs ps) (h2 : ChL H ys qs) : ChL H (xs ++ ys) (ps ++ qs) := by
  induction h with
  | nil => exact h2
  | cons e1 e2 e3 _ ih => exact .cons e1 e2 e3 ih
theorem ChL.snoc {H : Hp} {xs : List V} {ps : List (List Nat × List Int)} {t c r : Addr} {p : List Nat × List Int} (h : ChL H xs ps) (e1 : H t = some (.tup [.ref c, .ref r])) (e2 : H c = some (.tup ((P56.toI p.1).map V.int))) (e3 : H r = some (.tup (p.2.map V.int))) : ChL H (xs ++ [.ref t]) (ps ++ [p]) := h.app (.cons e1 e2 e3 .nil)
theorem ChL.get {H : Hp} {xs : List V} {ps : List (List Nat × List Int)} (h : ChL H xs ps) {i : Nat} {x : V} (hx : xs[i]? = some x) : ∃ t c r p, x = .ref t ∧ ps[i]? = some p ∧ H t = some (.tup [.ref c, .ref r]) ∧ H c = some (.tup ((P56.toI p.1).map V.int)) ∧ H r = some (.tup (p.2.map V.int)) := by
  induction h generalizing i with
  | nil => simp at hx
  | cons e1 e2 e3 _ ih =>
    cases i with
    | zero =>
      cases hx
      exact ⟨_, _, _, _, rfl, rfl, e1, e2, e3⟩
    | succ i => exact ih hx
theorem none_of {H H' : Hp} {a : Addr} (s : L2.Same H H') (n : H' a = none) : H a = none := by
  cases z : H a with
  | none => rfl
  | some x => rw [s _ _ z] at n; cases n
def spLonger : Sp := fun vs H Q _ => ∃ (a b m : Addr) (xs : List V) (hs : List (List Int)) (d : List Nat) (ms : List Int), vs = [.ref a, .ref b, .ref m] ∧ H a = some (.tup xs) ∧ Hl H xs hs ∧ hs.length ≤ 12 ∧ H b = some (.tup ((P56.toI d).map V.int)) ∧ d.length ≤ 12 ∧ P56.first d ≤ 12 ∧
  H m = some (.tup (ms.map V.int)) ∧ ms.length ≤ 20 ∧ ∀ L zs H', L2.Same H H' → H L = none → H' L = some (.lst zs) → ChL H' zs (P56.step hs (d, ms)) → Q (.ref L) H'
def rLn (K : PySem.W.Frag) : List V → Hp → VK → Prop := fun xs H Q => ∃ p ys, xs = [V.ref p] ∧ (SqL K H p ys ∨ SqT K H p ys) ∧ Q (V.int ys.length) H
theorem ok_longer {f : Addr} {fd : FuncData} (D : Df K mg "longer_by_one" ["held", "discs", "missing"] sLongerByOne f fd) (T : Txt mg) (cNA : Ca P w K mg base 1 "not_among" ["things", "wishes"] (spNA K)) : FnOk P w K mg base CX0 2 f fd ["held", "discs", "missing"] spLonger := by
  refine D.fn.ok scLongerByOne (fun vs H Q E h => ?_) (fun cdv A outer s H vs Q E hr h => ?_)
  · obtain ⟨a, b, m, xs, hs, d, ms, rfl, ea, hl, l12, eb, ld, fd12, em, l20, q⟩ := h
    rfl
  · obtain ⟨a, b, m, xs, hs, d, ms, rfl, ea, hl, l12, eb, ld, fd12, em, l20, q⟩ := h
    refine ⟨_, (C8.pss_cut (ps_set (i := 3) scLongerByOne.nd rfl (.inl rfl) (pe_ifExp (pt_cmpR op_gt (pe_callB call_len_seq (by rfl) T.len PySem.boot_len (pa_cons (pv 1) pa_nil)) pe_int (nomark _)) (pe_op op_add (pe_ix ix_tup (pv 1) (pe_un un_neg pe_int) (fun _ _ => rfl)) pe_int) pe_int))
      (pss_cons (ps_setLc (i := 4) (own := [("number", 5)]) (g := gName 5) (tt := tYes) (te := tTup (tCons (tTup (Xt.tStar K (tVar 1) (tCons (tVar 5) tNil))) (tCons (tCall (spNA K) [] E0 (tCons (tOp (rIxT K) (tVar 0) (tVar 5)) (tCons (tVar 2) tNil))) tNil))) (by rfl) scLongerByOne.nd rfl rfl (sw_true rfl rfl rfl (by decide +kernel)) (pi_range2 (by rfl) T.range (pa_cons (pv 3) (pa_cons (pe_callB call_len_seq (by rfl) T.len PySem.boot_len (pa_cons (pv 0) pa_nil)) pa_nil))) (blkOk_by (own := [("number", 5)]) (N := ["held", "discs", "missing", "first", "longer", "number", "choice", "rest"]) (sc := defScope sLongerByOne) (by decide +kernel)) (fun _ _ _ _ _ => pg_name (i := 5) scLongerByOne.nd rfl (.inl rfl)) (fun _ _ _ _ _ => pts_nil) (fun _ _ _ _ _ => pe_tup (pa_cons (pe_tup (Xt.pa_star (pv 1) (pa_cons (pv 5) pa_nil))) (pa_cons (pe_ca cNA hr (by decide) (by rfl) (pa_cons (pe_ix ix_tup (pv 0) (pv 5) (fun _ _ => rfl)) (pa_cons (pv 2) pa_nil))) pa_nil))))
      (pss_one (ps_ret (pe_lc (own := [("choice", 6), ("rest", 7)]) (g := (gTup K 2 (gCons (gName 6) (gCons (gName 7) gNil)))) (tt := tTest (tOp (rI0 fun i j => V.bl (decide (i < j))) (tCB (rLn K) (tCons (tVar 7) tNil)) (tCB (rLn K) (tCons (tVar 2) tNil)))) (by rfl) scLongerByOne.nd (pi_list (pv 4)) (blkOk_by (own := [("choice", 6), ("rest", 7)]) (N := ["held", "discs", "missing", "first", "longer", "number", "choice", "rest"]) (sc := defScope sLongerByOne) (by decide +kernel)) (fun _ _ _ _ _ => pg_tup (by rfl) (pgs_cons (pg_name (i := 6) scLongerByOne.nd rfl (.inl rfl)) (pgs_cons (pg_name (i := 7) scLongerByOne.nd rfl (.inl rfl)) pgs_nil))) (fun _ _ _ _ _ => (pts_one (pt_cmpR op_lt (pe_callB call_len_seq (by rfl) T.len PySem.boot_len (pa_cons (pv 7) pa_nil)) (pe_callB call_len_seq (by rfl) T.len PySem.boot_len (pa_cons (pv 2) pa_nil)) (nomark _)))) (fun _ _ _ _ _ => pe_tup (pa_cons (pv 6) (pa_cons (pv 7) pa_nil)))))))), ?_⟩
    have lh := hl.len
    refine ⟨fun σ Hi => σ = [some (.ref a), some (.ref b), some (.ref m), some (.int (P56.first d : Nat)), none, none, none, none] ∧ Hi = H, ?_, ?_⟩
    · refine ⟨_, rfl, b, _, rfl, .inr (SqT.of eb), _, 0, rfl, rfl, _, rfl, ite2 (fun e => ?_) (fun e => ?_)⟩
      · have l0 : 0 < d.length := by
          have : ((0 : Int) < (((P56.toI d).map V.int).length : Int)) := of_decide_eq_true e
          rw [List.length_map] at this
          unfold P56.toI at this
          rw [List.length_map] at this
          omega
        have ec := (List.dropLast_concat_getLast (l := d) (by intro z; rw [z] at l0; simp at l0)).symm
        generalize d.dropLast = d' at ec
        generalize d.getLast _ = k at ec
        subst ec
        have at1 : atI ((P56.toI (d' ++ [k])).map V.int) (-1) = some (.int (k : Nat)) := by
          unfold P56.toI
          rw [List.map_append, List.map_append]
          exact atI_last _ _
        refine ⟨_, rfl, 1, rfl, b, _, -1, _, rfl, rfl, SqT.of eb, at1, _, 1, rfl, rfl, ?_⟩
        have ef : P56.first (d' ++ [k]) = k + 1 := by
          unfold P56.first
          simp
        rw [ef]
        exact ⟨rfl, rfl⟩
      · have l0 : d = [] := by
          refine List.eq_nil_of_length_eq_zero ?_
          have : ¬ ((0 : Int) < (((P56.toI d).map V.int).length : Int)) := fun z => e (decide_eq_true z)
          rw [List.length_map] at this
          unfold P56.toI at this
          rw [List.length_map] at this
          omega
        subst l0
        exact ⟨rfl, rfl⟩
    rintro σ Hi ⟨rfl, rfl⟩
    have fn : (P56.first d : Int) ≤ 12 := by omega
    refine ⟨_, rfl, _, rfl, a, xs, rfl, .inr (SqT.of ea), _, _, rfl, ⟨by omega, by omega, by omega, by omega⟩, fun D nD => ?_⟩
    refine lc_range (fun i Hj => L2.Same Hi Hj ∧ ∃ zs, Hj D = some (.lst zs) ∧ ChL Hj zs ((List.range' (P56.first d) i).map fun k => (d ++ [k], P56.rest (hs.getD k []) ms))) ⟨same_upd nD, [], upd_same, .nil⟩ ?_ ?_
    · rintro i Hj hi ⟨sm, zs, eD, cz⟩
      have hk : P56.first d + i < hs.length := by omega
      obtain ⟨tk, etk, eTk⟩ := hl.get hk
      have lz := cz.len
      rw [List.length_map, List.length_range'] at lz
      refine ⟨rfl, ?_⟩
      unfold tYes
      refine iteT ⟨_, rfl, b, _, rfl, SqT.of (sm _ _ eb), _, rfl, ?_, fun p np => ?_⟩
      · unfold P56.toI
        rw [List.length_append, List.length_map, List.length_map]
        exact Nat.le_trans (show d.length + 1 ≤ 100 by omega) (by decide)
      have s1 := same_upd np (o := .tup ((P56.toI d).map V.int ++ [.int (((P56.first d : Nat) : Int) + (i : Nat))]))
      refine ⟨_, rfl, _, rfl, a, _, _, .ref tk, rfl, rfl, SqT.of (s1 _ _ (sm _ _ ea)), atI_nat (j := P56.first d + i) etk, _, rfl, ?_⟩
      refine ⟨tk, m, _, ms, rfl, s1 _ _ (sm _ _ eTk), s1 _ _ (sm _ _ em), l20, fun t Ht st et => ?_⟩
      refine ⟨(by show 2 ≤ sizeLine; decide), fun r nr => ?_⟩
      have s2 := same_upd nr (o := .tup [.ref p, .ref t])
      have sA := (s1.trans st).trans s2
      have D1 := sA _ _ eD
      refine ⟨_, D1, ?_, fun c o e => ?_, zs ++ [.ref r], upd_same, ?_⟩
      · rw [lz]
        exact Nat.lt_of_le_of_lt (show i ≤ 100 by omega) (by decide)
      · rw [upd_ne (ne_of_none e nD)]
        exact sA _ _ (sm _ _ e)
      · have kp : ∀ b ys, (upd Ht r (.tup [.ref p, .ref t])) b = some (.tup ys) → (upd (upd Ht r (.tup [.ref p, .ref t])) D (.lst (zs ++ [.ref r]))) b = some (.tup ys) := fun b ys e => by
          rw [upd_ne (fun z => by rw [z, D1] at e; cases e)]
          exact e
        rw [List.range'_concat, List.map_append, Nat.one_mul]
        refine ChL.snoc ((cz.same sA).keep kp) (kp _ _ upd_same) (kp _ _ (s2 _ _ (st _ _ (by rw [upd_same]; unfold P56.toI; rw [List.map_append, List.map_append]; rfl)))) (kp _ _ (s2 _ _ ?_))
        rw [et]
        simp [List.getD_eq_getElem?_getD, hk]
    rintro H1 ⟨sm, zs, eD, cz⟩
    have ei : (((xs.length : Nat) : Int) - ((P56.first d : Nat) : Int)).toNat = hs.length - P56.first d := by omega
    rw [ei] at cz
    clear ei
    generalize hG : ((List.range' (P56.first d) (hs.length - P56.first d)).map fun k => (d ++ [k], P56.rest (hs.getD k []) ms)) = G at cz
    have eS : P56.step hs (d, ms) = G.filter fun q => decide (q.2.length < ms.length) := by rw [← hG]; rfl
    have lG : G.length ≤ 12 := by rw [← hG, List.length_map, List.length_range']; omega
    have lz := cz.len
    refine ⟨_, rfl, D, rfl, ⟨_, SqL.of eD⟩, fun L nL => ?_⟩
    refine lc_list (K := K) (a := D) (xs := zs) (fun i Hj => L2.Same H1 Hj ∧ ∃ ys, Hj L = some (.lst ys) ∧ ChL Hj ys ((G.take i).filter fun q => decide (q.2.length < ms.length))) ⟨same_upd nL, [], upd_same, .nil⟩ (fun i Hj _ z => SqL.of (z.1 _ _ eD)) ?_ ?_
    · rintro i x Hj hx ⟨sj, ys, eL, cy⟩
      obtain ⟨t, c, r, p, rfl, ep, e1, e2, e3⟩ := cz.get hx
      have il : i < zs.length := (List.getElem?_eq_some_iff.mp hx).1
      have ly := cy.len
      have ly2 : ys.length ≤ 12 := by
        rw [ly]
        refine Nat.le_trans (List.length_filter_le _ _) ?_
        rw [List.length_take]; omega
      have tk : (G.take (i + 1)).filter (fun q => decide (q.2.length < ms.length)) = (G.take i).filter (fun q => decide (q.2.length < ms.length)) ++ (if p.2.length < ms.length then [p] else []) := by
        rw [List.take_add_one, ep, List.filter_append]
        by_cases c : p.2.length < ms.length <;> simp [c]
      refine ⟨t, _, rfl, SqT.of (sj _ _ e1), rfl, _, _, rfl, _, _, rfl, rfl, rfl, ?_⟩
      refine ⟨_, rfl, r, _, rfl, .inr (SqT.of (sj _ _ e3)), _, rfl, m, _, rfl, .inr (SqT.of (sj _ _ (sm _ _ em))), _, _, rfl, rfl, _, rfl, ite2 (fun e => ?_) (fun e => ?_)⟩
      · have e' : p.2.length < ms.length := by
          have : ((((p.2.map V.int).length : Nat) : Int) < (((ms.map V.int).length : Nat) : Int)) := of_decide_eq_true e
          rw [List.length_map, List.length_map] at this
          omega
        refine ⟨_, rfl, _, rfl, (by show 2 ≤ sizeLine; decide), fun u nu => ?_⟩
        have s1 := same_upd nu (o := .tup [.ref c, .ref r])
        have L1 := s1 _ _ eL
        refine ⟨_, L1, Nat.lt_of_le_of_lt (show ys.length ≤ 100 by omega) (by decide), fun b o e => ?_, ys ++ [.ref u], upd_same, ?_⟩
        · rw [upd_ne (ne_of_none e nL)]
          exact s1 _ _ (sj _ _ e)
        · have kp : ∀ b zs', (upd Hj u (.tup [.ref c, .ref r])) b = some (.tup zs') → (upd (upd Hj u (.tup [.ref c, .ref r])) L (.lst (ys ++ [.ref u]))) b = some (.tup zs') := fun b zs' e => by
            rw [upd_ne (fun z => by rw [z, L1] at e; cases e)]
            exact e
          rw [tk, if_pos e']
          exact ChL.snoc ((cy.same s1).keep kp) (kp _ _ upd_same) (kp _ _ (s1 _ _ (sj _ _ e2))) (kp _ _ (s1 _ _ (sj _ _ e3)))
      · have e' : ¬ p.2.length < ms.length := by
          have : ¬ ((((p.2.map V.int).length : Nat) : Int) < (((ms.map V.int).length : Nat) : Int)) := fun z => e (decide_eq_true z)
          rw [List.length_map, List.length_map] at this
          omega
        refine ⟨sj, ys, eL, ?_⟩
        rw [tk, if_neg e', List.append_nil]
        exact cy
    · rintro He ⟨se, ys, eL, cy⟩
      rw [lz, List.take_length, ← eS] at cy
      exact q L ys He (sm.trans se) (none_of sm nL) eL cy
end
end K62
set_option Elab.async false
set_option linter.all false
set_option maxRecDepth 100000
set_option maxHeartbeats 4000000
set_option pp.maxSteps 400
set_option pp.deepTerms false
namespace K62
open PySem PySem.Spec PyProof.Rows L2
open Xk Az
section
variable {P : Program} {w : World} {K : PySem.W.Frag} {mg : Str → Option Value} {base : Heap}
def Few (H : Hp) (hs : List (List Int)) (ws : List Int) (t : Addr) : Option Int → Prop
  | some w => H t = some (.tup [.str "lacks", .int w])
  | none => ∃ c cc, P56.Least hs ws c ∧ H cc = some (.tup ((P56.toI c).map V.int)) ∧ H t = some (.tup [.str "fewest", .ref cc])
def spFew : Sp := fun vs H Q _ => ∃ (a b : Addr) (xs : List V) (hs : List (List Int)) (ws : List Int), vs = [.ref a, .ref b] ∧ H a = some (.tup xs) ∧ Hl H xs hs ∧ hs.length ≤ 12 ∧ H b = some (.tup (ws.map V.int)) ∧ ws.length ≤ 20 ∧
  ∀ t H', L2.Same H H' → Few H' hs ws t (P56.lack hs ws) → Q (.ref t) H'
theorem ok_few {f : Addr} {fd : FuncData} (D : Df K mg "fewest_discs" ["held", "wishes"] sFewestDiscs f fd) (T : Txt mg) (cHo : Ca P w K mg base 1 "holders" ["held", "wish"] spHolders) (cLo : Ca P w K mg base 2 "longer_by_one" ["held", "discs", "missing"] spLonger) : FnOk P w K mg base CX0 3 f fd ["held", "wishes"] spFew := by
  refine D.fn.ok scFewestDiscs (fun vs H Q E h => ?_) (fun cdv A outer s H vs Q E hr h => ?_)
  · obtain ⟨a, b, xs, hs, ws, rfl, ea, hl, l12, eb, l20, q⟩ := h
    rfl
  · obtain ⟨a, b, xs, hs, ws, rfl, ea, hl, l12, eb, l20, q⟩ := h
    refine ⟨_, (C8.pss_cut (ps_for PassesOwn.never rfl (pi_tup (pv 1)) (pg_name (i := 2) scFewestDiscs.nd rfl (.inl rfl)) (pss_one (ps_if (pt_cmpR op_eq (pe_callB call_len_seq (by rfl) T.len PySem.boot_len (pa_cons (pe_ca cHo hr (by decide) (by rfl) (pa_cons (pv 0) (pa_cons (pv 2) pa_nil))) pa_nil)) pe_int (nomark _)) (pss_one (ps_ret (pe_tup (pa_cons pe_str (pa_cons (pv 2) pa_nil))))) pss_nil)))
      (pss_cons (ps_set (i := 3) scFewestDiscs.nd rfl (.inl rfl) (pe_lst (pa_cons (pe_tup (pa_cons (pe_tup pa_nil) (pa_cons (pv 1) pa_nil))) pa_nil)))
      (pss_one (ps_while PassesOwn.never (pt_val pe_bl) (C8.pss_cut (ps_for PassesOwn.never rfl (pi_list (pv 3)) (pg_tup (by rfl) (pgs_cons (pg_name (i := 4) scFewestDiscs.nd rfl (.inl rfl)) (pgs_cons (pg_name (i := 5) scFewestDiscs.nd rfl (.inl rfl)) pgs_nil))) (pss_one (ps_if (pt_cmpR op_eq (pe_callB call_len_seq (by rfl) T.len PySem.boot_len (pa_cons (pv 5) pa_nil)) pe_int (nomark _)) (pss_one (ps_ret (pe_tup (pa_cons pe_str (pa_cons (pv 4) pa_nil))))) pss_nil)))
      (pss_one (ps_setLc2 (i := 3) (own := [("discs", 4), ("missing", 5), ("longer", 6)]) (vs1 := [6]) (g := gTup K 2 (gCons (gName 4) (gCons (gName 5) gNil))) (tt := tYes) (wi1 := iList K (tCall spLonger [] E0 (tCons (tVar 0) (tCons (tVar 4) (tCons (tVar 5) tNil))))) (g1 := gName 6) (tt1 := tYes) (te := tVar 6) (by rfl) scFewestDiscs.nd rfl rfl (sw_true rfl rfl rfl (by decide +kernel)) (pi_list (pv 3)) (blkOk_by (own := [("discs", 4), ("missing", 5), ("longer", 6)]) (N := ["held", "wishes", "wish", "choices", "discs", "missing", "longer"]) (sc := defScope sFewestDiscs) (by decide +kernel)) (by decide) (fun _ _ _ _ _ => pg_tup (by rfl) (pgs_cons (pg_name (i := 4) scFewestDiscs.nd rfl (.inl rfl)) (pgs_cons (pg_name (i := 5) scFewestDiscs.nd rfl (.inl rfl)) pgs_nil))) (fun _ _ _ _ _ => pts_nil) (fun _ _ _ _ _ => pi_list (pe_ca cLo hr (by decide) (by rfl) (pa_cons (pv 0) (pa_cons (pv 4) (pa_cons (pv 5) pa_nil))))) (fun _ _ _ _ _ => pg_name (i := 6) scFewestDiscs.nd rfl (.inl rfl)) (fun _ _ _ _ _ => pts_nil) (fun _ _ _ _ _ => pv 6)))))))), ?_⟩
    have lh := hl.len
    refine ⟨fun σ Hi => P56.lack hs ws = none ∧ L2.Same H Hi ∧ ∃ c2, σ = [some (.ref a), some (.ref b), c2, none, none, none, none], ?_, ?_⟩
    · refine ⟨_, rfl, b, rfl, ⟨_, SqT.of eb⟩, ?_⟩
      refine for_tup (K := K) (a := b) (xs := ws.map V.int) (fun i σ Hi => (∀ w ∈ ws.take i, P56.none_holds hs w = false) ∧ L2.Same H Hi ∧ ∃ c2, σ = [some (.ref a), some (.ref b), c2, none, none, none, none]) ⟨by simp, Same.refl H, none, rfl⟩ (fun i σ Hi _ z => SqT.of (z.2.1 _ _ eb)) ?_ ?_
      · rintro i x σ Hi hx ⟨hb, sm, c2, rfl⟩
        rw [List.getElem?_map] at hx
        obtain ⟨g, eg, rfl⟩ := Option.map_eq_some_iff.mp hx
        refine ⟨_, rfl, _, rfl, a, g, xs, hs, rfl, sm _ _ ea, hl.map (fun b ys e => sm _ _ e), l12, fun L ns H1 s1 eL en _ => ?_⟩
        refine ⟨L, _, rfl, .inl (SqL.of eL), rfl, _, rfl, ite2 (fun e => ?_) (fun e => ?_)⟩
        · have z : P56.none_holds hs g = true := by
            unfold P56.none_holds
            rw [← en]
            have : (((ns.map V.int).length : Nat) : Int) = 0 := by simpa [eqV] using e
            rw [List.length_map] at this
            simp
            exact List.eq_nil_of_length_eq_zero (by omega)
          have el : P56.lack hs ws = some g := by
            unfold P56.lack
            have gl : i < ws.length := (List.getElem?_eq_some_iff.mp eg).1
            have eg' : ws[i] = g := (List.getElem?_eq_some_iff.mp eg).2
            rw [List.find?_eq_some_iff_append]
            refine ⟨z, ws.take i, ws.drop (i + 1), ?_, fun w hw => by rw [hb w hw]; rfl⟩
            rw [← eg', ← List.drop_eq_getElem_cons gl, List.take_append_drop]
          refine ⟨_, rfl, (by show 2 ≤ sizeLine; decide), fun t nt => ?_⟩
          have := q t _ ((sm.trans s1).trans (same_upd nt (o := .tup [.str "lacks", .int g])))
          rw [el] at this
          exact this upd_same
        · refine ⟨fun w hw => ?_, sm.trans s1, _, rfl⟩
          rw [List.take_add_one, eg, List.mem_append] at hw
          rcases hw with hw | hw
          · exact hb w hw
          · have : w = g := by simpa using hw
            subst this
            unfold P56.none_holds
            rw [← en]
            have : ¬ ((((ns.map V.int).length : Nat) : Int) = 0) := by simpa [eqV] using e
            rw [List.length_map] at this
            cases ns with
            | nil => simp at this
            | cons _ _ => rfl
      · rintro σ Hi ⟨hb, sm, z⟩
        rw [List.length_map, List.take_length] at hb
        refine ⟨?_, sm, z⟩
        unfold P56.lack
        rw [List.find?_eq_none]
        intro w hw
        rw [hb w hw]
        exact Bool.false_ne_true
    rintro σ H1 ⟨lk, s1, c2, rfl⟩
    obtain ⟨c, hc⟩ := P56.least_ex (held := hs) (ws := ws) (by omega) (P56.lack_none lk)
    have lc := hc.len
    rw [lk] at q
    refine ⟨(by show 0 ≤ sizeLine; decide), fun p0 n0 => ⟨_, rfl, (by show 2 ≤ sizeLine; decide), fun p1 n1 => ⟨(by show 1 ≤ sizeLine; decide), fun L0 nL0 => ?_⟩⟩⟩
    have t0 := same_upd n0 (o := .tup [])
    have t1 := same_upd n1 (o := .tup [.ref p0, .ref b])
    have t2 := same_upd nL0 (o := .lst [.ref p1])
    have s2 := s1.trans ((t0.trans t1).trans t2)
    refine ⟨fun m σ Hi => ∃ i L zs c2 c4 c5, m = c.length - i ∧ i ≤ c.length ∧ σ = [some (.ref a), some (.ref b), c2, some (.ref L), c4, c5, none] ∧ L2.Same H Hi ∧ Hi L = some (.lst zs) ∧ ChL Hi zs (P56.level hs ws i), ⟨_, 0, L0, [.ref p1], _, _, _, rfl, Nat.zero_le _, rfl, s2, upd_same, ?_⟩, ?_⟩
    · exact .cons (t2 _ _ upd_same) (t2 _ _ (t1 _ _ upd_same)) (s2 _ _ eb) .nil
    rintro m σ Hi ⟨i, L, zs, c2, c4, c5, rfl, hi, rfl, sm, eL, cz⟩
    have lz := cz.len
    have lz2 : zs.length ≤ 4096 := by
      rw [lz]
      exact Nat.le_trans (P56.lev_len i) (show 2 ^ hs.length ≤ 2 ^ 12 from Nat.pow_le_pow_right (by decide) l12)
    refine ⟨_, rfl, iteT ?_⟩
    refine ⟨fun σ' H' => ∃ m', m' < c.length - i ∧ ∃ i' L' zs' c2 c4 c5, m' = c.length - i' ∧ i' ≤ c.length ∧ σ' = [some (.ref a), some (.ref b), c2, some (.ref L'), c4, c5, none] ∧ L2.Same H H' ∧ H' L' = some (.lst zs') ∧ ChL H' zs' (P56.level hs ws i'), fun σ' H' z => z, ?_⟩
    refine ⟨fun σ' H' => i < c.length ∧ H' = Hi ∧ ∃ c4 c5, σ' = [some (.ref a), some (.ref b), c2, some (.ref L), c4, c5, none], ?_, ?_⟩
    · refine ⟨_, rfl, L, rfl, ⟨_, SqL.of eL⟩, ?_⟩
      refine for_list (K := K) (a := L) (xs := zs) (fun j σ Hj => Hj = Hi ∧ (∀ p ∈ (P56.level hs ws i).take j, p.2.length ≠ 0) ∧ ∃ c4 c5, σ = [some (.ref a), some (.ref b), c2, some (.ref L), c4, c5, none]) ⟨rfl, by simp, _, _, rfl⟩ (fun j σ Hj _ z => by rw [z.1]; exact SqL.of eL) ?_ ?_
      · rintro j x σ Hj hx ⟨rfl, hb, d4, d5, rfl⟩
        obtain ⟨t, cc, r, p, rfl, ep, e1, e2, e3⟩ := cz.get hx
        refine ⟨t, _, rfl, SqT.of e1, rfl, _, _, rfl, _, _, rfl, rfl, ?_⟩
        refine ⟨_, rfl, r, _, rfl, .inr (SqT.of e3), rfl, _, rfl, ite2 (fun e => ?_) (fun e => ?_)⟩
        · have e0 : p.2.length = 0 := by
            have : (((p.2.map V.int).length : Nat) : Int) = 0 := by simpa [eqV] using e
            rw [List.length_map] at this
            omega
          have hit : P56.hit (P56.level hs ws i) = some p := by
            unfold P56.hit
            have gl : j < (P56.level hs ws i).length := (List.getElem?_eq_some_iff.mp ep).1
            have eg' : (P56.level hs ws i)[j] = p := (List.getElem?_eq_some_iff.mp ep).2
            rw [List.find?_eq_some_iff_append]
            refine ⟨by simpa using e0, (P56.level hs ws i).take j, (P56.level hs ws i).drop (j + 1), ?_, fun w hw => by simpa using hb w hw⟩
            rw [← eg', ← List.drop_eq_getElem_cons gl, List.take_append_drop]
          have ei : i = c.length := by
            rcases Nat.lt_or_ge i c.length with z | z
            · rw [hc.not_before z] at hit; cases hit
            · omega
          subst ei
          rw [hc.hits] at hit
          obtain rfl := (Option.some.inj hit)
          refine ⟨_, rfl, (by show 2 ≤ sizeLine; decide), fun t2 nt => ?_⟩
          have st := same_upd nt (o := .tup [.str "fewest", .ref cc])
          exact q t2 _ (sm.trans st) ⟨c, cc, hc, st _ _ e2, upd_same⟩
        · refine ⟨rfl, fun w hw => ?_, _, _, rfl⟩
          rw [List.take_add_one, ep, List.mem_append] at hw
          rcases hw with hw | hw
          · exact hb w hw
          · have : w = p := by simpa using hw
            subst this
            have : ¬ ((((w.2.map V.int).length : Nat) : Int) = 0) := by simpa [eqV] using e
            rw [List.length_map] at this
            omega
      · rintro σ Hj ⟨rfl, hb, z⟩
        rw [lz, List.take_length] at hb
        refine ⟨?_, rfl, z⟩
        rcases Nat.lt_or_ge i c.length with z | z
        · exact z
        · have ei : i = c.length := by omega
          subst ei
          have h1 := hc.hits
          unfold P56.hit at h1
          exact absurd rfl (hb _ (List.mem_of_find?_eq_some h1))
    rintro σ H2 ⟨ilt, rfl, d4, d5, rfl⟩
    refine ⟨_, rfl, L, rfl, ⟨_, SqL.of eL⟩, fun D nD => ?_⟩
    have mono2 : ∀ {j : Nat} {p : List Nat × List Int}, (P56.level hs ws i)[j]? = some p → P56.first p.1 ≤ hs.length ∧ p.1.length ≤ hs.length ∧ p.2.length ≤ ws.length := fun e => P56.lev_first (List.mem_of_getElem? e)
    have small : ∀ k, ((P56.level hs ws i).take k).flatMap (P56.step hs) <+: P56.level hs ws (i + 1) := fun k => by
      rw [P56.level]
      refine ⟨((P56.level hs ws i).drop k).flatMap (P56.step hs), ?_⟩
      rw [← List.flatMap_append, List.take_append_drop]
    have lev1 : (P56.level hs ws (i + 1)).length ≤ 4096 := Nat.le_trans (P56.lev_len (i + 1)) (show 2 ^ hs.length ≤ 2 ^ 12 from Nat.pow_le_pow_right (by decide) l12)
    refine ⟨fun j m Hj => m = zs.length - j ∧ j ≤ zs.length ∧ L2.Same H2 Hj ∧ ∃ ys, Hj D = some (.lst ys) ∧ ChL Hj ys (((P56.level hs ws i).take j).flatMap (P56.step hs)), ⟨_, rfl, Nat.zero_le _, same_upd nD, [], upd_same, .nil⟩, ?_⟩
    rintro j m Hj ⟨rfl, hj, sj, ys, eD, cy⟩
    by_cases hlt : j < zs.length
    · refine .inr ⟨⟨zs, zs[j], SqL.of (sj _ _ eL), List.getElem?_eq_getElem hlt⟩, fun Hk => (L2.Same H2 Hk ∧ ∃ ys, Hk D = some (.lst ys) ∧ ChL Hk ys (((P56.level hs ws i).take (j + 1)).flatMap (P56.step hs))), fun H' z => ⟨zs.length - (j + 1), by omega, rfl, hlt, z⟩, ?_⟩
      rintro x Hx ⟨rfl, hx⟩
      have hx' := hx zs (SqL.of (sj _ _ eL))
      obtain ⟨t, cc, r, p, rfl, ep, e1, e2, e3⟩ := cz.get hx'
      obtain ⟨f1, f2, f3⟩ := mono2 ep
      refine ⟨t, _, rfl, SqT.of (sj _ _ e1), rfl, _, _, rfl, _, _, rfl, rfl, rfl, ?_⟩
      unfold tYes
      refine iteT ⟨_, rfl, _, rfl, _, rfl, a, cc, r, xs, hs, p.1, p.2, rfl, sj _ _ (sm _ _ ea), hl.map (fun b ys e => sj _ _ (sm _ _ e)), l12, sj _ _ e2, by omega, by omega, sj _ _ e3, by omega, fun L1 z1 H4 s4 nL1 eL1 c1 => ?_⟩
      refine ⟨L1, rfl, ⟨_, SqL.of eL1⟩, ?_⟩
      have eD4 := s4 _ _ eD
      have L1D : L1 ≠ D := fun z => by rw [z, eD] at nL1; cases nL1
      replace c1 : ChL H4 z1 (P56.step hs p) := c1
      have lz1 := c1.len
      have tk : ((P56.level hs ws i).take (j + 1)).flatMap (P56.step hs) = ((P56.level hs ws i).take j).flatMap (P56.step hs) ++ P56.step hs p := by
        rw [List.take_add_one, ep, List.flatMap_append]
        simp
      have ly := cy.len
      have bound : ys.length + z1.length ≤ 4096 := by
        have := (small (j + 1)).length_le
        rw [tk, List.length_append] at this
        omega
      refine ⟨fun k n Hk => n = z1.length - k ∧ k ≤ z1.length ∧ L2.Same H2 Hk ∧ Hk L1 = some (.lst z1) ∧ Hk D = some (.lst (ys ++ z1.take k)) ∧ ChL Hk ys (((P56.level hs ws i).take j).flatMap (P56.step hs)) ∧ ChL Hk z1 (P56.step hs p), ⟨_, rfl, Nat.zero_le _, sj.trans s4, eL1, by rw [List.take_zero, List.append_nil]; exact eD4, cy.same s4, c1⟩, ?_⟩
      rintro k n Hk ⟨rfl, hk, sk, eLk, eDk, ck, dk⟩
      by_cases klt : k < z1.length
      · refine .inr ⟨⟨z1, z1[k], SqL.of eLk, List.getElem?_eq_getElem klt⟩, fun Hm => L2.Same H2 Hm ∧ Hm L1 = some (.lst z1) ∧ Hm D = some (.lst (ys ++ z1.take (k + 1))) ∧ ChL Hm ys (((P56.level hs ws i).take j).flatMap (P56.step hs)) ∧ ChL Hm z1 (P56.step hs p), fun H' z => ⟨z1.length - (k + 1), by omega, rfl, klt, z⟩, ?_⟩
        rintro x Hx ⟨rfl, hx⟩
        have hx' := hx z1 (SqL.of eLk)
        refine ⟨rfl, iteT ⟨_, rfl, _, eDk, ?_, ?_⟩⟩
        · rw [List.length_append, List.length_take]
          exact Nat.lt_of_le_of_lt (show ys.length + min k z1.length ≤ 5000 by omega) (by decide)
        · have kp : ∀ b zs', Hx b = some (.tup zs') → (upd Hx D (.lst (ys ++ z1.take k ++ [x]))) b = some (.tup zs') := fun b zs' e => by
            rw [upd_ne (fun z => by rw [z, eDk] at e; cases e)]
            exact e
          refine ⟨fun b o e => ?_, ?_, ?_, ck.keep kp, dk.keep kp⟩
          · rw [upd_ne (ne_of_none e nD)]
            exact sk _ _ e
          · rw [upd_ne L1D]
            exact eLk
          · rw [upd_same, List.take_add_one, hx', List.append_assoc]
            rfl
      · have ek : k = z1.length := by omega
        subst ek
        rw [List.take_length] at eDk
        refine .inl ⟨⟨z1, SqL.of eLk, Nat.le_refl _⟩, sk, _, eDk, ?_⟩
        rw [tk]
        exact ck.app dk
    · have ej : j = zs.length := by omega
      subst ej
      rw [lz, List.take_length] at cy
      refine .inl ⟨⟨zs, SqL.of (sj _ _ eL), Nat.le_refl _⟩, ?_⟩
      exact ⟨c.length - (i + 1), by omega, i + 1, D, ys, _, _, _, rfl, ilt, rfl, sm.trans sj, eD, cy⟩
end
end K62
set_option Elab.async false
set_option linter.all false
set_option maxRecDepth 100000
set_option maxHeartbeats 4000000
set_option pp.maxSteps 400
set_option pp.deepTerms false
namespace K62
open PySem PySem.Spec PyProof.Rows L2
open Xk Az
section
variable {P : Program} {w : World} {K : PySem.W.Frag} {mg : Str → Option Value} {base : Heap}
theorem dz_ints {H : Hp} : ∀ ns : List Int, DzAll K H (ns.map V.int) (ns.map PyData.int)
  | [] => .nil
  | n :: r => .cons (.int n) (dz_ints r)
theorem ps_no {X : Cx} {st : Stmt} : PS X st (fun _ _ _ => False) := ⟨fun _ _ _ _ _ _ h => False.elim h⟩
theorem pe_no {X : Cx} {e : Expr} : PE X e (fun _ _ _ => False) := ⟨fun _ _ _ _ _ _ h => False.elim h⟩
theorem exT {H H' : Hp} (x : LamX.ExtN H H') {b : Addr} {ys : List V} (e : H b = some (.tup ys)) : H' b = some (.tup ys) := x _ _ e fun ps z => by cases z
theorem tabs_lst {T : List (Addr × Str)} {H : Hp} {D : Addr} {us : List V} {o : HO} (t : LamX.Tabs T H) (e : H D = some (.lst us)) : LamX.Tabs T (upd H D o) := fun p hp => by
  obtain ⟨ps, h1, h2, h3⟩ := t p hp
  refine ⟨ps, by rw [upd_ne (ne_of h1 e (by intro z; cases z))]; exact h1, h2, fun pos cv hc => ?_⟩
  obtain ⟨c, e1, e2⟩ := h3 pos cv hc
  exact ⟨c, e1, by rw [upd_ne (ne_of e2 e (by intro z; unfold LamX.CodeO at z; cases z))]; exact e2⟩
def qB : Str := (("book_for" : Str) ++ ".<locals>.") ++ "<lambda>"
abbrev Tb (pB : Addr) : List (Addr × Str) := [(pB, qB)]
/-- a right book for n discs left -/
def Bk (hs : List (List Int)) (H : Hp) : Nat → List Int → V → Prop
  | 0, ms, v => ∃ t w, v = .ref t ∧ P56.IsW hs ms w ∧ H t = some (.tup [.str "left", .int w])
  | n + 1, ms, v => ∃ t w b us, v = .ref t ∧ P56.IsW hs ms w ∧ H t = some (.tup [.str "take", .int w, .ref b]) ∧ H b = some (.tup us) ∧ us.length = (P56.hold hs w).length ∧ ∀ (i k : Nat) (u : V), (P56.hold hs w)[i]? = some k → us[i]? = some u → Bk hs H n (P56.rest (hs.getD k []) ms) u
theorem Bk.keep {hs : List (List Int)} {H H' : Hp} (k : ∀ b ys, H b = some (.tup ys) → H' b = some (.tup ys)) : ∀ {n : Nat} {ms : List Int} {v : V}, Bk hs H n ms v → Bk hs H' n ms v
  | 0, ms, v, h => by
    obtain ⟨t, w, e1, e2, e3⟩ := h
    exact ⟨t, w, e1, e2, k _ _ e3⟩
  | n + 1, ms, v, h => by
    obtain ⟨t, w, b, us, e1, e2, e3, e4, e5, e6⟩ := h
    exact ⟨t, w, b, us, e1, e2, k _ _ e3, k _ _ e4, e5, fun i k' u h1 h2 => Bk.keep k (e6 i k' u h1 h2)⟩
/-- a key: two numbers -/
def Kp (H : Hp) (y : V) (d : PyData) : Prop := ∃ q a b, y = .ref q ∧ H q = some (.tup [.int a, .int b]) ∧ d = .tuple [.int a, .int b]
theorem kp_dz (H : Hp) (y : V) (d : PyData) (h : Kp H y d) : Dz K H y d := by
  obtain ⟨q, a, b, rfl, e, rfl⟩ := h
  exact .tup e (.cons (.int _) (.cons (.int _) .nil))
theorem kp_keep (H H' : Hp) (y : V) (d : PyData) (k : ∀ b zs, H b = some (.tup zs) → H' b = some (.tup zs)) (h : Kp H y d) : Kp H' y d := by
  obtain ⟨q, a, b, rfl, e, rfl⟩ := h
  exact ⟨q, a, b, rfl, k _ _ e, rfl⟩
def kdB (hs : List (List Int)) : V → PyData
  | .int g => .tuple [.int ((P56.hold hs g).length : Nat), .int g]
  | _ => .none
def spBF (pB : Addr) (n : Nat) : Sp := fun vs H Q _ => ∃ (a b : Addr) (xs : List V) (hs : List (List Int)) (ms : List Int), vs = [.ref a, .ref b, .int (n : Int)] ∧ H a = some (.tup xs) ∧ Hl H xs hs ∧ hs.length ≤ 12 ∧ H b = some (.tup (ms.map V.int)) ∧ ms.length ≤ 20 ∧
  P56.NoN hs ms n ∧ LamX.Tabs (Tb pB) H ∧ ∀ v H', LamX.ExtN H H' → LamX.Tabs (Tb pB) H' → Bk hs H' n ms v → Q v H'
def spBFb (pB : Addr) : Nat → Sp
  | 0 => fun _ _ _ _ => False
  | n + 1 => spBF pB n
theorem ok_code {x : Str} {st : Stmt} {f : Addr} {fd : FuncData} {N ps : List Str} {k : Nat} {sp : Sp} {c : Addr} (F : Fun K x x st f fd) (hc : fd.code = .ref c) (S : FnScope N ps (defScope st)) (len : ∀ vs H Q E, sp vs H Q E → vs.length = ps.length)
    (body : ∀ (A : Around) (outer : List Env) (s : Shared) (H : Hp) (vs : List V) (Q : VK) (E : XK), Room k (A.deeper (envOfC x (defScope st) s.heap.objs.size f (.ref c))) → sp vs H Q E →
      ∃ t, PSs (cxOf CX0 P w K mg base N x (defScope st) f (.ref c) A outer s H E).nox (defBody st) t ∧ t { nx := fun _ H' => Q .non H', rt := Q } (start N vs) H) : FnOk P w K mg base CX0 (k + 1) f fd ps sp := by
  obtain ⟨oc, od, kV, doc, pm, an, cdv, ct, osl, rfl, lk, hcd⟩ := F.ex
  obtain rfl : cdv = .ref c := hc
  refine ⟨len, fun A outer s H args us vs Q E hr e0 hb r hsp => LamX.run_ofS lk hcd S hr e0 hb r (len _ _ _ _ hsp) fun hr' => ?_⟩
  obtain ⟨t, ht, hq⟩ := body A outer s H vs Q E hr' hsp
  exact ⟨t, ht.nox, hq⟩
theorem ok_bf {f : Addr} {fd : FuncData} {cB pB : Addr} {n : Nat} (D : Df K mg "book_for" ["held", "missing", "left"] sBookFor f fd) (hcd : fd.code = .ref cB) (TB : LamX.TabB base mg cB pB) (T : Txt mg) (cHo : Ca P w K mg base 1 "holders" ["held", "wish"] spHolders) (cNA : Ca P w K mg base 1 "not_among" ["things", "wishes"] (spNA K)) (cR : Ca P w K mg base (n + 4) "book_for" ["held", "missing", "left"] (spBFb pB n)) : FnOk P w K mg base CX0 (n + 5) f fd ["held", "missing", "left"] (spBF pB n) := by
  refine ok_code D.fn hcd scBookFor (fun vs H Q E h => ?_) (fun A outer s H vs Q E hr h => ?_)
  · obtain ⟨a, b, xs, hs, ms, rfl, ea, hl, l12, eb, l20, no, tb, q⟩ := h
    rfl
  · obtain ⟨a, b, xs, hs, ms, rfl, ea, hl, l12, eb, l20, no, tb, q⟩ := h
    refine ⟨_, (pss_cons (ps_set (i := 3) scBookFor.nd rfl (.inl rfl) (Xln.pe_minLam (T := Tb pB) (Ky := Kp) (tb := tTup (tCons (tCB (rLn K) (tCons (tCall spHolders [] E0 (tCons (tVar 1) (tCons (tVar 0) tNil))) tNil)) (tCons (tVar 0) tNil))) (k := 1) (pn := "known") (c := cB) (P := pB) (by rfl) T.min rfl (hr.mono (by omega)) (pv 1) TB (by rfl) (List.mem_singleton.mpr rfl) (fun p hp _ => by rw [List.mem_singleton.mp hp]; rfl) (show Xln.Lam1 (defScope sBookFor) _ _ from ⟨rfl, rfl, rfl, rfl, by decide +kernel, by decide +kernel⟩) (show ("known" : Str) ∉ (["held", "missing", "left", "wish", "disc"] : List Str) from by decide +kernel) rfl (fun _ _ _ _ _ _ => rfl) (fun A s H f c hr => pe_tup (pa_cons (pe_callB call_len_seq (by rfl) T.len PySem.boot_len (pa_cons (pe_ca cHo hr (by decide) (by rfl) (pa_cons (pv 1) (pa_cons (pv 0) pa_nil))) pa_nil)) (pa_cons (pv 0) pa_nil))) kp_dz kp_keep))
      (pss_cons (ps_if (pt_cmpR op_eq (pv 2) pe_int (nomark _)) (pss_one (ps_ret (pe_tup (pa_cons pe_str (pa_cons (pv 3) pa_nil))))) pss_nil)
      (pss_one (ps_ret (pe_tup (pa_cons pe_str (pa_cons (pv 3) (pa_cons (pe_callTy call_tuple_of (by rfl) T.tuple (by decide +kernel) (pa_cons (pe_lc (own := [("disc", 4)]) (g := gName 4) (tt := tYes) (te := tCall (spBFb pB n) [] E0 (tCons (tVar 0) (tCons (tCall (spNA K) [] E0 (tCons (tOp (rIxT K) (tVar 0) (tVar 4)) (tCons (tVar 1) tNil))) (tCons (tOp (rI0 fun i j => V.int (i - j)) (tVar 2) (tC (V.int 1))) tNil)))) (by rfl) scBookFor.nd (pi_list (pe_ca cHo hr (by omega) (by rfl) (pa_cons (pv 0) (pa_cons (pv 3) pa_nil)))) (blkOk_by (own := [("disc", 4)]) (N := ["held", "missing", "left", "wish", "disc"]) (sc := defScope sBookFor) (by decide +kernel)) (fun _ _ _ _ _ => pg_name (i := 4) scBookFor.nd rfl (.inl rfl)) (fun _ _ _ _ _ => pts_nil) (fun _ _ _ _ _ => pe_ca cR hr (by omega) (by rfl) (pa_cons (pv 0) (pa_cons (pe_ca cNA hr (by omega) (by rfl) (pa_cons (pe_ix ix_tup (pv 0) (pv 4) (fun _ _ => rfl)) (pa_cons (pv 1) pa_nil))) (pa_cons (pe_op op_sub (pv 2) pe_int) pa_nil))))) pa_nil)) pa_nil)))))))), ?_⟩
    have lh := hl.len
    refine ⟨_, rfl, b, ms.map V.int, kdB hs, rfl, SqT.of eb, fun e => no.ne (List.map_eq_nil_iff.mp e), tb, ?_, ?_, ?_, ?_, ?_, ?_⟩
    · intro v hv v' hv'
      obtain ⟨g, _, rfl⟩ := List.mem_map.mp hv
      obtain ⟨g', _, rfl⟩ := List.mem_map.mp hv'
      simp [kdB, PySem.W.alike, PySem.W.alikeAll]
    · intro v hv
      obtain ⟨g, _, rfl⟩ := List.mem_map.mp hv
      exact ⟨by simp [kdB], by simp [kdB, PyData.depth, PyData.depthAll]⟩
    · intro v hv
      obtain ⟨g, _, rfl⟩ := List.mem_map.mp hv
      exact (P56.lt_twos _ _ _ _).trans (P56.ltP_irr _)
    · intro u hu v hv z hz h1 h2
      obtain ⟨g1, _, rfl⟩ := List.mem_map.mp hu
      obtain ⟨g2, _, rfl⟩ := List.mem_map.mp hv
      obtain ⟨g3, _, rfl⟩ := List.mem_map.mp hz
      exact (P56.lt_twos _ _ _ _).trans (P56.ltP_tr ((P56.lt_twos _ _ _ _).symm.trans h1) ((P56.lt_twos _ _ _ _).symm.trans h2))
    · intro H2 x2 t2 v hv
      obtain ⟨g, _, rfl⟩ := List.mem_map.mp hv
      refine ⟨_, rfl, _, rfl, a, g, xs, hs, rfl, exT x2 ea, hl.map (fun _ _ e => exT x2 e), l12, fun L ns H3 s3 eL en ens => ⟨L, _, rfl, .inl (SqL.of eL), _, rfl, (by show 2 ≤ sizeLine; decide), fun t nt => ?_⟩⟩
      have st := s3.trans (same_upd nt (o := .tup [.int ((ns.map V.int).length : Nat), .int g]))
      refine ⟨LamX.ExtN.of st, t2.ext st, t, _, _, rfl, upd_same, ?_⟩
      subst ens
      simp [kdB, P56.toI]
    · intro v hv hmin H1 x1 t1
      obtain ⟨g, hg0, rfl⟩ := List.mem_map.mp hv
      have hg : P56.IsW hs ms g := ⟨hg0, fun g' hg' => (P56.lt_twos _ _ _ _).symm.trans (hmin (.int g') (List.mem_map.mpr ⟨g', hg', rfl⟩))⟩
      cases n with
      | zero =>
        refine ⟨_, rfl, rfl, _, rfl, ite2 (fun e => ?_) (fun e => absurd e (by decide))⟩
        refine ⟨_, rfl, (by show 2 ≤ sizeLine; decide), fun t nt => ?_⟩
        have st := same_upd nt (o := .tup [.str "left", .int g])
        exact q (.ref t) _ (x1.trans (LamX.ExtN.of st)) (t1.ext st) ⟨t, g, rfl, hg, upd_same⟩
      | succ n =>
        refine ⟨_, rfl, rfl, _, rfl, ite2 (fun e => ?_) (fun _ => ?_)⟩
        · exfalso
          have : ((n + 1 : Nat) : Int) = 0 := by simpa [eqV] using e
          omega
        refine ⟨_, rfl, _, rfl, _, rfl, a, g, xs, hs, rfl, exT x1 ea, hl.map (fun _ _ e => exT x1 e), l12, fun L ns H2 s2 eL en ens => ⟨L, rfl, ⟨_, SqL.of eL⟩, fun D nD => ?_⟩⟩
        subst ens
        have x2 := x1.trans (LamX.ExtN.of s2)
        have sD := same_upd nD (o := .lst [])
        refine lc_list (K := K) (a := L) (xs := (P56.toI (P56.hold hs g)).map V.int) (fun i Hi => LamX.ExtN H Hi ∧ LamX.Tabs (Tb pB) Hi ∧ Hi L = some (.lst ((P56.toI (P56.hold hs g)).map V.int)) ∧ D ≠ L ∧ ∃ us, Hi D = some (.lst us) ∧ us.length = i ∧ ∀ (j k : Nat) (u : V), (P56.hold hs g)[j]? = some k → us[j]? = some u → Bk hs Hi n (P56.rest (hs.getD k []) ms) u)
          ⟨x2.trans (LamX.ExtN.of sD), (t1.ext s2).ext sD, sD _ _ eL, (ne_of_none eL nD).symm, [], upd_same, rfl, fun j k u _ h => by simp at h⟩ (fun i Hi _ z => SqL.of z.2.2.1) ?_ ?_
        · rintro i x Hi hx ⟨xi, ti, eLi, nDL, us, eD, lu, bk⟩
          rw [List.getElem?_map] at hx
          obtain ⟨z, ez, rfl⟩ := Option.map_eq_some_iff.mp hx
          unfold P56.toI at ez
          rw [List.getElem?_map] at ez
          obtain ⟨k, ek, rfl⟩ := Option.map_eq_some_iff.mp ez
          obtain ⟨kl, _⟩ := P56.mem_hold.mp (List.mem_of_getElem? ek)
          obtain ⟨tk, etk, eTk⟩ := hl.get kl
          have il : i < (P56.hold hs g).length := (List.getElem?_eq_some_iff.mp ek).1
          have hlen := P56.hold_len (held := hs) g
          refine ⟨rfl, ?_⟩
          unfold tYes
          refine iteT ⟨_, rfl, _, rfl, _, rfl, a, _, _, .ref tk, rfl, rfl, SqT.of (exT xi ea), atI_nat (j := k) etk, _, rfl, tk, b, hs[k], ms, rfl, exT xi eTk, exT xi eb, l20, fun t H3 s3 et => ⟨_, rfl, _, 1, rfl, rfl, a, t, xs, hs, _, (by show [V.ref a, V.ref t, V.int (((n + 1 : Nat) : Int) - 1)] = _; rw [show ((n + 1 : Nat) : Int) - 1 = (n : Int) by omega]), s3 _ _ (exT xi ea), hl.map (fun _ _ e => s3 _ _ (exT xi e)), l12, et, ?_, ?_, ti.ext s3, fun v H4 x4 t4 b4 => ?_⟩⟩
          · exact Nat.le_trans (List.length_filter_le _ _) l20
          · have := no.less kl
            rw [List.getD_eq_getElem?_getD, List.getElem?_eq_getElem kl] at this
            exact this
          · have x34 := (LamX.ExtN.of s3).trans x4
            have eD4 := x34 _ _ eD (fun ps z => by cases z)
            have keepT : ∀ c ys, Hi c = some (.tup ys) → upd H4 D (.lst (us ++ [v])) c = some (.tup ys) := fun c ys e => by
              rw [upd_ne (ne_of e eD (by intro z; cases z))]
              exact exT x34 e
            refine ⟨us, eD4, ?_, ?_, ?_, ?_, nDL, us ++ [v], upd_same, by rw [List.length_append, lu]; rfl, fun j k' u hj hu => ?_⟩
            · rw [lu]
              exact Nat.lt_of_le_of_lt (show i ≤ 1000 by omega) (by decide)
            · intro c o e ne'
              rw [upd_ne (ne_of_none (x2 _ _ e ne') nD)]
              exact x34 _ _ (xi _ _ e ne') ne'
            · exact tabs_lst t4 eD4
            · rw [upd_ne (Ne.symm nDL)]
              exact x34 _ _ eLi (fun ps z => by cases z)
            · rcases Nat.lt_or_ge j us.length with hl' | hl'
              · rw [List.getElem?_append_left hl'] at hu
                exact (bk j k' u hj hu).keep keepT
              · rw [List.getElem?_append_right hl'] at hu
                have ej : j - us.length = 0 := by
                  rcases Nat.eq_zero_or_pos (j - us.length) with z | z
                  · exact z
                  · rw [List.getElem?_eq_none (show ([v] : List V).length ≤ j - us.length from z)] at hu; cases hu
                rw [ej] at hu
                obtain rfl : v = u := Option.some.inj hu
                obtain rfl : i = j := by omega
                obtain rfl : k = k' := Option.some.inj (ek.symm.trans hj)
                have e0 : hs.getD k [] = hs[k] := by rw [List.getD_eq_getElem?_getD, List.getElem?_eq_getElem kl]; rfl
                rw [e0]
                exact b4.keep fun c ys e => by rw [upd_ne (ne_of e eD4 (by intro z; cases z))]; exact e
        · rintro He ⟨xe, te, eLe, _, us, eD, lu, bk⟩
          rw [List.length_map] at lu
          unfold P56.toI at lu
          rw [List.length_map] at lu
          refine ⟨D, _, rfl, .inl ⟨SqL.of eD, fun p np => ?_⟩⟩
          have sp := same_upd np (o := .tup us)
          refine ⟨(by show 3 ≤ sizeLine; decide), fun t nt => ?_⟩
          have st := same_upd nt (o := .tup [.str "take", .int g, .ref p])
          have ss := sp.trans st
          exact q (.ref t) _ (xe.trans (LamX.ExtN.of ss)) (te.ext ss) ⟨t, g, p, us, rfl, hg, upd_same, st _ _ upd_same, lu, fun i k u h1 h2 => (bk i k u h1 h2).keep fun c ys e => ss _ _ e⟩
end
end K62
set_option Elab.async false
set_option linter.all false
set_option maxRecDepth 100000
set_option maxHeartbeats 4000000
set_option pp.maxSteps 400
set_option pp.deepTerms false
namespace K62
open PySem PySem.Spec PyProof.Rows L2
open Xk Az
section
variable {P : Program} {w : World} {K : PySem.W.Frag} {mg : Str → Option Value} {base : Heap}
def spBO (pB : Addr) : Sp := fun vs H Q _ => ∃ (a b : Addr) (xs : List V) (hs : List (List Int)) (ws : List Int) (n : Nat), vs = [.ref a, .ref b, .int (n : Int)] ∧ H a = some (.tup xs) ∧ Hl H xs hs ∧ hs.length ≤ 12 ∧ H b = some (.tup (ws.map V.int)) ∧ ws.length ≤ 20 ∧ n ≤ 14 ∧
  LamX.Tabs (Tb pB) H ∧ (∀ c H', P56.Least hs ws c → c.length ≤ n → LamX.ExtN H H' → LamX.Tabs (Tb pB) H' → Q .non H') ∧ ∀ v H', P56.NoN hs ws n → LamX.ExtN H H' → LamX.Tabs (Tb pB) H' → Bk hs H' n ws v → Q v H'
theorem ok_bo {f : Addr} {fd : FuncData} {pB : Addr} (D : Df K mg "book_of" ["held", "wishes", "many"] sBookOf f fd) (T : Txt mg) (cFe : Ca P w K mg base 3 "fewest_discs" ["held", "wishes"] spFew) (cBF : ∀ n : Nat, n ≤ 14 → Ca P w K mg base 19 "book_for" ["held", "missing", "left"] (spBF pB n)) : FnOk P w K mg base CX0 20 f fd ["held", "wishes", "many"] (spBO pB) := by
  refine D.fn.ok scBookOf (fun vs H Q E h => ?_) (fun cdv A outer s H vs Q E hr h => ?_)
  · obtain ⟨a, b, xs, hs, ws, n, rfl, ea, hl, l12, eb, l20, n14, tb, q1, q2⟩ := h
    rfl
  · obtain ⟨a, b, xs, hs, ws, n, rfl, ea, hl, l12, eb, l20, n14, tb, q1, q2⟩ := h
    refine ⟨_, (pss_cons (ps_asg (pe_ca cFe hr (by decide) (by rfl) (pa_cons (pv 0) (pa_cons (pv 1) pa_nil))) (pg_tup (by rfl) (pgs_cons (pg_name (i := 3) scBookOf.nd rfl (.inl rfl)) (pgs_cons (pg_name (i := 4) scBookOf.nd rfl (.inl rfl)) pgs_nil))))
      (pss_cons (ps_if (PW.pt (pw_and (pt_cmpR op_eq (pv 3) pe_str (nomark _)) (pw_and1 (pt_cmpR op_le (pe_callB call_len_seq (by rfl) T.len PySem.boot_len (pa_cons (pv 4) pa_nil)) (pv 2) (nomark _))))) (pss_one (ps_ret pe_non)) pss_nil)
      (pss_one (ps_ret (pe_ca (cBF n n14) hr (by decide) (by rfl) (pa_cons (pv 0) (pa_cons (pv 1) (pa_cons (pv 2) pa_nil)))))))), ?_⟩
    refine ⟨_, rfl, _, rfl, a, b, xs, hs, ws, rfl, ea, hl, l12, eb, l20, fun t H1 s1 fw => ?_⟩
    cases lk : P56.lack hs ws with
    | some g =>
      rw [lk] at fw
      have fw' : H1 t = some (.tup [.str "lacks", .int g]) := fw
      refine ⟨t, _, rfl, SqT.of fw', rfl, _, _, rfl, _, _, rfl, rfl, ?_⟩
      refine ⟨_, rfl, rfl, _, rfl, ite2 (fun e => absurd e (by decide)) (fun _ => iteF ?_)⟩
      exact ⟨_, rfl, _, rfl, _, rfl, a, b, xs, hs, ws, rfl, s1 _ _ ea, hl.map (fun _ _ e => s1 _ _ e), l12, s1 _ _ eb, l20, P56.noN_lack lk n, tb.ext s1, fun v H2 x2 t2 bk => q2 v H2 (P56.noN_lack lk n) ((LamX.ExtN.of s1).trans x2) t2 bk⟩
    | none =>
      rw [lk] at fw
      obtain ⟨c, cc, hc, e1, e2⟩ := fw
      refine ⟨t, _, rfl, SqT.of e2, rfl, _, _, rfl, _, _, rfl, rfl, ?_⟩
      refine ⟨_, rfl, rfl, _, rfl, ite2 (fun _ => ?_) (fun e => absurd (by decide) e)⟩
      refine ⟨_, rfl, cc, _, rfl, .inr (SqT.of e1), _, rfl, _, _, rfl, rfl, _, rfl, ite2 (fun e => ?_) (fun e => ?_)⟩
      · have le : c.length ≤ n := by
          have := of_decide_eq_true e
          rw [List.length_map] at this
          unfold P56.toI at this
          rw [List.length_map] at this
          omega
        exact q1 c H1 hc le (LamX.ExtN.of s1) (tb.ext s1)
      · have lt : n < c.length := by
          have e' : n < (P56.toI c).length := by simpa using e
          unfold P56.toI at e'
          rw [List.length_map] at e'
          exact e'
        have no := P56.noN_least hc lt
        exact ⟨_, rfl, _, rfl, _, rfl, a, b, xs, hs, ws, rfl, s1 _ _ ea, hl.map (fun _ _ e => s1 _ _ e), l12, s1 _ _ eb, l20, no, tb.ext s1, fun v H2 x2 t2 bk => q2 v H2 no ((LamX.ExtN.of s1).trans x2) t2 bk⟩
end
end K62
set_option Elab.async false
set_option linter.all false
set_option maxRecDepth 100000
set_option maxHeartbeats 4000000
set_option pp.maxSteps 400
set_option pp.deepTerms false
namespace K62
open PySem PySem.Spec PyProof.Rows L2
open Xk Az
section
variable {P : Program} {w : World} {K : PySem.W.Frag} {mg : Str → Option Value} {base : Heap}
open P56 in
theorem ibk2 {hs : List (List Int)} {ms : List Int} {n : Nat} {x : Str} {w : PyData} : ibk hs n ms (.tuple [.str x, w]) = endB hs ms n x w := by cases n <;> rfl
def tkN (hs : List (List Int)) : Nat → List Int → PyData → PyData → Bool
  | 0, _, _, _ => false
  | n + 1, ms, w, b => P56.tkB hs (P56.ibk hs n) ms w b
open P56 in
theorem ibk3 {hs : List (List Int)} {ms : List Int} {n : Nat} {x : Str} {w b : PyData} : ibk hs n ms (.tuple [.str x, w, b]) = (decide (x = "take") && tkN hs n ms w b) := by
  cases n with
  | zero => simp [ibk, tkN]
  | succ n => rfl
open P56 in
theorem ibkN {hs : List (List Int)} {ms : List Int} {n : Nat} {d : PyData} (h2 : ∀ x w, d ≠ .tuple [.str x, w]) (h3 : ∀ x w b, d ≠ .tuple [.str x, w, b]) : ibk hs n ms d = false := by
  cases n with
  | zero =>
    unfold ibk
    split
    · exact absurd rfl (h2 _ _)
    · rfl
  | succ n =>
    unfold ibk
    split
    · exact absurd rfl (h2 _ _)
    · exact absurd rfl (h3 _ _ _)
    · rfl
def isTup : PyData → Bool
  | .tuple _ => true
  | _ => false
theorem z_tup : ∀ d : PyData, PySem.W.kitOne K (.type (kindD d)) (.type "tuple") = some (isTup d)
  | .none => kit_ty (a := "NoneType") (b := "tuple") (r := false) (by decide +kernel)
  | .bool _ => kit_ty (a := "bool") (b := "tuple") (r := false) (by decide +kernel)
  | .int _ => kit_ty (a := "int") (b := "tuple") (r := false) (by decide +kernel)
  | .str _ => kit_ty (a := "str") (b := "tuple") (r := false) (by decide +kernel)
  | .list _ => kit_ty (a := "list") (b := "tuple") (r := false) (by decide +kernel)
  | .tuple _ => kit_ty (a := "tuple") (b := "tuple") (r := true) (by decide +kernel)
  | .dict _ => kit_ty (a := "dict") (b := "tuple") (r := false) (by decide +kernel)
def isStr : PyData → Bool
  | .str _ => true
  | _ => false
theorem z_str : ∀ d : PyData, PySem.W.kitOne K (.type (kindD d)) (.type "str") = some (isStr d)
  | .none => kit_ty (a := "NoneType") (b := "str") (r := false) (by decide +kernel)
  | .bool _ => kit_ty (a := "bool") (b := "str") (r := false) (by decide +kernel)
  | .int _ => kit_ty (a := "int") (b := "str") (r := false) (by decide +kernel)
  | .str _ => kit_ty (a := "str") (b := "str") (r := true) (by decide +kernel)
  | .list _ => kit_ty (a := "list") (b := "str") (r := false) (by decide +kernel)
  | .tuple _ => kit_ty (a := "tuple") (b := "str") (r := false) (by decide +kernel)
  | .dict _ => kit_ty (a := "dict") (b := "str") (r := false) (by decide +kernel)
def wh : PyData → Option Int
  | .int i => some i
  | _ => none
theorem dz_len {H : Hp} : ∀ {xs : List V} {ds : List PyData}, DzAll K H xs ds → xs.length = ds.length
  | [], _, .nil => rfl
  | _ :: _, _, .cons _ hr => by rw [List.length_cons, List.length_cons, dz_len hr]
theorem dz_get {H : Hp} : ∀ {xs : List V} {ds : List PyData} {i : Nat} {v : V}, DzAll K H xs ds → xs[i]? = some v → ∃ d, ds[i]? = some d ∧ Dz K H v d
  | [], _, _, _, .nil, e => by simp at e
  | _ :: _, _, 0, _, .cons hd _, e => by
    cases e
    exact ⟨_, rfl, hd⟩
  | _ :: _, _, i + 1, _, .cons _ hr, e => dz_get (i := i) hr e
theorem ints_of {H : Hp} {ms : List Int} : ∀ {xs : List V} {ds : List PyData}, DzAll K H xs ds → ds.all (P56.mis ms) = true → xs = (ds.map P56.num).map V.int ∧ ∀ k ∈ ds.map P56.num, k ∈ ms
  | [], _, .nil, _ => ⟨rfl, by simp⟩
  | _ :: _, _, .cons (d := d) hd hr, h => by
    rw [List.all_cons, Bool.and_eq_true] at h
    obtain ⟨i, rfl, h1⟩ := P56.mis_int h.1
    obtain ⟨e, q⟩ := ints_of hr h.2
    cases hd
    refine ⟨by rw [List.map_cons, List.map_cons, ← e]; rfl, fun k hk => ?_⟩
    rw [List.map_cons] at hk
    rcases List.mem_cons.mp hk with z | z
    · rw [z]; exact h1
    · exact q k z
def spWholeG (K : PySem.W.Frag) : Sp := fun vs H Q _ => ∃ (v : V) (d : PyData), vs = [v] ∧ Dz K H v d ∧ Q (.bl (wh d).isSome) H
def spMisG (K : PySem.W.Frag) : Sp := fun vs H Q _ => ∃ (b : Addr) (v : V) (d : PyData) (ms : List Int), vs = [.ref b, v] ∧ H b = some (.tup (ms.map V.int)) ∧ Dz K H v d ∧ Q (.bl (P56.mis ms d)) H
def spSomG (K : PySem.W.Frag) : Sp := fun vs H Q _ => ∃ (a b : Addr) (xs : List V) (hs : List (List Int)) (ms : List Int) (n k : Nat) (v : V) (d : PyData), vs = [.ref a, .ref b, .int (n : Int), v] ∧ H a = some (.tup xs) ∧ Hl H xs hs ∧ hs.length ≤ 12 ∧ H b = some (.tup (ms.map V.int)) ∧ ms.length ≤ 20 ∧ Dz K H v d ∧ P56.Wd k d ∧ ∀ H', L2.Same H H' → Q (.bl (P56.som hs ms n d)) H'
def spIBG (K : PySem.W.Frag) (n : Nat) : Sp := fun vs H Q _ => ∃ (a b : Addr) (xs : List V) (hs : List (List Int)) (ms : List Int) (k : Nat) (v : V) (d : PyData), vs = [.ref a, .ref b, .int (n : Int), v] ∧ H a = some (.tup xs) ∧ Hl H xs hs ∧ hs.length ≤ 12 ∧ H b = some (.tup (ms.map V.int)) ∧ ms.length ≤ 20 ∧ Dz K H v d ∧ P56.Wd k d ∧ ∀ H', L2.Same H H' → Q (.bl (P56.ibk hs n ms d)) H'
def spIBb (K : PySem.W.Frag) : Nat → Sp
  | 0 => fun _ _ _ _ => False
  | n + 1 => spIBG K n
def spTkG (K : PySem.W.Frag) (n : Nat) : Sp := fun vs H Q _ => ∃ (a b : Addr) (xs : List V) (hs : List (List Int)) (ms : List Int) (k : Nat) (v u : V) (d e : PyData), vs = [.ref a, .ref b, .int (n : Int), v, u] ∧ H a = some (.tup xs) ∧ Hl H xs hs ∧ hs.length ≤ 12 ∧ H b = some (.tup (ms.map V.int)) ∧ ms.length ≤ 20 ∧ Dz K H v d ∧ Dz K H u e ∧ P56.Wd k e ∧ ∀ H', L2.Same H H' → Q (.bl (tkN hs n ms d e)) H'
def spSNG (K : PySem.W.Frag) : Sp := fun vs H Q _ => ∃ (a b : Addr) (xs : List V) (hs : List (List Int)) (ms : List Int) (n k : Nat) (v : V) (d : PyData), vs = [.ref a, .ref b, .int (n : Int), v] ∧ H a = some (.tup xs) ∧ Hl H xs hs ∧ hs.length ≤ 12 ∧ H b = some (.tup (ms.map V.int)) ∧ ms.length ≤ 20 ∧ n ≤ 14 ∧ Dz K H v d ∧ P56.Wd k d ∧ ∀ H', L2.Same H H' → Q (.bl (P56.ibk hs n ms d)) H'
theorem ok_wholeG {f : Addr} {fd : FuncData} (D : Df K mg "is_whole" ["thing"] sIsWhole f fd) (T : Txt mg) : FnOk P w K mg base CX0 1 f fd ["thing"] (spWholeG K) := by
  refine D.fn.ok scIsWhole (fun vs H Q E h => ?_) (fun cdv A outer s H vs Q E hr h => ?_)
  · obtain ⟨v, d, rfl, h, q⟩ := h
    rfl
  · obtain ⟨v, d, rfl, h, q⟩ := h
    refine ⟨_, (pss_one (ps_ret (pe_and (pe_callB call_isi (by rfl) T.isi (by decide +kernel) (pa_cons (pv 0) (pa_cons (pe_bltn (v := .ty "int") (by rfl) T.int (by decide +kernel) rfl) pa_nil))) (pe_one (pe_not (pe_callB call_isi (by rfl) T.isi (by decide +kernel) (pa_cons (pv 0) (pa_cons (pe_bltn (v := .ty "bool") (by rfl) T.bool (by decide +kernel) rfl) pa_nil)))))))), ?_⟩
    cases d with
    | int i =>
      have ty : TyX K H v (.type "int") := h.ty
      refine ⟨_, rfl, _, _, _, _, true, rfl, .ty _, ty, kit_ty (by decide +kernel), true, rfl, iteT ?_⟩
      exact ⟨_, rfl, _, _, _, _, false, rfl, .ty _, ty, kit_ty (by decide +kernel), false, rfl, q⟩
    | bool b =>
      have ty : TyX K H v (.type "bool") := h.ty
      refine ⟨_, rfl, _, _, _, _, true, rfl, .ty _, ty, kit_ty (by decide +kernel), true, rfl, iteT ?_⟩
      exact ⟨_, rfl, _, _, _, _, true, rfl, .ty _, ty, kit_ty (by decide +kernel), true, rfl, q⟩
    | none  =>
      have ty : TyX K H v (.type "NoneType") := h.ty
      exact ⟨_, rfl, _, _, _, _, false, rfl, .ty _, ty, kit_ty (by decide +kernel), false, rfl, iteF q⟩
    | str x =>
      have ty : TyX K H v (.type "str") := h.ty
      exact ⟨_, rfl, _, _, _, _, false, rfl, .ty _, ty, kit_ty (by decide +kernel), false, rfl, iteF q⟩
    | list ds =>
      have ty : TyX K H v (.type "list") := h.ty
      exact ⟨_, rfl, _, _, _, _, false, rfl, .ty _, ty, kit_ty (by decide +kernel), false, rfl, iteF q⟩
    | tuple ds =>
      have ty : TyX K H v (.type "tuple") := h.ty
      exact ⟨_, rfl, _, _, _, _, false, rfl, .ty _, ty, kit_ty (by decide +kernel), false, rfl, iteF q⟩
    | dict ds =>
      have ty : TyX K H v (.type "dict") := h.ty
      exact ⟨_, rfl, _, _, _, _, false, rfl, .ty _, ty, kit_ty (by decide +kernel), false, rfl, iteF q⟩
theorem ok_misG {f : Addr} {fd : FuncData} (D : Df K mg "is_missing" ["missing", "thing"] sIsMissing f fd) (cWG : Ca P w K mg base 1 "is_whole" ["thing"] (spWholeG K)) : FnOk P w K mg base CX0 2 f fd ["missing", "thing"] (spMisG K) := by
  refine D.fn.ok scIsMissing (fun vs H Q E h => ?_) (fun cdv A outer s H vs Q E hr h => ?_)
  · obtain ⟨b, v, d, ms, rfl, eb, h, q⟩ := h
    rfl
  · obtain ⟨b, v, d, ms, rfl, eb, h, q⟩ := h
    refine ⟨_, (pss_one (ps_ret (pe_and (pe_ca cWG hr (by decide) (by rfl) (pa_cons (pv 1) pa_nil)) (pe_one (pe_cmpR op_in_seq (pv 1) (pv 0) (by rfl)))))), ?_⟩
    refine ⟨_, rfl, v, d, rfl, h, _, rfl, ?_⟩
    cases h with
    | int g =>
      refine iteT ⟨_, rfl, _, rfl, b, _, rfl, .inr (SqT.of eb), rfl, flat_ints _, ?_⟩
      show Q (.bl (inV (.int g) (ms.map V.int))) H
      rw [inV_ints]
      exact q
    | _ => exact iteF q
section
variable {X : Cx}
def rSlU : V → Option Int → Option Int → Hp → VK → Prop := fun x lo hi H Q => ∃ a xs, x = .ref a ∧ H a = some (.tup xs) ∧ ∀ p H', L2.Same H H' → H' p = some (.tup (cutV xs lo hi)) → Q (.ref p) H'
theorem sl_tupU : SlR X rSlU := by
  intro pins s σ H x v vl vu lo hi sl Q I rx hs pl pu h
  obtain ⟨a, xs, rfl, e, q⟩ := h
  refine sl_tupA pins s σ H _ v vl vu lo hi sl Q I rx hs pl pu ⟨a, xs, rfl, SqT.of e, fun w => q a H (Same.refl H) ?_, fun _ p np => q p _ (same_upd np) upd_same⟩
  rw [e]
  unfold cutV
  rw [w.1, w.2, List.drop_zero, Nat.sub_zero, List.take_length]
def rCatU : R2 := fun x y H Q => ∃ a b xs ys, x = .ref a ∧ y = .ref b ∧ H a = some (.tup xs) ∧ H b = some (.tup ys) ∧ xs.length + ys.length ≤ sizeLine ∧ ∀ p H', L2.Same H H' → H' p = some (.tup (xs ++ ys)) → Q (.ref p) H'
theorem op_catU : OpR X (binaryOp .Add) rCatU := by
  intro pins s σ H x y v u Q I rx ry h
  obtain ⟨a, b, xs, ys, rfl, rfl, ea, eb, hz, q⟩ := h
  refine op_catA pins s σ H _ _ v u Q I rx ry ⟨a, b, xs, ys, rfl, rfl, SqT.of ea, SqT.of eb, hz, fun z => q b H (Same.refl H) ?_, fun _ z => q a H (Same.refl H) ?_, fun _ _ p np => q p _ (same_upd np) upd_same⟩
  · rw [z]; exact eb
  · rw [z, List.append_nil]; exact ea
end
theorem walk_zipM {a b : Addr} {xs ys : List V} {n : Nat} (l1 : n ≤ xs.length) (hn : n = ys.length) : Walk (RZ.ItzT K a b) n (fun H => SqT K H a xs ∧ SqT K H b ys) (YPair (fun i => xs[i]?) (fun i => ys[i]?)) := by
  refine ⟨fun i H hi s => ?_, fun H s => ⟨xs, ys, s.1, s.2, .inr (by omega)⟩, fun i H v H' hi s y => ?_⟩
  · exact ⟨xs, ys, xs[i]'(by omega), ys[i]'(by omega), s.1, s.2, List.getElem?_eq_getElem (by omega), List.getElem?_eq_getElem (by omega)⟩
  · obtain ⟨T, x, z, h1, h2, h3, h4, h5⟩ := y
    exact ⟨T, x, z, h1, h2, h3, h4 xs s.1, h5 ys s.2⟩
theorem cut1 (xs : List V) : cutV xs (some 1) none = xs.drop 1 := by
  unfold cutV
  have e1 : HT.sIx xs.length 0 (some 1) = min 1 xs.length := HT.sIx_nat xs.length 0 1
  have e2 : HT.sIx xs.length xs.length none = xs.length := rfl
  rw [e1, e2]
  cases xs with
  | nil => rfl
  | cons x r =>
    rw [show min 1 (x :: r).length = 1 by simp]
    exact List.take_of_length_le (by simp)
def spRis : Sp := fun vs H Q _ => ∃ (a : Addr) (ns : List Int), vs = [.ref a] ∧ H a = some (.tup (ns.map V.int)) ∧ ns.length ≤ 1000 ∧ ∀ H', L2.Same H H' → Q (.bl (P56.ris ns)) H'
theorem ok_ris {f : Addr} {fd : FuncData} (D : Df K mg "are_rising" ["things"] sAreRising f fd) (T : Txt mg) : FnOk P w K mg base CX0 1 f fd ["things"] spRis := by
  refine D.fn.ok scAreRising (fun vs H Q E h => ?_) (fun cdv A outer s H vs Q E hr h => ?_)
  · obtain ⟨a, ns, rfl, e, l1000, q⟩ := h
    rfl
  · obtain ⟨a, ns, rfl, e, l1000, q⟩ := h
    refine ⟨_, (pss_one (ps_ret (pe_callB (cr_all (by rfl)) (by rfl) T.all (by decide +kernel) (pa_cons (pe_lc (own := [("one", 1), ("other", 2)]) (g := (gTup K 2 (gCons (gName 1) (gCons (gName 2) gNil)))) (tt := tYes) (by rfl) scAreRising.nd (RZ.pi_zipA (by rfl) T.zip (pa_cons (pv 0) (pa_cons (pe_slice sl_tupU (pv 0) (po_some pe_int) po_none) pa_nil))) (blkOk_by (own := [("one", 1), ("other", 2)]) (N := ["things", "one", "other"]) (sc := defScope sAreRising) (by decide +kernel)) (fun _ _ _ _ _ => pg_tup (by rfl) (pgs_cons (pg_name (i := 1) scAreRising.nd rfl (.inl rfl)) (pgs_cons (pg_name (i := 2) scAreRising.nd rfl (.inl rfl)) pgs_nil))) (fun _ _ _ _ _ => pts_nil) (fun _ _ _ _ _ => pe_cmpR op_lt (pv 1) (pv 2) (nomark _))) pa_nil)))), ?_⟩
    refine ⟨_, rfl, _, rfl, 1, rfl, a, _, rfl, e, fun pz Hz sz ez => ?_⟩
    rw [cut1, ← List.map_drop] at ez
    refine ⟨a, pz, _, _, rfl, .inr ⟨SqT.of (sz _ _ e), SqT.of ez, fun Lz nLz => ?_⟩⟩
    refine lc_it (walk_zipM (K := K) (a := a) (b := pz) (xs := ns.map V.int) (ys := (ns.drop 1).map V.int) (n := ns.length - 1) (by rw [List.length_map]; omega) (by rw [List.length_map, List.length_drop])) (fun i Hi => L2.Same Hz Hi ∧ Hi Lz = some (.lst (((P56.bsR ns).take i).map V.bl))) ⟨same_upd nLz, upd_same⟩ (fun i Hi _ p => ⟨SqT.of (p.1 _ _ (sz _ _ e)), SqT.of (p.1 _ _ ez)⟩) ?_ ?_
    · rintro i v Hi H' hi ⟨sm, hL⟩ ⟨t, x, z, rfl, nt, rfl, ex, ez'⟩
      have sm2 : L2.Same Hz (upd Hi t (.tup [x, z])) := sm.trans (same_upd nt)
      have hL2 : (upd Hi t (.tup [x, z])) Lz = some (.lst (((P56.bsR ns).take i).map V.bl)) := same_upd nt _ _ hL
      replace ex : (ns.map V.int)[i]? = some x := ex
      replace ez' : ((ns.drop 1).map V.int)[i]? = some z := ez'
      rw [List.getElem?_map] at ex ez'
      obtain ⟨p, ep, rfl⟩ := Option.map_eq_some_iff.mp ex
      obtain ⟨r, er, rfl⟩ := Option.map_eq_some_iff.mp ez'
      refine ⟨t, _, rfl, SqT.of upd_same, rfl, _, _, rfl, _, _, rfl, rfl, rfl, ?_⟩
      unfold tYes
      refine iteT ⟨_, rfl, _, rfl, p, r, rfl, rfl, _, hL2, ?_, fun c o e => ?_, ?_⟩
      · rw [List.length_map, List.length_take]
        exact Nat.lt_of_le_of_lt (Nat.le_trans (Nat.min_le_left _ _) (show i ≤ 1000 by omega)) (by decide)
      · rw [upd_ne (ne_of_none e nLz)]
        exact sm2 _ _ e
      · rw [upd_same, List.take_add_one, P56.bsR_at ep er, List.map_append]
        rfl
    · rintro He ⟨sm, hL⟩
      have tk : (P56.bsR ns).take (ns.length - 1) = P56.bsR ns := List.take_of_length_le (by unfold P56.bsR; simp)
      rw [tk] at hL
      refine ⟨Lz, P56.bsR ns, rfl, SqL.of hL, ?_⟩
      exact q He (sz.trans sm)
end
end K62
set_option Elab.async false
set_option linter.all false
set_option maxRecDepth 100000
set_option maxHeartbeats 4000000
set_option pp.maxSteps 400
set_option pp.deepTerms false
namespace K62
open PySem PySem.Spec PyProof.Rows L2
open Xk Az
section
variable {P : Program} {w : World} {K : PySem.W.Frag} {mg : Str → Option Value} {base : Heap}
theorem ok_somG {f : Addr} {fd : FuncData} (D : Df K mg "shows_by_some" ["held", "missing", "left", "some"] sShowsBySome f fd) (T : Txt mg) (cMG : Ca P w K mg base 2 "is_missing" ["missing", "thing"] (spMisG K)) (cR : Ca P w K mg base 1 "are_rising" ["things"] spRis) : FnOk P w K mg base CX0 3 f fd ["held", "missing", "left", "some"] (spSomG K) := by
  refine D.fn.ok scShowsBySome (fun vs H Q E h => ?_) (fun cdv A outer s H vs Q E hr h => ?_)
  · obtain ⟨a, b, xs, hs, ms, n, k, v, d, rfl, ea, hl, l12, eb, l20, hz, hw, q⟩ := h
    rfl
  · obtain ⟨a, b, xs, hs, ms, n, k, v, d, rfl, ea, hl, l12, eb, l20, hz, hw, q⟩ := h
    refine ⟨_, (pss_cons (ps_if (PW.pt (pw_or (pt_not (pt_val (pe_callB call_isi (by rfl) T.isi (by decide +kernel) (pa_cons (pv 3) (pa_cons (pe_bltn (v := .ty "tuple") (by rfl) T.tuple (by decide +kernel) rfl) pa_nil))))) (pw_or1 (pt_not (pt_val (pe_callB (cr_all (by rfl)) (by rfl) T.all (by decide +kernel) (pa_cons (pe_lc (own := [("wish", 5)]) (g := gName 5) (tt := tYes) (te := tCall (spMisG K) [] E0 (tCons (tVar 1) (tCons (tVar 5) tNil))) (by rfl) scShowsBySome.nd (pi_tup (pv 3)) (blkOk_by (own := [("wish", 5)]) (N := ["held", "missing", "left", "some", "on_one_disc", "wish", "known", "things", "shared"]) (sc := defScope sShowsBySome) (by decide +kernel)) (fun _ _ _ _ _ => pg_name (i := 5) scShowsBySome.nd rfl (.inl rfl)) (fun _ _ _ _ _ => pts_nil) (fun _ _ _ _ _ => pe_ca cMG hr (by decide) (by rfl) (pa_cons (pv 1) (pa_cons (pv 5) pa_nil)))) pa_nil))))))) (pss_one (ps_ret pe_bl)) pss_nil)
      (pss_cons (ps_setLc (i := 4) (own := [("things", 7)]) (g := gName 7) (tt := tYes) (te := tLc (iTup K (tVar 3)) (gName 6) (tTest (tOp (rIn K false) (tVar 6) (tVar 7))) (tVar 6) [6]) (by rfl) scShowsBySome.nd rfl rfl (sw_true rfl rfl rfl (by decide +kernel)) (pi_tup (pv 0)) (blkOk_by (own := [("things", 7)]) (N := ["held", "missing", "left", "some", "on_one_disc", "wish", "known", "things", "shared"]) (sc := defScope sShowsBySome) (by decide +kernel)) (fun _ _ _ _ _ => pg_name (i := 7) scShowsBySome.nd rfl (.inr rfl)) (fun _ _ _ _ _ => pts_nil) (fun _ _ _ _ _ => pe_lc (own := [("known", 6)]) (g := gName 6) (tt := tTest (tOp (rIn K false) (tVar 6) (tVar 7))) (by rfl) scShowsBySome.nd (pi_tup (pv 3)) (blkOk_by (own := [("known", 6)]) (N := ["held", "missing", "left", "some", "on_one_disc", "wish", "known", "things", "shared"]) (sc := relS ⟨.function, [(".0", .local), ("things", .cell), ("some", .free)], false, false, []⟩ (defScope sShowsBySome)) (by decide +kernel)) (fun _ _ _ _ _ => pg_name (i := 6) scShowsBySome.nd rfl (.inl rfl)) (fun _ _ _ _ _ => (pts_one (pt_cmpR op_in_seq (pv 6) (pv 7) (by rfl)))) (fun _ _ _ _ _ => pv 6)))
      (pss_one (ps_ret (pe_and (pe_ca cR hr (by decide) (by rfl) (pa_cons (pv 3) pa_nil)) (pe_and (pe_cmpR op_gt (pe_callB call_len_seq (by rfl) T.len PySem.boot_len (pa_cons (pv 3) pa_nil)) (pv 2) (nomark _)) (pe_one (pe_callB (cr_all (by rfl)) (by rfl) T.all (by decide +kernel) (pa_cons (pe_lc (own := [("shared", 8)]) (g := gName 8) (tt := tYes) (te := tOp (rI0 fun i j => V.bl (decide (i < j))) (tCB (rLn K) (tCons (tVar 8) tNil)) (tC (V.int 2))) (by rfl) scShowsBySome.nd (pi_list (pv 4)) (blkOk_by (own := [("shared", 8)]) (N := ["held", "missing", "left", "some", "on_one_disc", "wish", "known", "things", "shared"]) (sc := defScope sShowsBySome) (by decide +kernel)) (fun _ _ _ _ _ => pg_name (i := 8) scShowsBySome.nd rfl (.inl rfl)) (fun _ _ _ _ _ => pts_nil) (fun _ _ _ _ _ => pe_cmpR op_lt (pe_callB call_len_seq (by rfl) T.len PySem.boot_len (pa_cons (pv 8) pa_nil)) pe_int (nomark _))) pa_nil))))))))), ?_⟩
    have lh := hl.len
    have q' : ∀ b H', P56.som hs ms n d = b → L2.Same H H' → Q (.bl b) H' := fun b H' e s => e ▸ q H' s
    refine ⟨_, rfl, _, _, _, _, isTup d, rfl, .ty _, hz.ty, z_tup d, _, rfl, ?_⟩
    cases hz with
    | @tup t ys ds et ra =>
      obtain ⟨l60, _⟩ := hw.of
      have ly := dz_len ra
      refine iteF ⟨_, rfl, t, rfl, ⟨_, SqT.of et⟩, fun D nD => ?_⟩
      refine lc_tup (K := K) (a := t) (xs := ys) (fun i Hi => L2.Same H Hi ∧ Hi D = some (.lst (((ds.map (P56.mis ms)).take i).map V.bl))) ⟨same_upd nD, upd_same⟩ (fun i Hi _ z => SqT.of (z.1 _ _ et)) ?_ ?_
      · rintro i x Hi hx ⟨sm, eD⟩
        have il : i < ys.length := (List.getElem?_eq_some_iff.mp hx).1
        obtain ⟨di, edi, dzi⟩ := dz_get ra hx
        refine ⟨rfl, ?_⟩
        unfold tYes
        refine iteT ⟨_, rfl, _, rfl, b, x, di, ms, rfl, sm _ _ eb, dzi.same sm, _, eD, ?_, fun c o e => ?_, ?_⟩
        · rw [List.length_map, List.length_take]
          exact Nat.lt_of_le_of_lt (Nat.le_trans (Nat.min_le_left _ _) (show i ≤ 1000 by omega)) (by decide)
        · rw [upd_ne (ne_of_none e nD)]
          exact sm _ _ e
        · rw [upd_same, List.take_add_one, List.getElem?_map, edi, List.map_append]
          rfl
      · rintro H2 ⟨s2, eD⟩
        rw [List.take_of_length_le (by rw [List.length_map]; omega)] at eD
        refine ⟨D, _, rfl, SqL.of eD, _, rfl, ?_⟩
        rw [show (ds.map (P56.mis ms)).all id = ds.all (P56.mis ms) by rw [List.all_map]; rfl]
        cases c : ds.all (P56.mis ms) with
        | false => exact iteT (q' false H2 (by unfold P56.som; dsimp only; rw [c]; rfl) s2)
        | true =>
          obtain ⟨ey, rng⟩ := ints_of ra c
          have hq : P56.som hs ms n (.tuple ds) = (P56.ris (ds.map P56.num) && (decide (n < (ds.map P56.num).length) && P56.shr hs (ds.map P56.num))) := by unfold P56.som; dsimp only; rw [c, List.length_map]; rfl
          have ln : (ds.map P56.num).length ≤ 1000 := by rw [List.length_map]; exact l60
          rw [hq] at q'
          subst ey
          clear hq rng q hw ra eD ly c
          generalize ds.map P56.num = ns at *
          have et2 := s2 _ _ et
          have ea2 := s2 _ _ ea
          refine iteF ⟨_, rfl, a, rfl, ⟨_, SqT.of ea2⟩, fun L nL => ?_⟩
          refine lc_tup (K := K) (a := a) (xs := xs) (fun i Hi => L2.Same H2 Hi ∧ ∃ Ls : List V, Ls.length = i ∧ Hi L = some (.lst Ls) ∧ ∀ (j : Nat) (v : V), Ls[j]? = some v → ∃ p, v = .ref p ∧ p ≠ L ∧ Hi p = some (.lst ((ns.filter fun g => decide (g ∈ hs.getD j [])).map V.int))) ⟨same_upd nL, [], rfl, upd_same, fun j v h => by simp at h⟩ (fun i Hi _ z => SqT.of (z.1 _ _ ea2)) ?_ ?_
          · rintro i x Hi hx ⟨sm, Ls, lL, eL, hL⟩
            have il : i < hs.length := by have := (List.getElem?_eq_some_iff.mp hx).1; omega
            obtain ⟨tk, etk, eTk⟩ := hl.get il
            obtain rfl : V.ref tk = x := Option.some.inj (etk.symm.trans hx)
            have eg : hs.getD i [] = hs[i] := by rw [List.getD_eq_getElem?_getD, List.getElem?_eq_getElem il]; rfl
            have eTk2 := sm _ _ (s2 _ _ eTk)
            refine ⟨rfl, ?_⟩
            refine ⟨_, rfl, t, rfl, ⟨_, SqT.of (sm _ _ et2)⟩, fun Di nDi => ?_⟩
            refine lc_tup (K := K) (a := t) (xs := ns.map V.int) (fun j Hj => L2.Same Hi Hj ∧ Hj Di = some (.lst (((ns.take j).filter fun g => decide (g ∈ hs[i])).map V.int))) ⟨same_upd nDi, upd_same⟩ (fun j Hj _ z => SqT.of (z.1 _ _ (sm _ _ et2))) ?_ ?_
            · rintro j y Hj hy ⟨sj, eDi⟩
              rw [List.getElem?_map] at hy
              obtain ⟨g, ek, rfl⟩ := Option.map_eq_some_iff.mp hy
              have jl : j < ns.length := (List.getElem?_eq_some_iff.mp ek).1
              have tke : (ns.take (j + 1)).filter (fun g => decide (g ∈ hs[i])) = (ns.take j).filter (fun g => decide (g ∈ hs[i])) ++ (if inV (.int g) ((hs[i]).map V.int) = true then [g] else []) := by
                rw [List.take_add_one, ek, List.filter_append, inV_ints]
                by_cases c : g ∈ hs[i] <;> simp [c]
              refine ⟨rfl, ?_⟩
              refine ⟨_, rfl, _, rfl, tk, _, rfl, .inr (SqT.of (sj _ _ eTk2)), rfl, flat_ints _, ?_⟩
              refine ⟨_, rfl, ite2 (fun e => ?_) (fun e => ?_)⟩
              · have e' : inV (.int g) ((hs[i]).map V.int) = true := by simpa using e
                refine ⟨_, rfl, _, eDi, ?_, fun c o q => ?_, ?_⟩
                · rw [List.length_map]
                  refine Nat.lt_of_le_of_lt (Nat.le_trans (List.length_filter_le _ _) (show (ns.take j).length ≤ 1000 from ?_)) (by decide)
                  rw [List.length_take]; omega
                · rw [upd_ne (ne_of_none q nDi)]
                  exact sj _ _ q
                · rw [upd_same, tke, e', if_pos rfl, List.map_append]
                  rfl
              · have e' : inV (.int g) ((hs[i]).map V.int) = false := by simpa using e
                refine ⟨sj, ?_⟩
                rw [tke, e', if_neg Bool.false_ne_true, List.append_nil]
                exact eDi
            · rintro He ⟨sj, eDi⟩
              rw [List.length_map, List.take_length] at eDi
              refine ⟨Ls, sj _ _ eL, ?_, fun c o e => ?_, Ls ++ [.ref Di], by rw [List.length_append, lL]; rfl, upd_same, fun j v h => ?_⟩
              · exact Nat.lt_of_le_of_lt (show Ls.length ≤ 1000 by omega) (by decide)
              · rw [upd_ne (ne_of_none e nL)]
                exact sj _ _ (sm _ _ e)
              · have nDL : Di ≠ L := fun z => by rw [z, eL] at nDi; cases nDi
                rcases Nat.lt_or_ge j Ls.length with hj | hj
                · rw [List.getElem?_append_left hj] at h
                  obtain ⟨p, rfl, np, ep⟩ := hL j v h
                  refine ⟨p, rfl, np, ?_⟩
                  rw [upd_ne np]
                  exact sj _ _ ep
                · rw [List.getElem?_append_right hj] at h
                  have hj0 : j - Ls.length = 0 := by
                    have := (List.getElem?_eq_some_iff.mp h).1
                    simp at this
                    omega
                  rw [hj0] at h
                  cases h
                  obtain rfl : j = i := by omega
                  refine ⟨Di, rfl, nDL, ?_⟩
                  rw [upd_ne nDL, eg]
                  exact eDi
          rintro H3 ⟨s3, Ls, lL, eL, hL⟩
          have s23 := s2.trans s3
          refine ⟨_, rfl, t, ns, rfl, s3 _ _ et2, by omega, fun H4 s4 => ⟨_, rfl, ?_⟩⟩
          cases r : P56.ris ns with
          | false => exact iteF (q' false H4 (by rw [r]; rfl) (s23.trans s4))
          | true =>
            refine iteT ⟨_, rfl, t, _, rfl, .inr (SqT.of (s4 _ _ (s3 _ _ et2))), _, rfl, _, _, rfl, rfl, _, rfl, ?_⟩
            rw [show decide (((ns.map V.int).length : Int) > (n : Int)) = decide (n < ns.length) by rw [List.length_map]; simp]
            cases c : decide (n < ns.length) with
            | false => exact iteF (q' false H4 (by rw [r, c]; rfl) (s23.trans s4))
            | true =>
              have eL4 := s4 _ _ eL
              refine iteT ⟨_, rfl, L, rfl, ⟨_, SqL.of eL4⟩, fun Dl nDl => ?_⟩
              refine lc_list (K := K) (a := L) (xs := Ls) (fun i Hi => L2.Same H4 Hi ∧ Hi Dl = some (.lst (((hs.map fun gs => decide ((ns.filter fun g => decide (g ∈ gs)).length < 2)).take i).map V.bl))) ⟨same_upd nDl, upd_same⟩ (fun i Hi _ z => SqL.of (z.1 _ _ eL4)) ?_ ?_
              · rintro i x Hi hx ⟨sm, eD⟩
                have il : i < Ls.length := (List.getElem?_eq_some_iff.mp hx).1
                have ih : i < hs.length := by omega
                obtain ⟨p, rfl, np, ep⟩ := hL i x hx
                have ep2 := sm _ _ (s4 _ _ ep)
                refine ⟨rfl, ?_⟩
                unfold tYes
                refine iteT ⟨_, rfl, p, _, rfl, .inl (SqL.of ep2), _, _, rfl, rfl, _, eD, ?_, fun c o e => ?_, ?_⟩
                · rw [List.length_map, List.length_take]
                  exact Nat.lt_of_le_of_lt (Nat.le_trans (Nat.min_le_left _ _) (show i ≤ 1000 by omega)) (by decide)
                · rw [upd_ne (ne_of_none e nDl)]
                  exact sm _ _ e
                · rw [upd_same, List.take_add_one, List.getElem?_map, List.getElem?_eq_getElem ih, List.map_append]
                  simp [List.getD_eq_getElem?_getD, List.getElem?_eq_getElem ih]
                  omega
              · rintro H5 ⟨s5, eD⟩
                rw [List.take_of_length_le (by rw [List.length_map]; omega)] at eD
                refine ⟨Dl, _, rfl, SqL.of eD, ?_⟩
                refine q' _ H5 ?_ ((s23.trans s4).trans s5)
                rw [r, c, List.all_map]
                rfl
    | _ => exact iteT (q' false H rfl (Same.refl H))
end
end K62
set_option Elab.async false
set_option linter.all false
set_option maxRecDepth 100000
set_option maxHeartbeats 4000000
set_option pp.maxSteps 400
set_option pp.deepTerms false
namespace K62
open PySem PySem.Spec PyProof.Rows L2
open Xk Az
section
variable {P : Program} {w : World} {K : PySem.W.Frag} {mg : Str → Option Value} {base : Heap}
def tkR (hs : List (List Int)) (n : Nat) (ms : List Int) (g : Int) : PyData → Bool
  | .tuple us => decide (us.length = (P56.hold hs g).length) && ((P56.hold hs g).zip us).all fun p => P56.ibk hs n (P56.rest (hs.getD p.1 []) ms) p.2
  | _ => false
theorem ok_tkG {f : Addr} {fd : FuncData} {n : Nat} (D : Df K mg "shows_by_taking" ["held", "missing", "left", "wish", "books"] sShowsByTaking f fd) (T : Txt mg) (cHo : Ca P w K mg base 1 "holders" ["held", "wish"] spHolders) (cNA : Ca P w K mg base 1 "not_among" ["things", "wishes"] (spNA K)) (cMG : Ca P w K mg base 2 "is_missing" ["missing", "thing"] (spMisG K)) (cIB : Ca P w K mg base (2 * n + 2) "is_book" ["held", "missing", "left", "thing"] (spIBb K n)) : FnOk P w K mg base CX0 (2 * n + 3) f fd ["held", "missing", "left", "wish", "books"] (spTkG K n) := by
  refine D.fn.ok scShowsByTaking (fun vs H Q E h => ?_) (fun cdv A outer s H vs Q E hr h => ?_)
  · obtain ⟨a, b, xs, hs, ms, k, v, u, d, e, rfl, ea, hl, l12, eb, l20, hz, hu, hw, q⟩ := h
    rfl
  · obtain ⟨a, b, xs, hs, ms, k, v, u, d, e, rfl, ea, hl, l12, eb, l20, hz, hu, hw, q⟩ := h
    refine ⟨_, (pss_cons (ps_if (PW.pt (pw_or (pt_cmpR op_lt (pv 2) pe_int (nomark _)) (pw_or (pt_not (pt_val (pe_ca cMG hr (by omega) (by rfl) (pa_cons (pv 1) (pa_cons (pv 3) pa_nil))))) (pw_or1 (pt_not (pt_val (pe_callB call_isi (by rfl) T.isi (by decide +kernel) (pa_cons (pv 4) (pa_cons (pe_bltn (v := .ty "tuple") (by rfl) T.tuple (by decide +kernel) rfl) pa_nil))))))))) (pss_one (ps_ret pe_bl)) pss_nil)
      (pss_cons (ps_set (i := 5) scShowsByTaking.nd rfl (.inl rfl) (pe_ca cHo hr (by omega) (by rfl) (pa_cons (pv 0) (pa_cons (pv 3) pa_nil))))
      (pss_one (ps_ret (pe_and (pe_cmpR op_eq (pe_callB call_len_seq (by rfl) T.len PySem.boot_len (pa_cons (pv 4) pa_nil)) (pe_callB call_len_seq (by rfl) T.len PySem.boot_len (pa_cons (pv 5) pa_nil)) (nomark _)) (pe_one (pe_callB (cr_all (by rfl)) (by rfl) T.all (by decide +kernel) (pa_cons (pe_lc (own := [("disc", 6), ("book", 7)]) (g := (gTup K 2 (gCons (gName 6) (gCons (gName 7) gNil)))) (tt := tYes) (te := tCall (spIBb K n) [] E0 (tCons (tVar 0) (tCons (tCall (spNA K) [] E0 (tCons (tOp (rIxT K) (tVar 0) (tVar 6)) (tCons (tVar 1) tNil))) (tCons (tOp (rI0 fun i j => V.int (i - j)) (tVar 2) (tC (V.int 1))) (tCons (tVar 7) tNil))))) (by rfl) scShowsByTaking.nd (Xt.pi_zipLT (by rfl) T.zip (pa_cons (pv 5) (pa_cons (pv 4) pa_nil))) (blkOk_by (own := [("disc", 6), ("book", 7)]) (N := ["held", "missing", "left", "wish", "books", "discs", "disc", "book"]) (sc := defScope sShowsByTaking) (by decide +kernel)) (fun _ _ _ _ _ => pg_tup (by rfl) (pgs_cons (pg_name (i := 6) scShowsByTaking.nd rfl (.inl rfl)) (pgs_cons (pg_name (i := 7) scShowsByTaking.nd rfl (.inl rfl)) pgs_nil))) (fun _ _ _ _ _ => pts_nil) (fun _ _ _ _ _ => pe_ca cIB hr (by omega) (by rfl) (pa_cons (pv 0) (pa_cons (pe_ca cNA hr (by omega) (by rfl) (pa_cons (pe_ix ix_tup (pv 0) (pv 6) (fun _ _ => rfl)) (pa_cons (pv 1) pa_nil))) (pa_cons (pe_op op_sub (pv 2) pe_int) (pa_cons (pv 7) pa_nil)))))) pa_nil)))))))), ?_⟩
    have lh := hl.len
    have q' : ∀ r H', tkN hs n ms d e = r → L2.Same H H' → Q (.bl r) H' := fun r H' z s => z ▸ q H' s
    refine ⟨_, rfl, _, _, rfl, rfl, _, rfl, ?_⟩
    cases n with
    | zero => exact iteT (q' false H rfl (Same.refl H))
    | succ n =>
      rw [show decide (((n + 1 : Nat) : Int) < 1) = false by rw [decide_eq_false_iff_not]; omega]
      refine iteF ?_
      refine ⟨_, rfl, _, rfl, b, v, d, ms, rfl, eb, hz, _, rfl, ?_⟩
      cases c : P56.mis ms d with
      | false => exact iteT (q' false H (by show P56.tkB _ _ _ _ _ = _; unfold P56.tkB; rw [c]; rfl) (Same.refl H))
      | true =>
        obtain ⟨g, rfl, hg⟩ := P56.mis_int c
        cases hz
        refine iteF ⟨_, rfl, _, _, _, _, isTup e, rfl, .ty _, hu.ty, z_tup e, _, rfl, ?_⟩
        have q2 : ∀ r H', tkR hs n ms g e = r → L2.Same H H' → Q (.bl r) H' := fun r H' z s => q' r H' (by show P56.tkB _ _ _ _ _ = _; unfold P56.tkB; rw [c]; exact z) s
        clear q q'
        cases hu with
        | @tup c us es ec ra =>
          have ly := dz_len ra
          refine iteF ⟨_, rfl, _, rfl, a, g, xs, hs, rfl, ea, hl, l12, fun L ns H2 s2 eL en ens => ?_⟩
          subst ens
          refine ⟨_, rfl, c, _, rfl, .inr (SqT.of (s2 _ _ ec)), _, rfl, L, _, rfl, .inl (SqL.of eL), rfl, _, rfl, ?_⟩
          have lt : ((P56.toI (P56.hold hs g)).map V.int).length = (P56.hold hs g).length := by
            rw [List.length_map]
            unfold P56.toI
            rw [List.length_map]
          rw [lt]
          by_cases lu : us.length = (P56.hold hs g).length
          · rw [show decide (V.int (us.length : Nat) = V.int ((P56.hold hs g).length : Nat)) = true by rw [decide_eq_true_iff, lu]]
            refine iteT ?_
            refine ⟨_, rfl, _, rfl, L, c, _, us, rfl, SqL.of eL, SqT.of (s2 _ _ ec), fun D nD => ?_⟩
            have lz : ((P56.toI (P56.hold hs g)).map V.int).length = us.length := by rw [lt, lu]
            have hlen := P56.hold_len (held := hs) g
            have le : es.length = (P56.hold hs g).length := by omega
            refine lc_it (Xt.walk_zipLT (K := K) (a := L) (b := c) lz) (fun i Hi => L2.Same H2 Hi ∧ Hi D = some (.lst (((((P56.hold hs g).zip es).map fun p => P56.ibk hs n (P56.rest (hs.getD p.1 []) ms) p.2).take i).map V.bl))) ⟨same_upd nD, upd_same⟩ (fun i Hi _ z => ⟨SqL.of (z.1 _ _ eL), SqT.of (z.1 _ _ (s2 _ _ ec))⟩) ?_ ?_
            · rintro i v Hi H' hi ⟨sm, eD⟩ ⟨t, x, z, rfl, nt, rfl, ex, ez⟩
              replace ex : ((P56.toI (P56.hold hs g)).map V.int)[i]? = some x := ex
              replace ez : us[i]? = some z := ez
              unfold P56.toI at ex
              rw [List.map_map, List.getElem?_map] at ex
              obtain ⟨k', ek, rfl⟩ := Option.map_eq_some_iff.mp ex
              obtain ⟨kl, _⟩ := P56.mem_hold.mp (List.mem_of_getElem? ek)
              obtain ⟨tk, etk, eTk⟩ := hl.get kl
              have il : i < us.length := (List.getElem?_eq_some_iff.mp ez).1
              obtain ⟨di, edi, dzi⟩ := dz_get ra ez
              obtain ⟨wj, hwj⟩ := hw.of.2 di (List.mem_of_getElem? edi)
              have st := same_upd nt (o := .tup [.int (k' : Int), z])
              have sa := (s2.trans sm).trans st
              have e0 : hs.getD k' [] = hs[k'] := by rw [List.getD_eq_getElem?_getD, List.getElem?_eq_getElem kl]; rfl
              refine ⟨t, _, rfl, SqT.of upd_same, rfl, _, _, rfl, _, _, rfl, rfl, rfl, ?_⟩
              unfold tYes
              refine iteT ⟨_, rfl, _, rfl, _, rfl, a, _, _, .ref tk, rfl, rfl, SqT.of (sa _ _ ea), atI_nat (j := k') etk, _, rfl, tk, b, hs[k'], ms, rfl, sa _ _ eTk, sa _ _ eb, l20, fun t2 H3 s3 et => ⟨_, rfl, _, 1, rfl, rfl, _, rfl, a, t2, xs, hs, _, wj, z, di, (by show [V.ref a, V.ref t2, V.int (((n + 1 : Nat) : Int) - 1), z] = _; rw [show ((n + 1 : Nat) : Int) - 1 = (n : Int) by omega]), s3 _ _ (sa _ _ ea), hl.map (fun _ _ e => s3 _ _ (sa _ _ e)), l12, et, Nat.le_trans (List.length_filter_le _ _) l20, (dzi.same sa).same s3, hwj, fun H4 s4 => ?_⟩⟩
              refine ⟨_, s4 _ _ (s3 _ _ (st _ _ eD)), ?_, fun c o e => ?_, ?_⟩
              · rw [List.length_map, List.length_take]
                exact Nat.lt_of_le_of_lt (Nat.le_trans (Nat.min_le_left _ _) (show i ≤ 1000 by omega)) (by decide)
              · rw [upd_ne (ne_of_none e nD)]
                exact s4 _ _ (s3 _ _ (st _ _ (sm _ _ e)))
              · have ezip : ((P56.hold hs g).zip es)[i]? = some (k', di) := by rw [List.getElem?_zip_eq_some]; exact ⟨ek, edi⟩
                rw [upd_same, List.take_add_one, List.getElem?_map, ezip, List.map_append, ← e0]
                rfl
            · rintro He ⟨sm, eD⟩
              rw [List.take_of_length_le (by rw [List.length_map, List.length_zip]; omega)] at eD
              refine ⟨D, _, rfl, SqL.of eD, ?_⟩
              refine q2 _ He ?_ (s2.trans sm)
              unfold tkR
              dsimp only
              rw [decide_eq_true le, List.all_map]
              rfl
          · rw [show decide (V.int (us.length : Nat) = V.int ((P56.hold hs g).length : Nat)) = false by rw [decide_eq_false_iff_not]; intro z; injection z with z; omega]
            refine iteF (q2 false H2 ?_ s2)
            unfold tkR
            dsimp only
            rw [decide_eq_false (by omega)]
            rfl
        | _ => exact iteT (q2 false H rfl (Same.refl H))
theorem ok_ibG {f : Addr} {fd : FuncData} {n : Nat} (D : Df K mg "is_book" ["held", "missing", "left", "thing"] sIsBook f fd) (T : Txt mg) (cMG : Ca P w K mg base 2 "is_missing" ["missing", "thing"] (spMisG K)) (cTk : Ca P w K mg base (2 * n + 3) "shows_by_taking" ["held", "missing", "left", "wish", "books"] (spTkG K n)) (cSo : Ca P w K mg base 3 "shows_by_some" ["held", "missing", "left", "some"] (spSomG K)) : FnOk P w K mg base CX0 (2 * n + 4) f fd ["held", "missing", "left", "thing"] (spIBG K n) := by
  refine D.fn.ok scIsBook (fun vs H Q E h => ?_) (fun cdv A outer s H vs Q E hr h => ?_)
  · obtain ⟨a, b, xs, hs, ms, k, v, d, rfl, ea, hl, l12, eb, l20, hz, hw, q⟩ := h
    rfl
  · obtain ⟨a, b, xs, hs, ms, k, v, d, rfl, ea, hl, l12, eb, l20, hz, hw, q⟩ := h
    refine ⟨_, (pss_cons (ps_if (PW.pt (pw_or (pt_not (pt_val (pe_callB call_isi (by rfl) T.isi (by decide +kernel) (pa_cons (pv 3) (pa_cons (pe_bltn (v := .ty "tuple") (by rfl) T.tuple (by decide +kernel) rfl) pa_nil))))) (pw_or (pt_cmpR op_lt (pe_callB call_len_seq (by rfl) T.len PySem.boot_len (pa_cons (pv 3) pa_nil)) pe_int (nomark _)) (pw_or1 (pt_not (pt_val (pe_callB call_isi (by rfl) T.isi (by decide +kernel) (pa_cons (pe_ix ix_tup (pv 3) pe_int (fun _ _ => rfl)) (pa_cons (pe_bltn (v := .ty "str") (by rfl) T.str (by decide +kernel) rfl) pa_nil))))))))) (pss_one (ps_ret pe_bl)) pss_nil)
      (pss_cons (ps_if (PW.pt (pw_and (pt_cmpR op_eq (pe_ix ix_tup (pv 3) pe_int (fun _ _ => rfl)) pe_str (nomark _)) (pw_and1 (pt_cmpR op_eq (pe_callB call_len_seq (by rfl) T.len PySem.boot_len (pa_cons (pv 3) pa_nil)) pe_int (nomark _))))) (pss_one (ps_ret (pe_ca cTk hr (by omega) (by rfl) (pa_cons (pv 0) (pa_cons (pv 1) (pa_cons (pv 2) (pa_cons (pe_ix ix_tup (pv 3) pe_int (fun _ _ => rfl)) (pa_cons (pe_ix ix_tup (pv 3) pe_int (fun _ _ => rfl)) pa_nil)))))))) pss_nil)
      (pss_cons (ps_if (PW.pt (pw_and (pt_cmpR op_eq (pe_ix ix_tup (pv 3) pe_int (fun _ _ => rfl)) pe_str (nomark _)) (pw_and1 (pt_cmpR op_eq (pe_callB call_len_seq (by rfl) T.len PySem.boot_len (pa_cons (pv 3) pa_nil)) pe_int (nomark _))))) (pss_one (ps_ret (pe_and (pe_cmpR op_eq (pv 2) pe_int (nomark _)) (pe_one (pe_ca cMG hr (by omega) (by rfl) (pa_cons (pv 1) (pa_cons (pe_ix ix_tup (pv 3) pe_int (fun _ _ => rfl)) pa_nil))))))) pss_nil)
      (pss_one (ps_ret (pe_and (pe_cmpR op_eq (pe_ix ix_tup (pv 3) pe_int (fun _ _ => rfl)) pe_str (nomark _)) (pe_and (pe_cmpR op_eq (pe_callB call_len_seq (by rfl) T.len PySem.boot_len (pa_cons (pv 3) pa_nil)) pe_int (nomark _)) (pe_one (pe_ca cSo hr (by omega) (by rfl) (pa_cons (pv 0) (pa_cons (pv 1) (pa_cons (pv 2) (pa_cons (pe_ix ix_tup (pv 3) pe_int (fun _ _ => rfl)) pa_nil))))))))))))), ?_⟩
    have q' : ∀ r H', P56.ibk hs n ms d = r → L2.Same H H' → Q (.bl r) H' := fun r H' z s => z ▸ q H' s
    refine ⟨_, rfl, _, _, _, _, isTup d, rfl, .ty _, hz.ty, z_tup d, _, rfl, ?_⟩
    cases hz with
    | @tup t ys ds et ra =>
      refine iteF ⟨_, rfl, t, _, rfl, .inr (SqT.of et), _, _, rfl, rfl, _, rfl, ?_⟩
      cases ra with
      | nil => exact iteT (q' false H (ibkN (fun _ _ z => by cases z) fun _ _ _ z => by cases z) (Same.refl H))
      | @cons v0 vs0 d0 ds0 h0 ra =>
      cases ra with
      | nil => exact iteT (q' false H (ibkN (fun _ _ z => by cases z) fun _ _ _ z => by cases z) (Same.refl H))
      | @cons v1 vs d1 ds h1 ra =>
      rw [show decide (((v0 :: v1 :: vs).length : Int) < 2) = false by rw [decide_eq_false_iff_not]; simp; omega]
      have e1 : (v0 :: v1 :: vs)[1]? = some v1 := rfl
      have w1 : ∃ j, P56.Wd j d1 := hw.of.2 d1 (by simp)
      refine iteF ⟨_, rfl, t, _, _, _, rfl, rfl, SqT.of et, atI_nat (j := 0) rfl, _, _, _, _, isStr d0, rfl, .ty _, h0.ty, z_str d0, _, rfl, ?_⟩
      cases h0 with
      | str x =>
        refine iteF ⟨_, rfl, t, _, _, _, rfl, rfl, SqT.of et, atI_nat (j := 0) rfl, rfl, _, rfl, ?_⟩
        by_cases xt : x = "take"
        · subst xt
          rw [show decide (V.str "take" = V.str "take") = true by simp]
          refine iteT ⟨_, rfl, t, _, rfl, .inr (SqT.of et), rfl, _, rfl, ?_⟩
          cases ra with
          | nil =>
            refine iteF ⟨_, rfl, t, _, _, _, rfl, rfl, SqT.of et, atI_nat (j := 0) rfl, rfl, _, rfl, ?_⟩
            refine iteF (iteF ⟨_, rfl, t, _, _, _, rfl, rfl, SqT.of et, atI_nat (j := 0) rfl, rfl, _, rfl, ?_⟩)
            exact iteF (q' false H (by rw [ibk2]; rfl) (Same.refl H))
          | @cons v2 vs2 d2 ds2 h2 ra =>
            cases ra with
            | nil =>
              obtain ⟨j2, w2⟩ := hw.of.2 d2 (by simp)
              refine iteT ⟨_, rfl, _, rfl, _, rfl, _, rfl, t, _, _, v1, rfl, rfl, SqT.of et, atI_nat (j := 1) rfl, _, rfl, t, _, _, v2, rfl, rfl, SqT.of et, atI_nat (j := 2) rfl, a, b, xs, hs, ms, j2, v1, v2, d1, d2, rfl, ea, hl, l12, eb, l20, h1, h2, w2, fun H' s => q' _ H' ?_ s⟩
              rw [ibk3]
              rfl
            | @cons v3 vs3 d3 ds3 h3 ra =>
              rw [show decide (V.int (((V.str "take") :: v1 :: v2 :: v3 :: vs3).length : Nat) = V.int 3) = false by rw [decide_eq_false_iff_not]; intro z; injection z with z; simp at z; omega]
              refine iteF ⟨_, rfl, t, _, _, _, rfl, rfl, SqT.of et, atI_nat (j := 0) rfl, rfl, _, rfl, ?_⟩
              refine iteF (iteF ⟨_, rfl, t, _, _, _, rfl, rfl, SqT.of et, atI_nat (j := 0) rfl, rfl, _, rfl, ?_⟩)
              exact iteF (q' false H (ibkN (fun _ _ z => by cases z) fun _ _ _ z => by cases z) (Same.refl H))
        · rw [show decide (V.str x = V.str "take") = false by rw [decide_eq_false_iff_not]; intro z; injection z with z; exact xt z]
          refine iteF (iteF ⟨_, rfl, t, _, _, _, rfl, rfl, SqT.of et, atI_nat (j := 0) rfl, rfl, _, rfl, ?_⟩)
          by_cases xl : x = "left"
          · subst xl
            rw [show decide (V.str "left" = V.str "left") = true by simp]
            refine iteT ⟨_, rfl, t, _, rfl, .inr (SqT.of et), rfl, _, rfl, ?_⟩
            cases ra with
            | nil =>
              refine iteT ⟨_, rfl, rfl, _, rfl, ?_⟩
              by_cases n0 : n = 0
              · subst n0
                refine iteT ⟨_, rfl, _, rfl, t, _, _, v1, rfl, rfl, SqT.of et, atI_nat (j := 1) rfl, b, v1, d1, ms, rfl, eb, h1, q' _ H ?_ (Same.refl H)⟩
                rw [ibk2]
                unfold P56.endB
                rw [if_pos rfl]
                rfl
              · rw [show decide (V.int (n : Int) = V.int 0) = false by rw [decide_eq_false_iff_not]; intro z; injection z with z; omega]
                refine iteF (q' false H ?_ (Same.refl H))
                rw [ibk2]
                unfold P56.endB
                rw [if_pos rfl, decide_eq_false n0]
                rfl
            | @cons v2 vs2 d2 ds2 h2 ra =>
              rw [show decide (V.int (((V.str "left") :: v1 :: v2 :: vs2).length : Nat) = V.int 2) = false by rw [decide_eq_false_iff_not]; intro z; injection z with z; simp at z; omega]
              refine iteF ⟨_, rfl, t, _, _, _, rfl, rfl, SqT.of et, atI_nat (j := 0) rfl, rfl, _, rfl, ?_⟩
              refine iteF (q' false H ?_ (Same.refl H))
              cases ds2 with
              | nil => rw [ibk3]; rfl
              | cons d3 ds3 => exact ibkN (fun _ _ z => by cases z) fun _ _ _ z => by cases z
          · rw [show decide (V.str x = V.str "left") = false by rw [decide_eq_false_iff_not]; intro z; injection z with z; exact xl z]
            refine iteF (iteF ⟨_, rfl, t, _, _, _, rfl, rfl, SqT.of et, atI_nat (j := 0) rfl, rfl, _, rfl, ?_⟩)
            by_cases xa : x = "apart"
            · subst xa
              rw [show decide (V.str "apart" = V.str "apart") = true by simp]
              refine iteT ⟨_, rfl, t, _, rfl, .inr (SqT.of et), rfl, _, rfl, ?_⟩
              cases ra with
              | nil =>
                obtain ⟨j1, w1⟩ := w1
                refine iteT ⟨_, rfl, _, rfl, _, rfl, _, rfl, t, _, _, v1, rfl, rfl, SqT.of et, atI_nat (j := 1) rfl, a, b, xs, hs, ms, n, j1, v1, d1, rfl, ea, hl, l12, eb, l20, h1, w1, fun H' s => q' _ H' ?_ s⟩
                rw [ibk2]
                rfl
              | @cons v2 vs2 d2 ds2 h2 ra =>
                rw [show decide (V.int (((V.str "apart") :: v1 :: v2 :: vs2).length : Nat) = V.int 2) = false by rw [decide_eq_false_iff_not]; intro z; injection z with z; simp at z; omega]
                refine iteF (q' false H ?_ (Same.refl H))
                cases ds2 with
                | nil => rw [ibk3]; rfl
                | cons d3 ds3 => exact ibkN (fun _ _ z => by cases z) fun _ _ _ z => by cases z
            · rw [show decide (V.str x = V.str "apart") = false by rw [decide_eq_false_iff_not]; intro z; injection z with z; exact xa z]
              refine iteF (q' false H ?_ (Same.refl H))
              cases ds with
              | nil =>
                rw [ibk2]
                unfold P56.endB
                rw [if_neg xl, decide_eq_false xa]
                rfl
              | cons d2 ds2 =>
                cases ds2 with
                | nil => rw [ibk3, decide_eq_false xt]; rfl
                | cons d3 ds3 => exact ibkN (fun _ _ z => by cases z) fun _ _ _ z => by cases z
      | _ => exact iteT (q' false H (ibkN (fun _ _ z => by cases z) fun _ _ _ z => by cases z) (Same.refl H))
    | _ => exact iteT (q' false H (ibkN (fun _ _ z => by cases z) fun _ _ _ z => by cases z) (Same.refl H))
theorem ok_snG {f : Addr} {fd : FuncData} (D : Df K mg "shows_none" ["held", "wishes", "many", "thing"] sShowsNone f fd) (cIB : ∀ n : Nat, n ≤ 14 → Ca P w K mg base 32 "is_book" ["held", "missing", "left", "thing"] (spIBG K n)) : FnOk P w K mg base CX0 33 f fd ["held", "wishes", "many", "thing"] (spSNG K) := by
  refine D.fn.ok scShowsNone (fun vs H Q E h => ?_) (fun cdv A outer s H vs Q E hr h => ?_)
  · obtain ⟨a, b, xs, hs, ms, n, k, v, d, rfl, ea, hl, l12, eb, l20, n14, hz, hw, q⟩ := h
    rfl
  · obtain ⟨a, b, xs, hs, ms, n, k, v, d, rfl, ea, hl, l12, eb, l20, n14, hz, hw, q⟩ := h
    refine ⟨_, (pss_one (ps_ret (pe_ca (cIB n n14) hr (by decide) (by rfl) (pa_cons (pv 0) (pa_cons (pv 1) (pa_cons (pv 2) (pa_cons (pv 3) pa_nil))))))), ?_⟩
    exact ⟨_, rfl, _, rfl, _, rfl, _, rfl, a, b, xs, hs, ms, k, v, d, rfl, ea, hl, l12, eb, l20, hz, hw, q⟩
end
end K62
set_option Elab.async false
set_option linter.all false
set_option maxRecDepth 100000
set_option maxHeartbeats 4000000
set_option pp.maxSteps 400
set_option pp.deepTerms false
namespace K62
open PySem PySem.Spec PyProof.Rows L2
open Xk Az
section
variable {P : Program} {w : World} {K : PySem.W.Frag} {mg : Str → Option Value} {base : Heap}
mutual
/-- things of numbers, texts and tuples -/
inductive Tz (H : Hp) : V → PyData → Prop
  | int (i : Int) : Tz H (.int i) (.int i)
  | str (x : Str) : Tz H (.str x) (.str x)
  | tup {a : Addr} {xs : List V} {ds : List PyData} : H a = some (.tup xs) → TzAll H xs ds → Tz H (.ref a) (.tuple ds)
inductive TzAll (H : Hp) : List V → List PyData → Prop
  | nil : TzAll H [] []
  | cons {v : V} {vs : List V} {d : PyData} {ds : List PyData} : Tz H v d → TzAll H vs ds → TzAll H (v :: vs) (d :: ds)
end
mutual
theorem Tz.keep {H H' : Hp} (k : ∀ b ys, H b = some (.tup ys) → H' b = some (.tup ys)) : ∀ {v : V} {d : PyData}, Tz H v d → Tz H' v d
  | _, _, .int i => .int i
  | _, _, .str x => .str x
  | _, _, .tup e r => .tup (k _ _ e) (TzAll.keep k r)
theorem TzAll.keep {H H' : Hp} (k : ∀ b ys, H b = some (.tup ys) → H' b = some (.tup ys)) : ∀ {v : List V} {d : List PyData}, TzAll H v d → TzAll H' v d
  | _, _, .nil => .nil
  | _, _, .cons h r => .cons (Tz.keep k h) (TzAll.keep k r)
end
mutual
theorem Tz.dz {H : Hp} : ∀ {v : V} {d : PyData}, Tz H v d → Dz K H v d
  | _, _, .int i => .int i
  | _, _, .str x => .str x
  | _, _, .tup e r => .tup e (TzAll.dz r)
theorem TzAll.dz {H : Hp} : ∀ {v : List V} {d : List PyData}, TzAll H v d → DzAll K H v d
  | _, _, .nil => .nil
  | _, _, .cons h r => .cons (Tz.dz h) (TzAll.dz r)
end
theorem TzAll.snoc {H : Hp} : ∀ {vs : List V} {ds : List PyData} {v : V} {d : PyData}, TzAll H vs ds → Tz H v d → TzAll H (vs ++ [v]) (ds ++ [d])
  | [], _, _, _, .nil, q => .cons q .nil
  | _ :: _, _, _, _, .cons h r, q => .cons h (TzAll.snoc r q)
theorem TzAll.len {H : Hp} : ∀ {vs : List V} {ds : List PyData}, TzAll H vs ds → vs.length = ds.length
  | [], _, .nil => rfl
  | _ :: _, _, .cons _ r => by rw [List.length_cons, List.length_cons, TzAll.len r]
theorem tz_ints {H : Hp} : ∀ ns : List Int, TzAll H (ns.map V.int) (ns.map PyData.int)
  | [] => .nil
  | i :: r => .cons (.int i) (tz_ints r)
theorem bk_bd {hs : List (List Int)} {H : Hp} : ∀ {n : Nat} {ms : List Int} {v : V}, Bk hs H n ms v → ∃ t d, v = .ref t ∧ Tz H v d ∧ P56.BD hs n ms d
  | 0, ms, v, h => by
    obtain ⟨t, g, rfl, hg, e⟩ := h
    exact ⟨t, _, rfl, .tup e (.cons (.str _) (.cons (.int g) .nil)), g, hg, rfl⟩
  | n + 1, ms, v, h => by
    obtain ⟨t, g, c, us, rfl, hg, e1, e2, lu, hb⟩ := h
    have all : ∀ (ks : List Nat) (vs : List V), vs.length = ks.length → (∀ (i k : Nat) (u : V), ks[i]? = some k → vs[i]? = some u → ∃ d, Tz H u d ∧ P56.BD hs n (P56.rest (hs.getD k []) ms) d) → ∃ ds, TzAll H vs ds ∧ P56.Al2 (fun k u => P56.BD hs n (P56.rest (hs.getD k []) ms) u) ks ds := by
      intro ks
      induction ks with
      | nil =>
        intro vs l _
        obtain rfl := List.eq_nil_of_length_eq_zero l
        exact ⟨[], .nil, .nil⟩
      | cons k ks ih =>
        intro vs l h
        cases vs with
        | nil => simp at l
        | cons v vs =>
          obtain ⟨d, z, o⟩ := h 0 k v rfl rfl
          obtain ⟨ds, z2, a⟩ := ih vs (by simpa using l) fun i k' u e1 e2 => h (i + 1) k' u e1 e2
          exact ⟨d :: ds, .cons z z2, .cons o a⟩
    obtain ⟨ds, z, a⟩ := all _ us lu fun i k u e1 e2 => by
      obtain ⟨_, d, _, z, o⟩ := bk_bd (hb i k u e1 e2)
      exact ⟨d, z, o⟩
    exact ⟨t, _, rfl, .tup e1 (.cons (.str _) (.cons (.int g) (.cons (.tup e2 z) .nil))), g, hg, ds, rfl, a⟩
def inB (a b : Int) (d : PyData) : Bool := match wh d with
  | some i => decide (a ≤ i) && decide (i ≤ b)
  | none => false
def spWithin (K : PySem.W.Frag) : Sp := fun vs H Q _ => ∃ (v : V) (d : PyData) (a b : Int), vs = [v, .int a, .int b] ∧ Dz K H v d ∧ Q (.bl (inB a b d)) H
theorem ok_within {f : Addr} {fd : FuncData} (D : Df K mg "is_within" ["thing", "least", "most"] sIsWithin f fd) (cWG : Ca P w K mg base 1 "is_whole" ["thing"] (spWholeG K)) : FnOk P w K mg base CX0 2 f fd ["thing", "least", "most"] (spWithin K) := by
  refine D.fn.ok scIsWithin (fun vs H Q E h => ?_) (fun cdv A outer s H vs Q E hr h => ?_)
  · obtain ⟨v, d, a, b, rfl, h, q⟩ := h
    rfl
  · obtain ⟨v, d, a, b, rfl, h, q⟩ := h
    refine ⟨_, (pss_one (ps_ret (pe_and (pe_ca cWG hr (by decide) (by rfl) (pa_cons (pv 0) pa_nil)) (pe_one (pe_chain op_le op_le (pv 1) (pv 0) (pv 2)))))), ?_⟩
    refine ⟨_, rfl, v, d, rfl, h, _, rfl, ?_⟩
    unfold inB at q
    cases w0 : wh d with
    | none =>
      rw [w0] at q
      exact iteF q
    | some i =>
      have ev : v = .int i := by
        cases h <;> simp [wh] at w0
        rw [w0]
      subst ev
      rw [w0] at q
      dsimp only at q
      refine iteT ⟨_, rfl, _, rfl, a, i, rfl, rfl, _, rfl, ?_⟩
      cases e : decide (a ≤ i) with
      | true =>
        rw [e, Bool.true_and] at q
        exact iteT ⟨_, rfl, i, b, rfl, rfl, q⟩
      | false =>
        rw [e, Bool.false_and] at q
        exact iteF q
def hvL (hs : List (List Int)) (ns : List Int) (g : Int) : List Bool := ns.map fun k => inV (.int g) ((hs.getD k.toNat []).map V.int)
def hvA (hs : List (List Int)) (ns ws : List Int) : List Bool := ws.map fun g => (hvL hs ns g).any id
def hb (hs : List (List Int)) (ws : List Int) (d : PyData) : Bool := match d with
  | .tuple ds => if ds.all (inB 0 ((hs.length : Int) - 1)) = true then P56.ris (ds.map P56.num) && (hvA hs (ds.map P56.num) ws).all id else false
  | _ => false
theorem inB_int {a b : Int} {d : PyData} (h : inB a b d = true) : ∃ i, d = .int i ∧ a ≤ i ∧ i ≤ b := by
  unfold inB at h
  cases d with
  | int i =>
    simp only [wh, Bool.and_eq_true, decide_eq_true_eq] at h
    exact ⟨i, rfl, h.1, h.2⟩
  | _ => cases h
theorem ints_ofB {H : Hp} {a b : Int} : ∀ {xs : List V} {ds : List PyData}, DzAll K H xs ds → ds.all (inB a b) = true → xs = (ds.map P56.num).map V.int ∧ ∀ k ∈ ds.map P56.num, a ≤ k ∧ k ≤ b
  | [], _, .nil, _ => ⟨rfl, by simp⟩
  | _ :: _, _, .cons (d := d) hd hr, h => by
    rw [List.all_cons, Bool.and_eq_true] at h
    obtain ⟨i, rfl, h1, h2⟩ := inB_int h.1
    obtain ⟨e, q⟩ := ints_ofB hr h.2
    cases hd
    refine ⟨by rw [List.map_cons, List.map_cons, ← e]; rfl, fun k hk => ?_⟩
    rw [List.map_cons] at hk
    rcases List.mem_cons.mp hk with z | z
    · rw [z]; exact ⟨h1, h2⟩
    · exact q k z
def tl (d : PyData) : Prop := ∀ ds, d = .tuple ds → ds.length ≤ 1000
def spHeld (K : PySem.W.Frag) : Sp := fun vs H Q _ => ∃ (a b : Addr) (v : V) (d : PyData) (xs : List V) (hs : List (List Int)) (ws : List Int), vs = [.ref a, .ref b, v] ∧ H a = some (.tup xs) ∧ Hl H xs hs ∧ hs.length ≤ 20 ∧ H b = some (.tup (ws.map V.int)) ∧ ws.length ≤ 20 ∧ Dz K H v d ∧ tl d ∧ ∀ H', L2.Same H H' → Q (.bl (hb hs ws d)) H'
theorem ok_held {f : Addr} {fd : FuncData} (D : Df K mg "shows_held" ["held", "wishes", "thing"] sShowsHeld f fd) (T : Txt mg) (cI : Ca P w K mg base 2 "is_within" ["thing", "least", "most"] (spWithin K)) (cR : Ca P w K mg base 1 "are_rising" ["things"] spRis) : FnOk P w K mg base CX0 3 f fd ["held", "wishes", "thing"] (spHeld K) := by
  refine D.fn.ok scShowsHeld (fun vs H Q E h => ?_) (fun cdv A outer s H vs Q E hr h => ?_)
  · obtain ⟨a, b, v, d, xs, hs, ws, rfl, ea, hl, l20, eb, w20, hz, htl, q⟩ := h
    rfl
  · obtain ⟨a, b, v, d, xs, hs, ws, rfl, ea, hl, l20, eb, w20, hz, htl, q⟩ := h
    refine ⟨_, (pss_cons (ps_if (PW.pt (pw_or (pt_not (pt_val (pe_callB call_isi (by rfl) T.isi (by decide +kernel) (pa_cons (pv 2) (pa_cons (pe_bltn (v := .ty "tuple") (by rfl) T.tuple (by decide +kernel) rfl) pa_nil))))) (pw_or1 (pt_not (pt_val (pe_callB (cr_all (by rfl)) (by rfl) T.all (by decide +kernel) (pa_cons (pe_lc (own := [("number", 3)]) (g := gName 3) (tt := tYes) (te := tCall (spWithin K) [] E0 (tCons (tVar 3) (tCons (tC (V.int 0)) (tCons (tOp (rI0 fun i j => V.int (i - j)) (tCB (rLn K) (tCons (tVar 0) tNil)) (tC (V.int 1))) tNil)))) (by rfl) scShowsHeld.nd (pi_tup (pv 2)) (blkOk_by (own := [("number", 3)]) (N := ["held", "wishes", "thing", "number", "disc", "wish"]) (sc := defScope sShowsHeld) (by decide +kernel)) (fun _ _ _ _ _ => pg_name (i := 3) scShowsHeld.nd rfl (.inl rfl)) (fun _ _ _ _ _ => pts_nil) (fun _ _ _ _ _ => pe_ca cI hr (by decide) (by rfl) (pa_cons (pv 3) (pa_cons pe_int (pa_cons (pe_op op_sub (pe_callB call_len_seq (by rfl) T.len PySem.boot_len (pa_cons (pv 0) pa_nil)) pe_int) pa_nil))))) pa_nil))))))) (pss_one (ps_ret pe_bl)) pss_nil)
      (pss_one (ps_ret (pe_and (pe_ca cR hr (by decide) (by rfl) (pa_cons (pv 2) pa_nil)) (pe_one (pe_callB (cr_all (by rfl)) (by rfl) T.all (by decide +kernel) (pa_cons (pe_lc (own := [("wish", 5)]) (g := gName 5) (tt := tYes) (te := tCB (rAny K) (tCons (tLc (iTup K (tVar 2)) (gName 4) tYes (tOp (rIn K false) (tVar 5) (tOp (rIxT K) (tVar 0) (tVar 4))) [4]) tNil)) (by rfl) scShowsHeld.nd (pi_tup (pv 1)) (blkOk_by (own := [("wish", 5)]) (N := ["held", "wishes", "thing", "number", "disc", "wish"]) (sc := defScope sShowsHeld) (by decide +kernel)) (fun _ _ _ _ _ => pg_name (i := 5) scShowsHeld.nd rfl (.inr rfl)) (fun _ _ _ _ _ => pts_nil) (fun _ _ _ _ _ => pe_callB (cr_any (by rfl)) (by rfl) T.any (by decide +kernel) (pa_cons (pe_lc (own := [("disc", 4)]) (g := gName 4) (tt := tYes) (te := tOp (rIn K false) (tVar 5) (tOp (rIxT K) (tVar 0) (tVar 4))) (by rfl) scShowsHeld.nd (pi_tup (pv 2)) (blkOk_by (own := [("disc", 4)]) (N := ["held", "wishes", "thing", "number", "disc", "wish"]) (sc := relS ⟨.function, [(".0", .local), ("wish", .cell), ("any", .globalImplicit), ("held", .free), ("thing", .free)], false, false, []⟩ (defScope sShowsHeld)) (by decide +kernel)) (fun _ _ _ _ _ => pg_name (i := 4) scShowsHeld.nd rfl (.inl rfl)) (fun _ _ _ _ _ => pts_nil) (fun _ _ _ _ _ => pe_cmpR op_in_seq (pv 5) (pe_ix ix_tup (pv 0) (pv 4) (fun _ _ => rfl)) (by rfl))) pa_nil))) pa_nil))))))), ?_⟩
    refine ⟨_, rfl, _, _, _, _, isTup d, rfl, .ty _, hz.ty, z_tup d, _, rfl, ?_⟩
    cases hz with
    | @tup t ys ds et ra =>
      have l1000 := htl _ rfl
      have ly := dz_len ra
      have lh := hl.len
      refine iteF ⟨_, rfl, t, rfl, ⟨_, SqT.of et⟩, fun D nD => ?_⟩
      refine lc_tup (K := K) (a := t) (xs := ys) (fun i Hi => L2.Same H Hi ∧ Hi D = some (.lst (((ds.map (inB 0 ((hs.length : Int) - 1))).take i).map V.bl))) ⟨same_upd nD, upd_same⟩ (fun i Hi _ z => SqT.of (z.1 _ _ et)) ?_ ?_
      · rintro i x Hi hx ⟨sm, eD⟩
        have il : i < ys.length := (List.getElem?_eq_some_iff.mp hx).1
        obtain ⟨di, edi, dzi⟩ := dz_get ra hx
        refine ⟨rfl, ?_⟩
        unfold tYes
        refine iteT ⟨_, rfl, _, rfl, a, xs, rfl, .inr (SqT.of (sm _ _ ea)), _, 1, rfl, rfl, x, di, 0, _, rfl, dzi.same sm, _, eD, ?_, fun c o e => ?_, ?_⟩
        · rw [List.length_map, List.length_take]
          exact Nat.lt_of_le_of_lt (Nat.le_trans (Nat.min_le_left _ _) (show i ≤ 1000 by omega)) (by decide)
        · rw [upd_ne (ne_of_none e nD)]
          exact sm _ _ e
        · rw [upd_same, List.take_add_one, List.getElem?_map, edi, List.map_append, lh]
          rfl
      · rintro H2 ⟨s2, eD⟩
        have tk : (ds.map (inB 0 ((hs.length : Int) - 1))).take ys.length = ds.map (inB 0 ((hs.length : Int) - 1)) := List.take_of_length_le (by rw [List.length_map]; omega)
        rw [tk] at eD
        refine ⟨D, _, rfl, SqL.of eD, _, rfl, ?_⟩
        have ea1 : (ds.map (inB 0 ((hs.length : Int) - 1))).all id = ds.all (inB 0 ((hs.length : Int) - 1)) := by rw [List.all_map]; rfl
        rw [ea1]
        cases c : ds.all (inB 0 ((hs.length : Int) - 1)) with
        | false =>
          have w := q H2 s2
          rw [show hb hs ws (.tuple ds) = false by unfold hb; dsimp only; rw [c]; rfl] at w
          exact iteT w
        | true =>
          obtain ⟨ey, rng⟩ := ints_ofB ra c
          have hq : hb hs ws (.tuple ds) = (P56.ris (ds.map P56.num) && (hvA hs (ds.map P56.num) ws).all id) := by unfold hb; dsimp only; rw [c]; rfl
          rw [hq] at q
          subst ey
          have ln : (ds.map P56.num).length ≤ 1000 := by rw [List.length_map]; exact l1000
          generalize ds.map P56.num = ns at *
          refine iteF ⟨_, rfl, t, ns, rfl, s2 _ _ et, ln, fun H3 s3' => ⟨_, rfl, ?_⟩⟩
          have s3 := s2.trans s3'
          cases r : P56.ris ns with
          | false =>
            have w := q H3 s3
            rw [r] at w
            exact iteF w
          | true =>
            rw [r] at q
            refine iteT ?_
            refine ⟨_, rfl, b, rfl, ⟨_, SqT.of (s3 _ _ eb)⟩, fun Dw nDw => ?_⟩
            refine lc_tup (K := K) (a := b) (xs := ws.map V.int) (fun i Hi => L2.Same H3 Hi ∧ Hi Dw = some (.lst (((hvA hs ns ws).take i).map V.bl))) ⟨same_upd nDw, upd_same⟩ (fun i Hi _ z => SqT.of (z.1 _ _ (s3 _ _ eb))) ?_ ?_
            · rintro i x Hi hx ⟨sm, eDw⟩
              rw [List.getElem?_map] at hx
              obtain ⟨g, eg, rfl⟩ := Option.map_eq_some_iff.mp hx
              have il : i < ws.length := (List.getElem?_eq_some_iff.mp eg).1
              refine ⟨rfl, ?_⟩
              refine ⟨_, rfl, t, rfl, ⟨_, SqT.of (sm _ _ (s3 _ _ et))⟩, fun Di nDi => ?_⟩
              refine lc_tup (K := K) (a := t) (xs := ns.map V.int) (fun j Hj => L2.Same Hi Hj ∧ Hj Di = some (.lst (((hvL hs ns g).take j).map V.bl))) ⟨same_upd nDi, upd_same⟩ (fun j Hj _ z => SqT.of (z.1 _ _ (sm _ _ (s3 _ _ et)))) ?_ ?_
              · rintro j y Hj hy ⟨sj, eDi⟩
                rw [List.getElem?_map] at hy
                obtain ⟨k, ek, rfl⟩ := Option.map_eq_some_iff.mp hy
                have jl : j < ns.length := (List.getElem?_eq_some_iff.mp ek).1
                have kb := rng k (List.mem_of_getElem? ek)
                obtain ⟨m, rfl⟩ : ∃ m : Nat, k = (m : Int) := ⟨k.toNat, by omega⟩
                have hm : m < hs.length := by omega
                have sA := (s3.trans sm).trans sj
                obtain ⟨tk, etk, eTk⟩ := hl.get hm
                refine ⟨rfl, ?_⟩
                unfold tYes
                refine iteT ⟨_, rfl, _, rfl, _, rfl, a, _, _, .ref tk, rfl, rfl, SqT.of (sA _ _ ea), atI_nat etk, tk, _, rfl, .inr (SqT.of (sA _ _ eTk)), rfl, flat_ints _, _, eDi, ?_, fun c o e => ?_, ?_⟩
                · rw [List.length_map, List.length_take]
                  exact Nat.lt_of_le_of_lt (Nat.le_trans (Nat.min_le_left _ _) (show j ≤ 1000 by omega)) (by decide)
                · rw [upd_ne (ne_of_none e nDi)]
                  exact sj _ _ e
                · rw [upd_same, List.take_add_one]
                  unfold hvL
                  rw [List.getElem?_map, ek, List.map_append]
                  simp [List.getD_eq_getElem?_getD, List.getElem?_eq_getElem hm]
              · rintro He ⟨sj, eDi⟩
                have tk : (hvL hs ns g).take (ns.map V.int).length = hvL hs ns g := List.take_of_length_le (by unfold hvL; simp)
                rw [tk] at eDi
                refine ⟨Di, _, rfl, SqL.of eDi, _, sj _ _ eDw, ?_, fun c o e => ?_, ?_⟩
                · rw [List.length_map, List.length_take]
                  exact Nat.lt_of_le_of_lt (Nat.le_trans (Nat.min_le_left _ _) (show i ≤ 1000 by omega)) (by decide)
                · rw [upd_ne (ne_of_none e nDw)]
                  exact sj _ _ (sm _ _ e)
                · rw [upd_same, List.take_add_one]
                  unfold hvA
                  rw [List.getElem?_map, eg, List.map_append]
                  rfl
            · rintro He ⟨sm, eDw⟩
              have tk : (hvA hs ns ws).take (ws.map V.int).length = hvA hs ns ws := List.take_of_length_le (by unfold hvA; simp)
              rw [tk] at eDw
              refine ⟨Dw, _, rfl, SqL.of eDw, ?_⟩
              exact q He (s3.trans sm)
    | _ => exact iteT (q H (Same.refl H))
end
end K62
set_option Elab.async false
set_option linter.all false
set_option maxRecDepth 100000
set_option maxHeartbeats 4000000
set_option pp.maxSteps 400
set_option pp.deepTerms false
namespace K62
open PySem PySem.Spec PyProof.Rows L2
open Xk Az
section
variable {P : Program} {w : World} {K : PySem.W.Frag} {mg : Str → Option Value} {base : Heap}
/-- things without lists: kept while tuples are -/
def Tb' (H : Hp) (v : V) (d : PyData) : Prop := Tz H v d ∨ (∃ b, v = .bl b ∧ d = .bool b) ∨ (v = .non ∧ d = .none)
theorem Tb'.keep {H H' : Hp} {v : V} {d : PyData} (h : Tb' H v d) (k : ∀ b ys, H b = some (.tup ys) → H' b = some (.tup ys)) : Tb' H' v d := by
  rcases h with h | h
  · exact .inl (h.keep k)
  · exact .inr h
theorem Tb'.dz {H : Hp} {v : V} {d : PyData} (h : Tb' H v d) : Dz K H v d := by
  rcases h with h | ⟨b, rfl, rfl⟩ | ⟨rfl, rfl⟩
  · exact h.dz
  · exact .bl b
  · exact .non
def spAlike (K : PySem.W.Frag) : Sp := fun vs H Q _ => ∃ (l : Addr) (ys : List V) (d : PyData), vs = [.ref l] ∧ H l = some (.lst ys) ∧ ys ≠ [] ∧ ys.length ≤ 10 ∧ (∀ y ∈ ys, Dz K H y d) ∧ Nice d 60 4000000 ∧ ∀ H', L2.Same H H' → Q (.bl true) H'
theorem ok_alike {f : Addr} {fd : FuncData} (D : Df K mg "_law_alike" ["_law_told"] sAlike f fd) (T : Txt mg) : Gn P w K mg base 1 f fd ["_law_told"] (spAlike K) := by
  refine gn_body D.fn scAlike (fun vs H Q E h => ?_) (fun cdv A outer s H vs Q E hg hr h => ?_)
  · obtain ⟨l, ys, d, rfl, el, ne, l10, hz, nc, q⟩ := h
    rfl
  · obtain ⟨l, ys, d, rfl, el, ne, l10, hz, nc, q⟩ := h
    refine ⟨_, (pss_one (ps_ret (pe_callB (cr_all (by rfl)) (by rfl) T.all (by decide +kernel) (pa_cons (pe_lc (own := [("_law_one", 1)]) (g := gName 1) (tt := tYes) (te := tOp rEq (tCB (rReprZ K) (tCons (tVar 1) tNil)) (tCB (rReprZ K) (tCons (tOp (rIxL K) (tVar 0) (tC (V.int 0))) tNil))) (by rfl) scAlike.nd (pi_list (pv 0)) (blkOk_by (own := [("_law_one", 1)]) (N := ["_law_told", "_law_one"]) (sc := defScope sAlike) (by decide +kernel)) (fun _ _ _ _ _ => pg_name (i := 1) scAlike.nd rfl (.inl rfl)) (fun _ _ _ _ _ => pts_nil) (fun _ _ _ _ _ => pe_cmpR op_eq (pe_callB (cr_reprZ hg hr) (by rfl) T.repr (by decide +kernel) (pa_cons (pv 1) pa_nil)) (pe_callB (cr_reprZ hg hr) (by rfl) T.repr (by decide +kernel) (pa_cons (pe_ix ix_list (pv 0) pe_int (fun _ _ => rfl)) pa_nil)) (nomark _))) pa_nil)))), ?_⟩
    have big : d.shown.length ≤ sizeLine := Nat.le_trans nc.sz (by decide)
    obtain ⟨y0, e0⟩ : ∃ y0, ys[0]? = some y0 := by
      cases ys with
      | nil => exact absurd rfl ne
      | cons y r => exact ⟨y, rfl⟩
    refine ⟨_, rfl, l, rfl, ⟨_, SqL.of el⟩, fun D nD => ?_⟩
    refine lc_list (K := K) (a := l) (xs := ys) (fun i Hi => L2.Same H Hi ∧ Hi D = some (.lst ((List.replicate i true).map V.bl))) ⟨same_upd nD, upd_same⟩ (fun i Hi _ z => SqL.of (z.1 _ _ el)) ?_ ?_
    · rintro i x Hi hx ⟨si, eD⟩
      have il : i < ys.length := (List.getElem?_eq_some_iff.mp hx).1
      refine ⟨rfl, ?_⟩
      unfold tYes
      refine iteT ⟨_, rfl, _, d, rfl, (hz x (List.mem_of_getElem? hx)).same si, nc.sh, nc.dp, big, _, rfl, l, _, _, y0, rfl, rfl, SqL.of (si _ _ el), atI_nat (j := 0) e0, _, d, rfl, (hz y0 (List.mem_of_getElem? e0)).same si, nc.sh, nc.dp, big, rfl, ?_⟩
      rw [show decide (V.str d.shown = V.str d.shown) = true by simp]
      refine ⟨_, eD, ?_, fun c o e => ?_, ?_⟩
      · rw [List.length_map, List.length_replicate]
        exact Nat.lt_of_le_of_lt (show i ≤ 1000 by omega) (by decide)
      · rw [upd_ne (ne_of_none e nD)]
        exact si _ _ e
      · rw [upd_same, List.replicate_succ', List.map_append]
        rfl
    · rintro He ⟨se, eD⟩
      refine ⟨D, _, rfl, SqL.of eD, ?_⟩
      rw [show (List.replicate ys.length true).all id = true by rw [List.all_eq_true]; intro x hx; rw [(List.mem_replicate.mp hx).2]; rfl]
      exact q He se
end
end K62
set_option Elab.async false
set_option linter.all false
set_option maxRecDepth 100000
set_option maxHeartbeats 4000000
set_option pp.maxSteps 400
set_option pp.deepTerms false
namespace K62
open PySem PySem.Spec PyProof.Rows L2
open Xk Az
section
variable {P : Program} {w : World} {K : PySem.W.Frag} {mg : Str → Option Value} {base : Heap}
theorem vals_perm {vs : List V} {us : List Value} {zs : List V} {ws : List Value} (is : List Nat) (r1 : Vals vs us) (r2 : Vals zs ws) : Vals (vs ++ is.map fun i => zs.getD i .non) (us ++ is.map fun i => ws.getD i .none) := by
  refine Vals.append r1 ?_
  induction is with
  | nil => exact .nil
  | cons i r ih =>
    refine .cons ?_ ih
    show RelV (zs.getD i .non) (ws.getD i .none)
    rw [List.getD_eq_getElem?_getD, List.getD_eq_getElem?_getD]
    cases z : zs[i]? with
    | some x =>
      obtain ⟨u, e, rx⟩ := r2.get z
      rw [e]
      exact rx
    | none =>
      have l := r2.length
      have h := List.getElem?_eq_none_iff.mp z
      rw [List.getElem?_eq_none (by omega)]
      rfl
/-- a call with n things by places and the others by names: is tells which name each further parameter has -/
abbrev KB (K : PySem.W.Frag) (fd : FuncData) (ps : List Str) (n : Nat) (ks : List Str) (is : List Nat) : Prop := KBn K fd ps n ks (fun us ws => us ++ is.map fun i => ws.getD i .none) (fun vs zs => vs ++ is.map fun i => zs.getD i .non)
theorem nice_all {k n : Nat} : ∀ ds : List PyData, (∀ d ∈ ds, Nice d k n) → PyData.showableAll ds = true ∧ PyData.depthAll ds ≤ k ∧ piled (PyData.shownAll ds) ≤ ds.length * (n + 2)
  | [], _ => ⟨by simp [PyData.showableAll], by simp [PyData.depthAll], by simp [PyData.shownAll, piled_nil]⟩
  | d :: r, h => by
    obtain ⟨h1, h2, h3⟩ := nice_all r fun x hx => h x (List.mem_cons_of_mem _ hx)
    have hd := h d List.mem_cons_self
    refine ⟨by simp [PyData.showableAll, hd.sh, h1], ?_, ?_⟩
    · simp only [PyData.depthAll]
      have := hd.dp
      omega
    · simp only [PyData.shownAll, piled_cons, List.length_cons, Nat.succ_mul]
      have := hd.sz
      omega
theorem nice_tups {k n : Nat} (ds : List PyData) (h : ∀ d ∈ ds, Nice d k n) : Nice (.tuple ds) (k + 1) (ds.length * (n + 2) + 4) := by
  obtain ⟨h1, h2, h3⟩ := nice_all ds h
  refine ⟨by simp [PyData.showable, h1], ?_, ?_⟩
  · simp only [PyData.depth]
    omega
  · simp only [PyData.shown]
    have a := fmt_text (PyData.shownAll ds)
    omega
theorem lg {i : Int} (h0 : -(10 ^ 31) < i) (h1 : i < 10 ^ 31) : i.natAbs.log2 < 1920 := by
  have h2 : i.natAbs < 2 ^ 110 := by
    have : (10 : Int) ^ 31 < 2 ^ 110 := by decide
    omega
  exact Nat.lt_of_lt_of_le (PySem.Flt.log2_lt_of (by decide) h2) (by decide)
theorem tx_le {i : Int} (h0 : 0 ≤ i) (h1 : i < 10 ^ 31) : (Str.ofString (toString i)).length ≤ 40 := by
  have b : (10 : Int) ^ 31 < 10 ^ 39 := by decide
  exact Nat.le_trans (toString_length_le (v := i) h0 (k := 39) (by decide) (by omega)) (by decide)
theorem nice_sm {ns : List Int} (h : Sm ns) : Nice (.tuple (ns.map PyData.int)) 1 (ns.length * 42 + 4) := by
  have := nice_tups (k := 0) (n := 40) (ns.map PyData.int) fun d hd => by
    obtain ⟨i, hi, rfl⟩ := List.mem_map.mp hd
    obtain ⟨h0, h1⟩ := h i hi
    exact nice_int (lg (Int.lt_of_lt_of_le (by decide) h0) h1) (tx_le h0 h1)
  rw [List.length_map] at this
  exact this
def dHeld (hs : List (List Int)) : PyData := .tuple (hs.map fun gs => .tuple (gs.map .int))
theorem Hl.dz {H : Hp} {xs : List V} {hs : List (List Int)} (h : Hl H xs hs) : DzAll K H xs (hs.map fun gs => PyData.tuple (gs.map .int)) := by
  induction h with
  | nil => exact .nil
  | cons e _ ih => exact .cons (.tup e (dz_ints _)) ih
theorem nice_case {hs : List (List Int)} {ws : List Int} (l12 : hs.length ≤ 12) (g : Gs hs) (l20 : ws.length ≤ 20) (sw : Sm ws) : Nice (.tuple [dHeld hs, .tuple (ws.map .int)]) 3 60000 := by
  have n1 : Nice (dHeld hs) 2 25000 := by
    have := nice_tups (k := 1) (n := 1700) (hs.map fun gs => PyData.tuple (gs.map PyData.int)) fun d hd => by
      obtain ⟨gs, hg, rfl⟩ := List.mem_map.mp hd
      obtain ⟨a, b⟩ := g gs hg
      exact (nice_sm b).mono (by omega) (by omega)
    rw [List.length_map] at this
    unfold dHeld
    exact this.mono (by omega) (by omega)
  have n2 : Nice (.tuple (ws.map PyData.int)) 2 25000 := (nice_sm sw).mono (by omega) (by omega)
  refine (nice_tups (k := 2) (n := 25000) [dHeld hs, .tuple (ws.map .int)] fun d hd => ?_).mono (by omega) (by show 2 * 25002 + 4 ≤ 60000; decide)
  simp only [List.mem_cons, List.not_mem_nil, or_false] at hd
  rcases hd with rfl | rfl
  · exact n1
  · exact n2
/-- the answer, as a thing -/
def Ans (hs : List (List Int)) (ws : List Int) (d : PyData) : Prop := match P56.lack hs ws with
  | some w => d = .tuple [.str "lacks", .int w]
  | none => ∃ c, P56.Least hs ws c ∧ d = .tuple [.str "fewest", .tuple ((P56.toI c).map .int)]
theorem Ans.uniq {hs : List (List Int)} {ws : List Int} {d e : PyData} (h : Ans hs ws d) (h' : Ans hs ws e) : d = e := by
  unfold Ans at h h'
  cases z : P56.lack hs ws with
  | some w =>
    rw [z] at h h'
    exact h.trans h'.symm
  | none =>
    rw [z] at h h'
    obtain ⟨c, hc, rfl⟩ := h
    obtain ⟨c', hc', rfl⟩ := h'
    rw [hc.uniq hc']
theorem Few.ans {H : Hp} {hs : List (List Int)} {ws : List Int} {t : Addr} (h : Few H hs ws t (P56.lack hs ws)) : ∃ d, Dz K H (.ref t) d ∧ Ans hs ws d := by
  unfold Ans
  cases z : P56.lack hs ws with
  | some w =>
    rw [z] at h
    exact ⟨_, .tup h (.cons (.str _) (.cons (.int _) .nil)), rfl⟩
  | none =>
    rw [z] at h
    obtain ⟨c, cc, hc, e1, e2⟩ := h
    exact ⟨_, .tup e2 (.cons (.str _) (.cons (.tup e1 (dz_ints _)) .nil)), c, hc, rfl⟩
theorem Ans.nice {hs : List (List Int)} {ws : List Int} {d : PyData} (h : Ans hs ws d) (l12 : hs.length ≤ 12) (sw : Sm ws) : Nice d 2 4000 := by
  unfold Ans at h
  cases z : P56.lack hs ws with
  | some w =>
    rw [z] at h
    obtain rfl : d = .tuple [.str "lacks", .int w] := h
    have hw : w ∈ ws := List.mem_of_find?_eq_some z
    obtain ⟨h0, h1⟩ := sw w hw
    refine (nice_tups (k := 0) (n := 40) [.str "lacks", .int w] fun d hd => ?_).mono (by omega) (by show 2 * 42 + 4 ≤ 4000; decide)
    simp only [List.mem_cons, List.not_mem_nil, or_false] at hd
    rcases hd with rfl | rfl
    · exact nice_str (by decide +kernel)
    · exact nice_int (lg (Int.lt_of_lt_of_le (by decide) h0) h1) (tx_le h0 h1)
  | none =>
    rw [z] at h
    obtain ⟨c, hc, rfl⟩ := h
    have lc := hc.len
    have sc : Sm (P56.toI c) := fun x hx => by
      unfold P56.toI at hx
      obtain ⟨k, hk, rfl⟩ := List.mem_map.mp hx
      have := hc.up.2 k hk
      exact ⟨Int.natCast_nonneg _, Int.lt_of_le_of_lt (show ((k : Nat) : Int) ≤ 12 by omega) (by decide)⟩
    have n2 := nice_sm sc
    refine (nice_tups (k := 1) (n := 900) [.str "fewest", .tuple ((P56.toI c).map .int)] fun d hd => ?_).mono (by omega) (by show 2 * 902 + 4 ≤ 4000; decide)
    simp only [List.mem_cons, List.not_mem_nil, or_false] at hd
    rcases hd with rfl | rfl
    · exact (nice_str (by decide +kernel) : Nice (.str "fewest") 0 40).mono (by omega) (by omega)
    · refine n2.mono (by omega) ?_
      unfold P56.toI
      rw [List.length_map]
      omega
theorem few_tz {H : Hp} {hs : List (List Int)} {ws : List Int} {t : Addr} (h : Few H hs ws t (P56.lack hs ws)) : ∃ (v1 : V) (d1 d : PyData) (x : Str), H t = some (.tup [.str x, v1]) ∧ d = .tuple [.str x, d1] ∧ Tz H (.ref t) d ∧ Tz H v1 d1 ∧ Ans hs ws d ∧ (∀ ds, d1 = .tuple ds → ds.length ≤ hs.length) := by
  unfold Ans
  cases z : P56.lack hs ws with
  | some w =>
    rw [z] at h
    exact ⟨.int w, .int w, _, "lacks", h, rfl, .tup h (.cons (.str _) (.cons (.int _) .nil)), .int w, rfl, fun ds e => by cases e⟩
  | none =>
    rw [z] at h
    obtain ⟨c, cc, hc, e1, e2⟩ := h
    have lc := hc.len
    exact ⟨.ref cc, .tuple ((P56.toI c).map .int), _, "fewest", e2, rfl, .tup e2 (.cons (.str _) (.cons (.tup e1 (tz_ints _)) .nil)), .tup e1 (tz_ints _), ⟨c, hc, rfl⟩, fun ds e => by
      cases e
      rw [List.length_map]
      unfold P56.toI
      rw [List.length_map]
      exact lc⟩
/-- all but the hand, the row of answers and the tables stay -/
def XS (h S : Addr) (H H' : Hp) : Prop := ∀ c o, c ≠ h → c ≠ S → H c = some o → (∀ ps, o ≠ .tbl ps) → H' c = some o
theorem XS.trans {h S : Addr} {H H1 H2 : Hp} (a : XS h S H H1) (b : XS h S H1 H2) : XS h S H H2 := fun c o n1 n2 e n => b c o n1 n2 (a c o n1 n2 e n) n
theorem XS.same {h S : Addr} {H H' : Hp} (s : L2.Same H H') : XS h S H H' := fun c o _ _ e _ => s c o e
theorem XS.ext {h S : Addr} {H H' : Hp} (x : LamX.ExtN H H') : XS h S H H' := fun c o _ _ e n => x c o e n
theorem XS.but {h S : Addr} {H H' : Hp} (b : But h H H') : XS h S H H' := fun c o ne _ e _ => b c o ne e
theorem XS.put {h S : Addr} {H : Hp} {o : HO} : XS h S H (upd H S o) := fun c x _ n2 e _ => by rw [upd_ne n2]; exact e
/-- a row of answers that are all the same -/
def AL (H : Hp) (h S l : Addr) : Prop := l ≠ h ∧ l ≠ S ∧ ∃ (ys : List V) (d : PyData), H l = some (.lst ys) ∧ ys ≠ [] ∧ ys.length ≤ 10 ∧ (∀ y ∈ ys, Tb' H y d) ∧ Nice d 60 4000000
theorem AL.keep {H H' : Hp} {h S l : Addr} {hu su : List V} (a : AL H h S l) (eh : H h = some (.lst hu)) (eS : H S = some (.lst su)) (x : XS h S H H') : AL H' h S l := by
  obtain ⟨n1, n2, ys, d, e, ne, le, hy, nc⟩ := a
  refine ⟨n1, n2, ys, d, x _ _ n1 n2 e (fun ps z => by cases z), ne, le, fun y hm => (hy y hm).keep fun b zs eb => ?_, nc⟩
  exact x _ _ (ne_of eb eh (by intro z; cases z)) (ne_of eb eS (by intro z; cases z)) eb (fun ps z => by cases z)
theorem nice_left {d : PyData} {k n : Nat} (h : Nice d k n) : Nice (.tuple [.str "left", d]) (k + 1) (n + 40) := by
  refine ⟨by simp [PyData.showable, PyData.showableAll, h.sh], ?_, ?_⟩
  · simp only [PyData.depth, PyData.depthAll]
    have := h.dp
    omega
  · simp only [PyData.shown, PyData.shownAll]
    have z := fmt_text [reprText "left", d.shown]
    simp only [piled_cons, piled_nil] at z
    have := h.sz
    have l : (reprText ("left" : Str)).length ≤ 10 := by decide +kernel
    omega
theorem sm_rest {gs ms : List Int} (h : Sm ms) : Sm (P56.rest gs ms) := fun x hx => h x (List.mem_filter.mp hx).1
theorem ob_nice {hs : List (List Int)} (l7 : hs.length ≤ 7) : ∀ {n : Nat} {ms : List Int} {d : PyData}, ms.length ≤ 20 → Sm ms → P56.OB hs n ms d → Nice d (2 * n + 2) (10 ^ (n + 3))
  | 0, ms, d, l, sm, h => by
    obtain ⟨g, hg, rfl⟩ := h
    obtain ⟨g0, g1⟩ := sm g hg
    have := nice_left (nice_int (lg (Int.lt_of_lt_of_le (by decide) g0) g1) (tx_le g0 g1))
    exact this.mono (by omega) (by decide)
  | n + 1, ms, d, l, sm, h => by
    have p10 : 10 ^ (n + 1 + 3) = 10 * 10 ^ (n + 3) := by rw [show n + 1 + 3 = (n + 3) + 1 by omega, Nat.pow_succ, Nat.mul_comm]
    have p0 : 10 ^ 3 ≤ 10 ^ (n + 3) := Nat.pow_le_pow_right (show 0 < 10 by decide) (show 3 ≤ n + 3 by omega)
    have p1 : 1000 ≤ 10 ^ (n + 3) := p0
    rcases h with ⟨ns, sub, ln, sh, rfl⟩ | ⟨g, hg, us, rfl, al⟩
    · have := sub.length_le
      have n1 := nice_sm (ns := ns) fun x hx => sm x (sub.subset hx)
      have t := nice_tups (k := 1) (n := 850) [.str "apart", .tuple (ns.map .int)] fun d hd => by
        simp only [List.mem_cons, List.not_mem_nil, or_false] at hd
        rcases hd with rfl | rfl
        · exact (nice_str (n := 850) (Nat.le_trans (show (reprText ("apart" : Str)).length ≤ 10 by decide +kernel) (by decide))).mono (by omega) (by omega)
        · exact n1.mono (by omega) (by omega)
      refine t.mono (by omega) ?_
      show 2 * 852 + 4 ≤ _
      omega
    · have h1 := al.len
      have h2 := P56.hold_len (held := hs) g
      obtain ⟨g0, g1⟩ := sm g hg
      have nu := nice_tups (k := 2 * n + 2) (n := 10 ^ (n + 3)) us fun d hd => by
        obtain ⟨k, _, hk⟩ := al.mem hd
        exact ob_nice l7 (Nat.le_trans P56.rest_len l) (sm_rest sm) hk
      have su : us.length * (10 ^ (n + 3) + 2) + 4 ≤ 7 * (10 ^ (n + 3) + 2) + 4 := Nat.add_le_add_right (Nat.mul_le_mul_right _ (by omega)) 4
      have ng := nice_int (lg (Int.lt_of_lt_of_le (by decide) g0) g1) (tx_le g0 g1)
      refine ⟨(by
        have a := nu.sh
        have b := ng.sh
        simp only [PyData.showable, PyData.showableAll, Bool.and_true, Bool.true_and, Bool.and_eq_true] at a b ⊢
        exact ⟨b, a⟩), ?_, ?_⟩
      · have a1 := nu.dp
        simp only [PyData.depth, PyData.depthAll] at a1 ⊢
        omega
      · have a1 := nu.sz
        have a2 := ng.sz
        have z := fmt_text [reprText "take", (PyData.int g).shown, (PyData.tuple us).shown]
        simp only [piled_cons, piled_nil] at z
        have l1 : (reprText ("take" : Str)).length ≤ 10 := by decide +kernel
        have e : (PyData.tuple [.str "take", .int g, .tuple us]).shown = tupleText [reprText "take", (PyData.int g).shown, (PyData.tuple us).shown] := by simp only [PyData.shown, PyData.shownAll]
        rw [e]
        omega
end
end K62
set_option Elab.async false
set_option linter.all false
set_option maxRecDepth 100000
set_option maxHeartbeats 4000000
set_option pp.maxSteps 400
set_option pp.deepTerms false
namespace K62
open PySem PySem.Spec PyProof.Rows L2
open Xk Az
section
variable {P : Program} {w : World} {K : PySem.W.Frag} {mg : Str → Option Value} {base : Heap}
section
variable {X : Cx} {CX : CXT} {k : Nat} {f : Addr} {fd : FuncData} {ps ks : List Str} {sp : Sp} {E : XK} {x : Str} {p pos : Pos} {kws : List Keyword} {tk : TA} {g : List Value → List Value → List Value} {gV : List V → List V → List V}
theorem pe_callN0 (F : FnOk X.prog X.w X.K X.mg X.base CX k f fd ps sp) (room : Room k X.A) (gl : Gl X x) (mgf : X.mg x = some (.ref f)) (kp : PySem.W.keepIn X.K (.ref f) = true) (kb : KBn X.K fd ps 0 ks g gV) (px : Passes CX X E) (pk : PK X kws tk)
    (hall : (backToKw pos (keywordEach kws X.env)).all (·.1.isSome) = true := by rfl) (hks : (backToKw pos (keywordEach kws X.env)).filterMap (·.1) = ks := by rfl) (hdb : (x == ("__debug__" : Str)) = false := by decide)
    (hpl : ((backTo pos (starEach [] X.env)).any (·.1) || (backToKw pos (keywordEach kws X.env)).any (·.1.isNone)) = false := by rfl) : PE X (.Call (.Name x p) [] kws pos) (tCallN 0 ks.length sp gV E tNil tk) := by
  refine ⟨fun pins s σ H Q I h => wpAny_Call_Name_kw (ld_glob I gl mgf ?_ hdb)⟩
  refine PySem.W.callWith_KW0 (h₀ := X.base) I.ok.mod.kin kp hall (thn (pk.run pos pins s σ H _ I h) fun ws s2 z => ?_) hpl
  obtain ⟨zs, H2, I2, rz, l1, l2, q2⟩ := z
  refine ⟨I2.kIn, ?_⟩
  rw [hks]
  exact run_fnN (us := []) (vs := []) F room kb px I2 .nil rz l1 l2 q2
end
theorem Hand.ext {n : Int} {H H' : Hp} {a : Addr} (h : Hand n H a) (x : LamX.ExtN H H') : Hand n H' a := by
  obtain ⟨g, m, c, e, r⟩ := h
  exact ⟨g, m, c, x _ _ e (fun ps z => by cases z), r⟩
theorem tabs_but {T : List (Addr × Str)} {H H' : Hp} {h : Addr} {us : List V} (t : LamX.Tabs T H) (e : H h = some (.lst us)) (b : But h H H') : LamX.Tabs T H' := fun p hp => by
  obtain ⟨ps, h1, h2, h3⟩ := t p hp
  refine ⟨ps, b _ _ (ne_of h1 e (by intro z; cases z)) h1, h2, fun pos cv hc => ?_⟩
  obtain ⟨c, e1, e2⟩ := h3 pos cv hc
  exact ⟨c, e1, b _ _ (ne_of e2 e (by intro z; unfold LamX.CodeO at z; cases z)) e2⟩
def BO (hs : List (List Int)) (ws : List Int) (n : Nat) (d : PyData) : Prop := (¬ P56.NoN hs ws n ∧ d = .none) ∨ (P56.NoN hs ws n ∧ P56.BD hs n ws d)
theorem BO.uniq {hs : List (List Int)} {ws : List Int} {n : Nat} {d d' : PyData} (h : BO hs ws n d) (h' : BO hs ws n d') : d = d' := by
  rcases h with ⟨a, rfl⟩ | ⟨a, b⟩ <;> rcases h' with ⟨a', rfl⟩ | ⟨a', b'⟩
  · rfl
  · exact absurd a' a
  · exact absurd a a'
  · exact b.uniq b'
def spBOd (pB : Addr) : Sp := fun vs H Q _ => ∃ (a b : Addr) (xs : List V) (hs : List (List Int)) (ws : List Int) (n : Nat), vs = [.ref a, .ref b, .int (n : Int)] ∧ H a = some (.tup xs) ∧ Hl H xs hs ∧ hs.length ≤ 12 ∧ H b = some (.tup (ws.map V.int)) ∧ ws.length ≤ 20 ∧ n ≤ 14 ∧
  LamX.Tabs (Tb pB) H ∧ ∀ v d H', BO hs ws n d → Tb' H' v d → LamX.ExtN H H' → LamX.Tabs (Tb pB) H' → Q v H'
theorem bo_d {pB : Addr} (vs : List V) (H : Hp) (Q : VK) (E : XK) (h : spBOd pB vs H Q E) : spBO pB vs H Q E := by
  obtain ⟨a, b, xs, hs, ws, n, rfl, ea, hl, l12, eb, l20, n14, tb, q⟩ := h
  refine ⟨a, b, xs, hs, ws, n, rfl, ea, hl, l12, eb, l20, n14, tb, fun c H' hc lc x t => q .non .none H' (.inl ⟨fun z => z c hc.up.2 lc hc.cv, rfl⟩) (.inr (.inr ⟨rfl, rfl⟩)) x t, fun v H' no x t bk => ?_⟩
  obtain ⟨t', d, rfl, tz, bd⟩ := bk_bd bk
  exact q _ d H' (.inr ⟨no, bd⟩) (.inl tz) x t
/-- how far the answers are -/
def Pr (pB h S : Addr) (m : Int) (H2 Hx : Hp) (ls : List V) : Prop := XS h S H2 Hx ∧ LamX.Tabs (Tb pB) Hx ∧ Hand m Hx h ∧ Hx S = some (.lst ls) ∧ ∀ l ∈ ls, ∃ c, l = .ref c ∧ AL Hx h S c
theorem Pr.put {pB h S : Addr} {m m' : Int} {H2 Hx Hy : Hp} {ls : List V} (p : Pr pB h S m H2 Hx ls) (x : XS h S Hx Hy) (t : LamX.Tabs (Tb pB) Hy) (hd : Hand m' Hy h) (eS : Hy S = some (.lst ls)) (nS : S ≠ h) {c : Addr} (a : AL Hy h S c) :
    Pr pB h S m' H2 (upd Hy S (.lst (ls ++ [.ref c]))) (ls ++ [.ref c]) := by
  obtain ⟨p1, p2, p3, p4, p5⟩ := p
  obtain ⟨hu, eh⟩ := p3.at_
  obtain ⟨hu', eh'⟩ := hd.at_
  refine ⟨(p1.trans x).trans .put, tabs_lst t eS, hd.upd (Ne.symm nS), upd_same, fun l hl => ?_⟩
  rcases List.mem_append.mp hl with z | z
  · obtain ⟨c', rfl, a'⟩ := p5 l z
    exact ⟨c', rfl, a'.keep eh p4 (x.trans .put)⟩
  · rw [List.mem_singleton.mp z]
    exact ⟨c, rfl, a.keep eh' eS .put⟩
theorem tb_non {H : Hp} : Tb' H .non .none := .inr (.inr ⟨rfl, rfl⟩)
theorem tb_bl {H : Hp} (b : Bool) : Tb' H (.bl b) (.bool b) := .inr (.inl ⟨b, rfl, rfl⟩)
theorem ntup {H : Hp} {v : V} {d : PyData} (h : Tb' H v d) (w : (∀ ds, d = .tuple ds → ds.length ≤ 1000)) : tl d := w
def spR62 (pB : Addr) : Sp := fun vs H Q _ => ∃ (h a b : Addr) (m : Int) (xs : List V) (hs : List (List Int)) (ws : List Int), vs = [.ref h, .ref a, .ref b] ∧ H a = some (.tup xs) ∧ Hl H xs hs ∧ hs.length ≤ 6 ∧ H b = some (.tup (ws.map V.int)) ∧ ws.length ≤ 20 ∧ Sm ws ∧ Hand m H h ∧ m + 10 ≤ far ∧ LamX.Tabs (Tb pB) H ∧
  ∀ H', (∀ c o, c ≠ h → H c = some o → (∀ ps, o ≠ .tbl ps) → H' c = some o) → LamX.Tabs (Tb pB) H' → Q (.bl true) H'
end
end K62
set_option Elab.async false
set_option linter.all false
set_option maxRecDepth 100000
set_option maxHeartbeats 4000000
set_option pp.maxSteps 400
set_option pp.deepTerms false
namespace K62
open PySem PySem.Spec PyProof.Rows L2
open Xk Az
section
variable {P : Program} {w : World} {K : PySem.W.Frag} {mg : Str → Option Value} {base : Heap}
theorem ok_right {f : Addr} {fd : FuncData} {pB : Addr} (D : Df K mg "_law_right" ["_law_hand_here", "_law_discs_here", "_law_wanted"] sRight f fd) (T : Txt mg) (cT : Ca P w K mg base 1 "_law_take" ["_law_hand_here", "_law_size"] spTake) {fF : Addr} {dF : FuncData} (oF : FnOk P w K mg base CX0 3 fF dF ["held", "wishes"] (spFew)) (mF : mg "fewest_discs" = some (.ref fF)) (kF : PySem.W.keepIn K (.ref fF) = true) (cF : Ca P w K mg base 3 "fewest_discs" ["held", "wishes"] (spFew)) (jF0 : KB K dF ["held", "wishes"] 0 ["held", "wishes"] [0, 1]) (jF1 : KB K dF ["held", "wishes"] 0 ["wishes", "held"] [1, 0]) (jF2 : KB K dF ["held", "wishes"] 1 ["wishes"] [0]) {fW : Addr} {dW : FuncData} (oW : FnOk P w K mg base CX0 3 fW dW ["held", "wishes", "thing"] (spHeld K)) (mW : mg "shows_held" = some (.ref fW)) (kW : PySem.W.keepIn K (.ref fW) = true) (cW : Ca P w K mg base 3 "shows_held" ["held", "wishes", "thing"] (spHeld K)) (jW0 : KB K dW ["held", "wishes", "thing"] 0 ["thing", "wishes", "held"] [2, 1, 0]) (jW1 : KB K dW ["held", "wishes", "thing"] 1 ["thing", "wishes"] [1, 0]) {fB : Addr} {dB : FuncData} (oB : FnOk P w K mg base CX0 20 fB dB ["held", "wishes", "many"] (spBOd pB)) (mB : mg "book_of" = some (.ref fB)) (kB : PySem.W.keepIn K (.ref fB) = true) (cB : Ca P w K mg base 20 "book_of" ["held", "wishes", "many"] (spBOd pB)) (jB0 : KB K dB ["held", "wishes", "many"] 0 ["many", "wishes", "held"] [2, 1, 0]) (jB1 : KB K dB ["held", "wishes", "many"] 1 ["many", "wishes"] [1, 0]) {fN : Addr} {dN : FuncData} (oN : FnOk P w K mg base CX0 33 fN dN ["held", "wishes", "many", "thing"] (spSNG K)) (mN : mg "shows_none" = some (.ref fN)) (kN : PySem.W.keepIn K (.ref fN) = true) (cN : Ca P w K mg base 33 "shows_none" ["held", "wishes", "many", "thing"] (spSNG K)) (jN0 : KB K dN ["held", "wishes", "many", "thing"] 0 ["thing", "many", "wishes", "held"] [3, 2, 1, 0]) (jN1 : KB K dN ["held", "wishes", "many", "thing"] 2 ["thing", "many"] [1, 0]) {fA : Addr} {dA : FuncData} (DA : Df K mg "_law_alike" ["_law_told"] sAlike fA dA) (GA : Gn P w K mg base 1 fA dA ["_law_told"] (spAlike K)) : Gn P w K mg base 34 f fd ["_law_hand_here", "_law_discs_here", "_law_wanted"] (spR62 pB) := by
  refine gn_body D.fn scRight (fun vs H Q E h => ?_) (fun cdv A outer s H vs Q E hg hr h => ?_)
  · obtain ⟨h, a, b, m, xs, hs, ws, rfl, ea, hl, l6, eb, l20, sm, hh, hm, tb, q⟩ := h
    rfl
  · obtain ⟨h, a, b, m, xs, hs, ws, rfl, ea, hl, l6, eb, l20, sm, hh, hm, tb, q⟩ := h
    refine ⟨_, (pss_cons (ps_par (i := 3) (j := 4) (by rfl) scRight.nd rfl rfl (by decide) rfl rfl (pa_cons (pe_ca cT hr (by decide) (by rfl) (pa_cons (pv 0) (pa_cons pe_int pa_nil))) (pa_cons (pe_lst pa_nil) pa_nil)) (by rfl))
      (C8.pss_cut (ps_expr (pe_bm PySem.F.plainAttrs_list PySem.F.slot_list_append PySem.F.type_list_append mt_append (pv 4) (pa_cons (pe_lst (pa_cons (pe_ca cF hr (by decide) (by rfl) (pa_cons (pv 1) (pa_cons (pv 2) pa_nil))) (pa_cons (pe_callN0 oF (hr.mono (by decide)) (by rfl) mF kF jF0 pass0 (pk_cons (pv 1) (pk_cons (pv 2) pk_nil))) pa_nil))) pa_nil)))
      (C8.pss_cut (ps_expr (pe_bm PySem.F.plainAttrs_list PySem.F.slot_list_append PySem.F.type_list_append mt_append (pv 4) (pa_cons (pe_lst (pa_cons (pe_ix ix_list (pe_ix ix_list (pv 4) pe_int (fun _ _ => rfl)) pe_int (fun _ _ => rfl)) (pa_cons (pe_callN0 oF (hr.mono (by decide)) (by rfl) mF kF jF1 pass0 (pk_cons (pv 2) (pk_cons (pv 1) pk_nil))) (pa_cons (pe_callN oF (hr.mono (by decide)) (by rfl) mF kF jF2 pass0 (pa_cons (pv 1) pa_nil) (pk_cons (pv 2) pk_nil)) pa_nil)))) pa_nil)))
      (C8.pss_cut (ps_for PassesOwn.never rfl (pi_tup (pe_tup (pa_cons (pe_ix ix_tup (pe_ix ix_list (pe_ix ix_list (pv 4) pe_int (fun _ _ => rfl)) pe_int (fun _ _ => rfl)) pe_int (fun _ _ => rfl)) (pa_cons (pe_slice sl_tupU (pe_tupRg (by rfl) (by rfl) T.tuple (prg_1 (by rfl) T.range (pe_callB call_len_seq (by rfl) T.len PySem.boot_len (pa_cons (pv 1) pa_nil)))) (po_some (pe_ca cT hr (by decide) (by rfl) (pa_cons (pv 0) (pa_cons pe_int pa_nil)))) po_none) (pa_cons pe_non pa_nil))))) (pg_name (i := 5) scRight.nd rfl (.inl rfl)) (pss_cons (ps_set (i := 6) scRight.nd rfl (.inl rfl) (pe_lst (pa_cons (pe_ca cW hr (by decide) (by rfl) (pa_cons (pv 1) (pa_cons (pv 2) (pa_cons (pv 5) pa_nil)))) (pa_cons (pe_callN0 oW (hr.mono (by decide)) (by rfl) mW kW jW0 pass0 (pk_cons (pv 5) (pk_cons (pv 2) (pk_cons (pv 1) pk_nil)))) pa_nil))))
      (pss_one (ps_expr (pe_bm PySem.F.plainAttrs_list PySem.F.slot_list_append PySem.F.type_list_append mt_append (pv 4) (pa_cons (pe_op op_cat (pv 6) (pe_lst (pa_cons (pe_callN oW (hr.mono (by decide)) (by rfl) mW kW jW1 pass0 (pa_cons (pv 1) pa_nil) (pk_cons (pv 5) (pk_cons (pv 2) pk_nil))) pa_nil))) pa_nil))))))
      (C8.pss_cut (ps_set (i := 7) scRight.nd rfl (.inl rfl) (pe_ca cB hr (by decide) (by rfl) (pa_cons (pv 1) (pa_cons (pv 2) (pa_cons (pv 3) pa_nil)))))
      (C8.pss_cut (ps_expr (pe_bm PySem.F.plainAttrs_list PySem.F.slot_list_append PySem.F.type_list_append mt_append (pv 4) (pa_cons (pe_lst (pa_cons (pv 7) (pa_cons (pe_callN0 oB (hr.mono (by decide)) (by rfl) mB kB jB0 pass0 (pk_cons (pv 3) (pk_cons (pv 2) (pk_cons (pv 1) pk_nil)))) (pa_cons (pe_callN oB (hr.mono (by decide)) (by rfl) mB kB jB1 pass0 (pa_cons (pv 1) pa_nil) (pk_cons (pv 3) (pk_cons (pv 2) pk_nil))) pa_nil)))) pa_nil)))
      (C8.pss_cut (ps_for PassesOwn.never rfl (pi_tup (pe_tup (pa_cons (pv 7) (pa_cons (pe_tup (pa_cons pe_str (pa_cons pe_int pa_nil))) (pa_cons (pe_tup (pa_cons pe_str (pa_cons (pv 2) pa_nil))) pa_nil))))) (pg_name (i := 5) scRight.nd rfl (.inl rfl)) (pss_cons (ps_set (i := 6) scRight.nd rfl (.inl rfl) (pe_lst (pa_cons (pe_ca cN hr (by decide) (by rfl) (pa_cons (pv 1) (pa_cons (pv 2) (pa_cons (pv 3) (pa_cons (pv 5) pa_nil))))) pa_nil)))
      (pss_cons (ps_expr (pe_bm PySem.F.plainAttrs_list PySem.F.slot_list_append PySem.F.type_list_append mt_append (pv 6) (pa_cons (pe_callN0 oN (hr.mono (by decide)) (by rfl) mN kN jN0 pass0 (pk_cons (pv 5) (pk_cons (pv 3) (pk_cons (pv 2) (pk_cons (pv 1) pk_nil))))) pa_nil)))
      (pss_one (ps_expr (pe_bm PySem.F.plainAttrs_list PySem.F.slot_list_append PySem.F.type_list_append mt_append (pv 4) (pa_cons (pe_op op_cat (pv 6) (pe_lst (pa_cons (pe_callN oN (hr.mono (by decide)) (by rfl) mN kN jN1 pass0 (pa_cons (pv 1) (pa_cons (pv 2) pa_nil)) (pk_cons (pv 5) (pk_cons (pv 3) pk_nil))) pa_nil))) pa_nil)))))))
      (pss_one (ps_ret (pe_callB (cr_all (by rfl)) (by rfl) T.all (by decide +kernel) (pa_cons (pe_lc (own := [("_law_told", 6)]) (g := gName 6) (tt := tYes) (te := tCall (spAlike K) [] E0 (tCons (tVar 6) tNil)) (by rfl) scRight.nd (pi_list (pv 4)) (blkOk_by (own := [("_law_told", 6)]) (N := ["_law_hand_here", "_law_discs_here", "_law_wanted", "_law_few", "_law_some", "_law_paper", "_law_told", "_law_book"]) (sc := defScope sRight) (by decide +kernel)) (fun _ _ _ _ _ => pg_name (i := 6) scRight.nd rfl (.inl rfl)) (fun _ _ _ _ _ => pts_nil) (fun _ _ _ _ _ => pe_gn GA hg (hr.mono (by decide)) (by rfl) DA.mgf DA.fn.kp DA.bd (pa_cons (pv 6) pa_nil))) pa_nil))))))))))), ?_⟩
    have nah := hh.ne_tup (K := K) ea
    have nbh := hh.ne_tup (K := K) eb
    have fr : m + 10 ≤ 1000000 := hm
    have l12 : hs.length ≤ 12 := by omega
    have lh := hl.len
    refine ⟨_, rfl, h, 4, m, rfl, by decide, by decide, hh, (by show _ ≤ (1000000 : Int); omega), fun fw H1 w0 w4 h1 b1 => ⟨(by show 0 ≤ sizeLine; decide), fun S nS => ⟨_, _, rfl, ?_⟩⟩⟩
    obtain ⟨n, rfl⟩ : ∃ n : Nat, fw = (n : Int) := ⟨fw.toNat, by omega⟩
    have n3 : n ≤ 3 := by omega
    have sS := same_upd nS (o := .lst [])
    have eS : upd H1 S (.lst []) S = some (.lst []) := upd_same
    have nSh : S ≠ h := h1.fresh nS
    obtain ⟨hus, ehu⟩ := hh.at_
    have nSH : H S = none := by
      cases z : H S with
      | none => rfl
      | some o => rw [b1 _ _ nSh z] at nS; cases nS
    have h2 := h1.same sS
    have b2 : But h H (upd H1 S (.lst [])) := b1.trans (Same.but sS h)
    have t2 : LamX.Tabs (Tb pB) (upd H1 S (.lst [])) := (tabs_but tb ehu b1).ext sS
    generalize upd H1 S (.lst []) = H2 at *
    have ea2 := b2 _ _ nah ea
    have eb2 := b2 _ _ nbh eb
    have hl2 : Hl H2 xs hs := hl.map fun _ _ e => b2 _ _ (hh.ne_tup (K := K) e) e
    have tS : ∀ {c : Addr} {ys : List V}, H2 c = some (.tup ys) → c ≠ h ∧ c ≠ S := fun e => ⟨h2.ne_tup (K := K) e, ne_of e eS (by intro z; cases z)⟩
    have lf : ∀ {Hx : Hp}, XS h S H2 Hx → (∀ {c : Addr} {ys : List V}, H2 c = some (.tup ys) → Hx c = some (.tup ys)) := fun {Hx} x {c ys} e => x c _ (tS e).1 (tS e).2 e (fun ps z => by cases z)
    have p0 : Pr pB h S (m + 1) H2 H2 [] := ⟨fun c o _ _ e _ => e, t2, h2, eS, by simp⟩
    have n60 : ∀ b : Bool, Nice (.bool b) 60 4000000 := fun b => (nice_bool b).mono (by decide) (by decide)
    have alk : ∀ {Hx : Hp} {l : Addr} {ys : List V} {d : PyData}, Hx l = some (.lst ys) → l ≠ h → l ≠ S → ys ≠ [] → ys.length ≤ 10 → (∀ y ∈ ys, Tb' Hx y d) → Nice d 60 4000000 → AL Hx h S l := fun e a1 a2 a3 a4 a5 a6 => ⟨a1, a2, _, _, e, a3, a4, a5, a6⟩
    refine ⟨fun σ Hx => ∃ (l1 t1 : Addr) (v1 : V) (d1 dF : PyData) (x : Str) (ys : List V), σ = [some (.ref h), some (.ref a), some (.ref b), some (.int (n : Int)), some (.ref S), none, none, none] ∧ Pr pB h S (m + 1) H2 Hx [.ref l1] ∧ Hx l1 = some (.lst (.ref t1 :: ys)) ∧ Hx t1 = some (.tup [.str x, v1]) ∧ Tz Hx (.ref t1) dF ∧ Tz Hx v1 d1 ∧ Ans hs ws dF ∧ (∀ ds, d1 = .tuple ds → ds.length ≤ hs.length), ?_, ?_⟩
    · refine ⟨_, rfl, .inl ⟨rfl, _, SqL.of eS⟩, _, rfl, _, rfl, a, b, xs, hs, ws, rfl, ea2, hl2, l12, eb2, l20, fun t1 G1 g1 f1 => ?_⟩
      refine ⟨_, rfl, _, rfl, rfl, rfl, a, b, xs, hs, ws, rfl, g1 _ _ ea2, hl2.map (fun _ _ e => g1 _ _ e), l12, g1 _ _ eb2, l20, fun t3 G2 g2 f2 => ⟨(by show 2 ≤ sizeLine; decide), fun l1 n1 => ?_⟩⟩
      obtain ⟨v1, d1, dF, x, e1, ed, z1, zv, an, ln⟩ := few_tz f1
      obtain ⟨v3, d3, dF3, x3, e3, ed3, z3, zv3, an3, ln3⟩ := few_tz f2
      obtain rfl := an.uniq an3
      have s3 := same_upd n1 (o := .lst [.ref t1, .ref t3])
      have el : upd G2 l1 (.lst [.ref t1, .ref t3]) l1 = some (.lst [.ref t1, .ref t3]) := upd_same
      have nl := ((h2.same g1).same g2).fresh n1
      have nlS : l1 ≠ S := fun z => by rw [z, (g1.trans g2) _ _ eS] at n1; cases n1
      generalize upd G2 l1 (.lst [.ref t1, .ref t3]) = G3 at *
      have gA := (g1.trans g2).trans s3
      have eS3 := gA _ _ eS
      have kx : ∀ c zs, G3 c = some (.tup zs) → upd G3 S (.lst ([] ++ [.ref l1])) c = some (.tup zs) := fun c zs e => by
        rw [upd_ne (ne_of e eS3 (by intro z; cases z))]
        exact e
      have al : AL G3 h S l1 := alk el nl nlS (by simp) (by simp) (fun y hy => by
        simp only [List.mem_cons, List.not_mem_nil, or_false] at hy
        rcases hy with rfl | rfl
        · exact .inl (z1.keep fun c zs e => (g2.trans s3) _ _ e)
        · exact .inl (z3.keep fun c zs e => s3 _ _ e)) ((an.nice l12 sm).mono (by decide) (by decide))
      refine ⟨S, _, _, rfl, rfl, eS3, (by show 0 < sizeLine; decide), l1, t1, v1, d1, dF, x, [.ref t3], rfl, p0.put (XS.same gA) (t2.ext gA) (h2.same gA) eS3 nSh al, ?_, kx _ _ ((g2.trans s3) _ _ e1), z1.keep (fun c zs e => kx _ _ ((g2.trans s3) _ _ e)), zv.keep (fun c zs e => kx _ _ ((g2.trans s3) _ _ e)), an, ln⟩
      rw [upd_ne nlS]
      exact el
    rintro σ K1 ⟨l1, t1, v1, d1, dF, x, ys1, rfl, p1, e1, et1, zt1, zv1, an, ln⟩
    obtain ⟨x1, tb1, hd1, eS1, al1⟩ := id p1
    refine ⟨fun σ Hx => ∃ l2 : Addr, σ = [some (.ref h), some (.ref a), some (.ref b), some (.int (n : Int)), some (.ref S), none, none, none] ∧ Pr pB h S (m + 1) H2 Hx [.ref l1, .ref l2] ∧ Hx l1 = some (.lst (.ref t1 :: ys1)) ∧ Hx t1 = some (.tup [.str x, v1]) ∧ Tz Hx v1 d1, ?_, ?_⟩
    · refine ⟨_, rfl, .inl ⟨rfl, _, SqL.of eS1⟩, _, rfl, S, _, _, .ref l1, rfl, rfl, SqL.of eS1, atI_nat (j := 0) rfl, l1, _, _, .ref t1, rfl, rfl, SqL.of e1, atI_nat (j := 0) rfl, ?_⟩
      refine ⟨_, rfl, _, rfl, rfl, rfl, a, b, xs, hs, ws, rfl, lf x1 ea2, hl2.map (fun _ _ e => lf x1 e), l12, lf x1 eb2, l20, fun t3 G1 g1 f1 => ?_⟩
      refine ⟨_, rfl, _, rfl, rfl, rfl, a, b, xs, hs, ws, rfl, g1 _ _ (lf x1 ea2), hl2.map (fun _ _ e => g1 _ _ (lf x1 e)), l12, g1 _ _ (lf x1 eb2), l20, fun t4 G2 g2 f2 => ⟨(by show 3 ≤ sizeLine; decide), fun l2 n2 => ?_⟩⟩
      obtain ⟨v3, d3, dF3, x3, e3, ed3, z3, zv3, an3, ln3⟩ := few_tz f1
      obtain ⟨v4, d4, dF4, x4, e4, ed4, z4, zv4, an4, ln4⟩ := few_tz f2
      obtain rfl := an.uniq an3
      obtain rfl := an.uniq an4
      have s3 := same_upd n2 (o := .lst [.ref t1, .ref t3, .ref t4])
      have el : upd G2 l2 (.lst [.ref t1, .ref t3, .ref t4]) l2 = some (.lst [.ref t1, .ref t3, .ref t4]) := upd_same
      have nl := ((hd1.same g1).same g2).fresh n2
      have nlS : l2 ≠ S := fun z => by rw [z, (g1.trans g2) _ _ eS1] at n2; cases n2
      generalize upd G2 l2 (.lst [.ref t1, .ref t3, .ref t4]) = G3 at *
      have gA := (g1.trans g2).trans s3
      have eS3 := gA _ _ eS1
      have kx : ∀ c zs, G3 c = some (.tup zs) → upd G3 S (.lst ([.ref l1] ++ [.ref l2])) c = some (.tup zs) := fun c zs e => by
        rw [upd_ne (ne_of e eS3 (by intro z; cases z))]
        exact e
      have al : AL G3 h S l2 := alk el nl nlS (by simp) (by simp) (fun y hy => by
        simp only [List.mem_cons, List.not_mem_nil, or_false] at hy
        rcases hy with rfl | rfl | rfl
        · exact .inl (zt1.keep fun c zs e => gA _ _ e)
        · exact .inl (z3.keep fun c zs e => (g2.trans s3) _ _ e)
        · exact .inl (z4.keep fun c zs e => s3 _ _ e)) ((an.nice l12 sm).mono (by decide) (by decide))
      refine ⟨S, _, _, rfl, rfl, eS3, (by show 1 < sizeLine; decide), l2, rfl, p1.put (XS.same gA) (tb1.ext gA) (hd1.same gA) eS3 nSh al, ?_, kx _ _ (gA _ _ et1), zv1.keep (fun c zs e => kx _ _ (gA _ _ e))⟩
      obtain ⟨c, ec, _, q2, _⟩ := al1 (.ref l1) (by simp)
      cases ec
      rw [upd_ne q2]
      exact gA _ _ e1
    rintro σ K2 ⟨l2, rfl, p2, e12, et2, zv2⟩
    clear p1 x1 tb1 hd1 eS1 al1 e1 et1 zt1 zv1 p0
    obtain ⟨x2, tb2, hd2, eS2, al2⟩ := id p2
    -- papers of discs
    refine ⟨fun σ Hx => ∃ (ls : List V) (c5 c6 : Option V), σ = [some (.ref h), some (.ref a), some (.ref b), some (.int (n : Int)), some (.ref S), c5, c6, none] ∧ Pr pB h S (m + 2) H2 Hx ls ∧ ls.length ≤ 5, ?_, ?_⟩
    · refine ⟨_, rfl, S, _, _, .ref l1, rfl, rfl, SqL.of eS2, atI_nat (j := 0) rfl, l1, _, _, .ref t1, rfl, rfl, SqL.of e12, atI_nat (j := 0) rfl, t1, _, _, v1, rfl, rfl, SqT.of et2, atI_nat (j := 1) rfl, ?_⟩
      refine ⟨_, rfl, a, xs, rfl, .inr (SqT.of (lf x2 ea2)), _, rfl, RgOk.of_le (by decide) (by omega) (by decide) (by omega), fun w nw => ?_⟩
      have sw := same_upd nw (o := .tup (rgV 0 (xs.length : Int)))
      have ew : upd K2 w (.tup (rgV 0 (xs.length : Int))) w = some (.tup (rgV 0 (xs.length : Int))) := upd_same
      generalize upd K2 w (.tup (rgV 0 (xs.length : Int))) = J1 at sw ew ⊢
      obtain ⟨rs, ers, lrs⟩ : ∃ rs : List Int, rgV 0 (xs.length : Int) = rs.map V.int ∧ rs.length ≤ 6 := ⟨(List.range ((xs.length : Int) - 0).toNat).map fun (i : Nat) => (0 : Int) + (i : Int), by unfold rgV; rw [List.map_map]; rfl, by rw [List.length_map, List.length_range]; omega⟩
      rw [ers] at ew
      have hw1 := hd2.same sw
      refine ⟨_, rfl, h, 2, m + 1, rfl, by decide, by decide, hw1, (by show _ ≤ (1000000 : Int); omega), fun dd J2 d0 d2 hw2 bw2 => ⟨dd, rfl, w, _, rfl, bw2 _ _ (hw1.ne_tup (K := K) ew) ew, fun pp J3 s3 e3 => ?_⟩⟩
      rw [cut_ints] at e3
      refine ⟨(by show 3 ≤ sizeLine; decide), fun UU nU => ?_⟩
      have sU := same_upd nU (o := .tup [v1, .ref pp, .non])
      have eU : upd J3 UU (.tup [v1, .ref pp, .non]) UU = some (.tup [v1, .ref pp, .non]) := upd_same
      generalize upd J3 UU (.tup [v1, .ref pp, .non]) = KU at sU eU ⊢
      obtain ⟨hu1, eh1⟩ := hw1.at_
      have xU : XS h S K2 KU := ((XS.same sw).trans (.but bw2)).trans (.same (s3.trans sU))
      have tU : LamX.Tabs (Tb pB) KU := ((tabs_but (tb2.ext sw) eh1 bw2).ext s3).ext sU
      have hU : Hand (m + 1 + 1) KU h := (hw2.same s3).same sU
      have kU : ∀ c zs, K2 c = some (.tup zs) → KU c = some (.tup zs) := fun c zs e => (s3.trans sU) _ _ (bw2 _ _ (hw1.ne_tup (K := K) (sw _ _ e)) (sw _ _ e))
      have eSU : KU S = some (.lst [.ref l1, .ref l2]) := (s3.trans sU) _ _ (bw2 _ _ nSh (sw _ _ eS2))
      have pU : Pr pB h S (m + 1 + 1) H2 KU [.ref l1, .ref l2] := by
        obtain ⟨hu2, eh2⟩ := hd2.at_
        refine ⟨x2.trans xU, tU, hU, eSU, fun y hy => ?_⟩
        obtain ⟨c, ec, ac⟩ := al2 y hy
        exact ⟨c, ec, ac.keep eh2 eS2 xU⟩
      have pap : ∀ y ∈ ([v1, .ref pp, .non] : List V), ∃ d, Tb' KU y d ∧ tl d := fun y hy => by
        simp only [List.mem_cons, List.not_mem_nil, or_false] at hy
        rcases hy with rfl | rfl | rfl
        · exact ⟨d1, .inl (zv2.keep kU), fun ds e => by have := ln ds e; omega⟩
        · refine ⟨_, .inl (.tup (sU _ _ e3) (tz_ints _)), fun ds e => ?_⟩
          cases e
          rw [List.length_map]
          exact Nat.le_trans (cut_len rs (some dd) none) (by omega)
        · exact ⟨.none, tb_non, fun ds e => by cases e⟩
      refine ⟨UU, rfl, ⟨_, SqT.of eU⟩, ?_⟩
      have nUU : UU ≠ h ∧ UU ≠ S := ⟨hU.ne_tup (K := K) eU, ne_of eU eSU (by intro z; cases z)⟩
      refine for_tup (K := K) (a := UU) (xs := [v1, .ref pp, .non]) (fun i σ Hi => ∃ (ls : List V) (c5 c6 : Option V), σ = [some (.ref h), some (.ref a), some (.ref b), some (.int (n : Int)), some (.ref S), c5, c6, none] ∧ Pr pB h S (m + 1 + 1) H2 Hi ls ∧ ls.length = 2 + i ∧ XS h S KU Hi) ⟨_, _, _, rfl, pU, rfl, fun c o _ _ e _ => e⟩ (fun i σ Hi _ z => by obtain ⟨_, _, _, _, _, _, z⟩ := z; exact SqT.of (z _ _ nUU.1 nUU.2 eU (fun ps z => by cases z))) ?_ ?_
      · rintro i y σ Hi hy ⟨ls, c5, c6, rfl, pi, li, xi⟩
        have i3 : i < 3 := (List.getElem?_eq_some_iff.mp hy).1
        obtain ⟨d, zd, td⟩ := pap y (List.mem_of_getElem? hy)
        obtain ⟨p1', p2', p3', p4', p5'⟩ := id pi
        have zi : Tb' Hi y d := zd.keep fun c zs e => xi _ _ (hU.ne_tup (K := K) e) (ne_of e eSU (by intro z; cases z)) e (fun ps z => by cases z)
        refine ⟨_, rfl, _, rfl, _, rfl, a, b, y, d, xs, hs, ws, rfl, lf p1' ea2, hl2.map (fun _ _ e => lf p1' e), by omega, lf p1' eb2, l20, zi.dz, td, fun G1 g1 => ?_⟩
        refine ⟨_, rfl, _, rfl, _, rfl, rfl, rfl, a, b, y, d, xs, hs, ws, rfl, g1 _ _ (lf p1' ea2), hl2.map (fun _ _ e => g1 _ _ (lf p1' e)), by omega, g1 _ _ (lf p1' eb2), l20, zi.dz.same g1, td, fun G2 g2 => ⟨(by show 2 ≤ sizeLine; decide), fun T1 nT1 => ?_⟩⟩
        have g3 := same_upd nT1 (o := .lst [.bl (hb hs ws d), .bl (hb hs ws d)])
        have eT1 : upd G2 T1 (.lst [.bl (hb hs ws d), .bl (hb hs ws d)]) T1 = some (.lst [.bl (hb hs ws d), .bl (hb hs ws d)]) := upd_same
        generalize upd G2 T1 (.lst [.bl (hb hs ws d), .bl (hb hs ws d)]) = G3 at g3 eT1 ⊢
        have g13 := (g1.trans g2).trans g3
        refine ⟨_, rfl, .inl ⟨rfl, _, SqL.of (g13 _ _ p4')⟩, _, rfl, _, rfl, _, rfl, _, rfl, rfl, rfl, a, b, y, d, xs, hs, ws, rfl, g13 _ _ (lf p1' ea2), hl2.map (fun _ _ e => g13 _ _ (lf p1' e)), by omega, g13 _ _ (lf p1' eb2), l20, zi.dz.same g13, td, fun G4 g4 => ⟨(by show 1 ≤ sizeLine; decide), fun l4 n4 => ?_⟩⟩
        have g5 := same_upd n4 (o := .lst [.bl (hb hs ws d)])
        have el4 : upd G4 l4 (.lst [.bl (hb hs ws d)]) l4 = some (.lst [.bl (hb hs ws d)]) := upd_same
        generalize upd G4 l4 (.lst [.bl (hb hs ws d)]) = G5 at g5 el4 ⊢
        have g35 := g4.trans g5
        refine ⟨T1, l4, _, _, rfl, rfl, g35 _ _ eT1, el4, (by show 2 + 1 ≤ sizeLine; decide), fun LL nLL => ?_⟩
        have g6 := same_upd nLL (o := .lst ([.bl (hb hs ws d), .bl (hb hs ws d)] ++ [.bl (hb hs ws d)]))
        have eLL : upd G5 LL (.lst ([.bl (hb hs ws d), .bl (hb hs ws d)] ++ [.bl (hb hs ws d)])) LL = some (.lst ([.bl (hb hs ws d), .bl (hb hs ws d)] ++ [.bl (hb hs ws d)])) := upd_same
        have g15 := g13.trans g35
        have nl := (p3'.same g15).fresh nLL
        have nlS : LL ≠ S := fun z => by rw [z, g15 _ _ p4'] at nLL; cases nLL
        generalize upd G5 LL (.lst ([.bl (hb hs ws d), .bl (hb hs ws d)] ++ [.bl (hb hs ws d)])) = G6 at g6 eLL ⊢
        have g16 := g15.trans g6
        have al : AL G6 h S LL := alk eLL nl nlS (by simp) (by simp) (fun y hy => by
          simp only [List.cons_append, List.nil_append, List.mem_cons, List.not_mem_nil, or_false] at hy
          rcases hy with rfl | rfl | rfl <;> exact tb_bl _) (n60 _)
        have eS6 := g16 _ _ p4'
        refine ⟨S, _, _, rfl, rfl, eS6, Nat.lt_of_le_of_lt (show ls.length ≤ 1000 by omega) (by decide), _, _, _, rfl, pi.put (XS.same g16) (p2'.ext g16) (p3'.same g16) eS6 nSh al, by rw [List.length_append, li]; show 2 + i + 1 = 2 + (i + 1); omega, (xi.trans (.same g16)).trans .put⟩
      · rintro σ He ⟨ls, c5, c6, rfl, pe, le, _⟩
        exact ⟨ls, _, _, rfl, by rw [show m + 2 = m + 1 + 1 by omega]; exact pe, by rw [le]; exact Nat.le_refl 5⟩
    rintro σ K3 ⟨ls3, c5, c6, rfl, p3, ll3⟩
    clear p2 x2 tb2 hd2 eS2 al2 e12 et2 zv2
    obtain ⟨x3, tb3, hd3, eS3, al3⟩ := id p3
    -- the book
    refine ⟨fun σ Hx => ∃ (bv : V) (bd : PyData), σ = [some (.ref h), some (.ref a), some (.ref b), some (.int (n : Int)), some (.ref S), c5, c6, some bv] ∧ Pr pB h S (m + 2) H2 Hx ls3 ∧ BO hs ws n bd ∧ Tb' Hx bv bd, ?_, ?_⟩
    · refine ⟨_, rfl, _, rfl, _, rfl, a, b, xs, hs, ws, n, rfl, lf x3 ea2, hl2.map (fun _ _ e => lf x3 e), l12, lf x3 eb2, l20, by omega, tb3, fun v d G1 bo zb g1 t1 => ⟨v, d, rfl, ?_, bo, zb⟩⟩
      obtain ⟨hu3, eh3⟩ := hd3.at_
      refine ⟨x3.trans (.ext g1), t1, hd3.ext g1, g1 _ _ eS3 (fun ps z => by cases z), fun y hy => ?_⟩
      obtain ⟨c, ec, ac⟩ := al3 y hy
      exact ⟨c, ec, ac.keep eh3 eS3 (.ext g1)⟩
    rintro σ K4 ⟨bv, bd, rfl, p4, bo, zb⟩
    clear p3 x3 tb3 hd3 eS3 al3
    obtain ⟨x4, tb4, hd4, eS4, al4⟩ := id p4
    have wbd : (∃ k, P56.Wd k bd) ∧ Nice bd 60 4000000 := by
      rcases bo with ⟨_, rfl⟩ | ⟨_, b⟩
      · exact ⟨⟨0, trivial⟩, nice_none.mono (by decide) (by decide)⟩
      · exact ⟨⟨_, P56.ob_wd l12 l20 b.ob⟩, (ob_nice (by omega) l20 sm b.ob).mono (by omega) (Nat.le_trans (Nat.pow_le_pow_right (show 0 < 10 by decide) (show n + 3 ≤ 6 by omega)) (by decide))⟩
    refine ⟨fun σ Hx => ∃ ls : List V, σ = [some (.ref h), some (.ref a), some (.ref b), some (.int (n : Int)), some (.ref S), c5, c6, some bv] ∧ Pr pB h S (m + 2) H2 Hx ls ∧ ls.length ≤ 6 ∧ Tb' Hx bv bd, ?_, ?_⟩
    · refine ⟨_, rfl, .inl ⟨rfl, _, SqL.of eS4⟩, _, rfl, _, rfl, _, rfl, _, rfl, rfl, rfl, a, b, xs, hs, ws, n, rfl, lf x4 ea2, hl2.map (fun _ _ e => lf x4 e), l12, lf x4 eb2, l20, by omega, tb4, fun v2 d2 G1 bo2 z2 g1 t1 => ?_⟩
      have y1 : XS h S H2 G1 := x4.trans (.ext g1)
      refine ⟨_, rfl, _, rfl, _, rfl, rfl, rfl, a, b, xs, hs, ws, n, rfl, lf y1 ea2, hl2.map (fun _ _ e => lf y1 e), l12, lf y1 eb2, l20, by omega, t1, fun v3 d3 G2 bo3 z3 g2 t2 => ⟨(by show 3 ≤ sizeLine; decide), fun l5 n5 => ?_⟩⟩
      obtain rfl := bo.uniq bo2
      obtain rfl := bo.uniq bo3
      have s3 := same_upd n5 (o := .lst [bv, v2, v3])
      have el : upd G2 l5 (.lst [bv, v2, v3]) l5 = some (.lst [bv, v2, v3]) := upd_same
      have g12 := g1.trans g2
      have nl := (hd4.ext g12).fresh n5
      have eS5 := g12 _ _ eS4 (fun ps z => by cases z)
      have nlS : l5 ≠ S := fun z => by rw [z, eS5] at n5; cases n5
      generalize upd G2 l5 (.lst [bv, v2, v3]) = G3 at *
      have zb3 : Tb' G3 bv bd := zb.keep fun c zs e => s3 _ _ (exT g12 e)
      have al : AL G3 h S l5 := alk el nl nlS (by simp) (by simp) (fun y hy => by
        simp only [List.mem_cons, List.not_mem_nil, or_false] at hy
        rcases hy with rfl | rfl | rfl
        · exact zb3
        · exact z2.keep fun c zs e => s3 _ _ (exT g2 e)
        · exact z3.keep fun c zs e => s3 _ _ e) wbd.2
      have eS6 := s3 _ _ eS5
      refine ⟨S, _, _, rfl, rfl, eS6, Nat.lt_of_le_of_lt (show ls3.length ≤ 1000 by omega) (by decide), _, rfl, p4.put ((XS.ext g12).trans (.same s3)) (t2.ext s3) ((hd4.ext g12).same s3) eS6 nSh al, by rw [List.length_append]; show ls3.length + 1 ≤ 6; omega, zb3.keep fun c zs e => by rw [upd_ne (ne_of e eS6 (by intro z; cases z))]; exact e⟩
    rintro σ K5 ⟨ls5, rfl, p5, ll5, zb5⟩
    clear p4 x4 tb4 hd4 eS4 al4 zb
    obtain ⟨x5, tb5, hd5, eS5, al5⟩ := id p5
    -- papers of books
    refine ⟨fun σ Hx => ∃ (ls : List V) (c5 c6 : Option V), σ = [some (.ref h), some (.ref a), some (.ref b), some (.int (n : Int)), some (.ref S), c5, c6, some bv] ∧ Pr pB h S (m + 2) H2 Hx ls ∧ ls.length ≤ 9, ?_, ?_⟩
    · refine ⟨_, rfl, (by show 2 ≤ sizeLine; decide), fun u1 nu1 => ?_⟩
      have v1' := same_upd nu1 (o := .tup [.str "left", .int 0])
      have e1' : upd K5 u1 (.tup [.str "left", .int 0]) u1 = some (.tup [.str "left", .int 0]) := upd_same
      generalize upd K5 u1 (.tup [.str "left", .int 0]) = J1 at v1' e1' ⊢
      refine ⟨_, rfl, (by show 2 ≤ sizeLine; decide), fun u2 nu2 => ?_⟩
      have v2' := same_upd nu2 (o := .tup [.str "apart", .ref b])
      have e2' : upd J1 u2 (.tup [.str "apart", .ref b]) u2 = some (.tup [.str "apart", .ref b]) := upd_same
      generalize upd J1 u2 (.tup [.str "apart", .ref b]) = J2 at v2' e2' ⊢
      refine ⟨(by show 3 ≤ sizeLine; decide), fun UU nU => ?_⟩
      have vU := same_upd nU (o := .tup [bv, .ref u1, .ref u2])
      have eU : upd J2 UU (.tup [bv, .ref u1, .ref u2]) UU = some (.tup [bv, .ref u1, .ref u2]) := upd_same
      generalize upd J2 UU (.tup [bv, .ref u1, .ref u2]) = KU at vU eU ⊢
      have vA := (v1'.trans v2').trans vU
      have hU := hd5.same vA
      have eSU := vA _ _ eS5
      have ebU : KU b = some (.tup (ws.map V.int)) := vA _ _ (lf x5 eb2)
      have pU : Pr pB h S (m + 2) H2 KU ls5 := by
        obtain ⟨hu2, eh2⟩ := hd5.at_
        refine ⟨x5.trans (.same vA), tb5.ext vA, hU, eSU, fun y hy => ?_⟩
        obtain ⟨c, ec, ac⟩ := al5 y hy
        exact ⟨c, ec, ac.keep eh2 eS5 (.same vA)⟩
      have pap : ∀ y ∈ ([bv, .ref u1, .ref u2] : List V), ∃ d k, Tb' KU y d ∧ P56.Wd k d := fun y hy => by
        simp only [List.mem_cons, List.not_mem_nil, or_false] at hy
        rcases hy with rfl | rfl | rfl
        · obtain ⟨k, wk⟩ := wbd.1
          exact ⟨bd, k, zb5.keep fun c zs e => vA _ _ e, wk⟩
        · refine ⟨.tuple [.str "left", .int 0], 1, .inl (.tup ((v2'.trans vU) _ _ e1') (.cons (.str _) (.cons (.int 0) .nil))), ⟨by show 2 ≤ 1000; decide, fun e he => ?_⟩⟩
          simp only [List.mem_cons, List.not_mem_nil, or_false] at he
          rcases he with rfl | rfl <;> trivial
        · refine ⟨.tuple [.str "apart", .tuple (ws.map .int)], 2, .inl (.tup (vU _ _ e2') (.cons (.str _) (.cons (.tup ebU (tz_ints _)) .nil))), ⟨by show 2 ≤ 1000; decide, fun e he => ?_⟩⟩
          simp only [List.mem_cons, List.not_mem_nil, or_false] at he
          rcases he with rfl | rfl
          · trivial
          · exact P56.wd_ints 0 (by omega)
      refine ⟨UU, rfl, ⟨_, SqT.of eU⟩, ?_⟩
      have nUU : UU ≠ h ∧ UU ≠ S := ⟨hU.ne_tup (K := K) eU, ne_of eU eSU (by intro z; cases z)⟩
      refine for_tup (K := K) (a := UU) (xs := [bv, .ref u1, .ref u2]) (fun i σ Hi => ∃ (ls : List V) (c5 c6 : Option V), σ = [some (.ref h), some (.ref a), some (.ref b), some (.int (n : Int)), some (.ref S), c5, c6, some bv] ∧ Pr pB h S (m + 2) H2 Hi ls ∧ ls.length ≤ 6 + i ∧ XS h S KU Hi) ⟨_, _, _, rfl, pU, ll5, fun c o _ _ e _ => e⟩ (fun i σ Hi _ z => by obtain ⟨_, _, _, _, _, _, z⟩ := z; exact SqT.of (z _ _ nUU.1 nUU.2 eU (fun ps z => by cases z))) ?_ ?_
      · rintro i y σ Hi hy ⟨ls, c5, c6, rfl, pi, li, xi⟩
        have i3 : i < 3 := (List.getElem?_eq_some_iff.mp hy).1
        obtain ⟨d, k, zd, wk⟩ := pap y (List.mem_of_getElem? hy)
        obtain ⟨p1', p2', p3', p4', p5'⟩ := id pi
        have zi : Tb' Hi y d := zd.keep fun c zs e => xi _ _ (hU.ne_tup (K := K) e) (ne_of e eSU (by intro z; cases z)) e (fun ps z => by cases z)
        refine ⟨_, rfl, _, rfl, _, rfl, _, rfl, a, b, xs, hs, ws, n, k, y, d, rfl, lf p1' ea2, hl2.map (fun _ _ e => lf p1' e), l12, lf p1' eb2, l20, by omega, zi.dz, wk, fun G1 g1 => ⟨(by show 1 ≤ sizeLine; decide), fun T1 nT1 => ?_⟩⟩
        generalize hr0 : P56.ibk hs n ws d = r0
        have g3 := same_upd nT1 (o := .lst [.bl r0])
        have eT1 : upd G1 T1 (.lst [.bl r0]) T1 = some (.lst [.bl r0]) := upd_same
        have nT0 : ∀ c o, Hi c = some o → c ≠ T1 := fun c o e => ne_of_none (g1 _ _ e) nT1
        generalize upd G1 T1 (.lst [.bl r0]) = G3 at g3 eT1 ⊢
        have g13 := g1.trans g3
        refine ⟨_, rfl, .inl ⟨rfl, _, SqL.of eT1⟩, _, rfl, _, rfl, _, rfl, _, rfl, rfl, rfl, a, b, xs, hs, ws, n, k, y, d, rfl, g13 _ _ (lf p1' ea2), hl2.map (fun _ _ e => g13 _ _ (lf p1' e)), l12, g13 _ _ (lf p1' eb2), l20, by omega, zi.dz.same g13, wk, fun G4 g4 => ?_⟩
        rw [hr0]
        have eT4 := g4 _ _ eT1
        refine ⟨T1, _, _, rfl, rfl, eT4, (by show 1 < sizeLine; decide), ?_⟩
        have eT5 : upd G4 T1 (.lst ([.bl r0] ++ [.bl r0])) T1 = some (.lst ([.bl r0] ++ [.bl r0])) := upd_same
        have g15 : L2.Same Hi (upd G4 T1 (.lst ([.bl r0] ++ [.bl r0]))) := fun c o e => by
          rw [upd_ne (nT0 c o e)]
          exact g4 _ _ (g13 _ _ e)
        generalize upd G4 T1 (.lst ([.bl r0] ++ [.bl r0])) = G5 at eT5 g15 ⊢
        refine ⟨_, rfl, .inl ⟨rfl, _, SqL.of (g15 _ _ p4')⟩, _, rfl, _, rfl, _, rfl, _, rfl, _, rfl, rfl, rfl, a, b, xs, hs, ws, n, k, y, d, rfl, g15 _ _ (lf p1' ea2), hl2.map (fun _ _ e => g15 _ _ (lf p1' e)), l12, g15 _ _ (lf p1' eb2), l20, by omega, zi.dz.same g15, wk, fun G6 g6 => ⟨(by show 1 ≤ sizeLine; decide), fun l4 n4 => ?_⟩⟩
        rw [hr0] at *
        have g7 := same_upd n4 (o := .lst [.bl r0])
        have el4 : upd G6 l4 (.lst [.bl r0]) l4 = some (.lst [.bl r0]) := upd_same
        generalize upd G6 l4 (.lst [.bl r0]) = G7 at g7 el4 ⊢
        have g57 := g6.trans g7
        refine ⟨T1, l4, _, _, rfl, rfl, g57 _ _ eT5, el4, (by show 2 + 1 ≤ sizeLine; decide), fun LL nLL => ?_⟩
        have g8 := same_upd nLL (o := .lst (([.bl r0] ++ [.bl r0]) ++ [.bl r0]))
        have eLL : upd G7 LL (.lst (([.bl r0] ++ [.bl r0]) ++ [.bl r0])) LL = some (.lst (([.bl r0] ++ [.bl r0]) ++ [.bl r0])) := upd_same
        have g17 := g15.trans g57
        have nl := (p3'.same g17).fresh nLL
        have nlS : LL ≠ S := fun z => by rw [z, g17 _ _ p4'] at nLL; cases nLL
        generalize upd G7 LL (.lst (([.bl r0] ++ [.bl r0]) ++ [.bl r0])) = G8 at g8 eLL ⊢
        have g18 := g17.trans g8
        have al : AL G8 h S LL := alk eLL nl nlS (by simp) (by simp) (fun y hy => by
          simp only [List.cons_append, List.nil_append, List.mem_cons, List.not_mem_nil, or_false] at hy
          rcases hy with rfl | rfl | rfl <;> exact tb_bl _) (n60 _)
        have eS8 := g18 _ _ p4'
        refine ⟨S, _, _, rfl, rfl, eS8, Nat.lt_of_le_of_lt (show ls.length ≤ 1000 by omega) (by decide), _, _, _, rfl, pi.put (XS.same g18) (p2'.ext g18) (p3'.same g18) eS8 nSh al, by rw [List.length_append]; show ls.length + 1 ≤ 6 + (i + 1); omega, (xi.trans (.same g18)).trans .put⟩
      · rintro σ He ⟨ls, c5, c6, rfl, pe, le, _⟩
        exact ⟨ls, _, _, rfl, pe, le⟩
    rintro σ K6 ⟨ls6, c5', c6', rfl, p6, ll6⟩
    obtain ⟨x6, tb6, hd6, eS6, al6⟩ := p6
    refine ⟨_, rfl, S, rfl, ⟨_, SqL.of eS6⟩, fun D nD => ?_⟩
    refine lc_list (K := K) (a := S) (xs := ls6) (fun i Hi => L2.Same K6 Hi ∧ Hi D = some (.lst ((List.replicate i true).map V.bl))) ⟨same_upd nD, upd_same⟩ (fun i Hi _ z => SqL.of (z.1 _ _ eS6)) ?_ ?_
    · rintro i y Hi hy ⟨si, eD⟩
      have il : i < ls6.length := (List.getElem?_eq_some_iff.mp hy).1
      obtain ⟨c, rfl, _, _, ys, d, e, ne, le, hz, nc⟩ := al6 y (List.mem_of_getElem? hy)
      refine ⟨rfl, ?_⟩
      unfold tYes
      refine iteT ⟨_, rfl, c, ys, d, rfl, si _ _ e, ne, le, fun z hm => (hz z hm).dz.same si, nc, fun H' s' => ⟨_, s' _ _ eD, ?_, fun c o e => ?_, ?_⟩⟩
      · rw [List.length_map, List.length_replicate]
        exact Nat.lt_of_le_of_lt (show i ≤ 1000 by omega) (by decide)
      · rw [upd_ne (ne_of_none e nD)]
        exact s' _ _ (si _ _ e)
      · rw [upd_same, List.replicate_succ', List.map_append]
        rfl
    · rintro He ⟨se, eD⟩
      refine ⟨D, _, rfl, SqL.of eD, ?_⟩
      rw [show (List.replicate ls6.length true).all id = true by rw [List.all_eq_true]; intro x hx; rw [(List.mem_replicate.mp hx).2]; rfl]
      refine q He (fun c o ne e nt => se _ _ (x6 c o ne (ne_of_none e nSH) (b2 c o ne e) nt)) (tb6.ext se)
end
end K62
set_option Elab.async false
set_option linter.all false
set_option maxRecDepth 100000
set_option maxHeartbeats 4000000
set_option pp.maxSteps 400
set_option pp.deepTerms false
namespace K62
open PySem PySem.Spec PyProof.Rows L2
open Xk Az
section
variable {P : Program} {w : World} {K : PySem.W.Frag} {mg : Str → Option Value} {base : Heap}
def spLaw (pB : Addr) (K : PySem.W.Frag) : Sp := fun vs H Q _ => ∃ (a : Addr) (ns : List Int), vs = [.ref a] ∧ SqL K H a (ns.map V.int) ∧ ns.length ≤ 63 ∧ LamX.Tabs (Tb pB) H ∧ ∀ H', Q (.bl true) H'
theorem sqL_extN {H H' : Hp} (s : LamX.ExtN H H') {t : Addr} {xs : List V} (q : SqL K H t xs) : SqL K H' t xs := by
  rcases q with (q | ⟨o, q⟩) | q
  · exact .inl (.inl (s _ _ q fun ps z => by cases z))
  · exact .inl (.inr ⟨o, s _ _ q fun ps z => by cases z⟩)
  · exact .inr q
theorem ok_law {f : Addr} {fd : FuncData} {pB : Addr} (D : Df K mg "law" ["_law_script"] sLaw f fd) (T : Txt mg) (cH : Ca P w K mg base 1 "_law_hand" ["_law_script", "_law_k"] (spHand K)) (cC : Ca P w K mg base 4 "_law_case" ["_law_hand_here", "_law_most_discs", "_law_most_wanted"] spCase) {fR : Addr} {dR : FuncData} (DR : Df K mg "_law_right" ["_law_hand_here", "_law_discs_here", "_law_wanted"] sRight fR dR) (GR : Gn P w K mg base 34 fR dR ["_law_hand_here", "_law_discs_here", "_law_wanted"] (spR62 pB)) : Gn P w K mg base 35 f fd ["_law_script"] (spLaw pB K) := by
  refine gn_body D.fn scLaw (fun vs H Q E h => ?_) (fun cdv A outer s H vs Q E hg hr h => ?_)
  · obtain ⟨a, ns, rfl, hS, hlen, tb, q⟩ := h
    rfl
  · obtain ⟨a, ns, rfl, hS, hlen, tb, q⟩ := h
    refine ⟨_, (pss_cons (ps_for PassesOwn.never rfl (pi_range1 (by rfl) T.range (pa_cons (pe_callB (call_max2 (by rfl)) (by rfl) T.max (by decide +kernel) (pa_cons pe_int (pa_cons (pe_callB (call_min2 (by rfl)) (by rfl) T.min (by decide +kernel) (pa_cons pe_int (pa_cons (pe_callB call_len_seq (by rfl) T.len PySem.boot_len (pa_cons (pv 0) pa_nil)) pa_nil))) pa_nil))) pa_nil)) (pg_name (i := 1) scLaw.nd rfl (.inl rfl)) (pss_cons (ps_set (i := 2) scLaw.nd rfl (.inl rfl) (pe_ca cH hr (by decide) (by rfl) (pa_cons (pv 0) (pa_cons (pv 1) pa_nil))))
      (pss_cons (ps_asg (pe_ca cC hr (by decide) (by rfl) (pa_cons (pv 2) (pa_cons pe_int (pa_cons pe_int pa_nil)))) (pg_tup (by rfl) (pgs_cons (pg_name (i := 3) scLaw.nd rfl (.inl rfl)) (pgs_cons (pg_name (i := 4) scLaw.nd rfl (.inl rfl)) pgs_nil))))
      (pss_one (ps_if (pt_not (pt_val (pe_gn GR hg hr (by rfl) DR.mgf DR.fn.kp DR.bd (pa_cons (pv 2) (pa_cons (pv 3) (pa_cons (pv 4) pa_nil)))))) (pss_one (ps_ret pe_bl)) pss_nil)))))
      (pss_one (ps_ret pe_bl))), ?_⟩
    refine ⟨_, rfl, a, _, rfl, .inl hS, 4, _, rfl, 1, _, rfl, ?_⟩
    obtain ⟨m, em, m0, m4⟩ : ∃ m : Int, (if (if ((ns.map V.int).length : Int) < 4 then ((ns.map V.int).length : Int) else 4) > 1 then (if ((ns.map V.int).length : Int) < 4 then ((ns.map V.int).length : Int) else 4) else 1) = m ∧ 0 ≤ m ∧ m ≤ 4 := ⟨_, rfl, by split <;> (try split) <;> omega, by split <;> (try split) <;> omega⟩
    rw [em]
    clear em
    refine ⟨_, rfl, by omega, by omega, ?_⟩
    refine for_range (lo := 0) (n := m.toNat) (fun i σ Hi => ∃ c1 c2 c3 c4, σ = [some (.ref a), c1, c2, c3, c4] ∧ LamX.ExtN H Hi ∧ LamX.Tabs (Tb pB) Hi) ?_ ?_ ?_
    · exact ⟨_, _, _, _, rfl, LamX.ExtN.refl H, tb⟩
    · rintro i σ Hi hi ⟨c1, c2, c3, c4, rfl, xm, tm⟩
      refine ⟨_, rfl, _, rfl, a, 0 + (i : Int), ns, rfl, by omega, sqL_extN xm hS, fun p g m' np g0 m0' m1' => ?_⟩
      have hh : Hand 0 (upd Hi p (.lst [.int g, .int m', .int 0])) p := ⟨g, m', 0, upd_same, g0, m0', m1', Int.le_refl _, Int.le_refl _⟩
      have s1 := same_upd np (o := .lst [.int g, .int m', .int 0])
      refine ⟨_, rfl, p, 0, 6, 7, rfl, by decide, by decide, by decide, by decide, hh, by decide, fun t ah bw xs hs ws H2 et ea hl lmd gs eb l20 sw pw lmw h2 b2 => ?_⟩
      have s2 : L2.Same Hi H2 := fun c o e => b2 c o (ne_of_none e np) (s1 c o e)
      refine ⟨t, _, rfl, SqT.of et, rfl, _, _, rfl, _, _, rfl, rfl, ?_⟩
      refine ⟨_, rfl, _, rfl, _, rfl, p, ah, bw, _, xs, hs, ws, rfl, ea, hl, by omega, eb, l20, sw, h2, by decide, tm.ext s2, fun H3 x3 t3 => ⟨_, rfl, iteF ⟨_, _, _, _, rfl, fun c o e nt => ?_, t3⟩⟩⟩
      have e2 := xm c o e nt
      exact x3 c o (ne_of_none e2 np) (s2 c o e2) nt
    · rintro σ He _
      exact q _
end
end K62
set_option Elab.async false
set_option linter.all false
set_option maxRecDepth 100000
set_option maxHeartbeats 4000000
set_option pp.maxSteps 400
set_option pp.deepTerms false
namespace K62
open PySem PySem.Spec PyProof.Rows L2
open Xk Az
theorem Ca.mono {P : Program} {w : World} {K : PySem.W.Frag} {mg : Str → Option Value} {base : Heap} {j k : Nat} {x : Str} {ps : List Str} {sp : Sp} (c : Ca P w K mg base j x ps sp) (h : j ≤ k) : Ca P w K mg base k x ps sp := by
  obtain ⟨f, fd, F, r⟩ := c.ex
  exact ⟨f, fd, F.mono h, r⟩
theorem Df.no {P : Program} {w : World} {K : PySem.W.Frag} {mg : Str → Option Value} {base : Heap} {k : Nat} {x : Str} {ps : List Str} {st : Stmt} {f : Addr} {fd : FuncData} (d : Df K mg x ps st f fd) : Ca P w K mg base k x ps (fun _ _ _ _ => False) :=
  ⟨f, fd, ⟨fun _ _ _ _ h => h.elim, fun _ _ _ _ _ _ _ _ _ _ _ _ _ h => h.elim⟩, d.mgf, d.fn.kp, d.bd⟩
theorem all_mk {l : PySem.W.OpenLaw} {w : World} {K : PySem.W.Frag} {h : Heap} {mg : Str → Option Value} {ts : List Addr} {cB pB fa f0 f1 f2 f3 f4 f5 f6 f7 f8 f9 f10 f11 f12 f13 f14 f15 f16 f17 f18 f19 f20 f21 f22 : Addr}
    {od0 an0 od1 an1 od2 an2 od3 an3 od4 an4 od5 an5 od6 an6 od7 an7 od8 an8 od9 an9 od10 an10 od11 an11 od12 an12 od13 an13 od14 an14 od15 an15 od16 an16 od17 an17 od18 an18 od19 an19 od20 an20 od21 an21 od22 an22 : Option Addr}
    {sl0 sl1 sl2 sl3 sl4 sl5 sl6 sl7 sl8 sl9 sl10 sl11 sl12 sl13 sl14 sl15 sl16 sl17 sl18 sl19 sl20 sl21 sl22 : Array (Option Value)}
    {oc0 kV0 dc0 pm0 cd0 ct0 oc1 kV1 dc1 pm1 cd1 ct1 oc2 kV2 dc2 pm2 cd2 ct2 oc3 kV3 dc3 pm3 cd3 ct3 oc4 kV4 dc4 pm4 cd4 ct4 oc5 kV5 dc5 pm5 cd5 ct5 oc6 kV6 dc6 pm6 cd6 ct6 oc7 kV7 dc7 pm7 cd7 ct7 oc8 kV8 dc8 pm8 cd8 ct8 oc9 kV9 dc9 pm9 cd9 ct9 oc10 kV10 dc10 pm10 cd10 ct10 oc11 kV11 dc11 pm11 cd11 ct11 oc12 kV12 dc12 pm12 cd12 ct12 oc13 kV13 dc13 pm13 cd13 ct13 oc14 kV14 dc14 pm14 cd14 ct14 oc15 kV15 dc15 pm15 cd15 ct15 oc16 kV16 dc16 pm16 cd16 ct16 oc17 kV17 dc17 pm17 cd17 ct17 oc18 kV18 dc18 pm18 cd18 ct18 oc19 kV19 dc19 pm19 cd19 ct19 oc20 kV20 dc20 pm20 cd20 ct20 oc21 kV21 dc21 pm21 cd21 ct21 oc22 kV22 dc22 pm22 cd22 ct22 : Value}
    (X : K.In h) (G : h.Ns mainGlobals mg) (hfa : mg "law" = some (.ref fa))
    (a0 : PySem.W.nsIn K mainGlobals "is_whole" = some (some (.ref f0)))
    (l0 : K.lookup f0 = some ⟨oc0, od0, .func (PySem.W.fnOf "is_whole" "is_whole" (defArgs sIsWhole) (defBody sIsWhole) (defScope sIsWhole) .none kV0 dc0 pm0 an0 cd0 ct0), sl0⟩)
    (c0 : PySem.W.codeIn K cd0 "is_whole" = true)
    (k0 : PySem.W.keepIn K (.ref f0) = true)
    (a1 : PySem.W.nsIn K mainGlobals "is_within" = some (some (.ref f1)))
    (l1 : K.lookup f1 = some ⟨oc1, od1, .func (PySem.W.fnOf "is_within" "is_within" (defArgs sIsWithin) (defBody sIsWithin) (defScope sIsWithin) .none kV1 dc1 pm1 an1 cd1 ct1), sl1⟩)
    (c1 : PySem.W.codeIn K cd1 "is_within" = true)
    (k1 : PySem.W.keepIn K (.ref f1) = true)
    (a2 : PySem.W.nsIn K mainGlobals "are_rising" = some (some (.ref f2)))
    (l2 : K.lookup f2 = some ⟨oc2, od2, .func (PySem.W.fnOf "are_rising" "are_rising" (defArgs sAreRising) (defBody sAreRising) (defScope sAreRising) .none kV2 dc2 pm2 an2 cd2 ct2), sl2⟩)
    (c2 : PySem.W.codeIn K cd2 "are_rising" = true)
    (k2 : PySem.W.keepIn K (.ref f2) = true)
    (a3 : PySem.W.nsIn K mainGlobals "holders" = some (some (.ref f3)))
    (l3 : K.lookup f3 = some ⟨oc3, od3, .func (PySem.W.fnOf "holders" "holders" (defArgs sHolders) (defBody sHolders) (defScope sHolders) .none kV3 dc3 pm3 an3 cd3 ct3), sl3⟩)
    (c3 : PySem.W.codeIn K cd3 "holders" = true)
    (k3 : PySem.W.keepIn K (.ref f3) = true)
    (a4 : PySem.W.nsIn K mainGlobals "not_among" = some (some (.ref f4)))
    (l4 : K.lookup f4 = some ⟨oc4, od4, .func (PySem.W.fnOf "not_among" "not_among" (defArgs sNotAmong) (defBody sNotAmong) (defScope sNotAmong) .none kV4 dc4 pm4 an4 cd4 ct4), sl4⟩)
    (c4 : PySem.W.codeIn K cd4 "not_among" = true)
    (k4 : PySem.W.keepIn K (.ref f4) = true)
    (a5 : PySem.W.nsIn K mainGlobals "longer_by_one" = some (some (.ref f5)))
    (l5 : K.lookup f5 = some ⟨oc5, od5, .func (PySem.W.fnOf "longer_by_one" "longer_by_one" (defArgs sLongerByOne) (defBody sLongerByOne) (defScope sLongerByOne) .none kV5 dc5 pm5 an5 cd5 ct5), sl5⟩)
    (c5 : PySem.W.codeIn K cd5 "longer_by_one" = true)
    (k5 : PySem.W.keepIn K (.ref f5) = true)
    (a6 : PySem.W.nsIn K mainGlobals "fewest_discs" = some (some (.ref f6)))
    (l6 : K.lookup f6 = some ⟨oc6, od6, .func (PySem.W.fnOf "fewest_discs" "fewest_discs" (defArgs sFewestDiscs) (defBody sFewestDiscs) (defScope sFewestDiscs) .none kV6 dc6 pm6 an6 cd6 ct6), sl6⟩)
    (c6 : PySem.W.codeIn K cd6 "fewest_discs" = true)
    (k6 : PySem.W.keepIn K (.ref f6) = true)
    (a7 : PySem.W.nsIn K mainGlobals "shows_held" = some (some (.ref f7)))
    (l7 : K.lookup f7 = some ⟨oc7, od7, .func (PySem.W.fnOf "shows_held" "shows_held" (defArgs sShowsHeld) (defBody sShowsHeld) (defScope sShowsHeld) .none kV7 dc7 pm7 an7 cd7 ct7), sl7⟩)
    (c7 : PySem.W.codeIn K cd7 "shows_held" = true)
    (k7 : PySem.W.keepIn K (.ref f7) = true)
    (a8 : PySem.W.nsIn K mainGlobals "book_for" = some (some (.ref f8)))
    (l8 : K.lookup f8 = some ⟨oc8, od8, .func (PySem.W.fnOf "book_for" "book_for" (defArgs sBookFor) (defBody sBookFor) (defScope sBookFor) .none kV8 dc8 pm8 an8 cd8 ct8), sl8⟩)
    (c8 : PySem.W.codeIn K cd8 "book_for" = true)
    (k8 : PySem.W.keepIn K (.ref f8) = true)
    (a9 : PySem.W.nsIn K mainGlobals "book_of" = some (some (.ref f9)))
    (l9 : K.lookup f9 = some ⟨oc9, od9, .func (PySem.W.fnOf "book_of" "book_of" (defArgs sBookOf) (defBody sBookOf) (defScope sBookOf) .none kV9 dc9 pm9 an9 cd9 ct9), sl9⟩)
    (c9 : PySem.W.codeIn K cd9 "book_of" = true)
    (k9 : PySem.W.keepIn K (.ref f9) = true)
    (a10 : PySem.W.nsIn K mainGlobals "is_missing" = some (some (.ref f10)))
    (l10 : K.lookup f10 = some ⟨oc10, od10, .func (PySem.W.fnOf "is_missing" "is_missing" (defArgs sIsMissing) (defBody sIsMissing) (defScope sIsMissing) .none kV10 dc10 pm10 an10 cd10 ct10), sl10⟩)
    (c10 : PySem.W.codeIn K cd10 "is_missing" = true)
    (k10 : PySem.W.keepIn K (.ref f10) = true)
    (a11 : PySem.W.nsIn K mainGlobals "shows_by_taking" = some (some (.ref f11)))
    (l11 : K.lookup f11 = some ⟨oc11, od11, .func (PySem.W.fnOf "shows_by_taking" "shows_by_taking" (defArgs sShowsByTaking) (defBody sShowsByTaking) (defScope sShowsByTaking) .none kV11 dc11 pm11 an11 cd11 ct11), sl11⟩)
    (c11 : PySem.W.codeIn K cd11 "shows_by_taking" = true)
    (k11 : PySem.W.keepIn K (.ref f11) = true)
    (a12 : PySem.W.nsIn K mainGlobals "shows_by_some" = some (some (.ref f12)))
    (l12 : K.lookup f12 = some ⟨oc12, od12, .func (PySem.W.fnOf "shows_by_some" "shows_by_some" (defArgs sShowsBySome) (defBody sShowsBySome) (defScope sShowsBySome) .none kV12 dc12 pm12 an12 cd12 ct12), sl12⟩)
    (c12 : PySem.W.codeIn K cd12 "shows_by_some" = true)
    (k12 : PySem.W.keepIn K (.ref f12) = true)
    (a13 : PySem.W.nsIn K mainGlobals "is_book" = some (some (.ref f13)))
    (l13 : K.lookup f13 = some ⟨oc13, od13, .func (PySem.W.fnOf "is_book" "is_book" (defArgs sIsBook) (defBody sIsBook) (defScope sIsBook) .none kV13 dc13 pm13 an13 cd13 ct13), sl13⟩)
    (c13 : PySem.W.codeIn K cd13 "is_book" = true)
    (k13 : PySem.W.keepIn K (.ref f13) = true)
    (a14 : PySem.W.nsIn K mainGlobals "shows_none" = some (some (.ref f14)))
    (l14 : K.lookup f14 = some ⟨oc14, od14, .func (PySem.W.fnOf "shows_none" "shows_none" (defArgs sShowsNone) (defBody sShowsNone) (defScope sShowsNone) .none kV14 dc14 pm14 an14 cd14 ct14), sl14⟩)
    (c14 : PySem.W.codeIn K cd14 "shows_none" = true)
    (k14 : PySem.W.keepIn K (.ref f14) = true)
    (a15 : PySem.W.nsIn K mainGlobals "_law_hand" = some (some (.ref f15)))
    (l15 : K.lookup f15 = some ⟨oc15, od15, .func (PySem.W.fnOf "_law_hand" "_law_hand" (defArgs sHand) (defBody sHand) (defScope sHand) .none kV15 dc15 pm15 an15 cd15 ct15), sl15⟩)
    (c15 : PySem.W.codeIn K cd15 "_law_hand" = true)
    (k15 : PySem.W.keepIn K (.ref f15) = true)
    (a16 : PySem.W.nsIn K mainGlobals "_law_take" = some (some (.ref f16)))
    (l16 : K.lookup f16 = some ⟨oc16, od16, .func (PySem.W.fnOf "_law_take" "_law_take" (defArgs sTake) (defBody sTake) (defScope sTake) .none kV16 dc16 pm16 an16 cd16 ct16), sl16⟩)
    (c16 : PySem.W.codeIn K cd16 "_law_take" = true)
    (k16 : PySem.W.keepIn K (.ref f16) = true)
    (a17 : PySem.W.nsIn K mainGlobals "_law_pick" = some (some (.ref f17)))
    (l17 : K.lookup f17 = some ⟨oc17, od17, .func (PySem.W.fnOf "_law_pick" "_law_pick" (defArgs sPick) (defBody sPick) (defScope sPick) .none kV17 dc17 pm17 an17 cd17 ct17), sl17⟩)
    (c17 : PySem.W.codeIn K cd17 "_law_pick" = true)
    (k17 : PySem.W.keepIn K (.ref f17) = true)
    (a18 : PySem.W.nsIn K mainGlobals "_law_numbers" = some (some (.ref f18)))
    (l18 : K.lookup f18 = some ⟨oc18, od18, .func (PySem.W.fnOf "_law_numbers" "_law_numbers" (defArgs sNumbers) (defBody sNumbers) (defScope sNumbers) .none kV18 dc18 pm18 an18 cd18 ct18), sl18⟩)
    (c18 : PySem.W.codeIn K cd18 "_law_numbers" = true)
    (k18 : PySem.W.keepIn K (.ref f18) = true)
    (a19 : PySem.W.nsIn K mainGlobals "_law_case" = some (some (.ref f19)))
    (l19 : K.lookup f19 = some ⟨oc19, od19, .func (PySem.W.fnOf "_law_case" "_law_case" (defArgs sCase) (defBody sCase) (defScope sCase) .none kV19 dc19 pm19 an19 cd19 ct19), sl19⟩)
    (c19 : PySem.W.codeIn K cd19 "_law_case" = true)
    (k19 : PySem.W.keepIn K (.ref f19) = true)
    (a20 : PySem.W.nsIn K mainGlobals "_law_alike" = some (some (.ref f20)))
    (l20 : K.lookup f20 = some ⟨oc20, od20, .func (PySem.W.fnOf "_law_alike" "_law_alike" (defArgs sAlike) (defBody sAlike) (defScope sAlike) .none kV20 dc20 pm20 an20 cd20 ct20), sl20⟩)
    (c20 : PySem.W.codeIn K cd20 "_law_alike" = true)
    (k20 : PySem.W.keepIn K (.ref f20) = true)
    (a21 : PySem.W.nsIn K mainGlobals "_law_right" = some (some (.ref f21)))
    (l21 : K.lookup f21 = some ⟨oc21, od21, .func (PySem.W.fnOf "_law_right" "_law_right" (defArgs sRight) (defBody sRight) (defScope sRight) .none kV21 dc21 pm21 an21 cd21 ct21), sl21⟩)
    (c21 : PySem.W.codeIn K cd21 "_law_right" = true)
    (k21 : PySem.W.keepIn K (.ref f21) = true)
    (a22 : PySem.W.nsIn K mainGlobals "law" = some (some (.ref f22)))
    (l22 : K.lookup f22 = some ⟨oc22, od22, .func (PySem.W.fnOf "law" "law" (defArgs sLaw) (defBody sLaw) (defScope sLaw) .none kV22 dc22 pm22 an22 cd22 ct22), sl22⟩)
    (c22 : PySem.W.codeIn K cd22 "law" = true)
    (k22 : PySem.W.keepIn K (.ref f22) = true)
    (tcode : cd8 = .ref cB)
    (tmem : pB ∈ ts)
    (thd : PySem.W.codeHdIn K cB pB = true)
    (tlk : K.lookup pB = none)
    (z_int : PySem.W.nsIn K mainGlobals "int" = some none)
    (z_tuple : PySem.W.nsIn K mainGlobals "tuple" = some none)
    (z_len : PySem.W.nsIn K mainGlobals "len" = some none)
    (z_any : PySem.W.nsIn K mainGlobals "any" = some none)
    (z_range : PySem.W.nsIn K mainGlobals "range" = some none)
    (z_max : PySem.W.nsIn K mainGlobals "max" = some none)
    (z_min : PySem.W.nsIn K mainGlobals "min" = some none)
    (z_sorted : PySem.W.nsIn K mainGlobals "sorted" = some none)
    (z_enumerate : PySem.W.nsIn K mainGlobals "enumerate" = some none)
    (z_isinstance : PySem.W.nsIn K mainGlobals "isinstance" = some none)
    (z_bool : PySem.W.nsIn K mainGlobals "bool" = some none)
    (z_str : PySem.W.nsIn K mainGlobals "str" = some none)
    (z_all : PySem.W.nsIn K mainGlobals "all" = some none)
    (z_zip : PySem.W.nsIn K mainGlobals "zip" = some none)
    (z_repr : PySem.W.nsIn K mainGlobals "repr" = some none)
    : ∃ (cB pB : Addr) (fd : FuncData), pB ∈ ts ∧ PySem.W.codeHdIn K cB pB = true ∧ K.lookup pB = none ∧ (∀ (s : Shared) (v : Value), BindsTo s fd ⟨[v], []⟩ [("_law_script", v)]) ∧
      (∀ (H : Hp) (a : Addr) (ns : List Int), ns.length ≤ 63 → H pB = some (.tbl #[]) → SqL K H a (ns.map V.int) → spLaw pB K [.ref a] H (fun v _ => v = .bl true) fun _ _ _ => False) ∧
      ∀ base : Heap, K.In base → base.Ns mainGlobals mg → base.NoDigits → LamX.TabB base mg cB pB → Gn l.prog w K mg base 35 fa fd ["_law_script"] (spLaw pB K) := by
  have e := hfa.symm.trans (PySem.W.mg_of X G a22)
  cases e
  have F0 := fun_mk (st := sIsWhole) l0 c0 k0
  have D0 : Df K mg "is_whole" ["thing"] sIsWhole f0 _ := ⟨F0, PySem.W.mg_of X G a0, F0.binds (ps := ["thing"]) fun _ _ _ _ _ _ us hl => match us, hl with | [_], _ => rfl⟩
  have F1 := fun_mk (st := sIsWithin) l1 c1 k1
  have D1 : Df K mg "is_within" ["thing", "least", "most"] sIsWithin f1 _ := ⟨F1, PySem.W.mg_of X G a1, F1.binds (ps := ["thing", "least", "most"]) fun _ _ _ _ _ _ us hl => match us, hl with | [_, _, _], _ => rfl⟩
  have F2 := fun_mk (st := sAreRising) l2 c2 k2
  have D2 : Df K mg "are_rising" ["things"] sAreRising f2 _ := ⟨F2, PySem.W.mg_of X G a2, F2.binds (ps := ["things"]) fun _ _ _ _ _ _ us hl => match us, hl with | [_], _ => rfl⟩
  have F3 := fun_mk (st := sHolders) l3 c3 k3
  have D3 : Df K mg "holders" ["held", "wish"] sHolders f3 _ := ⟨F3, PySem.W.mg_of X G a3, F3.binds (ps := ["held", "wish"]) fun _ _ _ _ _ _ us hl => match us, hl with | [_, _], _ => rfl⟩
  have F4 := fun_mk (st := sNotAmong) l4 c4 k4
  have D4 : Df K mg "not_among" ["things", "wishes"] sNotAmong f4 _ := ⟨F4, PySem.W.mg_of X G a4, F4.binds (ps := ["things", "wishes"]) fun _ _ _ _ _ _ us hl => match us, hl with | [_, _], _ => rfl⟩
  have F5 := fun_mk (st := sLongerByOne) l5 c5 k5
  have D5 : Df K mg "longer_by_one" ["held", "discs", "missing"] sLongerByOne f5 _ := ⟨F5, PySem.W.mg_of X G a5, F5.binds (ps := ["held", "discs", "missing"]) fun _ _ _ _ _ _ us hl => match us, hl with | [_, _, _], _ => rfl⟩
  have F6 := fun_mk (st := sFewestDiscs) l6 c6 k6
  have D6 : Df K mg "fewest_discs" ["held", "wishes"] sFewestDiscs f6 _ := ⟨F6, PySem.W.mg_of X G a6, F6.binds (ps := ["held", "wishes"]) fun _ _ _ _ _ _ us hl => match us, hl with | [_, _], _ => rfl⟩
  have F7 := fun_mk (st := sShowsHeld) l7 c7 k7
  have D7 : Df K mg "shows_held" ["held", "wishes", "thing"] sShowsHeld f7 _ := ⟨F7, PySem.W.mg_of X G a7, F7.binds (ps := ["held", "wishes", "thing"]) fun _ _ _ _ _ _ us hl => match us, hl with | [_, _, _], _ => rfl⟩
  have F8 := fun_mk (st := sBookFor) l8 c8 k8
  have D8 : Df K mg "book_for" ["held", "missing", "left"] sBookFor f8 _ := ⟨F8, PySem.W.mg_of X G a8, F8.binds (ps := ["held", "missing", "left"]) fun _ _ _ _ _ _ us hl => match us, hl with | [_, _, _], _ => rfl⟩
  have F9 := fun_mk (st := sBookOf) l9 c9 k9
  have D9 : Df K mg "book_of" ["held", "wishes", "many"] sBookOf f9 _ := ⟨F9, PySem.W.mg_of X G a9, F9.binds (ps := ["held", "wishes", "many"]) fun _ _ _ _ _ _ us hl => match us, hl with | [_, _, _], _ => rfl⟩
  have F10 := fun_mk (st := sIsMissing) l10 c10 k10
  have D10 : Df K mg "is_missing" ["missing", "thing"] sIsMissing f10 _ := ⟨F10, PySem.W.mg_of X G a10, F10.binds (ps := ["missing", "thing"]) fun _ _ _ _ _ _ us hl => match us, hl with | [_, _], _ => rfl⟩
  have F11 := fun_mk (st := sShowsByTaking) l11 c11 k11
  have D11 : Df K mg "shows_by_taking" ["held", "missing", "left", "wish", "books"] sShowsByTaking f11 _ := ⟨F11, PySem.W.mg_of X G a11, F11.binds (ps := ["held", "missing", "left", "wish", "books"]) fun _ _ _ _ _ _ us hl => match us, hl with | [_, _, _, _, _], _ => rfl⟩
  have F12 := fun_mk (st := sShowsBySome) l12 c12 k12
  have D12 : Df K mg "shows_by_some" ["held", "missing", "left", "some"] sShowsBySome f12 _ := ⟨F12, PySem.W.mg_of X G a12, F12.binds (ps := ["held", "missing", "left", "some"]) fun _ _ _ _ _ _ us hl => match us, hl with | [_, _, _, _], _ => rfl⟩
  have F13 := fun_mk (st := sIsBook) l13 c13 k13
  have D13 : Df K mg "is_book" ["held", "missing", "left", "thing"] sIsBook f13 _ := ⟨F13, PySem.W.mg_of X G a13, F13.binds (ps := ["held", "missing", "left", "thing"]) fun _ _ _ _ _ _ us hl => match us, hl with | [_, _, _, _], _ => rfl⟩
  have F14 := fun_mk (st := sShowsNone) l14 c14 k14
  have D14 : Df K mg "shows_none" ["held", "wishes", "many", "thing"] sShowsNone f14 _ := ⟨F14, PySem.W.mg_of X G a14, F14.binds (ps := ["held", "wishes", "many", "thing"]) fun _ _ _ _ _ _ us hl => match us, hl with | [_, _, _, _], _ => rfl⟩
  have F15 := fun_mk (st := sHand) l15 c15 k15
  have D15 : Df K mg "_law_hand" ["_law_script", "_law_k"] sHand f15 _ := ⟨F15, PySem.W.mg_of X G a15, F15.binds (ps := ["_law_script", "_law_k"]) fun _ _ _ _ _ _ us hl => match us, hl with | [_, _], _ => rfl⟩
  have F16 := fun_mk (st := sTake) l16 c16 k16
  have D16 : Df K mg "_law_take" ["_law_hand_here", "_law_size"] sTake f16 _ := ⟨F16, PySem.W.mg_of X G a16, F16.binds (ps := ["_law_hand_here", "_law_size"]) fun _ _ _ _ _ _ us hl => match us, hl with | [_, _], _ => rfl⟩
  have F17 := fun_mk (st := sPick) l17 c17 k17
  have D17 : Df K mg "_law_pick" ["_law_hand_here", "_law_some"] sPick f17 _ := ⟨F17, PySem.W.mg_of X G a17, F17.binds (ps := ["_law_hand_here", "_law_some"]) fun _ _ _ _ _ _ us hl => match us, hl with | [_, _], _ => rfl⟩
  have F18 := fun_mk (st := sNumbers) l18 c18 k18
  have D18 : Df K mg "_law_numbers" ["_law_hand_here", "_law_size"] sNumbers f18 _ := ⟨F18, PySem.W.mg_of X G a18, F18.binds (ps := ["_law_hand_here", "_law_size"]) fun _ _ _ _ _ _ us hl => match us, hl with | [_, _], _ => rfl⟩
  have F19 := fun_mk (st := sCase) l19 c19 k19
  have D19 : Df K mg "_law_case" ["_law_hand_here", "_law_most_discs", "_law_most_wanted"] sCase f19 _ := ⟨F19, PySem.W.mg_of X G a19, F19.binds (ps := ["_law_hand_here", "_law_most_discs", "_law_most_wanted"]) fun _ _ _ _ _ _ us hl => match us, hl with | [_, _, _], _ => rfl⟩
  have F20 := fun_mk (st := sAlike) l20 c20 k20
  have D20 : Df K mg "_law_alike" ["_law_told"] sAlike f20 _ := ⟨F20, PySem.W.mg_of X G a20, F20.binds (ps := ["_law_told"]) fun _ _ _ _ _ _ us hl => match us, hl with | [_], _ => rfl⟩
  have F21 := fun_mk (st := sRight) l21 c21 k21
  have D21 : Df K mg "_law_right" ["_law_hand_here", "_law_discs_here", "_law_wanted"] sRight f21 _ := ⟨F21, PySem.W.mg_of X G a21, F21.binds (ps := ["_law_hand_here", "_law_discs_here", "_law_wanted"]) fun _ _ _ _ _ _ us hl => match us, hl with | [_, _, _], _ => rfl⟩
  have F22 := fun_mk (st := sLaw) l22 c22 k22
  have D22 : Df K mg "law" ["_law_script"] sLaw fa _ := ⟨F22, PySem.W.mg_of X G a22, F22.binds (ps := ["_law_script"]) fun _ _ _ _ _ _ us hl => match us, hl with | [_], _ => rfl⟩
  have T : Txt mg := ⟨PySem.W.mg_none_of X G z_int,
    PySem.W.mg_none_of X G z_tuple,
    PySem.W.mg_none_of X G z_len,
    PySem.W.mg_none_of X G z_any,
    PySem.W.mg_none_of X G z_range,
    PySem.W.mg_none_of X G z_max,
    PySem.W.mg_none_of X G z_min,
    PySem.W.mg_none_of X G z_sorted,
    PySem.W.mg_none_of X G z_enumerate,
    PySem.W.mg_none_of X G z_isinstance,
    PySem.W.mg_none_of X G z_bool,
    PySem.W.mg_none_of X G z_str,
    PySem.W.mg_none_of X G z_all,
    PySem.W.mg_none_of X G z_zip,
    PySem.W.mg_none_of X G z_repr⟩
  refine ⟨cB, pB, PySem.W.fnOf "law" "law" (defArgs sLaw) (defBody sLaw) (defScope sLaw) .none kV22 dc22 pm22 an22 cd22 ct22, tmem, thd, tlk, fun s v => .of_eq rfl, fun H a ns hl hH hS => ⟨a, ns, rfl, hS, hl, fun p hp => ?t, fun _ => rfl⟩, fun base kb gb nd TB => ?g⟩
  case t =>
    rw [List.mem_singleton.mp hp]
    exact .nil hH
  case g =>
    have cHo := D3.ca (ok_holders (P := l.prog) (w := w) (base := base) D3 T)
    have cNA := D4.ca (ok_na (P := l.prog) (w := w) (base := base) D4 T)
    have cWG := D0.ca (ok_wholeG (P := l.prog) (w := w) (base := base) D0 T)
    have cMG := D10.ca (ok_misG D10 cWG)
    have cR := D2.ca (ok_ris (P := l.prog) (w := w) (base := base) D2 T)
    have cSo := D12.ca (ok_somG D12 T cMG cR)
    have cIBn : ∀ n : Nat, Ca l.prog w K mg base (2 * n + 4) "is_book" ["held", "missing", "left", "thing"] (spIBG K n) := by
      intro n
      induction n with
      | zero => exact D13.ca (ok_ibG (n := 0) D13 T cMG (D11.ca (ok_tkG (n := 0) D11 T cHo cNA cMG D13.no)) cSo)
      | succ n ih => exact D13.ca (ok_ibG (n := n + 1) D13 T cMG (D11.ca (ok_tkG (n := n + 1) D11 T cHo cNA cMG ih)) cSo)
    have cIB : ∀ n : Nat, n ≤ 14 → Ca l.prog w K mg base 32 "is_book" ["held", "missing", "left", "thing"] (spIBG K n) := fun n h => (cIBn n).mono (by omega)
    have oN := ok_snG D14 cIB
    have cLo := D5.ca (ok_longer D5 T cNA)
    have oF := ok_few D6 T cHo cLo
    have cFe := D6.ca oF
    have cBFn : ∀ n : Nat, Ca l.prog w K mg base (n + 5) "book_for" ["held", "missing", "left"] (spBF pB n) := by
      intro n
      induction n with
      | zero => exact D8.ca (ok_bf (n := 0) D8 tcode TB T cHo cNA D8.no)
      | succ n ih => exact D8.ca (ok_bf (n := n + 1) D8 tcode TB T cHo cNA ih)
    have cBF : ∀ n : Nat, n ≤ 14 → Ca l.prog w K mg base 19 "book_for" ["held", "missing", "left"] (spBF pB n) := fun n h => (cBFn n).mono (by omega)
    have oB := (ok_bo D9 T cFe cBF).imp (bo_d (pB := pB))
    have cI := D1.ca (ok_within D1 cWG)
    have oW := ok_held D7 T cI cR
    have cH := D15.ca (ok_hand (P := l.prog) (w := w) (base := base) D15 T)
    have cT := D16.ca (ok_take (P := l.prog) (w := w) (base := base) D16)
    have cP := D17.ca (ok_pick D17 T cT)
    have cNu := D18.ca (ok_numbers D18 T cT cP)
    have cC := D19.ca (ok_case D19 T cT cP cNu)
    have GA := ok_alike (P := l.prog) (w := w) (base := base) D20 T
    have GR := ok_right D21 T cT oF D6.mgf D6.fn.kp (D6.ca oF) ⟨fun s us ws _ l1 l2 => match us, ws, l1, l2 with | [], [_, _], _, _ => .of_eq rfl, fun r1 r2 => vals_perm _ r1 r2⟩ ⟨fun s us ws _ l1 l2 => match us, ws, l1, l2 with | [], [_, _], _, _ => .of_eq rfl, fun r1 r2 => vals_perm _ r1 r2⟩ ⟨fun s us ws _ l1 l2 => match us, ws, l1, l2 with | [_], [_], _, _ => .of_eq rfl, fun r1 r2 => vals_perm _ r1 r2⟩ oW D7.mgf D7.fn.kp (D7.ca oW) ⟨fun s us ws _ l1 l2 => match us, ws, l1, l2 with | [], [_, _, _], _, _ => .of_eq rfl, fun r1 r2 => vals_perm _ r1 r2⟩ ⟨fun s us ws _ l1 l2 => match us, ws, l1, l2 with | [_], [_, _], _, _ => .of_eq rfl, fun r1 r2 => vals_perm _ r1 r2⟩ oB D9.mgf D9.fn.kp (D9.ca oB) ⟨fun s us ws _ l1 l2 => match us, ws, l1, l2 with | [], [_, _, _], _, _ => .of_eq rfl, fun r1 r2 => vals_perm _ r1 r2⟩ ⟨fun s us ws _ l1 l2 => match us, ws, l1, l2 with | [_], [_, _], _, _ => .of_eq rfl, fun r1 r2 => vals_perm _ r1 r2⟩ oN D14.mgf D14.fn.kp (D14.ca oN) ⟨fun s us ws _ l1 l2 => match us, ws, l1, l2 with | [], [_, _, _, _], _, _ => .of_eq rfl, fun r1 r2 => vals_perm _ r1 r2⟩ ⟨fun s us ws _ l1 l2 => match us, ws, l1, l2 with | [_, _], [_, _], _, _ => .of_eq rfl, fun r1 r2 => vals_perm _ r1 r2⟩ D20 GA
    exact ok_law D22 T cH cC D21 GR
end K62
open PySem PySem.W PyProof.Rows L2
set_option maxRecDepth 100000 in
set_option maxHeartbeats 0 in
theorem PySem.Challenge.cw_takesworks_k62_wishes_by_names_holds : PySem.Challenge.rw_takesworks_k62_wishes_by_names.Holds := by
  w_on; o_law; k_head; (case hw => w_witness2)
  k_fill
  refine K62.walk_goT (l := PySem.Challenge.rw_takesworks_k62_wishes_by_names) (n := 63) (k := 35) (x := "_law_script") (sp := K62.spLaw) rfl (by decide) rfl ⟨rfl, by decide, by decide⟩ (fun w h Y => ⟨PySem.W.km_in_of Y, PySem.W.km_tabs_of Y⟩) ?F
  case F =>
    intro w mg fa h KX G hmg
    refine' K62.all_mk KX G hmg ?a0 ?l0 ?c0 ?k0 ?a1 ?l1 ?c1 ?k1 ?a2 ?l2 ?c2 ?k2 ?a3 ?l3 ?c3 ?k3 ?a4 ?l4 ?c4 ?k4 ?a5 ?l5 ?c5 ?k5 ?a6 ?l6 ?c6 ?k6 ?a7 ?l7 ?c7 ?k7 ?a8 ?l8 ?c8 ?k8 ?a9 ?l9 ?c9 ?k9 ?a10 ?l10 ?c10 ?k10 ?a11 ?l11 ?c11 ?k11 ?a12 ?l12 ?c12 ?k12 ?a13 ?l13 ?c13 ?k13 ?a14 ?l14 ?c14 ?k14 ?a15 ?l15 ?c15 ?k15 ?a16 ?l16 ?c16 ?k16 ?a17 ?l17 ?c17 ?k17 ?a18 ?l18 ?c18 ?k18 ?a19 ?l19 ?c19 ?k19 ?a20 ?l20 ?c20 ?k20 ?a21 ?l21 ?c21 ?k21 ?a22 ?l22 ?c22 ?k22 ?tcode ?tmem ?thd ?tlk ?z_int ?z_tuple ?z_len ?z_any ?z_range ?z_max ?z_min ?z_sorted ?z_enumerate ?z_isinstance ?z_bool ?z_str ?z_all ?z_zip ?z_repr
    (case a0 => k_is)
    (case l0 => k_is)
    (case c0 => k_is)
    (case k0 => k_is)
    (case a1 => k_is)
    (case l1 => k_is)
    (case c1 => k_is)
    (case k1 => k_is)
    (case a2 => k_is)
    (case l2 => k_is)
    (case c2 => k_is)
    (case k2 => k_is)
    (case a3 => k_is)
    (case l3 => k_is)
    (case c3 => k_is)
    (case k3 => k_is)
    (case a4 => k_is)
    (case l4 => k_is)
    (case c4 => k_is)
    (case k4 => k_is)
    (case a5 => k_is)
    (case l5 => k_is)
    (case c5 => k_is)
    (case k5 => k_is)
    (case a6 => k_is)
    (case l6 => k_is)
    (case c6 => k_is)
    (case k6 => k_is)
    (case a7 => k_is)
    (case l7 => k_is)
    (case c7 => k_is)
    (case k7 => k_is)
    (case a8 => k_is)
    (case l8 => k_is)
    (case c8 => k_is)
    (case k8 => k_is)
    (case a9 => k_is)
    (case l9 => k_is)
    (case c9 => k_is)
    (case k9 => k_is)
    (case a10 => k_is)
    (case l10 => k_is)
    (case c10 => k_is)
    (case k10 => k_is)
    (case a11 => k_is)
    (case l11 => k_is)
    (case c11 => k_is)
    (case k11 => k_is)
    (case a12 => k_is)
    (case l12 => k_is)
    (case c12 => k_is)
    (case k12 => k_is)
    (case a13 => k_is)
    (case l13 => k_is)
    (case c13 => k_is)
    (case k13 => k_is)
    (case a14 => k_is)
    (case l14 => k_is)
    (case c14 => k_is)
    (case k14 => k_is)
    (case a15 => k_is)
    (case l15 => k_is)
    (case c15 => k_is)
    (case k15 => k_is)
    (case a16 => k_is)
    (case l16 => k_is)
    (case c16 => k_is)
    (case k16 => k_is)
    (case a17 => k_is)
    (case l17 => k_is)
    (case c17 => k_is)
    (case k17 => k_is)
    (case a18 => k_is)
    (case l18 => k_is)
    (case c18 => k_is)
    (case k18 => k_is)
    (case a19 => k_is)
    (case l19 => k_is)
    (case c19 => k_is)
    (case k19 => k_is)
    (case a20 => k_is)
    (case l20 => k_is)
    (case c20 => k_is)
    (case k20 => k_is)
    (case a21 => k_is)
    (case l21 => k_is)
    (case c21 => k_is)
    (case k21 => k_is)
    (case a22 => k_is)
    (case l22 => k_is)
    (case c22 => k_is)
    (case k22 => k_is)
    (case tcode => exact rfl)
    (case tmem => exact List.mem_singleton.mpr rfl)
    (case thd => first | kernel_rfl | exact rfl)
    (case tlk => first | kernel_rfl | exact rfl)
    (case z_int => k_is)
    (case z_tuple => k_is)
    (case z_len => k_is)
    (case z_any => k_is)
    (case z_range => k_is)
    (case z_max => k_is)
    (case z_min => k_is)
    (case z_sorted => k_is)
    (case z_enumerate => k_is)
    (case z_isinstance => k_is)
    (case z_bool => k_is)
    (case z_str => k_is)
    (case z_all => k_is)
    (case z_zip => k_is)
    (case z_repr => k_is)
