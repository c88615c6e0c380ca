import PyProof.Rows.All
import Wide.All
import OpenK.AllK
import Wide.FinOn
import HandS.ForMost
import HandS.ForExc
import HandS.Wide
import HandS.Flow
import HandS.IsInst
import HandS.Codes
import HandS.ExcInit
import HandS.ExcField
import HandS.ExcIs
import HandS.CallSlots
import HandS.Defaults
import HandS.MakeKw
import HandS.MakeKwOnly
import KE.KExcIs
import KE.KTryMore
import HandS.RaiseMore
import HandS.FStrTup
import PyProof.ReprRoads
import PyProof.StrLawsRepr
import KE.GoesMore
import HandS.Iter
import HandS.Walk
import HandS.More
import KE.GoesZip
import KE.GoesEnum
import PyProof.NeKinds
import HandS.TupAny
import HandS.Style
import HandS.TupLe
import PyProof.StrOps2
import HandS.Zip
import HandS.SortInts
import HandS.Deep
import HandS.StrMore
import HandS.Conv
import PySem.Challenge.RW_takesworks_k37_works_or_not
set_option Elab.async false
set_option linter.all false
set_option maxRecDepth 100000
set_option maxHeartbeats 4000000
set_option pp.maxSteps 400
set_option pp.deepTerms false
/-! A caught exception that is kept: tracked as an object of its own, with its class and its dict. -/
namespace Xk
open PySem PySem.Spec PyProof.Rows L2
/-- at a: an exception of the class cls, its dict at d (if it has one) -/
def ExK (cls : Value) (d : Option Addr) (a : Addr) : HO := .ext fun h => ∃ oe : Obj, h.get? a = some oe ∧ Zc cls d oe ∧ ∃ vs, oe.data = .fields vs
theorem exK_ok {P : Program} {w : World} {H : Hp} {h : Heap} {a : Addr} {cls : Value} {d : Option Addr} {oe : Obj} {vs : Array Value}
    (e : h.get? a = some oe) (z : Zc cls d oe) (hd : oe.data = .fields vs) : ObjOk P w H h a (ExK cls d a) :=
  ⟨⟨oe, e, z, vs, hd⟩, ⟨oe, e⟩, fun _ _ y k => by
    obtain ⟨o, q, r⟩ := y
    exact ⟨o, k o q, r⟩⟩
theorem exK_at {P : Program} {w : World} {H : Hp} {h : Heap} {a : Addr} {cls : Value} {d : Option Addr} (hok : HOk P w H h) (e : H a = some (ExK cls d a)) :
    ∃ oe : Obj, h.get? a = some oe ∧ Zc cls d oe ∧ ∃ vs, oe.data = .fields vs := by
  have z : ObjOk P w H h a (.ext fun h => ∃ oe : Obj, h.get? a = some oe ∧ Zc cls d oe ∧ ∃ vs, oe.data = .fields vs) := hok a _ e
  exact z.1
section
variable {X : Cx} {pins : List (Addr × Obj)} {σ : L2.St} {H : Hp} {s : Shared}
/-- an object that came during the call, untracked as yet, is tracked from here on -/
theorem track {a : Addr} {o : HO} (I : Inv X pins σ H s) (h0 : X.s_0.heap.get? a = none) (na : H a = none) (nL : a ≠ X.env.locals)
    (nC : ∀ x c, X.env.cells.lookup x = some c → c ≠ a) (nP : ∀ p ∈ X.pn ++ pins, p.1 ≠ a) (new : ObjOk X.prog X.w (upd H a o) s.heap a o) : Inv X pins σ (upd H a o) s := by
  have n0 : ∀ {b : Addr} {u : Obj}, X.s_0.heap.get? b = some u → b ≠ a := fun {b u} e z => by
    rw [z, h0] at e
    cases e
  refine ⟨I.ok, I.os, I.bare, ⟨I.base.keep, I.base.slot, fun b u e n hx => ?_, I.base.there, fun b xs e => ?_, fun b u v e => ?_, fun b ps e => ?_⟩, I.loc, I.cell, ?_, fun x c e => ?_, fun p hp => ?_, fun b u e => ?_, I.len⟩
  · rw [upd_ne (n0 e)]
    exact I.base.free b u e n hx
  · have q := I.base.tups b xs e
    rw [upd_ne (ne_of_none q na)]
    exact q
  · have q := I.base.frzs b u v e
    rw [upd_ne (ne_of_none q na)]
    exact q
  · obtain ⟨m, q⟩ := I.base.tbls b ps e
    exact ⟨m, by rw [upd_ne (ne_of_none q na)]; exact q⟩
  · rw [upd_ne (Ne.symm nL)]
    exact I.free
  · rw [upd_ne (nC x c e)]
    exact I.freeC x c e
  · obtain ⟨e1, e2, e3⟩ := I.pin p hp
    exact ⟨e1, by rw [upd_ne (nP p hp)]; exact e2, e3⟩
  · by_cases hb : b = a
    · subst hb
      rw [upd_same] at e
      cases e
      exact new
    · rw [upd_ne hb] at e
      refine (I.hok b u e).stay (fun _ _ _ q => q) (fun c q => ?_) fun c xs q => ?_
      · rw [upd_ne (ne_of_none q na)]
        exact q
      · rw [upd_ne (ne_of_none q na)]
        exact q
end
theorem flying_kept {B h h' : Heap} {l : List Env} {a : Addr} {Z : Obj → Prop} (f : HandSPX.FlyingZ B l a Z h) (k : ∀ b o, h.get? b = some o → h'.get? b = some o) : HandSPX.FlyingZ B l a Z h' := by
  obtain ⟨f1, f2, f3, oe, vs, T, oT, ts, t1, t2, t3, t4, t5, t6, t7, t8, t9⟩ := f
  exact ⟨fun b o e => k b o (f1 b o e), f2, f3.of_keeps fun b o e _ => ⟨o, k b o e, rfl⟩, oe, vs, T, oT, ts, k _ _ t1, t2, t3, t4, t5, t6, k _ _ t7, t8, t9⟩
/-- what the clause 'except (A, B, C) as n' wishes of an exception of the body: slot i is n's; the exception is tracked -/
def wKeep (K : PySem.W.Frag) (cs : List Value) (i : Nat) (ts : Addr → TS) (Wout : WX) (D : Ends) : WX := fun cls d σ H =>
  ∃ b, PySem.W.exmAny K cls cs = some b ∧
    (b = true → ∀ a, H a = none → ts a { nx := fun σ' H' => D.nx (σ'.set i none) H', rt := D.rt, bk := fun σ' H' => D.bk (σ'.set i none) H', ct := fun σ' H' => D.ct (σ'.set i none) H' } (σ.set i (some (.ref a))) (upd H a (ExK cls d a))) ∧
    (b = false → Wout cls d σ H)
/-- a module's own class by its name -/
structure Nm (X : Cx) (x : Str) (C : Addr) : Prop where
  gl : Gl X x
  db : (x == ("__debug__" : Str)) = false
  mg : X.mg x = some (.ref C)
section
variable {X : Cx} {x1 x2 x3 n : Str} {C1 C2 C3 : Addr} {i : Nat} {body suite : List Stmt} {b₀ : Stmt} {p1 p2 p3 tp pos pos' : Pos} {tb : WX → TS} {ts : Addr → TS} {Wout : WX} {cx}
theorem ps_try_keep (hs : X.stack = X.env :: X.outer) (hf : X.env.frame = some X.env.locals) (hex : X.ex = []) (hN : X.N.Nodup) (hi : X.N[i]? = some n) (hln : X.env.kindOf n = some .local)
    (n1 : Nm X x1 C1) (n2 : Nm X x2 C2) (n3 : Nm X x3 C3) (tk : Takes X Wout)
    (hb : ∀ (W : WX) (pn : List (Addr × Obj)) (xe : Value → Shared → Prop), Takes (X.tr pn xe) W → PassesOwn (model X.prog X.w) X.A X.env xe → PSs (X.tr pn xe) body (tb W))
    (hsu : ∀ (a : Addr) (pn : List (Addr × Obj)), PSs (X.suite a pn) (b₀ :: suite) (ts a)) :
    PS X (.Try body [.ExceptHandler (some (.Tuple [.Name x1 p1, .Name x2 p2, .Name x3 p3] cx tp)) (some n) (b₀ :: suite) pos'] [] [] pos) (fun D σ H => tb (wKeep X.K [.ref C1, .ref C2, .ref C3] i ts Wout D) D σ H) := by
  refine ⟨fun pins s σ H D I h => ?_⟩
  have ok := I.ok
  have frs2 : X.A.frames = some (X.env :: X.outer) := by rw [ok.frames, hs]
  refine wpAny_Try_except ?_
  refine wpAny_mono ((hb (wKeep X.K [.ref C1, .ref C2, .ref C3] i ts Wout D) (X.pn ++ pins)
    (fun e s₁ => wpAny (model X.prog X.w) X.A (noteFrame e X.env) (fun _ s₂ => wpAny (model X.prog X.w) X.A (setFlight e none) (fun _ s₃ => wpAny (model X.prog X.w) X.A
      (handleBy e X.env [.ExceptHandler (some (.Tuple [.Name x1 p1, .Name x2 p2, .Name x3 p3] cx tp)) (some n) (b₀ :: suite) pos']) (SP X pins D) X.xe s₃) X.xe s₂) X.xe s₁)
    (fun u s' air => ?_) PassesOwn.looking).run [] s σ H D (I.toTry _) h) (fun f s1 hsp => ?_) (fun e s1 he => he)
  · obtain ⟨a, B, sI, pins', σ', H', cls, d, rfl, J', nb, up, sky, na, os, ag, b, hb1, hyes, hno⟩ := air
    have J : Inv X pins σ' H' sI := J'.ofTry ok
    have sky2 : Sky B (X.env :: X.outer) a (Zc cls d) X.env.locals s'.heap := by
      rw [← hs]
      exact sky
    refine Sky.land Zc.steady frs2 hf sky2 fun h3 fl3 up3 => ?_
    obtain ⟨oe3, vs3, he3, hz3, hd3⟩ := fl3.there
    have nfr : a ∉ frs (X.env :: X.outer) := fun hm => by
      obtain ⟨_, o', e', hnf⟩ := fl3.2.2.1.mem hm
      rw [he3] at e'
      cases e'
      exact hnf _ hd3
    have nL : a ≠ X.env.locals := fun z => nfr (List.mem_filterMap.mpr ⟨X.env, List.mem_cons_self, by rw [hf, z]⟩)
    have nF : a ∉ X.fs := fun hm => by
      obtain ⟨e, he, q⟩ := List.mem_filterMap.mp hm
      exact nfr (List.mem_filterMap.mpr ⟨e, List.mem_cons_of_mem _ he, q⟩)
    -- it was not there when the call began
    have aI : sI.heap.get? a = none := by
      cases e : sI.heap.get? a with
      | none => rfl
      | some o =>
        have z := nb a o e (by rw [hs]; exact nfr)
        rw [fl3.2.1] at z
        cases z
    have a0 : X.s_0.heap.get? a = none := by
      cases e : X.s_0.heap.get? a with
      | none => rfl
      | some o =>
        obtain ⟨o', z⟩ := J.base.there a o e (by rw [hex]; exact fun z => nomatch z)
        rw [aI] at z
        cases z
    have nP : ∀ p ∈ X.pn ++ pins, p.1 ≠ a := fun p hp z => by
      have q := (J.pin p hp).1
      rw [z, aI] at q
      cases q
    have trk : ∀ {h4 : Heap} {s4 : Shared}, s4.heap = h4 → HandSPX.FlyingZ B (X.env :: X.outer) a (Zc cls d) h4 → Inv X pins σ' H' s4 → Inv X pins σ' (upd H' a (ExK cls d a)) s4 := fun {h4 s4} e4 fl4 J4 => by
      subst e4
      obtain ⟨oe4, vs4, he4, hz4, hd4⟩ := fl4.there
      refine track J4 a0 na nL (fun x c e z => ?_) nP (exK_ok he4 hz4 hd4)
      obtain ⟨v, o, eo, ed⟩ := J4.cell x c e
      rw [z, he4] at eo
      cases eo
      rw [hd4] at ed
      cases ed
    have J3 : Inv X pins σ' H' { s' with heap := h3 } := J.landed nb fl3.1 (up.trans up3) os ag
    have S3 : Inv (X.suite a (X.pn ++ pins)) [] σ' H' { s' with heap := h3 } :=
      ⟨J3.ok.suite _ _, J3.os, J3.bare, J3.base, J3.loc, J3.cell, J3.free, J3.freeC, fun p hp => J3.pin p (by rw [List.append_nil] at hp; exact hp), J3.hok, J3.len⟩
    refine wpAny_handleBy_cons (codeAny_handlers_test ?_) (by intro q; cases q)
    have own : ∀ {x : Str} {C : Addr} {p : Pos} {Q : Value → Shared → Prop} {E : Value → Shared → Prop}, Nm X x C → Q (.ref C) { s' with heap := h3 } →
        wpAny (model X.prog X.w) (X.A.mark (some (.ref a))) (eval (.Name x p) X.env) Q E { s' with heap := h3 } := fun {x C p Q E} z q => ld_glob (X := X.suite a (X.pn ++ pins)) S3 z.gl z.mg q z.db
    have tup : ∀ {Q : Value → Shared → Prop} {E : Value → Shared → Prop}, Q (.ref h3.objs.size) { s' with heap := h3.push { cls := .type "tuple", data := .seq [Value.ref C1, .ref C2, .ref C3].toArray } } →
        wpAny (model X.prog X.w) (X.A.mark (some (.ref a))) (eval (.Tuple [.Name x1 p1, .Name x2 p2, .Name x3 p3] cx tp) X.env) Q E { s' with heap := h3 } := fun {Q E} q => by
      refine wpAny_Tuple_spliced ?_
      show wpAny _ _ (spliced ((false, eval (.Name x1 p1) X.env) :: (false, eval (.Name x2 p2) X.env) :: (false, eval (.Name x3 p3) X.env) :: [])) _ _ _
      exact Calls.spliced_cons (own n1 (Calls.spliced_cons (own n2 (Calls.spliced_cons (own n3 (Calls.spliced_nil ⟨by show 3 ≤ sizeLine; decide, q⟩))))))
    refine tup ?_
    have k4 : ∀ b o, h3.get? b = some o → (h3.push { cls := .type "tuple", data := .seq [Value.ref C1, .ref C2, .ref C3].toArray }).get? b = some o := fun b o e => Heap.get?_push_of_some _ e
    have t4 := Heap.get?_push_size h3 (o := { cls := .type "tuple", data := .seq [Value.ref C1, .ref C2, .ref C3].toArray }) rfl
    generalize h3.push { cls := .type "tuple", data := .seq [Value.ref C1, .ref C2, .ref C3].toArray } = h4 at k4 t4 ⊢
    have fl4 := flying_kept fl3 k4
    have J4 : Inv X pins σ' H' { s' with heap := h4 } := J3.kept k4
    have LT : PySem.W.Looks (model X.prog X.w) h4 (typeOf (.ref a)) cls := fun A Q E s k q => wpAny_typeOf_ref (k _ _ (k4 _ _ he3)) (by rw [hz3.1]; exact q)
    refine (PySem.W.exm_tup3 (M := model X.prog X.w) J4.kIn LT t4 hb1).here ?_
    cases b with
    | true =>
      refine codeAny_handlers_suite_as ?_
      refine HandSPX.lands_againZ fl4 fun h5 fl5 up5 => ?_
      have J5 : Inv X pins σ' H' { s' with heap := h5 } := J.landed nb fl5.1 ((up.trans up3).trans ((Heap.UpToSlots.of_keeps k4).trans up5)) os ag
      have T5 := trk rfl fl5 J5
      have S5 : Inv (X.suite a (X.pn ++ pins)) [] σ' (upd H' a (ExK cls d a)) { s' with heap := h5 } :=
        ⟨T5.ok.suite _ _, T5.os, T5.bare, T5.base, T5.loc, T5.cell, T5.free, T5.freeC, fun p hp => T5.pin p (by rw [List.append_nil] at hp; exact hp), T5.hok, T5.len⟩
      refine store_ok (X := X.suite a (X.pn ++ pins)) (v := .ref a) S5 hN hi (.inl hln) rfl (fun s6 S6 => ?_) (.inr hln)
      refine wpAny_mono ((hsu a (X.pn ++ pins)).run [] s6 _ _ _ S6 (hyes rfl a na)) (fun f s7 hsp => ?_) (fun _ _ z => False.elim z)
      have back : ∀ {σ7 : L2.St} {H7 : Hp}, Inv (X.suite a (X.pn ++ pins)) [] σ7 H7 s7 → Inv X pins σ7 H7 s7 := fun {σ7 H7} S7 =>
        ⟨ok, S7.os, S7.bare, S7.base, S7.loc, S7.cell, S7.free, S7.freeC, fun p hp => S7.pin p (by rw [List.append_nil]; exact hp), S7.hok, S7.len⟩
      cases f with
      | next =>
        obtain ⟨σ7, H7, S7, q7⟩ := hsp
        exact gone_ok (back S7) hN hi hln fun s8 J8 => ⟨_, _, J8, q7⟩
      | brk =>
        obtain ⟨σ7, H7, S7, q7⟩ := hsp
        exact gone_ok (back S7) hN hi hln fun s8 J8 => ⟨_, _, J8, q7⟩
      | cont =>
        obtain ⟨σ7, H7, S7, q7⟩ := hsp
        exact gone_ok (back S7) hN hi hln fun s8 J8 => ⟨_, _, J8, q7⟩
      | ret u =>
        obtain ⟨v7, σ7, H7, S7, r7, q7⟩ := hsp
        exact gone_ok (back S7) hN hi hln fun s8 J8 => ⟨_, _, _, J8, r7, q7⟩
    | false =>
      refine wpAny_handleBy_nil ?_
      obtain ⟨k1, k2, k3, oe, vs, T, oT, ts', he, hz, hd, h1, hr⟩ := id fl4
      unfold PySem.passOn
      refine wpAny_bind (wpAny_field he hd h1 ?_)
      rw [if_neg (by simp : ¬ ((Value.ref T == Value.none) = true))]
      have fin : wpAny (model X.prog X.w) X.A (setFlight (.ref a) X.env.frame) (fun _ s5 => wpAny (model X.prog X.w) X.A (throw (.ref a) : Sem Flow) (SP X pins D) X.xe s5) X.xe { s' with heap := h4 } := by
        rw [hf]
        refine HandSPX.setFlight_upZ fl4 fun h5 hh5 up5 => wpAny_throw (tk _ _ ?_)
        exact ⟨a, B, sI, pins, σ', H', cls, d, rfl, J, nb, (up.trans up3).trans ((Heap.UpToSlots.of_keeps k4).trans up5), .inr (.inr (by rw [hs]; exact hh5)), na, os, ag, hno rfl⟩
      first
        | exact wpAny_bind (wpAny_pure (wpAny_bind fin))
        | exact wpAny_bind fin
  · cases f with
    | next =>
      obtain ⟨σ', H', J', q⟩ := hsp
      exact wpAny_execs_nil ⟨σ', H', J'.ofTry ok, q⟩
    | brk =>
      obtain ⟨σ', H', J', q⟩ := hsp
      exact ⟨σ', H', J'.ofTry ok, q⟩
    | cont =>
      obtain ⟨σ', H', J', q⟩ := hsp
      exact ⟨σ', H', J'.ofTry ok, q⟩
    | ret u =>
      obtain ⟨v, σ', H', J', r, q⟩ := hsp
      exact ⟨v, σ', H', J'.ofTry ok, r, q⟩
end
end Xk
set_option Elab.async false
set_option linter.all false
set_option maxRecDepth 100000
set_option maxHeartbeats 4000000
set_option pp.maxSteps 400
set_option pp.deepTerms false
namespace Xk
open PySem PySem.Spec PyProof.Rows L2
/-- what an own exception class says, so that its kept instances are read and asked -/
structure XcC (K : PySem.W.Frag) (C : Addr) : Prop where
  cl : (PySem.W.clsIn K C).isSome = true
  ga : PySem.W.findIn K (.ref C) "__getattribute__" = some (some (.builtin "BaseException.__getattribute__"))
  gg : PySem.W.findIn K (.ref C) "__getattr__" = some none
  sb : PySem.W.subIn K (.ref C) (.type "BaseException") = some true
  hd : PySem.W.hasDictIn K C = true
  ha : PySem.W.findIn K (.ref C) "__class__" = some (some (.builtin "object.__class__"))
  hn : PySem.W.specialIn K (.builtin "object.__class__") "__get__" = some (some (.builtin "getset_descriptor.__get__"))
  ht : PySem.W.takesIn K (.builtin "object.__class__") = some true
  hm : PySem.W.mroIn K C (.type "object") = some true
/-- a kept exception of the class at C with the fields fs -/
def Kept (H : Hp) (a C : Addr) (fs : List (Str × V)) : Prop := ∃ d, H a = some (ExK (.ref C) (some d) a) ∧ H d = some (.xd fs)
theorem Kept.same {H H' : Hp} {a C : Addr} {fs : List (Str × V)} (k : Kept H a C fs) (s : L2.Same H H') : Kept H' a C fs := by
  obtain ⟨d, e1, e2⟩ := k
  exact ⟨d, s _ _ e1, s _ _ e2⟩
section
variable {X : Cx} {pins : List (Addr × Obj)} {σ : L2.St} {H : Hp} {s : Shared}
theorem Kept.inst {a C : Addr} {fs : List (Str × V)} (I : Inv X pins σ H s) (k : Kept H a C fs) :
    ∃ (oe od : Obj) (mA : Str → Option Value), PySem.W.InstAt s.heap a oe C (some od) ∧ (∀ n, PySem.W.lookIn n od = some (mA n)) ∧ ∀ f, RelO (fs.lookup f) (mA f) := by
  obtain ⟨d, e1, e2⟩ := k
  obtain ⟨oe, he, hz, vs, hv⟩ := exK_at I.hok e1
  have hx : ObjOk X.prog X.w H s.heap d (.xd fs) := I.hok d _ e2
  obtain ⟨mA, hns, hr⟩ := hx
  obtain ⟨od, ho, hl⟩ := lookIn_ns hns
  refine ⟨oe, od, mA, ⟨he, hz.1, by unfold PySem.W.notCls; rw [hv] <;> rfl, by rw [hz.2]; exact ho⟩, hl, hr⟩
end
/-- e.f of a kept exception -/
def tKf (C : Addr) (f : Str) (te : TE) : TE := fun σ H Q => te σ H fun x H1 => ∃ (a : Addr) (fs : List (Str × V)) (v : V), x = .ref a ∧ Kept H1 a C fs ∧ fs.lookup f = some v ∧ Q v H1
theorem pe_kf {X : Cx} {C : Addr} {e : Expr} {te : TE} {pos : Pos} {n : Str} (T : XcC X.K C) (hno : PySem.W.findIn X.K (.ref C) n = some none) (he : PE X e te)
    (hb : attributeBase e n X.env (eval e X.env) = eval e X.env := by rfl) : PE X (.Attribute e n pos) (tKf C n te) := by
  refine ⟨fun pins s σ H Q I h => attr_of hb (thn (he.run pins s σ H _ I h) fun u s1 z => ?_)⟩
  obtain ⟨x, H1, I1, rx, a, fs, v, ex, k, l, q⟩ := z
  subst ex
  obtain rfl : u = Value.ref a := rx
  obtain ⟨oe, od, mA, J, hl, hr⟩ := k.inst I1
  obtain ⟨y, hy, ry⟩ := RelO.some_of (v := v) (o := mA n) (by rw [← l]; exact hr n)
  exact HandSPX.exc_get I1.kIn J T.ga T.gg T.sb (PySem.W.findObj_own T.hd hno rfl (by rw [hl, hy])) (handed_of ry) ⟨v, H1, I1.tok _, ry, q⟩
/-- isinstance(e, c), isinstance(e, (c1, ..)) of a kept exception -/
def rIsK (K : PySem.W.Frag) (C : Addr) : List V → Hp → VK → Prop := fun xs H Q => ∃ (a : Addr) (fs : List (Str × V)) (c : V) (u : Value) (b : Bool), xs = [.ref a, c] ∧ Kept H a C fs ∧ ClsV c u ∧ PySem.W.kitOne K (.ref C) u = some b ∧ Q (.bl b) H
def rIsKT (K : PySem.W.Frag) (C : Addr) : List V → Hp → VK → Prop := fun xs H Q => ∃ (a tp : Addr) (fs : List (Str × V)) (cs : List V) (us : List Value) (b : Bool), xs = [.ref a, .ref tp] ∧ Kept H a C fs ∧
  H tp = some (.tup cs) ∧ Paired ClsV cs us ∧ PySem.W.kitAny K (.ref C) us = some b ∧ Q (.bl b) H
theorem call_isK {X : Cx} {C : Addr} (T : XcC X.K C) : CallR X (.builtin "isinstance") (rIsK X.K C) := by
  intro pins s σ H xs us Q I r h
  obtain ⟨a, fs, c, u, b, rfl, k, hc, e, q⟩ := h
  obtain ⟨u1, u2, rfl, r1, r2⟩ := vals2 r
  have e2 := hc.eq r2
  subst e2
  cases (show u1 = Value.ref a from r1)
  obtain ⟨oe, od, mA, J, _, _⟩ := k.inst I
  exact PySem.W.kia_one (PySem.W.kitx_exc (ox := oe) (od := some od) T.cl T.ga T.gg T.sb T.ha T.hn T.ht T.hm) I.kIn J e (fun z => nomatch z) fun tk => ⟨.bl b, H, I.tok tk, rfl, q⟩
theorem call_isKT {X : Cx} {C : Addr} (T : XcC X.K C) : CallR X (.builtin "isinstance") (rIsKT X.K C) := by
  intro pins s σ H xs us Q I r h
  obtain ⟨a, tp, fs, cs, ws, b, rfl, k, hT, hc, e, q⟩ := h
  obtain ⟨u1, u2, rfl, r1, r2⟩ := vals2 r
  cases (show u1 = Value.ref a from r1)
  cases (show u2 = Value.ref tp from r2)
  obtain ⟨oe, od, mA, J, _, _⟩ := k.inst I
  have ht : ObjOk X.prog X.w H s.heap tp (.tup cs) := I.hok tp _ hT
  obtain ⟨_, its, rv, o, h1, h2, n, h3⟩ := ht
  have e3 := ClsV.all hc rv
  subst e3
  obtain ⟨oc, od2, dt, sl⟩ := o
  simp only at h2 h3
  subst h2 h3
  exact PySem.W.kia_tup (PySem.W.kitx_exc (ox := oe) (od := some od) T.cl T.ga T.gg T.sb T.ha T.hn T.ht T.hm) I.kIn J h1 e (fun z => nomatch z) fun tk => ⟨.bl b, H, I.tok tk, rfl, q⟩
/-! ### B.__init__(self, ..), B an own class over ValueError without own __init__ -/
structure BiC (K : PySem.W.Frag) (B : Addr) : Prop where
  rd : PySem.W.readsIn K B (.type "type") = true
  sp : PySem.W.specialIn K (.ref B) "__getattribute__" = some (some (.builtin "type.__getattribute__"))
  fi : PySem.W.findCls K (.ref B) (.type "type") "__init__" = some (.val (.builtin "ValueError.__init__"))
theorem pe_binit {X : Cx} {B : Addr} {x : Str} {e : Expr} {es : List Expr} {ta : TA} {p1 p2 pos : Pos} {pl : Sem Bool} (T : BiC X.K B) (gl : Gl X x) (mg : X.mg x = some (.ref B)) (ha : PA X (e :: es) ta) (hdb : (x == ("__debug__" : Str)) = false := by decide)
    (hc : eval (.Call (.Attribute (.Name x p1) "__init__" p2) (e :: es) [] pos) X.env = (do
      let ov ← eval (.Name x p1) X.env
      standAt p2.atName
      let (f, first) ← holding [ov] (getMethod ov "__init__" pl)
      callWith pos f first (backTo pos (starEach (e :: es) X.env)) (backToKw pos (keywordEach [] X.env))) := by rfl)
    (he : starEach (e :: es) X.env = (false, eval e X.env) :: starEach es X.env := by rfl) (hpl : (backTo pos (starEach es X.env)).any (·.1) = false := by rfl) :
    PE X (.Call (.Attribute (.Name x p1) "__init__" p2) (e :: es) [] pos) (tVeI X.K ta) := by
  refine ⟨fun pins s σ H Q I h => PySem.W.methodCall_KW (ld_glob I gl mg ?_ hdb) hc⟩
  refine PySem.W.method_cls I.kIn T.sp (PySem.W.cls_value I.kIn T.rd T.fi (by decide +kernel) ?_)
  show wpAny _ _ (callWith pos (Value.builtin "ValueError.__init__") [] (backTo pos (starEach (e :: es) X.env)) []) _ _ _
  refine PyProof.Rows.callWith_method1 (thn (ha.run pos pins _ σ H _ (I.tok _) h) fun us s1 z => ?_) he hpl
  obtain ⟨vs, H1, I1, r1, a, C, ws, ev, hl, Tx, ea, q⟩ := z
  subst ev
  cases r1 with
  | @cons _ u0 _ ur ra rw' =>
    obtain rfl : u0 = Value.ref a := ra
    refine oinit_ok Tx I1 ea ?_ fun s' J => ⟨.non, H1, J, rfl, q⟩
    rw [← Paired.length rw', sizeLine_eq]
    omega
/-! ### calls in a try's body: what is raised is wished for at the slots -/
section
variable {X : Cx} {CX : CXT} {k n : Nat} {f C : Addr} {fd : FuncData} {ps ks : List Str} {sp : Sp} {dvs : List V} {ds : List Value} {E : L2.St → XK} {x : Str} {p pos : Pos} {e : Expr} {es : List Expr} {kws : List Keyword} {t tk : TA}
  {g : List Value → List Value → List Value} {gV : List V → List V → List V}
def tMakeS (C : Addr) (sp : Sp) (dvs : List V) (E : L2.St → XK) (t : TA) : TE := fun σ H Q => t σ H fun vs H1 => ∀ x dx, H1 x = none → H1 dx = none → dx ≠ x →
  sp (.ref x :: (vs ++ dvs)) (upd (upd H1 dx (.own x)) x (.ins C dx [])) (fun v H2 => v = .non ∧ Q (.ref x) H2) (E σ)
theorem pe_makeS (M : Mk X.K C f) (F : FnOk X.prog X.w X.K X.mg X.base CX k f fd ps sp) (room : Room (k + 1) X.A) (gl : Gl X x) (mg : X.mg x = some (.ref C)) (bd : Binds X.K fd ps ds) (rd : Vals dvs ds) (px : ∀ σ, PassesAt CX X σ (E σ))
    (ha : PA X (e :: es) t) (hdb : (x == ("__debug__" : Str)) = false := by decide) (he : starEach (e :: es) X.env = (false, eval e X.env) :: starEach es X.env := by rfl) (hpl : (backTo pos (starEach es X.env)).any (·.1) = false := by rfl) :
    PE X (.Call (.Name x p) (e :: es) [] pos) (tMakeS C sp dvs E t) := by
  refine ⟨fun pins s σ H Q I h => wpAny_Call_Name_kw (ld_glob I gl mg ?_ hdb)⟩
  refine PySem.W.callWith_K (h₀ := X.base) I.ok.mod.kin M.kp (thn (ha.run pos pins s σ H _ I h) fun us s1 z => ?_) he hpl
  obtain ⟨vs, H1, I1, r, q⟩ := z
  refine ⟨I1.kIn, ?_⟩
  have q1 := q (s1.heap.objs.size + 1) s1.heap.objs.size (I1.hok.fresh (Nat.le_succ _)) (I1.hok.fresh (Nat.le_refl _)) (Nat.ne_of_lt (Nat.lt_succ_self _))
  have I2 := Inv.made (C := C) I1
  have r2 : Vals (V.ref (s1.heap.objs.size + 1) :: (vs ++ dvs)) (Value.ref (s1.heap.objs.size + 1) :: (us ++ ds)) := .cons rfl (r.append rd)
  have many : (Value.ref (s1.heap.objs.size + 1) :: us ++ ds).length = ps.length := (r2.length.symm.trans (F.len _ _ _ _ q1))
  refine wpAny_call (make_map (f := f) I1.kIn M.makes M.init (beq_iff_eq.mp M.fn) (codeAny_mono (F.run _ X.stack _ _ ⟨Value.ref (s1.heap.objs.size + 1) :: us, []⟩ (Value.ref (s1.heap.objs.size + 1) :: (us ++ ds)) _ _ (E σ)
    (room.make C us []) (I2.env0.make C us []) (bd _ (Value.ref (s1.heap.objs.size + 1) :: us) I2.kIn many) r2 q1) fun r s' z => ?_))
  cases r with
  | error e => exact px σ pins _ _ e s' I2 z
  | ok fl =>
    cases fl with
    | ret u =>
      obtain ⟨v, H', I3, rv, ev, q3⟩ := I2.after z
      subst ev
      exact ⟨rv, ⟨V.ref (s1.heap.objs.size + 1), H', I3, rfl, q3⟩⟩
    | next => exact False.elim z
    | brk => exact False.elim z
    | cont => exact False.elim z
def tMakeKS (C : Addr) (m : Nat) (sp : Sp) (gV : List V → List V → List V) (E : L2.St → XK) (tk : TA) : TE := fun σ H Q => tk σ H fun zs H2 => zs.length = m ∧
  ∀ x dx, H2 x = none → H2 dx = none → dx ≠ x → sp (gV [.ref x] zs) (upd (upd H2 dx (.own x)) x (.ins C dx [])) (fun v H3 => v = .non ∧ Q (.ref x) H3) (E σ)
theorem pe_makeKS (M : Mk X.K C f) (F : FnOk X.prog X.w X.K X.mg X.base CX k f fd ps sp) (room : Room (k + 1) X.A) (gl : Gl X x) (mg : X.mg x = some (.ref C)) (kb : KBn X.K fd ps 1 ks g gV) (px : ∀ σ, PassesAt CX X σ (E σ)) (pk : PK X kws tk)
    (hall : (backToKw pos (keywordEach kws X.env)).all (·.1.isSome) = true := by rfl) (hks : (backToKw pos (keywordEach kws X.env)).filterMap (·.1) = ks := by rfl) (hdb : (x == ("__debug__" : Str)) = false := by decide)
    (hpl : ((backTo pos (starEach [] X.env)).any (·.1) || (backToKw pos (keywordEach kws X.env)).any (·.1.isNone)) = false := by rfl) :
    PE X (.Call (.Name x p) [] kws pos) (tMakeKS C ks.length sp gV E tk) := by
  refine ⟨fun pins s σ H Q I h => wpAny_Call_Name_kw (ld_glob I gl mg ?_ hdb)⟩
  refine PySem.W.callWith_KW0 (h₀ := X.base) I.ok.mod.kin M.kp hall (thn (pk.run pos pins s σ H _ I h) fun ws s1 z => ?_) hpl
  obtain ⟨zs, H1, I1, rz, l2, q⟩ := z
  refine ⟨I1.kIn, ?_⟩
  rw [hks]
  have q1 := q (s1.heap.objs.size + 1) s1.heap.objs.size (I1.hok.fresh (Nat.le_succ _)) (I1.hok.fresh (Nat.le_refl _)) (Nat.ne_of_lt (Nat.lt_succ_self _))
  have I2 := Inv.made (C := C) I1
  have r1 : Vals [V.ref (s1.heap.objs.size + 1)] [Value.ref (s1.heap.objs.size + 1)] := .cons rfl .nil
  have r2 := kb.rel r1 rz
  refine wpAny_call (make_map (f := f) I1.kIn M.makes M.init (beq_iff_eq.mp M.fn) (codeAny_mono (F.run _ X.stack _ _ ⟨[Value.ref (s1.heap.objs.size + 1)], ks.zip ws⟩ (g [Value.ref (s1.heap.objs.size + 1)] ws) _ _ (E σ)
    (room.make C [] (ks.zip ws)) (I2.env0.make C [] (ks.zip ws)) (kb.to _ [Value.ref (s1.heap.objs.size + 1)] ws I2.kIn rfl (rz.length.symm.trans l2)) r2 q1) fun r s' z => ?_))
  cases r with
  | error e => exact px σ pins _ _ e s' I2 z
  | ok fl =>
    cases fl with
    | ret u =>
      obtain ⟨v, H', I3, rv, ev, q3⟩ := I2.after z
      subst ev
      exact ⟨rv, ⟨V.ref (s1.heap.objs.size + 1), H', I3, rfl, q3⟩⟩
    | next => exact False.elim z
    | brk => exact False.elim z
    | cont => exact False.elim z
def tCallKS (m : Nat) (sp : Sp) (gV : List V → List V → List V) (E : L2.St → XK) (tk : TA) : TE := fun σ H Q => tk σ H fun zs H2 => zs.length = m ∧ sp (gV [] zs) H2 Q (E σ)
theorem pe_callKS (F : FnOk X.prog X.w X.K X.mg X.base CX k f fd ps sp) (room : Room k X.A) (gl : Gl X x) (mg : X.mg x = some (.ref f)) (kp : PySem.W.keepIn X.K (.ref f) = true) (kb : KBn X.K fd ps 0 ks g gV) (px : ∀ σ, PassesAt CX X σ (E σ)) (pk : PK X kws tk)
    (hall : (backToKw pos (keywordEach kws X.env)).all (·.1.isSome) = true := by rfl) (hks : (backToKw pos (keywordEach kws X.env)).filterMap (·.1) = ks := by rfl) (hdb : (x == ("__debug__" : Str)) = false := by decide)
    (hpl : ((backTo pos (starEach [] X.env)).any (·.1) || (backToKw pos (keywordEach kws X.env)).any (·.1.isNone)) = false := by rfl) :
    PE X (.Call (.Name x p) [] kws pos) (tCallKS ks.length sp gV E tk) := by
  refine ⟨fun pins s σ H Q I h => wpAny_Call_Name_kw (ld_glob I gl mg ?_ hdb)⟩
  refine PySem.W.callWith_KW0 (h₀ := X.base) I.ok.mod.kin kp hall (thn (pk.run pos pins s σ H _ I h) fun ws s1 z => ?_) hpl
  obtain ⟨zs, H1, I1, rz, l2, q⟩ := z
  refine ⟨I1.kIn, ?_⟩
  rw [hks]
  have rn : Vals [] [] := .nil
  have r2 := kb.rel rn rz
  refine wpAny_call (codeAny_mono (F.run X.A X.stack s1 H1 ⟨[], ks.zip ws⟩ (g [] ws) (gV [] zs) Q (E σ) room I1.env0 (kb.to s1 [] ws I1.kIn rfl (rz.length.symm.trans l2)) r2 q) fun r s' z => ?_)
  cases r with
  | error e => exact px σ pins _ _ e s' I1 z
  | ok fl =>
    cases fl with
    | ret u => exact I1.after z
    | next => exact False.elim z
    | brk => exact False.elim z
    | cont => exact False.elim z
end
end Xk
set_option Elab.async false
set_option linter.all false
set_option maxRecDepth 100000
set_option maxHeartbeats 4000000
set_option pp.maxSteps 400
set_option pp.deepTerms false
/-! Things of any kind: texts, numbers, truths, None, and lists, tuples, dicts of these, at any depth. -/
namespace Az
open PySem PySem.Spec PyProof.Rows L2
def keyD : Key → PyData
  | .inl i => .int i
  | .inr x => .str x
mutual
inductive Dz (K : PySem.W.Frag) (H : Hp) : V → PyData → Prop
  | non : Dz K H .non .none
  | bl (b : Bool) : Dz K H (.bl b) (.bool b)
  | int (i : Int) : Dz K H (.int i) (.int i)
  | str (x : Str) : Dz K H (.str x) (.str x)
  | lst {a : Addr} {xs : List V} {ds : List PyData} : H a = some (.lst xs) → a ≠ sysModules → DzAll K H xs ds → Dz K H (.ref a) (.list ds)
  | tup {a : Addr} {xs : List V} {ds : List PyData} : H a = some (.tup xs) → DzAll K H xs ds → Dz K H (.ref a) (.tuple ds)
  | dct {a : Addr} {kvs : List (Key × V)} {ds : List (PyData × PyData)} : H a = some (.dK kvs) → DzKv K H kvs ds → Dz K H (.ref a) (.dict ds)
inductive DzAll (K : PySem.W.Frag) (H : Hp) : List V → List PyData → Prop
  | nil : DzAll K H [] []
  | cons {v : V} {vs : List V} {d : PyData} {ds : List PyData} : Dz K H v d → DzAll K H vs ds → DzAll K H (v :: vs) (d :: ds)
inductive DzKv (K : PySem.W.Frag) (H : Hp) : List (Key × V) → List (PyData × PyData) → Prop
  | nil : DzKv K H [] []
  | cons {k : Key} {v : V} {kvs : List (Key × V)} {d : PyData} {ds : List (PyData × PyData)} : Dz K H v d → DzKv K H kvs ds → DzKv K H ((k, v) :: kvs) ((keyD k, d) :: ds)
end
section
variable {K : PySem.W.Frag} {H H' : Hp}
mutual
/-- what is read of a thing stays while its objects do -/
theorem Dz.keep (s : ∀ b o, H b = some o → (∀ x, o ≠ .own x) → H' b = some o) : ∀ {v : V} {d : PyData}, Dz K H v d → Dz K H' v d
  | _, _, .non => .non
  | _, _, .bl b => .bl b
  | _, _, .int i => .int i
  | _, _, .str x => .str x
  | _, _, .lst e n r => .lst (s _ _ e (fun _ z => by cases z)) n (DzAll.keep s r)
  | _, _, .tup e r => .tup (s _ _ e (fun _ z => by cases z)) (DzAll.keep s r)
  | _, _, .dct e r => .dct (s _ _ e (fun _ z => by cases z)) (DzKv.keep s r)
theorem DzAll.keep (s : ∀ b o, H b = some o → (∀ x, o ≠ .own x) → H' b = some o) : ∀ {v : List V} {d : List PyData}, DzAll K H v d → DzAll K H' v d
  | _, _, .nil => .nil
  | _, _, .cons h r => .cons (Dz.keep s h) (DzAll.keep s r)
theorem DzKv.keep (s : ∀ b o, H b = some o → (∀ x, o ≠ .own x) → H' b = some o) : ∀ {v : List (Key × V)} {d : List (PyData × PyData)}, DzKv K H v d → DzKv K H' v d
  | _, _, .nil => .nil
  | _, _, .cons h r => .cons (Dz.keep s h) (DzKv.keep s r)
end
theorem Dz.same {v : V} {d : PyData} (h : Dz K H v d) (s : L2.Same H H') : Dz K H' v d := h.keep fun b o e _ => s b o e
theorem DzAll.same {v : List V} {d : List PyData} (h : DzAll K H v d) (s : L2.Same H H') : DzAll K H' v d := h.keep fun b o e _ => s b o e
/-- the kind of a thing -/
def kindD : PyData → String
  | .none => "NoneType"
  | .bool _ => "bool"
  | .int _ => "int"
  | .str _ => "str"
  | .list _ => "list"
  | .tuple _ => "tuple"
  | .dict _ => "dict"
theorem Dz.ty {v : V} {d : PyData} (h : Dz K H v d) : TyX K H v (.type (kindD d)) := by
  cases h with
  | non => exact .base .non
  | bl b => exact .base (.bl b)
  | int i => exact .base (.int i)
  | str x => exact .base (.str x)
  | lst e _ _ => exact .base (.lst e)
  | tup e _ => exact .base (.tup e)
  | dct e _ => exact .base (.dK e)
end
section
variable {X : Cx} {pins : List (Addr × Obj)} {σ : L2.St} {H : Hp} {s : Shared}
theorem pairs_keys {P : Program} {w : World} : ∀ {es : List DictEntry} {vs : List (Key × Value)}, PySem.Pairs (mixKind P w) es vs → ∃ as, ReadsAll s.heap (es.map (·.key)) (vs.map fun p => keyD p.1) as ∧ as = []
  | _, _, .nil => ⟨[], .nil, rfl⟩
  | e :: es, (k, u) :: vs, .cons h1 h2 r => by
    obtain ⟨as, q, rfl⟩ := pairs_keys r
    rcases keyIs_shape (show keyIs k e.key = true from h1) with ⟨i, t, rfl, ek⟩ | ⟨x, t, rfl, ek⟩
    · refine ⟨[] ++ [], .cons ?_ q, rfl⟩
      show Reads s.heap e.key (.int i) []
      rw [ek]
      exact .int i t
    · refine ⟨[] ++ [], .cons ?_ q, rfl⟩
      show Reads s.heap e.key (.str x) []
      rw [ek]
      exact .str x t
theorem pairs_vals {P : Program} {w : World} : ∀ {es : List DictEntry} {vs : List (Key × Value)}, PySem.Pairs (mixKind P w) es vs → es.map (·.val) = vs.map (·.2)
  | _, _, .nil => rfl
  | e :: es, (k, u) :: vs, .cons h1 h2 r => by
    rw [List.map_cons, List.map_cons, pairs_vals r, h2]
mutual
theorem Dz.reads (I : Inv X pins σ H s) : ∀ (d : PyData) (v : V) (u : Value), Dz X.K H v d → RelV v u → ∃ as, Reads s.heap u d as ∧ sysModules ∉ as
  | .none, _, _, h, r => by
    cases h
    cases r
    exact ⟨[], .none, by simp⟩
  | .bool b, _, _, h, r => by
    cases h
    cases r
    exact ⟨[], .bool b, by simp⟩
  | .int i, _, _, h, r => by
    cases h
    obtain ⟨t, rfl⟩ := r
    exact ⟨[], .int i t, by simp⟩
  | .str x, _, _, h, r => by
    cases h
    obtain ⟨t, rfl⟩ := r
    exact ⟨[], .str x t, by simp⟩
  | .list ds, _, _, h, r => by
    cases h with
    | @lst a xs _ e ne ha =>
      cases r
      have ok : ObjOk X.prog X.w H s.heap a (.lst xs) := I.hok a _ e
      obtain ⟨_, its, n, rv, eh⟩ := ok
      obtain ⟨as, q, na⟩ := DzAll.reads I ds xs its ha rv
      refine ⟨a :: as, .list eh rfl rfl (by simpa using q), fun m => ?_⟩
      rcases List.mem_cons.mp m with z | z
      · exact ne z.symm
      · exact na z
  | .tuple ds, _, _, h, r => by
    cases h with
    | @tup a xs _ e ha =>
      cases r
      have ok : ObjOk X.prog X.w H s.heap a (.tup xs) := I.hok a _ e
      obtain ⟨_, its, rv, o, eh, ec, n, ed⟩ := ok
      obtain ⟨as, q, na⟩ := DzAll.reads I ds xs its ha rv
      exact ⟨as, .tuple eh ec ed (by simpa using q), na⟩
  | .dict ds, _, _, h, r => by
    cases h with
    | @dct a kvs _ e ha =>
      cases r
      obtain ⟨_, ne, vs, rel, o, es, ep, eh, ex, ed, _, pr, _⟩ := dk_of I.hok e
      obtain ⟨as, q1, rfl⟩ := pairs_keys (s := s) pr
      obtain ⟨bs, q2, nb⟩ := DzKv.reads I ds kvs vs ha rel
      have hk : (vs.map fun p => keyD p.1) = ds.map (·.1) := DzKv.keys ha rel
      rw [hk] at q1
      refine ⟨a :: [] ++ bs, .dict eh ex.1 ed q1 (by rw [pairs_vals pr]; exact q2), fun m => ?_⟩
      rcases List.mem_cons.mp m with z | z
      · rw [← z] at ne
        simp at ne
      · exact nb z
theorem DzAll.reads (I : Inv X pins σ H s) : ∀ (ds : List PyData) (vs : List V) (us : List Value), DzAll X.K H vs ds → Vals vs us → ∃ as, ReadsAll s.heap us ds as ∧ sysModules ∉ as
  | [], _, _, h, r => by
    cases h
    cases r
    exact ⟨[], .nil, by simp⟩
  | d :: ds, _, _, h, r => by
    cases h with
    | cons h1 h2 =>
      cases r with
      | cons r1 r2 =>
        obtain ⟨as, q1, n1⟩ := Dz.reads I d _ _ h1 r1
        obtain ⟨bs, q2, n2⟩ := DzAll.reads I ds _ _ h2 r2
        exact ⟨as ++ bs, .cons q1 q2, fun m => (List.mem_append.mp m).elim n1 n2⟩
theorem DzKv.reads (I : Inv X pins σ H s) : ∀ (ds : List (PyData × PyData)) (kvs : List (Key × V)) (vs : List (Key × Value)), DzKv X.K H kvs ds → KV kvs vs → ∃ as, ReadsAll s.heap (vs.map (·.2)) (ds.map (·.2)) as ∧ sysModules ∉ as
  | [], _, _, h, r => by
    cases h
    cases r
    exact ⟨[], .nil, by simp⟩
  | (_, d) :: ds, _, _, h, r => by
    cases h with
    | cons h1 h2 =>
      cases r with
      | cons r1 r2 =>
        obtain ⟨as, q1, n1⟩ := Dz.reads I d _ _ h1 r1.2
        obtain ⟨bs, q2, n2⟩ := DzKv.reads I ds _ _ h2 r2
        exact ⟨as ++ bs, .cons q1 q2, fun m => (List.mem_append.mp m).elim n1 n2⟩
theorem DzKv.keys {K : PySem.W.Frag} : ∀ {ds : List (PyData × PyData)} {kvs : List (Key × V)} {vs : List (Key × Value)}, DzKv K H kvs ds → KV kvs vs → (vs.map fun p => keyD p.1) = ds.map (·.1)
  | [], _, _, h, r => by
    cases h
    cases r
    rfl
  | (_, d) :: ds, _, _, h, r => by
    cases h with
    | cons h1 h2 =>
      cases r with
      | cons r1 r2 =>
        rw [List.map_cons, List.map_cons, DzKv.keys h2 r2, ← r1.1]
end
/-- repr of a thing -/
def rReprZ (K : PySem.W.Frag) : List V → Hp → VK → Prop := fun xs H Q => ∃ (v : V) (d : PyData), xs = [v] ∧ Dz K H v d ∧ d.showable = true ∧ d.depth ≤ 60 ∧ d.shown.length ≤ sizeLine ∧ Q (.str d.shown) H
theorem cr_reprZ {k : Nat} (quiet : X.A.guards = some []) (room : Room k X.A) : CallR X (.builtin "repr") (rReprZ X.K) := by
  intro pins s σ H xs us Q I r h
  obtain ⟨v, d, rfl, hd, hs, hp, hz, q⟩ := h
  obtain ⟨u, rfl, rx⟩ := vals1 r
  have hu := room.units
  cases hd with
  | non =>
    cases rx
    exact PySem.P.repr_of_none ⟨.str _, H, I.tok _, ⟨_, rfl⟩, q⟩
  | bl b =>
    cases rx
    exact PySem.P.repr_of_bool ⟨.str _, H, I.tok _, ⟨_, rfl⟩, q⟩
  | int i =>
    obtain ⟨t, rfl⟩ := rx
    exact PySem.P.repr_of_int (by simpa [PyData.showable] using hs) ⟨.str _, H, I.tok _, ⟨_, rfl⟩, q⟩
  | str x =>
    obtain ⟨t, rfl⟩ := rx
    exact PySem.P.repr_of_str ⟨.str _, H, I.tok _, ⟨_, rfl⟩, q⟩ hz
  | lst e n ha =>
    obtain ⟨as, rd, na⟩ := Dz.reads I _ _ u (.lst e n ha) rx
    cases rx
    exact repr_of_reads' rd hs (fun _ => na) quiet (by omega) (fun _ _ z => z) (fun h' u tk kept => ⟨.str _, H, I.kept kept, ⟨u, rfl⟩, q⟩) hz
  | tup e ha =>
    obtain ⟨as, rd, na⟩ := Dz.reads I _ _ u (.tup e ha) rx
    cases rx
    exact repr_of_reads' rd hs (fun _ => na) quiet (by omega) (fun _ _ z => z) (fun h' u tk kept => ⟨.str _, H, I.kept kept, ⟨u, rfl⟩, q⟩) hz
  | dct e ha =>
    obtain ⟨as, rd, na⟩ := Dz.reads I _ _ u (.dct e ha) rx
    cases rx
    exact repr_of_reads' rd hs (fun _ => na) quiet (by omega) (fun _ _ z => z) (fun h' u tk kept => ⟨.str _, H, I.kept kept, ⟨u, rfl⟩, q⟩) hz
/-- a list of written items: new, and no table of modules -/
def tLstZ (t : TA) : TE := fun σ H Q => t σ H fun xs H1 => xs.length ≤ sizeLine ∧ ∀ p, H1 p = none → p ≠ sysModules → Q (.ref p) (upd H1 p (.lst xs))
theorem pe_lstZ {es : List Expr} {t : TA} {pos : Pos} (h : PA X es t) : PE X (.List es pos) (tLstZ t) := by
  refine ⟨fun pins s σ H Q I hq => wpAny_List_spliced (thn (h.run pos pins s σ H _ I hq) fun us s1 z => ?_)⟩
  obtain ⟨xs, H1, I1, r, z, q⟩ := z
  refine ⟨by rw [← r.length]; exact z, ?_⟩
  have new : H1 s1.heap.objs.size = none := I1.hok.fresh (Nat.le_refl _)
  refine ⟨.ref s1.heap.objs.size, upd H1 s1.heap.objs.size (.lst xs), I1.laid (t' := s1.toks) (fun b u e => Heap.get?_push_of_some _ e) (Nat.le_refl _) ?_, rfl, q _ new (Nat.ne_of_gt I1.big)⟩
  exact ⟨z, us, 0, r, Heap.get?_push_size _ rfl⟩
end
end Az
namespace Az
open PySem PySem.Spec PyProof.Rows L2
/-- a thing that is shown in n signs at most, at most k deep -/
structure Nice (d : PyData) (k n : Nat) : Prop where
  sh : d.showable = true
  dp : d.depth ≤ k
  sz : d.shown.length ≤ n
theorem Nice.mono {d : PyData} {k k' n n' : Nat} (h : Nice d k n) (hk : k ≤ k') (hn : n ≤ n') : Nice d k' n' := ⟨h.sh, Nat.le_trans h.dp hk, Nat.le_trans h.sz hn⟩
theorem nice_int {i : Int} {n : Nat} (h : i.natAbs.log2 < 1920) (hn : (Str.ofString (toString i)).length ≤ n) : Nice (.int i) 0 n :=
  ⟨by simpa [PyData.showable] using h, by simp [PyData.depth], by simpa [PyData.shown] using hn⟩
theorem nice_none : Nice .none 0 4 := ⟨by simp [PyData.showable], by simp [PyData.depth], by simp only [PyData.shown]; decide +kernel⟩
theorem nice_bool (b : Bool) : Nice (.bool b) 0 5 := ⟨by simp [PyData.showable], by simp [PyData.depth], by simp only [PyData.shown]; cases b <;> decide +kernel⟩
theorem nice_str {x : Str} {n : Nat} (h : (reprText x).length ≤ n) : Nice (.str x) 0 n := ⟨by simp [PyData.showable], by simp [PyData.depth], by simpa [PyData.shown] using h⟩
theorem list_le : ∀ ts : List Str, (listText ts).length ≤ piled ts + 2
  | [] => by decide +kernel
  | t :: ts => by
    have e : (textFrom 0 "[" (t :: ts)).length = 1 + t.length + piled ts := by
      show (textFrom 1 (("[" : Str) ++ ((if 0 > 0 then ", " else "" : String) : Str) ++ t) ts).length = _
      rw [textFrom_length_pos ts 1 _ (by decide), strLen_append, strLen_append]
      rfl
    unfold listText
    rw [strLen_append, e, piled_cons]
    show 1 + t.length + piled ts + 1 ≤ _
    omega
theorem dict_le (ps : List Str) : (dictText ps).length ≤ piled ps + 2 := by
  unfold dictText
  rw [strLen_append, strLen_append]
  show 1 + (Str.join ", " ps).length + 1 ≤ _
  cases ps with
  | nil => decide
  | cons p r =>
    have := join_length_add (p :: r) (by simp)
    omega
theorem nice_tup1 {d : PyData} {k n : Nat} (h : Nice d k n) : Nice (.tuple [d]) (k + 1) (n + 4) := by
  refine ⟨by simp [PyData.showable, PyData.showableAll, h.sh], ?_, ?_⟩
  · simp only [PyData.depth, PyData.depthAll]
    have := h.dp
    omega
  · simp only [PyData.shown, PyData.shownAll]
    have a := fmt_text [d.shown]
    simp only [piled_cons, piled_nil] at a
    have := h.sz
    omega
theorem nice_lst1 {d : PyData} {k n : Nat} (h : Nice d k n) : Nice (.list [d]) (k + 1) (n + 4) := by
  refine ⟨by simp [PyData.showable, PyData.showableAll, h.sh], ?_, ?_⟩
  · simp only [PyData.depth, PyData.depthAll]
    have := h.dp
    omega
  · simp only [PyData.shown, PyData.shownAll]
    have a := list_le [d.shown]
    simp only [piled_cons, piled_nil] at a
    have := h.sz
    omega
theorem nice_dct1 {d : PyData} {k n m : Nat} {x : Str} (hx : (reprText x).length ≤ m) (h : Nice d k n) : Nice (.dict [(.str x, d)]) (k + 1) (n + m + 6) := by
  refine ⟨by simp [PyData.showable, PyData.showableKv, h.sh], ?_, ?_⟩
  · simp only [PyData.depth, PyData.depthKv]
    have := h.dp
    omega
  · simp only [PyData.shown, PyData.shownKv]
    have a := dict_le [reprText x ++ ": " ++ d.shown]
    simp only [piled_cons, piled_nil, strLen_append] at a
    have c : ((": " : Str)).length = 2 := by decide +kernel
    have := h.sz
    omega
theorem nice_tup0 : Nice (.tuple []) 1 2 := ⟨by simp [PyData.showable, PyData.showableAll], by simp [PyData.depth, PyData.depthAll], by simp only [PyData.shown, PyData.shownAll]; decide +kernel⟩
theorem nice_lst0 : Nice (.list []) 1 2 := ⟨by simp [PyData.showable, PyData.showableAll], by simp [PyData.depth, PyData.depthAll], by simp only [PyData.shown, PyData.shownAll]; decide +kernel⟩
theorem nice_dct0 : Nice (.dict []) 1 2 := ⟨by simp [PyData.showable, PyData.showableKv], by simp [PyData.depth, PyData.depthKv], by simp only [PyData.shown, PyData.shownKv]; decide +kernel⟩
end Az
set_option Elab.async false
set_option linter.all false
set_option maxRecDepth 100000
set_option maxHeartbeats 4000000
set_option pp.maxSteps 400
set_option pp.deepTerms false
namespace Az
open PySem PySem.Spec PyProof.Rows L2
/-! ### texts of signs that have a number of eight places -/
def Asc (x : Str) : Prop := ∀ c ∈ x.cps.toList, c < 16 ^ 8
theorem asc_str (s : String) : Asc (Str.ofString s) := fun c hc => by
  rw [Str.ofString_eq_toList] at hc
  simp only [List.mem_map] at hc
  obtain ⟨k, _, rfl⟩ := hc
  exact Nat.lt_of_lt_of_le (UInt32.toNat_lt k.val) (by decide)
theorem Asc.app {x y : Str} (h1 : Asc x) (h2 : Asc y) : Asc (x ++ y) := fun c hc => by
  rw [Str.cps_append, Array.toList_append, List.mem_append] at hc
  exact hc.elim (h1 c) (h2 c)
theorem asc_hex (l : List Char) (n : Nat) : ∀ c ∈ List.replicate n 48 ++ l.map Char.toNat, c < 16 ^ 8 := fun c hc => by
  rcases List.mem_append.mp hc with h | h
  · rw [(List.mem_replicate.mp h).2]
    decide
  · obtain ⟨k, _, rfl⟩ := List.mem_map.mp h
    exact Nat.lt_of_lt_of_le (UInt32.toNat_lt k.val) (by decide)
theorem asc_char {q c : Nat} (hc : c < 16 ^ 8) : ∀ d ∈ Builtin.Str.reprChar q c, d < 16 ^ 8 := fun d hd => by
  unfold Builtin.Str.reprChar at hd
  dsimp only at hd
  have two : ∀ a : Nat, a < 16 ^ 8 → d ∈ [92, a] → d < 16 ^ 8 := fun a ha h => by
    simp only [List.mem_cons, List.not_mem_nil, or_false] at h
    rcases h with h | h
    · rw [h]; decide
    · rw [h]; exact ha
  have app : ∀ (a : Nat) (l : List Nat), a < 16 ^ 8 → (∀ c ∈ l, c < 16 ^ 8) → d ∈ [92, a] ++ l → d < 16 ^ 8 := fun a l ha hl h => (List.mem_append.mp h).elim (two a ha) (hl d)
  split at hd
  · exact two c hc hd
  · split at hd
    · exact two 110 (by decide) hd
    · split at hd
      · exact two 114 (by decide) hd
      · split at hd
        · exact two 116 (by decide) hd
        · split at hd
          · simp only [List.mem_cons, List.not_mem_nil, or_false] at hd
            rw [hd]
            exact hc
          · split at hd
            · exact app 120 _ (by decide) (asc_hex _ _) hd
            · split at hd
              · exact app 117 _ (by decide) (asc_hex _ _) hd
              · exact app 85 _ (by decide) (asc_hex _ _) hd
theorem asc_fold {q : Nat} : ∀ (l : List Nat) (acc : Array Nat), (∀ c ∈ l, c < 16 ^ 8) → (∀ c ∈ acc.toList, c < 16 ^ 8) → ∀ c ∈ (l.foldl (fun out c => out ++ (Builtin.Str.reprChar q c).toArray) acc).toList, c < 16 ^ 8
  | [], acc, _, h => h
  | k :: r, acc, hl, ha => by
    rw [List.foldl_cons]
    refine asc_fold r _ (fun c hc => hl c (List.mem_cons_of_mem _ hc)) fun c hc => ?_
    rw [Array.toList_append, List.mem_append] at hc
    exact hc.elim (ha c) fun h => asc_char (hl k List.mem_cons_self) c (by simpa using h)
theorem asc_quote (x : Str) : reprQuote x < 16 ^ 8 := by
  unfold reprQuote
  split <;> decide
theorem asc_repr {x : Str} (h : Asc x) : Asc (reprText x) := fun c hc => by
  unfold reprText at hc
  rw [Array.toList_push, List.mem_append, ← Array.foldl_toList] at hc
  rcases hc with hc | hc
  · refine asc_fold x.cps.toList #[reprQuote x] h (fun d hd => ?_) c hc
    have z : d = reprQuote x := by simpa using hd
    rw [z]
    exact asc_quote x
  · have z : c = reprQuote x := by simpa using hc
    rw [z]
    exact asc_quote x
theorem asc_join : ∀ ts : List Str, (∀ t ∈ ts, Asc t) → Asc (Str.join ", " ts)
  | [], _ => fun c hc => by
    have z : c ∈ (Str.empty).cps.toList := hc
    simp [Str.empty] at z
  | [x], h => h x List.mem_cons_self
  | x :: y :: r, h => ((h x List.mem_cons_self).app (asc_str ", ")).app (asc_join (y :: r) fun t ht => h t (List.mem_cons_of_mem _ ht))
theorem asc_from : ∀ (ts : List Str) (k : Nat) (acc : Str), Asc acc → (∀ t ∈ ts, Asc t) → Asc (textFrom k acc ts)
  | [], _, _, h, _ => h
  | t :: ts, k, acc, h, ht => by
    unfold textFrom
    exact asc_from ts (k + 1) _ ((h.app (asc_str _)).app (ht t List.mem_cons_self)) fun u hu => ht u (List.mem_cons_of_mem _ hu)
mutual
/-- all texts within a thing -/
def ascD : PyData → Prop
  | .none | .bool _ | .int _ => True
  | .str x => Asc x
  | .list xs | .tuple xs => ascAll xs
  | .dict kvs => ascKv kvs
def ascAll : List PyData → Prop
  | [] => True
  | x :: xs => ascD x ∧ ascAll xs
def ascKv : List (PyData × PyData) → Prop
  | [] => True
  | (k, v) :: r => ascD k ∧ ascD v ∧ ascKv r
end
mutual
theorem asc_shown : ∀ d : PyData, ascD d → Asc d.shown
  | .none, _ => asc_str "None"
  | .bool b, _ => by
    simp only [PyData.shown]
    cases b
    · exact asc_str "False"
    · exact asc_str "True"
  | .int i, _ => asc_str (toString i)
  | .str x, h => asc_repr (by simpa [ascD] using h)
  | .list xs, h => by
    simp only [PyData.shown]
    exact (asc_from _ _ _ (asc_str "[") (asc_shownAll xs (by simpa [ascD] using h))).app (asc_str "]")
  | .tuple xs, h => by
    simp only [PyData.shown]
    exact ((asc_str "(").app (asc_join _ (asc_shownAll xs (by simpa [ascD] using h)))).app (asc_str _)
  | .dict kvs, h => by
    simp only [PyData.shown]
    exact ((asc_str "{").app (asc_join _ (asc_shownKv kvs (by simpa [ascD] using h)))).app (asc_str "}")
theorem asc_shownAll : ∀ xs : List PyData, ascAll xs → ∀ t ∈ PyData.shownAll xs, Asc t
  | [], _, t, ht => by
    simp [PyData.shownAll] at ht
  | x :: xs, h, t, ht => by
    have h' : ascD x ∧ ascAll xs := by simpa [ascAll] using h
    simp only [PyData.shownAll, List.mem_cons] at ht
    rcases ht with e | e
    · rw [e]
      exact asc_shown x h'.1
    · exact asc_shownAll xs h'.2 t e
theorem asc_shownKv : ∀ xs : List (PyData × PyData), ascKv xs → ∀ t ∈ PyData.shownKv xs, Asc t
  | [], _, t, ht => by
    simp [PyData.shownKv] at ht
  | (k, v) :: xs, h, t, ht => by
    have h' : ascD k ∧ ascD v ∧ ascKv xs := by simpa [ascKv] using h
    simp only [PyData.shownKv, List.mem_cons] at ht
    rcases ht with e | e
    · rw [e]
      exact ((asc_shown k h'.1).app (asc_str ": ")).app (asc_shown v h'.2.1)
    · exact asc_shownKv xs h'.2.2 t e
end
/-- str of a thing -/
def strD : PyData → Str
  | .str x => x
  | d => d.shown
theorem strD_asc {d : PyData} (h : ascD d) : Asc (strD d) := by
  cases d with
  | str x => simpa [strD, ascD] using h
  | _ => exact asc_shown _ h
theorem len_repr (x : Str) : x.length ≤ (reprText x).length := by
  have grow : ∀ (q : Nat) (l : List Nat) (acc : Array Nat), acc.size + l.length ≤ (l.foldl (fun out c => out ++ (Builtin.Str.reprChar q c).toArray) acc).size := fun q l => by
    induction l with
    | nil => intro acc; simp
    | cons k r ih =>
      intro acc
      have h := ih (acc ++ (Builtin.Str.reprChar q k).toArray)
      have one : 1 ≤ (Builtin.Str.reprChar q k).length := by
        unfold Builtin.Str.reprChar
        dsimp only
        repeat' split
        all_goals simp
        all_goals omega
      rw [List.foldl_cons]
      simp only [Array.size_append, List.size_toArray] at h
      simp only [List.length_cons]
      omega
  have h := grow (reprQuote x) x.cps.toList #[reprQuote x]
  unfold reprText
  show x.length ≤ ((x.cps.foldl (fun out c => out ++ (Builtin.Str.reprChar (reprQuote x) c).toArray) #[reprQuote x]).push (reprQuote x)).size
  rw [Array.size_push, ← Array.foldl_toList]
  have e : x.cps.toList.length = x.length := by simp [Str.length]
  omega
theorem strD_len {d : PyData} : (strD d).length ≤ d.shown.length := by
  cases d with
  | str x =>
    simp only [strD, PyData.shown]
    exact len_repr x
  | _ => exact Nat.le_refl _
section
variable {X : Cx}
def rStrZ (K : PySem.W.Frag) : List V → Hp → VK → Prop := fun xs H Q => ∃ (v : V) (d : PyData), xs = [v] ∧ Dz K H v d ∧ d.showable = true ∧ d.depth ≤ 60 ∧ d.shown.length ≤ sizeLine ∧ Q (.str (strD d)) H
theorem cr_strZ {k : Nat} (quiet : X.A.guards = some []) (room : Room k X.A) : CallR X (.type "str") (rStrZ X.K) := by
  intro pins s σ H xs us Q I r h
  obtain ⟨v, d, rfl, hd, hs, hp, hz, q⟩ := h
  obtain ⟨u, rfl, rx⟩ := vals1 r
  have hu := room.un
  cases hd with
  | non =>
    cases rx
    exact PySem.P.str_of_none ⟨.str _, H, I.tok _, ⟨_, rfl⟩, q⟩
  | bl b =>
    cases rx
    exact PySem.P.str_of_bool ⟨.str _, H, I.tok _, ⟨_, rfl⟩, q⟩
  | int i =>
    obtain ⟨t, rfl⟩ := rx
    exact PySem.P.str_of_int (by simpa [PyData.showable] using hs) ⟨.str _, H, I.tok _, ⟨_, rfl⟩, q⟩
  | str x =>
    obtain ⟨t, rfl⟩ := rx
    exact PySem.P.str_of_str ⟨.str _, H, I, ⟨_, rfl⟩, q⟩
  | lst e n ha =>
    obtain ⟨as, rd, na⟩ := Dz.reads I _ _ u (.lst e n ha) rx
    cases rx
    exact str_of_reads rd hs (fun _ => na) quiet (by omega) (fun _ _ z => z) (fun h' u tk kept => ⟨.str _, H, I.kept kept, ⟨u, rfl⟩, q⟩) hz
  | tup e ha =>
    obtain ⟨as, rd, na⟩ := Dz.reads I _ _ u (.tup e ha) rx
    cases rx
    exact str_of_reads rd hs (fun _ => na) quiet (by omega) (fun _ _ z => z) (fun h' u tk kept => ⟨.str _, H, I.kept kept, ⟨u, rfl⟩, q⟩) hz
  | dct e ha =>
    obtain ⟨as, rd, na⟩ := Dz.reads I _ _ u (.dct e ha) rx
    cases rx
    exact str_of_reads rd hs (fun _ => na) quiet (by omega) (fun _ _ z => z) (fun h' u tk kept => ⟨.str _, H, I.kept kept, ⟨u, rfl⟩, q⟩) hz
end
end Az
set_option Elab.async false
set_option linter.all false
set_option maxRecDepth 100000
set_option maxHeartbeats 4000000
set_option pp.maxSteps 400
set_option pp.deepTerms false
/-! Works: names and parts; how many things a thing has; what a work is. -/
namespace W37
open PySem PySem.Spec PyProof.Rows L2
open Az
abbrev Nm := Str × Str
def nD (n : Nm) : PyData := .tuple [.str n.1, .str n.2]
theorem nD_inj {n m : Nm} (h : nD n = nD m) : n = m := by
  obtain ⟨a, b⟩ := n
  obtain ⟨c, d⟩ := m
  unfold nD at h
  injection h with h
  injection h with h1 h2
  injection h2 with h2 _
  injection h1 with h1
  injection h2 with h2
  exact Prod.ext h1 h2
/-- a work -/
inductive W where
  | mk (n : Nm) (ps : List W)
mutual
def W.nms : W → List Nm
  | .mk n ps => n :: nmsL ps
def nmsL : List W → List Nm
  | [] => []
  | w :: r => w.nms ++ nmsL r
end
mutual
def W.dat : W → PyData
  | .mk n ps => .tuple [nD n, .tuple (datL ps)]
def datL : List W → List PyData
  | [] => []
  | w :: r => w.dat :: datL r
end
mutual
def W.dp : W → Nat
  | .mk _ ps => dpL ps + 1
def dpL : List W → Nat
  | [] => 0
  | w :: r => max w.dp (dpL r)
end
theorem nmsL_app : ∀ xs ys : List W, nmsL (xs ++ ys) = nmsL xs ++ nmsL ys
  | [], ys => by simp [nmsL]
  | w :: r, ys => by
    rw [List.cons_append, nmsL, nmsL_app r ys, nmsL, List.append_assoc]
theorem dpL_app : ∀ (xs : List W) (w : W) (k : Nat), dpL xs ≤ k → w.dp ≤ k → dpL (xs ++ [w]) ≤ k
  | [], w, k, _, h => by
    rw [List.nil_append, dpL, dpL]
    omega
  | x :: r, w, k, h, h' => by
    rw [dpL] at h
    rw [List.cons_append, dpL]
    have := dpL_app r w k (by omega) h'
    omega
theorem dpL_mem : ∀ {xs : List W} {w : W}, w ∈ xs → w.dp ≤ dpL xs
  | x :: r, w, h => by
    rw [dpL]
    rcases List.mem_cons.mp h with z | z
    · rw [z]; omega
    · have := dpL_mem z
      omega
theorem datL_map : ∀ ws : List W, datL ws = ws.map W.dat
  | [] => rfl
  | w :: r => by rw [datL, datL_map r, List.map_cons]
/-- a name as it stands -/
def NmV (H : Hp) (v : V) (n : Nm) : Prop := ∃ t, v = .ref t ∧ H t = some (.tup [.str n.1, .str n.2])
inductive NmL (H : Hp) : List V → List Nm → Prop
  | nil : NmL H [] []
  | cons {v : V} {vs : List V} {n : Nm} {ns : List Nm} : NmV H v n → NmL H vs ns → NmL H (v :: vs) (n :: ns)
/-- tuples stand -/
def Tp (H H' : Hp) : Prop := ∀ b xs, H b = some (.tup xs) → H' b = some (.tup xs)
theorem Tp.trans {H H1 H2 : Hp} (p : Tp H H1) (q : Tp H1 H2) : Tp H H2 := fun b xs e => q b xs (p b xs e)
theorem tp_same {H H' : Hp} (s : L2.Same H H') : Tp H H' := fun b ys e => s b _ e
theorem tp_upd {H : Hp} {p : Addr} {x : HO} (e : ∀ xs, H p ≠ some (.tup xs)) : Tp H (upd H p x) := fun b ys eb => by
  rw [upd_ne (fun z => e ys (by rw [← z]; exact eb))]
  exact eb
theorem NmV.tp {H H' : Hp} {v : V} {n : Nm} (h : NmV H v n) (s : Tp H H') : NmV H' v n := by
  obtain ⟨t, e, r⟩ := h
  exact ⟨t, e, s _ _ r⟩
theorem NmL.tp {H H' : Hp} (s : Tp H H') : ∀ {vs : List V} {ns : List Nm}, NmL H vs ns → NmL H' vs ns
  | _, _, .nil => .nil
  | _, _, .cons h r => .cons (h.tp s) (r.tp s)
theorem NmL.len {H : Hp} : ∀ {vs : List V} {ns : List Nm}, NmL H vs ns → vs.length = ns.length
  | _, _, .nil => rfl
  | _, _, .cons _ r => by rw [List.length_cons, List.length_cons, r.len]
theorem NmL.snoc {H : Hp} : ∀ {vs : List V} {ns : List Nm} {v : V} {n : Nm}, NmL H vs ns → NmV H v n → NmL H (vs ++ [v]) (ns ++ [n])
  | _, _, _, _, .nil, h => .cons h .nil
  | _, _, _, _, .cons h r, h' => .cons h (r.snoc h')
theorem NmL.app {H : Hp} : ∀ {vs ws : List V} {ns ms : List Nm}, NmL H vs ns → NmL H ws ms → NmL H (vs ++ ws) (ns ++ ms)
  | _, _, _, _, .nil, h => h
  | _, _, _, _, .cons h r, h' => .cons h (r.app h')
theorem NmL.take {H : Hp} : ∀ {vs : List V} {ns : List Nm} (k : Nat), NmL H vs ns → NmL H (vs.take k) (ns.take k)
  | _, _, 0, h => by rw [List.take_zero, List.take_zero]; exact .nil
  | _, _, _ + 1, .nil => .nil
  | _, _, k + 1, .cons h r => .cons h (r.take k)
theorem NmL.drop {H : Hp} : ∀ {vs : List V} {ns : List Nm} (k : Nat), NmL H vs ns → NmL H (vs.drop k) (ns.drop k)
  | _, _, 0, h => h
  | _, _, _ + 1, .nil => .nil
  | _, _, k + 1, .cons h r => r.drop k
theorem NmL.get {H : Hp} : ∀ {vs : List V} {ns : List Nm} {i : Nat} {v : V}, NmL H vs ns → vs[i]? = some v → ∃ n, ns[i]? = some n ∧ NmV H v n
  | _, _, _, _, .nil, e => by simp at e
  | _, _, 0, _, .cons h r, e => by
    rw [List.getElem?_cons_zero] at e
    cases e
    exact ⟨_, rfl, h⟩
  | _, _, i + 1, _, .cons h r, e => by
    rw [List.getElem?_cons_succ] at e
    obtain ⟨n, e1, q⟩ := r.get e
    exact ⟨n, by rw [List.getElem?_cons_succ]; exact e1, q⟩
theorem NmL.mem {H : Hp} {vs : List V} {ns : List Nm} (h : NmL H vs ns) {v : V} (m : v ∈ vs) : ∃ n ∈ ns, NmV H v n := by
  obtain ⟨i, hi⟩ := List.getElem?_of_mem m
  obtain ⟨n, e, q⟩ := h.get hi
  exact ⟨n, List.mem_of_getElem? e, q⟩
mutual
/-- a work as it stands -/
inductive Wk (H : Hp) : V → W → Prop
  | mk {t p : Addr} {v : V} {n : Nm} {xs : List V} {ps : List W} : H t = some (.tup [v, .ref p]) → NmV H v n → H p = some (.tup xs) → WkL H xs ps → Wk H (.ref t) (.mk n ps)
inductive WkL (H : Hp) : List V → List W → Prop
  | nil : WkL H [] []
  | cons {v : V} {vs : List V} {w : W} {ws : List W} : Wk H v w → WkL H vs ws → WkL H (v :: vs) (w :: ws)
end
mutual
theorem Wk.tp {H H' : Hp} (s : Tp H H') : ∀ {v : V} {w : W}, Wk H v w → Wk H' v w
  | _, _, .mk e1 n e2 r => .mk (s _ _ e1) (n.tp s) (s _ _ e2) (WkL.tp s r)
theorem WkL.tp {H H' : Hp} (s : Tp H H') : ∀ {vs : List V} {ws : List W}, WkL H vs ws → WkL H' vs ws
  | _, _, .nil => .nil
  | _, _, .cons h r => .cons (Wk.tp s h) (WkL.tp s r)
end
theorem WkL.len {H : Hp} : ∀ {vs : List V} {ws : List W}, WkL H vs ws → vs.length = ws.length
  | _, _, .nil => rfl
  | _, _, .cons _ r => by rw [List.length_cons, List.length_cons, r.len]
theorem WkL.snoc {H : Hp} : ∀ {vs : List V} {ws : List W} {v : V} {w : W}, WkL H vs ws → Wk H v w → WkL H (vs ++ [v]) (ws ++ [w])
  | _, _, _, _, .nil, h => .cons h .nil
  | _, _, _, _, .cons h r, h' => .cons h (r.snoc h')
theorem WkL.get {H : Hp} : ∀ {vs : List V} {ws : List W} {i : Nat} {v : V}, WkL H vs ws → vs[i]? = some v → ∃ w, ws[i]? = some w ∧ Wk H v w
  | _, _, _, _, .nil, e => by simp at e
  | _, _, 0, _, .cons h r, e => by
    rw [List.getElem?_cons_zero] at e
    cases e
    exact ⟨_, rfl, h⟩
  | _, _, i + 1, _, .cons h r, e => by
    rw [List.getElem?_cons_succ] at e
    obtain ⟨n, e1, q⟩ := r.get e
    exact ⟨n, by rw [List.getElem?_cons_succ]; exact e1, q⟩
section
variable {K : PySem.W.Frag}
theorem NmV.dz {H : Hp} {v : V} {n : Nm} (h : NmV H v n) : Dz K H v (nD n) := by
  obtain ⟨t, rfl, e⟩ := h
  exact .tup e (.cons (.str _) (.cons (.str _) .nil))
mutual
theorem Wk.dz {H : Hp} : ∀ {v : V} {w : W}, Wk H v w → Dz K H v w.dat
  | _, _, .mk e1 n e2 r => by
    rw [W.dat]
    exact .tup e1 (.cons n.dz (.cons (.tup e2 (WkL.dz r)) .nil))
theorem WkL.dz {H : Hp} : ∀ {vs : List V} {ws : List W}, WkL H vs ws → DzAll K H vs (datL ws)
  | _, _, .nil => by rw [datL]; exact .nil
  | _, _, .cons h r => by rw [datL]; exact .cons (Wk.dz h) (WkL.dz r)
end
end
/-! ## things: how many they have, how deep they are, their texts -/
def Ok7 (x : Str) : Prop := x.length ≤ 200 ∧ ∀ c ∈ x.cps.toList, c < 128
mutual
def wt : PyData → Nat
  | .tuple ds => wts ds + 1
  | _ => 1
def wts : List PyData → Nat
  | [] => 0
  | d :: r => wt d + wts r
end
mutual
def dt : PyData → Nat
  | .tuple ds => dts ds + 1
  | _ => 0
def dts : List PyData → Nat
  | [] => 0
  | d :: r => max (dt d) (dts r)
end
mutual
def gd : PyData → Prop
  | .str x => Ok7 x
  | .tuple ds => gds ds
  | _ => True
def gds : List PyData → Prop
  | [] => True
  | d :: r => gd d ∧ gds r
end
theorem wt_pos : ∀ d : PyData, 1 ≤ wt d
  | .tuple ds => by rw [wt]; omega
  | .none | .bool _ | .int _ | .str _ | .list _ | .dict _ => by simp [wt]
theorem wts_app : ∀ xs ys : List PyData, wts (xs ++ ys) = wts xs + wts ys
  | [], ys => by simp [wts]
  | d :: r, ys => by
    rw [List.cons_append, wts, wts_app r ys, wts]
    omega
theorem len_wts : ∀ ds : List PyData, ds.length ≤ wts ds
  | [] => by simp
  | d :: r => by
    have := len_wts r
    have := wt_pos d
    rw [List.length_cons, wts]
    omega
theorem wts_mem : ∀ {ds : List PyData} {d : PyData}, d ∈ ds → wt d ≤ wts ds
  | d :: r, e, h => by
    rw [wts]
    rcases List.mem_cons.mp h with z | z
    · rw [z]; omega
    · have := wts_mem z
      omega
theorem dts_app : ∀ xs ys : List PyData, dts (xs ++ ys) = max (dts xs) (dts ys)
  | [], ys => by simp [dts]
  | d :: r, ys => by
    rw [List.cons_append, dts, dts_app r ys, dts]
    omega
theorem dts_mem : ∀ {ds : List PyData} {d : PyData}, d ∈ ds → dt d ≤ dts ds
  | d :: r, e, h => by
    rw [dts]
    rcases List.mem_cons.mp h with z | z
    · rw [z]; omega
    · have := dts_mem z
      omega
theorem gds_iff : ∀ {ds : List PyData}, gds ds ↔ ∀ d ∈ ds, gd d
  | [] => by simp [gds]
  | d :: r => by rw [gds, gds_iff (ds := r)]; simp
theorem gds_app {xs ys : List PyData} : gds (xs ++ ys) ↔ gds xs ∧ gds ys := by
  rw [gds_iff, gds_iff, gds_iff]
  constructor
  · intro h
    exact ⟨fun d m => h d (List.mem_append_left _ m), fun d m => h d (List.mem_append_right _ m)⟩
  · rintro ⟨h1, h2⟩ d m
    rcases List.mem_append.mp m with z | z
    · exact h1 d z
    · exact h2 d z
/-! ## what a work is -/
section
variable (nm : PyData → Bool)
def form : Nat → PyData → Bool
  | 0, _ => false
  | k + 1, d => match d with
    | .tuple [n, .tuple ps] => nm n && ps.all (form k)
    | _ => false
def names : Nat → PyData → List PyData
  | 0, _ => []
  | k + 1, d => match d with
    | .tuple [n, .tuple ps] => n :: ps.flatMap (names k)
    | _ => []
/-- a name beside a tuple -/
def nwp (d : PyData) : Bool := match d with
  | .tuple [n, .tuple _] => nm n
  | _ => false
theorem form_nwp {k : Nat} {d : PyData} (h : nwp nm d = false) : form nm k d = false := by
  cases k with
  | zero => rfl
  | succ k =>
    unfold form
    unfold nwp at h
    split
    · rename_i n ps
      simp only at h
      rw [h]
      rfl
    · rfl
theorem nwp_mk {d : PyData} (h : nwp nm d = true) : ∃ n ps, d = .tuple [n, .tuple ps] ∧ nm n = true := by
  unfold nwp at h
  split at h
  · rename_i n ps
    exact ⟨n, ps, rfl, h⟩
  · cases h
def IsW (d : PyData) : Prop := form nm 5 d = true ∧ (names 5 d).Nodup
/-- a stack of things, the first to be taken at the end: how many levels each may have yet, and what was seen -/
def Ans (st : List (PyData × Nat)) (seen : List PyData) : Prop := (∀ p ∈ st, form nm p.2 p.1 = true) ∧ (seen ++ st.flatMap fun p => names p.2 p.1).Nodup
theorem ans_nil {seen : List PyData} (h : seen.Nodup) : Ans nm [] seen := ⟨by simp, by simpa using h⟩
theorem ans_one {d : PyData} : Ans nm [(d, 5)] [] ↔ IsW nm d := by
  unfold Ans IsW
  simp
theorem ans_bad {st : List (PyData × Nat)} {p : PyData × Nat} {seen : List PyData} (h : form nm p.2 p.1 = false) : ¬ Ans nm (st ++ [p]) seen := fun a => by
  have := a.1 p (by simp)
  rw [h] at this
  cases this
theorem ans_zero {st : List (PyData × Nat)} {d : PyData} {seen : List PyData} : ¬ Ans nm (st ++ [(d, 0)]) seen := ans_bad nm rfl
theorem ans_seen {st : List (PyData × Nat)} {n : PyData} {ps : List PyData} {k : Nat} {seen : List PyData} (h : n ∈ seen) : ¬ Ans nm (st ++ [(.tuple [n, .tuple ps], k + 1)]) seen := fun a => by
  have q := a.2
  rw [List.nodup_append] at q
  refine q.2.2 n h n ?_ rfl
  rw [List.mem_flatMap]
  exact ⟨(.tuple [n, .tuple ps], k + 1), by simp, by simp [names]⟩
theorem ans_step {st : List (PyData × Nat)} {n : PyData} {ps : List PyData} {k : Nat} {seen : List PyData} (hn : nm n = true) :
    Ans nm (st ++ [(.tuple [n, .tuple ps], k + 1)]) seen ↔ Ans nm (st ++ ps.map fun q => (q, k)) (seen ++ [n]) := by
  unfold Ans
  constructor
  · rintro ⟨a, b⟩
    constructor
    · intro p hp
      rcases List.mem_append.mp hp with z | z
      · exact a p (List.mem_append_left _ z)
      · obtain ⟨q, hq, rfl⟩ := List.mem_map.mp z
        have := a (.tuple [n, .tuple ps], k + 1) (by simp)
        simp only [form, hn, Bool.true_and, List.all_eq_true] at this
        exact this q hq
    · refine (List.Perm.nodup_iff ?_).mp b
      simp only [List.flatMap_append, List.flatMap_cons, List.flatMap_nil, names, List.append_nil, List.flatMap_map, List.append_assoc]
      refine List.Perm.append_left _ ?_
      show (_ ++ n :: _).Perm ([n] ++ _)
      exact List.perm_middle
  · rintro ⟨a, b⟩
    constructor
    · intro p hp
      rcases List.mem_append.mp hp with z | z
      · exact a p (List.mem_append_left _ z)
      · rw [List.mem_singleton.mp z]
        simp only [form, hn, Bool.true_and, List.all_eq_true]
        intro q hq
        exact a (q, k) (List.mem_append_right _ (List.mem_map.mpr ⟨q, hq, rfl⟩))
    · refine (List.Perm.nodup_iff ?_).mpr b
      simp only [List.flatMap_append, List.flatMap_cons, List.flatMap_nil, names, List.append_nil, List.flatMap_map, List.append_assoc]
      refine List.Perm.append_left _ ?_
      show (_ ++ n :: _).Perm ([n] ++ _)
      exact List.perm_middle
end
end W37
set_option Elab.async false
set_option linter.all false
set_option maxRecDepth 100000
set_option maxHeartbeats 4000000
set_option pp.maxSteps 400
set_option pp.deepTerms false
namespace Xt
open PySem PySem.Spec PyProof.Rows L2
open AutoSeq1 (wpAny_loadPart')
theorem meets_enumerate_newT (l : Addr) (items : Array Value) (n : Nat) (dct : Option Addr) (sl : Array (Option Value)) :
    Meets (Builtin.«enumerate.__new__» ⟨[.type "enumerate", .ref l], []⟩) (fun _ R s => s.heap.get? l = some { cls := .type "tuple", dict := dct, data := .seq items n, slots := sl } ∧
      R (.ok (.ret (.ref (s.heap.push { cls := .type "tuple_iterator", data := .fields #[.ref l, .int 0 0] }).objs.size)))
        { s with heap := (s.heap.push { cls := .type "tuple_iterator", data := .fields #[.ref l, .int 0 0] }).push { cls := .type "enumerate", data := .fields #[.none, .bool false, .ref s.heap.objs.size, rawInt 0, .none, .none] } }) :=
  .of_wp fun prog w A R s h => by
    obtain ⟨hp, g, d, tk, os⟩ := s; obtain ⟨hl, h⟩ := h
    have hsub := sub_enumerate
    have hL : Heap.IsTuple (Shared.heap ⟨hp, g, d, tk, os⟩) l items := ⟨_, hl, rfl, n, rfl⟩
    wp_walk using wpAny_loadPart' hl
    refine wpAny_stack_any fun st => wpAny_pure ?_
    split
    · rename_i c _ _ _ _ _
      cases (c == Value.type "enumerate")
      · wp_walk using wpAny_loadPart' hl, wpAny_pyIter_tuple hL
        exact ⟨_, rfl, h⟩
      · wp_walk using wpAny_loadPart' hl, wpAny_pyIter_tuple hL
        exact ⟨_, rfl, h⟩
    · wp_walk using wpAny_loadPart' hl, wpAny_pyIter_tuple hL
      exact ⟨_, rfl, h⟩
section
variable {prog : Program} {w : World} {A : Around} {E : Value → Shared → Prop} {s : Shared}
theorem call_enumerate_tuple {l : Addr} {items : Array Value} {Q : Value → Shared → Prop} (hL : s.heap.IsTuple l items)
    (h : ∀ h', IsEnum h' (s.heap.objs.size + 1) s.heap.objs.size 0 .none → h'.IsTupleIter s.heap.objs.size l 0 → h'.objs.size = s.heap.objs.size + 2 →
      (∀ b o, s.heap.get? b = some o → h'.get? b = some o) → Q (.ref (s.heap.objs.size + 1)) { s with heap := h' }) :
    wpAny (model prog w) A (call (.type "enumerate") [.ref l]) Q E s := by
  obtain ⟨⟨c, dct, dt, sl⟩, hl, hc, n, hd⟩ := hL
  replace hc : c = .type "tuple" := hc
  replace hd : dt = .seq items n := hd
  subst hc hd
  refine callType_new F.called_enumerate (by decide) (F.typeCall_enumerate_1 _) (F.newCall_enumerate_1 _) (fun obj => F.args_object_init_2 obj _) F.entry_enumerate_new
    (meets_enumerate_newT l items n dct sl) ⟨hl, ?_⟩
  have hz : (s.heap.push { cls := .type "tuple_iterator", data := .fields #[.ref l, .int 0 0] }).objs.size = s.heap.objs.size + 1 := Heap.size_push ..
  show _ ∧ _
  rw [hz]
  have he : IsEnum ((s.heap.push { cls := .type "tuple_iterator", data := .fields #[.ref l, .int 0 0] }).push
      { cls := .type "enumerate", data := .fields #[.none, .bool false, .ref s.heap.objs.size, rawInt 0, .none, .none] }) (s.heap.objs.size + 1) s.heap.objs.size 0 .none := by
    have := Heap.get?_push_size (s.heap.push { cls := .type "tuple_iterator", data := .fields #[.ref l, .int 0 0] })
      (o := { cls := .type "enumerate", data := .fields #[.none, .bool false, .ref s.heap.objs.size, rawInt 0, .none, .none] }) rfl
    rw [hz] at this; exact this
  refine ⟨⟨_, he, rfl⟩, h _ he ⟨_, Heap.get?_push_of_some _ (Heap.get?_push_size _ rfl), rfl, rfl⟩ (by rw [Heap.size_push, hz]) fun b o x => Heap.get?_push_of_some _ (Heap.get?_push_of_some _ x)⟩
end
/-- the tuple at a, each item in a new pair with its number -/
def IteT (K : PySem.W.Frag) (a : Addr) : It :=
  ⟨fun i H => ∃ (xs : List V) (x : V), SqT K H a xs ∧ xs[i]? = some x, fun i H v H' => ∃ T x, v = .ref T ∧ H T = none ∧ H' = upd H T (.tup [.int (i : Nat), x]) ∧ ∀ xs, SqT K H a xs → xs[i]? = some x, fun i H => ∃ xs : List V, SqT K H a xs ∧ xs.length = i⟩
theorem turn_enumT {P : Program} {w : World} {K : PySem.W.Frag} {elts : List Expr} {kk : Nat} {tpos : Pos} (a e it : Addr) (hae : a ≠ e) (hai : a ≠ it) :
    Turn P w K (.Tuple elts kk tpos) (IteT K a) [e, it] e (fun i h => (∃ old, IsEnum h e it ((i : Nat) : Int) old) ∧ h.IsTupleIter it a i ∧ e ≠ it) where
  mem := by simp
  obj := fun i h st b hb => by
    obtain ⟨⟨old, he⟩, ⟨o, ho, hc, hd⟩, _⟩ := st
    have e' : b = e ∨ b = it := by simpa using hb
    rcases e' with z | z
    · rw [z]; exact ⟨_, he, fun v q => nomatch q⟩
    · rw [z]; exact ⟨o, ho, fun v q => by rw [hd] at q; cases q⟩
  keep := fun i h h' st k => let ⟨⟨old, he⟩, hi, hne⟩ := st; ⟨⟨old, k e (by simp) _ he⟩, hi.at fun o q => k it (by simp) o q, hne⟩
  item := by
    intro X hP hw hK hc i pins s σ H E I hf st hg
    subst hP hw hK
    obtain ⟨⟨old, he⟩, hit, hne⟩ := st
    obtain ⟨xs, x, hq, hx⟩ := hg
    obtain ⟨its, rv, p, hz⟩ := I.tuple hq
    obtain ⟨u, hu, ru⟩ := rv.get hx
    have hel : e < s.heap.objs.size := Heap.lt_size he
    have hil : it < s.heap.objs.size := by obtain ⟨_, q, _⟩ := hit; exact Heap.lt_size q
    have hu' : its.toArray[i]? = some u := by simpa using hu
    have hi : i < its.toArray.size := by
      rcases Nat.lt_or_ge i its.toArray.size with h | h
      · exact h
      · rw [Array.getElem?_eq_none h] at hu'; cases hu'
    refine wpAny_pyNext_enum_itemD (Draws.tuple (A := X.A.in1) (I.ok.hd hc) it a hai its.toArray) he ⟨hit, p⟩ hi hne (by simp [Ne.symm hne]; exact ⟨hne, Ne.symm hae⟩) fun y h' tk hy ho hst' hT hsz hk => ?_
    obtain rfl : u = y := by rw [hu'] at hy; cases hy; rfl
    refine ⟨_, rfl, wpAny_letOwnedTupleGo_enum (s := { s with heap := h', toks := tk + 1 }) ho fun h'' he' sb => ?_⟩
    have hT2 : h''.get? s.heap.objs.size = some { cls := .type "tuple", data := .seq #[.int i tk, u] } := (sb.2 _ (Nat.ne_of_gt hel)).trans hT
    have new : ObjOk X.prog X.w (upd H s.heap.objs.size (.tup [.int (i : Nat), x])) h'' s.heap.objs.size (.tup [.int (i : Nat), x]) :=
      ⟨by show 2 ≤ sizeLine; decide, [.int i tk, u], .cons ⟨_, rfl⟩ (.cons ru .nil), ⟨_, hT2, rfl, _, rfl⟩⟩
    have I1 : Inv X pins σ (upd H s.heap.objs.size (.tup [.int (i : Nat), x])) { s with heap := h'', toks := tk + 1 } :=
      I.turnedNew (ch := [e, it]) (fun b ob hb q => (sb.2 b (fun z => hb (by simp [z]))).trans (hk b ob (fun z => hb (by simp [z])) (fun z => hb (by simp [z])) q)) hf (Nat.le_refl _) new
    refine ⟨.ref s.heap.objs.size, _, I1, rfl, ⟨_, x, rfl, I.hok.fresh (Nat.le_refl _), rfl, fun ys hy => by rw [I.tuple_inj hy hq]; exact hx⟩, ⟨⟨u, ?_⟩, hst'.1.at fun o q => (sb.2 it (Ne.symm hne)).trans q, hne⟩, fun b hb => ?_⟩
    · have e1 : ((i + 1 : Nat) : Int) = (i : Int) + 1 := by omega
      rw [e1]; exact he'
    · have hb' : b < s.heap.objs.size := by
        have e' : b = e ∨ b = it := by simpa using hb
        rcases e' with z | z
        · rw [z]; exact hel
        · rw [z]; exact hil
      rw [upd_ne (Nat.ne_of_lt hb')]
      exact (hf b hb).1
  done := by
    intro X hP hw hK hc i pins s σ H E I hf st hg
    subst hP hw hK
    obtain ⟨⟨old, he⟩, hit, hne⟩ := st
    obtain ⟨xs, hq, hx⟩ := hg
    obtain ⟨its, rv, p, hz⟩ := I.tuple hq
    obtain ⟨f0, f1, f2, f3, f4, f5⟩ := hf it (by simp)
    have hl := rv.length
    have en : its.toArray.size = i := by simp; omega
    exact wpAny_pyNext_enum_endD (Draws.tuple (A := X.A.in1) (I.ok.hd hc) it a hai its.toArray) he (by rw [en]; exact ⟨hit, p⟩) fun h' eb => ⟨rfl, I.turned (t' := s.toks) (fun b o hb q => eb b o hb q) f0 f1 f3 f4 f5⟩
  self := fun A i s Q E st h => let ⟨⟨_, he⟩, _⟩ := st; wpAny_pyIter_enum he h
def iEnumT (K : PySem.W.Frag) (ta : TA) : TI := fun σ H R => ta σ H fun vs H1 => ∃ a xs, vs = [.ref a] ∧ SqT K H1 a xs ∧ R (IteT K a) H1
theorem pi_enumT {X : Cx} {e : Expr} {ta : TA} {p pos tpos : Pos} {elts : List Expr} {kk : Nat} (hg : Gl X "enumerate") (hm : X.mg "enumerate" = none) (ha : PA X [e] ta) (hs : starEach [e] X.env = [(false, eval e X.env)] := by rfl) :
    PI X (.Tuple elts kk tpos) (.Call (.Name "enumerate" p) [e] [] pos) (iEnumT X.K ta) := by
  refine ⟨fun pins s σ H R I h => ?_⟩
  refine Call_ (ld_blt I hg hm boot_enumerate (PyProof.Rows.callWith_type1 (thn (ha.run pos pins s σ H _ I h) fun us s1 ⟨vs, H1, I1, r1, q1⟩ => ?_) hs rfl))
  obtain ⟨a, xs, ex, hq, q⟩ := q1
  subst ex
  cases r1 with
  | cons r rr =>
    cases rr
    cases r
    obtain ⟨its, rv, p', hz⟩ := I1.tuple hq
    have hal : a < s1.heap.objs.size := by obtain ⟨_, z, _⟩ := p'; exact Heap.lt_size z
    refine call_enumerate_tuple p' fun h' he hit hsz hk => wpAny_pyIter_enum he ?_
    have I2 : Inv X pins σ H1 { s1 with heap := h' } := I1.kept (t' := s1.toks) hk
    refine ⟨s1.heap.objs.size + 1, [s1.heap.objs.size + 1, s1.heap.objs.size], _, _, H1, rfl, I2, turn_enumT a (s1.heap.objs.size + 1) s1.heap.objs.size (Nat.ne_of_lt (Nat.lt_succ_of_lt hal)) (Nat.ne_of_lt hal), ⟨⟨.none, he⟩, hit, Nat.succ_ne_self _⟩, fun b hb => ?_, q⟩
    have e' : b = s1.heap.objs.size + 1 ∨ b = s1.heap.objs.size := by simpa using hb
    have hle : s1.heap.objs.size ≤ b := by
      rcases e' with z | z
      · rw [z]; exact Nat.le_add_right _ _
      · rw [z]; exact Nat.le_refl _
    exact I1.fpOk hle (I1.hok.fresh hle)
theorem walk_enumT {K : PySem.W.Frag} {a : Addr} {xs : List V} : Walk (IteT K a) xs.length (fun H => SqT K H a xs) (YPair (fun i => some (.int (i : Nat))) (fun i => xs[i]?)) := by
  refine ⟨fun i _ hi q => ⟨xs, xs[i], q, by simp [hi]⟩, fun _ q => ⟨xs, q, rfl⟩, fun i H v H' _ q y => ?_⟩
  obtain ⟨T, x, h1, h2, h3, h4⟩ := y
  exact ⟨T, .int (i : Nat), x, h1, h2, h3, rfl, h4 xs q⟩
end Xt
set_option Elab.async false
set_option linter.all false
set_option maxRecDepth 100000
set_option maxHeartbeats 4000000
set_option pp.maxSteps 400
set_option pp.deepTerms false
/-! zip(a list, a tuple) of one length; a list != [] -/
namespace Xt
open PySem PySem.Spec PyProof.Rows L2
def ItzLT (K : PySem.W.Frag) (a b : Addr) : It :=
  ⟨fun i H => ∃ (xs ys : List V) (x y : V), SqL K H a xs ∧ SqT K H b ys ∧ xs[i]? = some x ∧ ys[i]? = some y,
    fun i H v H' => ∃ T x y, v = .ref T ∧ H T = none ∧ H' = upd H T (.tup [x, y]) ∧ (∀ xs, SqL K H a xs → xs[i]? = some x) ∧ ∀ ys, SqT K H b ys → ys[i]? = some y,
    fun i H => ∃ xs ys : List V, SqL K H a xs ∧ SqT K H b ys ∧ xs.length = i ∧ ys.length = i⟩
theorem turn_zipLT {P : Program} {w : World} {K : PySem.W.Frag} {elts : List Expr} {kk : Nat} {tpos : Pos} {a b z TI TO i1 i2 : Addr} (D : ZipSep2 z TI TO i1 i2 [i1, a] [i2, b]) (n1 : a ≠ i1) (n2 : b ≠ i2) :
    Turn P w K (.Tuple elts kk tpos) (ItzLT K a b) [z, TI, TO, i1, i2] z (fun i h => IsZip h z TI TO .none ∧ IsTupOf2 h TI (.ref i1) (.ref i2) ∧ (∃ x y, IsTupOf2 h TO x y) ∧ h.IsListIter i1 a i ∧ h.IsTupleIter i2 b i) where
  mem := by simp
  obj := fun i h ⟨h1, h2, ⟨x, y, h3⟩, ⟨o1, e1, _, d1⟩, ⟨o2, e2, _, d2⟩⟩ c hc => by
    simp only [List.mem_cons, List.not_mem_nil, or_false] at hc
    rcases hc with rfl | rfl | rfl | rfl | rfl
    · exact ⟨_, h1, fun _ q => nomatch q⟩
    · exact ⟨_, h2, fun _ q => nomatch q⟩
    · exact ⟨_, h3, fun _ q => nomatch q⟩
    · exact ⟨o1, e1, fun _ q => by rw [d1] at q; cases q⟩
    · exact ⟨o2, e2, fun _ q => by rw [d2] at q; cases q⟩
  keep := fun i h h' ⟨h1, h2, ⟨x, y, h3⟩, h4, h5⟩ k => ⟨k z (by simp) _ h1, k TI (by simp) _ h2, ⟨x, y, k TO (by simp) _ h3⟩, h4.at fun o q => k i1 (by simp) o q, h5.at fun o q => k i2 (by simp) o q⟩
  item := by
    intro X hP hw hK hc i pins s σ H E I hf st hg
    subst hP hw hK
    obtain ⟨hz, hTI, ⟨x0, y0, hTO⟩, t1, t2⟩ := st
    obtain ⟨xs, ys, x, y, hqx, hqy, hx, hy⟩ := hg
    obtain ⟨us, r1, p1, _⟩ := I.list hqx
    obtain ⟨ws, r2, p2, _⟩ := I.tuple hqy
    obtain ⟨u, hu, ru⟩ := r1.get hx
    obtain ⟨v, hv, rv⟩ := r2.get hy
    have l1 : i < us.toArray.size := by simpa using (List.getElem?_eq_some_iff.mp hu).1
    have l2 : i < ws.toArray.size := by simpa using (List.getElem?_eq_some_iff.mp hv).1
    have nh := I.ok.hd hc
    have zl : z < s.heap.objs.size := Heap.lt_size hz
    refine wpAny_pyNext_zipD2_item D (Draws.list (A := X.A.in1) nh i1 a n1 us.toArray) (Draws.tuple (A := X.A.in1) nh i2 b n2 ws.toArray) hz hTI hTO ⟨t1, p1.isList⟩ ⟨t2, p2⟩ l1 l2 fun u' v' h' tk eu ev z' TO' s1 s2 hT hsz hk => ?_
    obtain rfl : u = u' := by
      have : us.toArray[i]? = some u := by simpa using hu
      rw [this] at eu; cases eu; rfl
    obtain rfl : v = v' := by
      have : ws.toArray[i]? = some v := by simpa using hv
      rw [this] at ev; cases ev; rfl
    refine ⟨_, rfl, wpAny_letOwnedTupleGo_zip (s := { s with heap := h', toks := tk }) z' fun h'' z'' sb => ?_⟩
    have hT2 : h''.get? s.heap.objs.size = some { cls := .type "tuple", data := .seq #[u, v] } := (sb.2 _ (Nat.ne_of_gt zl)).trans hT
    have I1 : Inv X pins σ (upd H s.heap.objs.size (.tup [x, y])) { s with heap := h'', toks := tk } :=
      I.turnedNew (ch := [z, TI, TO, i1, i2]) (fun c o hb q => (sb.2 c (fun e => hb (by simp [e]))).trans (hk c o (fun e => hb (by simp [e])) (fun e => hb (by simp [e])) (fun e => hb (by simp [e])) (fun e => hb (by simp [e])) q)) hf (Nat.le_refl _)
        ⟨by show 2 ≤ sizeLine; decide, [u, v], .cons ru (.cons rv .nil), ⟨_, hT2, rfl, _, rfl⟩⟩
    refine ⟨.ref s.heap.objs.size, _, I1, rfl, ⟨_, x, y, rfl, I.hok.fresh (Nat.le_refl _), rfl, fun l hl => by rw [I.list_inj hl hqx]; exact hx, fun l hl => by rw [I.tuple_inj hl hqy]; exact hy⟩,
      ⟨z'', (sb.2 _ D.TIz).trans (hk _ _ D.TIz D.TITO D.TIi1 D.TIi2 hTI), ⟨u, v, (sb.2 _ D.TOz).trans TO'⟩, s1.1.at fun o q => (sb.2 _ (Ne.symm D.zi1)).trans q, s2.1.at fun o q => (sb.2 _ (Ne.symm D.zi2)).trans q⟩, fun c hcm => ?_⟩
    have lt : c < s.heap.objs.size := by
      have hcm' := hcm
      simp only [List.mem_cons, List.not_mem_nil, or_false] at hcm'
      rcases hcm' with rfl | rfl | rfl | rfl | rfl
      · exact zl
      · exact Heap.lt_size hTI
      · exact Heap.lt_size hTO
      · exact Heap.lt_size t1.choose_spec.1
      · exact Heap.lt_size t2.choose_spec.1
    rw [upd_ne (Nat.ne_of_lt lt)]
    exact (hf c hcm).1
  done := by
    intro X hP hw hK hc i pins s σ H E I hf st hg
    subst hP hw hK
    obtain ⟨hz, hTI, ⟨x0, y0, hTO⟩, t1, t2⟩ := st
    obtain ⟨xs, ys, hqx, hqy, lx, ly⟩ := hg
    obtain ⟨us, r1, p1, _⟩ := I.list hqx
    obtain ⟨ws, r2, p2, _⟩ := I.tuple hqy
    have e1 : us.toArray.size = i := by rw [List.size_toArray, ← r1.length]; exact lx
    have e2 : ws.toArray.size = i := by rw [List.size_toArray, ← r2.length]; exact ly
    have nh := I.ok.hd hc
    exact wpAny_pyNext_zipD2_end D (Draws.list (A := X.A.in1) nh i1 a n1 us.toArray) (Draws.tuple (A := X.A.in1) nh i2 b n2 ws.toArray) hz hTI hTO ⟨t1, p1.isList⟩ ⟨t2, p2⟩ (by omega) (by omega) (.inl e1.symm) fun h' tk hk =>
      ⟨rfl, I.turnedL (t' := tk) (ch := [z, TI, TO, i1, i2]) (fun c o hb q => hk c o (fun e => hb (by simp [e])) (fun e => hb (by simp [e])) (fun e => hb (by simp [e])) (fun e => hb (by simp [e])) q) hf⟩
  self := fun A i s Q E st h => wpAny_pyIter_zip st.1 h
def iZipLT (K : PySem.W.Frag) (ta : TA) : TI := fun σ H R => ta σ H fun vs H1 => ∃ a b xs ys, vs = [.ref a, .ref b] ∧ SqL K H1 a xs ∧ SqT K H1 b ys ∧ R (ItzLT K a b) H1
theorem pi_zipLT {X : Cx} {e e2 : Expr} {ta : TA} {p pos tpos : Pos} {elts : List Expr} {kk : Nat} (hg : Gl X "zip") (hm : X.mg "zip" = none) (ha : PA X [e, e2] ta)
    (hs : starEach [e, e2] X.env = (false, eval e X.env) :: starEach [e2] X.env := by rfl) (hpl : (backTo pos (starEach [e2] X.env)).any (·.1) = false := by rfl) :
    PI X (.Tuple elts kk tpos) (.Call (.Name "zip" p) [e, e2] [] pos) (iZipLT X.K ta) := by
  refine ⟨fun pins s σ H R I h => ?_⟩
  refine Call_ (ld_blt I hg hm PyProof.Rows.boot_zip (PyProof.Rows.callWith_type1 (thn (ha.run pos pins s σ H _ I h) fun us s1 ⟨vs, H1, I1, r1, q1⟩ => ?go) hs hpl))
  case go =>
    obtain ⟨a, b, xs, ys, rfl, hqx, hqy, q⟩ := q1
    cases r1 with
    | cons r rr =>
      cases rr with
      | cons r' rr =>
        cases rr; cases r; cases r'
        obtain ⟨us, v1, p1, _⟩ := I1.list hqx
        obtain ⟨ws, v2, p2, _⟩ := I1.tuple hqy
        have la : a < s1.heap.objs.size := p1.lt
        have lb : b < s1.heap.objs.size := by obtain ⟨o, ho, _⟩ := id p2; exact Heap.lt_size ho
        refine zip_begins2 (begins_list a us.toArray) (begins_tuple b ws.toArray) p1.isList p2 fun h' hz hTI hTO h1 h2 _ hk => wpAny_pyIter_zip hz ?_
        have I2 : Inv X pins σ H1 { s1 with heap := h' } := I1.kept (t' := s1.toks) hk
        refine ⟨s1.heap.objs.size + 4, [s1.heap.objs.size + 4, s1.heap.objs.size + 2, s1.heap.objs.size + 3, s1.heap.objs.size, s1.heap.objs.size + 1], _, _, H1, rfl, I2,
          turn_zipLT (zip_sep2 (N := s1.heap.objs.size) (fp1 := [a]) (fp2 := [b]) (fun c hc => by rw [List.mem_singleton.mp hc]; exact la) (fun c hc => by rw [List.mem_singleton.mp hc]; exact lb)) (Nat.ne_of_lt la) (Nat.ne_of_lt (Nat.lt_succ_of_lt lb)),
          ⟨hz, hTI, ⟨_, _, hTO⟩, ⟨_, h1, rfl, rfl⟩, ⟨_, h2, rfl, rfl⟩⟩, fun c hc => ?_, q⟩
        have le : s1.heap.objs.size ≤ c := by
          simp only [List.mem_cons, List.not_mem_nil, or_false] at hc
          rcases hc with rfl | rfl | rfl | rfl | rfl
          · exact Nat.le_add_right _ _
          · exact Nat.le_add_right _ _
          · exact Nat.le_add_right _ _
          · exact Nat.le_refl _
          · exact Nat.le_add_right _ _
        exact I1.fpOk le (I1.hok.fresh le)
theorem walk_zipLT {K : PySem.W.Frag} {a b : Addr} {xs ys : List V} (e : xs.length = ys.length) : Walk (ItzLT K a b) xs.length (fun H => SqL K H a xs ∧ SqT K H b ys) (YPair (fun i => xs[i]?) (fun i => ys[i]?)) := by
  refine ⟨fun i H hi q => ⟨xs, ys, xs[i], ys[i]'(by omega), q.1, q.2, List.getElem?_eq_getElem hi, List.getElem?_eq_getElem (by omega)⟩, fun H q => ⟨xs, ys, q.1, q.2, rfl, e.symm⟩, fun i H v H' hi q y => ?_⟩
  obtain ⟨T, x, z, h1, h2, h3, h4, h5⟩ := y
  exact ⟨T, x, z, h1, h2, h3, h4 xs q.1, h5 ys q.2⟩
/-- a list of any things != [] -/
theorem op_neL0 {X : Cx} (hu : X.A.units + 64 < cLine) : OpR X (compareOp .NotEq) (fun x y H Q => ∃ a b xs, x = .ref a ∧ y = .ref b ∧ H a = some (.lst xs) ∧ H b = some (.lst []) ∧ Q (.bl (!xs.isEmpty)) H) := by
  intro pins s σ H x y v u Q I rx ry h
  obtain ⟨a, b, xs, rfl, rfl, ea, eb, q⟩ := h
  cases rx; cases ry
  obtain ⟨its, r1, p1, _⟩ := I.list (SqL.of ea)
  obtain ⟨its2, r2, p2, _⟩ := I.list (SqL.of eb)
  cases r2
  have l := r1.length
  cases xs with
  | nil =>
    cases r1
    exact (PySem.SeqAt.RcNeAt.lists (e := fun _ => true) p1.isList p2.isList rfl (by omega) (fun j h1 _ => absurd h1 (by simp))) _ _ _ _ ⟨.bl false, H, I, rfl, q⟩
  | cons x r =>
    refine (PySem.SeqAt.RcNeAt.lists_lengths p1.isList p2.isList ?_ (by omega)) _ _ _ _ ⟨.bl true, H, I, rfl, q⟩
    rw [List.size_toArray, ← l]
    simp
end Xt
set_option Elab.async false
set_option linter.all false
set_option maxRecDepth 100000
set_option maxHeartbeats 4000000
/-! a list that a call does not look at may be left out of its heap -/
namespace Xfr
open PySem PySem.Spec PyProof.Rows L2
def spF (sp : Sp) : Sp := fun vs H Q E => ∃ (L : Addr) (xs : List V), H L = some (.lst xs) ∧ sp vs (del H L) (fun v H' => H' L = none → Q v (upd H' L (.lst xs))) E
theorem frame {P : Program} {w : World} {K : PySem.W.Frag} {mg : Str → Option Value} {base : Heap} {k : Nat} {f : Addr} {fd : FuncData} {ps : List Str} {sp : Sp} (F : FnOk P w K mg base CX0 k f fd ps sp) : FnOk P w K mg base CX0 k f fd ps (spF sp) := by
  refine ⟨fun vs H Q E ⟨L, xs, _, h⟩ => F.len _ _ _ _ h, fun A outer s H args us vs Q E hr e0 hb hv ⟨L, xs, eL, h⟩ => ?_⟩
  have okL := e0.hok L _ eL
  have nL : L ∉ frs outer := fun z => by
    have := e0.frf L z
    rw [eL] at this
    cases this
  have dn : ∀ {b : Addr}, H b = none → del H L b = none := fun {b} e => by
    by_cases c : b = L
    · rw [c]; exact del_same
    · rw [del_ne c]; exact e
  have ds : ∀ {b : Addr} {o : HO}, del H L b = some o → b ≠ L ∧ H b = some o := fun {b o} e => by
    by_cases c : b = L
    · rw [c, del_same] at e
      cases e
    · rw [del_ne c] at e
      exact ⟨c, e⟩
  have dk : ∀ {b : Addr} {o : HO}, H b = some o → (∀ ys, o ≠ .lst ys) → del H L b = some o := fun {b o} e n => by
    rw [del_ne (fun c : b = L => by rw [c, eL] at e; cases e; exact n _ rfl)]
    exact e
  have e1 : Env0 P w K mg base A outer s (del H L) := ⟨e0.frames, e0.mod, fun b o e => ⟨(e0.bs b o e).1, dn (e0.bs b o e).2⟩, e0.bsz, e0.funs, fun b hb => dn (e0.frf b hb), fun a o e =>
    (e0.hok a o (ds e).2).stay (fun b u _ q => q) (fun b q => dk q (fun ys z => by cases z)) (fun b ys q => dk q (fun zs z => by cases z)), e0.bare⟩
  refine codeAny_mono (F.run A outer s (del H L) args us vs _ E hr e1 hb hv h) fun r s' q => ?_
  match r, q with
  | .error e, q => exact False.elim q
  | .ok .next, q => exact False.elim q
  | .ok .brk, q => exact False.elim q
  | .ok .cont, q => exact False.elim q
  | .ok (.ret y), q =>
    obtain ⟨v, H', os, bare, un, hok, rv, q⟩ := q
    obtain ⟨sz, its, n, rx, gL⟩ := okL
    have gL' := un.keep L _ gL del_same nL List.not_mem_nil
    have fL := un.free L _ gL del_same List.not_mem_nil
    refine ⟨v, upd H' L (.lst xs), os, bare, ⟨fun b o e n hb hx => un.keep b o e (dn n) hb hx, fun b o e n hb hx => un.slot b o e (dn n) hb hx, fun b o e n hx => ?_, un.there, fun b ys e => ?_, fun b o u e => ?_, fun b ps e => ?_⟩, fun a o e => ?_, rv, q fL⟩
    · rw [upd_ne (fun c : b = L => by rw [c, eL] at n; cases n)]
      exact un.free b o e (dn n) hx
    · have := un.tups b ys (dk e (fun zs z => by cases z))
      rw [upd_ne (ne_of_none this fL)]
      exact this
    · have := un.frzs b o u (dk e (fun zs z => by cases z))
      rw [upd_ne (ne_of_none this fL)]
      exact this
    · obtain ⟨more, hm⟩ := un.tbls b ps (dk e (fun zs z => by cases z))
      exact ⟨more, by rw [upd_ne (ne_of_none hm fL)]; exact hm⟩
    · by_cases c : a = L
      · subst c
        rw [upd_same] at e
        cases e
        exact ⟨sz, its, n, rx, gL'⟩
      · rw [upd_ne c] at e
        exact (hok a o e).stay (fun b u _ q => q) (fun b q => by rw [upd_ne (ne_of_none q fL)]; exact q) (fun b ys q => by rw [upd_ne (ne_of_none q fL)]; exact q)
end Xfr
set_option Elab.async false
set_option linter.all false
set_option maxRecDepth 100000
set_option maxHeartbeats 4000000
set_option pp.maxSteps 400
set_option pp.deepTerms false
/-! Tuples cut, put together, turned about, as lists, whatever the cases; a sign many times. -/
namespace Xtu
open PySem PySem.Spec PyProof.Rows L2
theorem same_upd {H : Hp} {p : Addr} {o : HO} (h : H p = none) : Same H (upd H p o) := fun b x e => by
  rw [upd_ne (ne_of_none e h)]
  exact e
section
variable {X : Cx}
def rSlU : V → Option Int → Option Int → Hp → VK → Prop := fun x lo hi H Q => ∃ a xs, x = .ref a ∧ H a = some (.tup xs) ∧ ∀ p H', L2.Same H H' → H' p = some (.tup (cutV xs lo hi)) → Q (.ref p) H'
theorem sl_tupU : SlR X rSlU := by
  intro pins s σ H x v vl vu lo hi sl Q I rx hs pl pu h
  obtain ⟨a, xs, rfl, e, q⟩ := h
  refine sl_tupA pins s σ H _ v vl vu lo hi sl Q I rx hs pl pu ⟨a, xs, rfl, SqT.of e, fun w => q a H (Same.refl H) ?_, fun _ p np => q p _ (same_upd np) upd_same⟩
  rw [e]
  unfold cutV
  rw [w.1, w.2, List.drop_zero, Nat.sub_zero, List.take_length]
def rCatU : R2 := fun x y H Q => ∃ a b xs ys, x = .ref a ∧ y = .ref b ∧ H a = some (.tup xs) ∧ H b = some (.tup ys) ∧ xs.length + ys.length ≤ sizeLine ∧ ∀ p H', L2.Same H H' → H' p = some (.tup (xs ++ ys)) → Q (.ref p) H'
theorem op_catU : OpR X (binaryOp .Add) rCatU := by
  intro pins s σ H x y v u Q I rx ry h
  obtain ⟨a, b, xs, ys, rfl, rfl, ea, eb, hz, q⟩ := h
  refine op_catA pins s σ H _ _ v u Q I rx ry ⟨a, b, xs, ys, rfl, rfl, SqT.of ea, SqT.of eb, hz, fun z => q b H (Same.refl H) ?_, fun _ z => q a H (Same.refl H) ?_, fun _ _ p np => q p _ (same_upd np) upd_same⟩
  · rw [z]; exact eb
  · rw [z, List.append_nil]; exact ea
end
section
variable {prog : Program} {w : World} {A : Around} {E : Value → Shared → Prop} {s : Shared}
theorem turnN {sl : Addr} {u : Tok} {n : Nat} {Q : Int × Int × Nat → Shared → Prop} (hs : s.heap.IsSliceOf sl .none .none (.int (-1) u)) (h : Q ((n : Int) - 1, -1, n) s) : wpAny (model prog w) A (Builtin.Slice.sliceApplied (.ref sl) (pure (n : Int))) Q E s := by
  obtain ⟨os, a1, a2, a3⟩ := id hs
  unfold Builtin.Slice.sliceApplied Builtin.Slice.sliceFields
  refine wpAny_bind (wpAny_bind (wpAny_field a1 a3 (x := .none) rfl (wpAny_bind (wpAny_field a1 a3 (x := .none) rfl (wpAny_bind (wpAny_field a1 a3 (x := .int (-1) u) rfl (wpAny_pure ?_)))))))
  refine wpAny_bind (slicePart_int ?_)
  show wpAny _ _ (if ((-1 : Int) == 0) = true then _ else _) _ _ s
  rw [if_neg (by decide)]
  have pl : Builtin.Slice.slicePlaces ((n : Int) - 1) (-1) (-1) = n := by
    unfold Builtin.Slice.slicePlaces
    have h1 : ¬ ((-1 : Int) > 0) := by decide
    simp only [h1, if_false, show (- -1 : Int) = 1 by decide, Int.ediv_one]
    split <;> omega
  refine wpAny_bind (slicePart_none (wpAny_bind (slicePart_none (wpAny_bind (wpAny_pure ?_)))))
  show wpAny _ _ (pure ((n : Int) - 1, (-1 : Int), Builtin.Slice.slicePlaces ((n : Int) - 1) (-1) (-1))) _ _ s
  rw [pl]
  exact wpAny_pure h
theorem fm_congr {α β : Type} {f g : α → Option β} : ∀ l : List α, (∀ m ∈ l, f m = g m) → l.filterMap f = l.filterMap g
  | [], _ => rfl
  | a :: r, h => by
    rw [List.filterMap_cons, List.filterMap_cons, h a List.mem_cons_self, fm_congr r fun m hm => h m (List.mem_cons_of_mem _ hm)]
theorem turn_all (xs : Array Value) : ((List.range xs.size).filterMap fun (m : Nat) => xs[((xs.size : Int) - 1 + (m : Int) * -1).toNat]?).toArray = xs.toList.reverse.toArray := by
  have e : ((List.range xs.size).filterMap fun (m : Nat) => xs[((xs.size : Int) - 1 + (m : Int) * -1).toNat]?) = ((List.range xs.size).map fun k => xs.size - 1 - k).filterMap (xs[·]?) := by
    rw [List.filterMap_map]
    refine fm_congr _ fun m hm => ?_
    have := List.mem_range.mp hm
    show xs[((xs.size : Int) - 1 + (m : Int) * -1).toNat]? = xs[xs.size - 1 - m]?
    congr 1
    omega
  rw [e, PySem.W.krv_range, List.filterMap_reverse, PySem.W.krv_all]
theorem itemN {t sl : Addr} {items : Array Value} {u : Tok} {Q : Value → Shared → Prop} (ht : IsTup s.heap t items) (hs : s.heap.IsSliceOf sl .none .none (.int (-1) u)) (hz : items.size ≤ sizeLine)
    (h : Q (.ref s.heap.objs.size) { s with heap := s.heap.push { cls := .type "tuple", data := .seq items.toList.reverse.toArray } }) : wpAny (model prog w) A (getItem (.ref t) (.ref sl)) Q E s := by
  have fits : sizeOk (.seq items.toList.reverse.toArray) := by
    show items.toList.reverse.toArray.size ≤ sizeLine
    rw [List.size_toArray, List.length_reverse, Array.length_toList]
    exact hz
  obtain ⟨os, a1, a2, a3⟩ := id hs
  have ty : s.TypeIs (.ref sl) "slice" := ⟨os, a1, a2⟩
  unfold getItem; try with_reducible refine wpAny_holding ?_
  (first | refine wpAny_bind (wpAny_pure ?_) | skip); refine wpAny_bind (wpAny_sequenceKey ht.typeIs (by decide) ?_)
  refine wpAny_bind (wpAny_callSpecial?_slot (name := Str.ofString "__getitem__") ht.typeIs PyProof.Rows.slot_tuple_getitem (wpAny_call_entry PyProof.Rows.slot_tuple_getitem ht.typeIs entry_tuple_getitem ?_ (args_tuple_getitem _ _)))
  show wpAny _ _ (Builtin.Tuple.tupleItemsOf (.ref t) >>= _) _ _ s; refine wpAny_bind (tupleItemsOf_ ht ?_)
  refine wpAny_bind (wpAny_typeOf ty ?_); rw [if_pos (by decide)]
  refine wpAny_bind (turnN hs ?_)
  show wpAny _ _ (if (((items.size : Int) - 1) == 0 && (-1 : Int) == 1 && (items.size == items.size)) = true then _ else _) _ _ s
  rw [if_neg (by simp), turn_all]
  (first
    | exact wpAny_bind (m := Builtin.Tuple.tupleExact _) (wpAny_newObj_type (wpAny_pure ⟨_, rfl, wpAny_pure h⟩) fits)
    | exact wpAny_bind (m := Builtin.Tuple.tupleExact _) (wpAny_newObj_type (wpAny_bind (wpAny_pure (wpAny_pure ⟨_, rfl, wpAny_pure h⟩))) fits)
    | exact wpAny_bind (wpAny_bind (m := Builtin.Tuple.tupleExact _) (wpAny_newObj_type (wpAny_pure (wpAny_pure ⟨_, rfl, wpAny_pure h⟩)) fits)))
end
section
variable {X : Cx}
def tRevN (K : PySem.W.Frag) (te : TE) : TE := fun σ H Q => te σ H fun x H1 => ∃ (a : Addr) (xs : List V), x = .ref a ∧ H1 a = some (.tup xs) ∧ ∀ p H', L2.Same H1 H' → H' p = some (.tup xs.reverse) → Q (.ref p) H'
theorem pe_revN {e : Expr} {te : TE} {k : Nat} {p1 p2 p3 pos : Pos} (he : PE X e te) : PE X (.Subscript e (.Slice none none (some (.UnaryOp .USub (.Constant (.int 1) k p1) p2)) p3) pos) (tRevN X.K te) := by
  refine ⟨fun pins s σ H Q I h => Subscript_ (thn (he.run pins s σ H _ I h) fun v s1 ⟨x, H1, I1, r1, a, xs, ex, hx, q⟩ => ?_)⟩
  subst ex; cases r1
  have hst : PO X (some (.UnaryOp .USub (.Constant (.int 1) k p1) p2)) (tPart (tUn (rU fun i => .int (-i)) (tC (.int 1)))) := po_some (pe_un un_neg pe_int)
  refine wpAny_Slice (thn (po_none.run pins s1 σ H1 (fun o G => o = none ∧ G = H1) I1 ⟨rfl, rfl⟩) fun vl s2 ⟨l, G, I2, pl, el, e2⟩ => ?_)
  subst el e2
  refine thn (po_none.run pins s2 σ G (fun o G2 => o = none ∧ G2 = G) I2 ⟨rfl, rfl⟩) fun vu s3 ⟨u, G2, I3, pu, eu, e3⟩ => ?_
  subst eu e3
  refine thn (hst.run pins s3 σ G2 (fun o G3 => o = some (-1) ∧ G3 = G2) I3 ⟨1, rfl, -1, rfl, rfl, rfl⟩) fun vs s4 ⟨o, G3, I4, ps, eo, e4⟩ => ?_
  subst eo e4
  cases pl; cases pu
  cases ps with
  | int _ tk =>
  have I5 : Inv X pins σ G3 { s4 with heap := s4.heap.push { cls := .type "slice", data := .fields #[.none, .none, .int (-1) tk] } } := I4.kept (t' := s4.toks) fun b ob q => Heap.get?_push_of_some _ q
  obtain ⟨its, r, ht, hz⟩ := I5.tuple (SqT.of hx)
  have hlen := r.length
  show wpAny (model X.prog X.w) X.A (subscriptTail e (.Slice none none (some (.UnaryOp .USub (.Constant (.int 1) k p1) p2)) p3) (.ref a) (.ref s4.heap.objs.size)) (EP X pins σ Q) X.xe { s4 with heap := s4.heap.push { cls := .type "slice", data := .fields #[.none, .none, .int (-1) tk] } }
  refine tail_any (ops := [.ref a, .ref s4.heap.objs.size]) ht.typeIs PyProof.Rows.slot_tuple_getitem.lookup ?_ (by with_unfolding_all rfl)
  refine itemN ht (Heap.IsSliceOf.new _ _ _ _) (by rw [List.size_toArray]; omega) ?_
  have nw := I5.hok.fresh (Nat.le_refl _)
  refine ⟨.ref _, _, I5.laid (t' := s4.toks) (o := .tup xs.reverse) (fun b ob q => Heap.get?_push_of_some _ q) (Nat.le_refl _) ?_, rfl, q _ _ (same_upd nw) upd_same⟩
  exact ⟨by rw [List.length_reverse]; exact hz, _, r.reverse, IsTup.new _ _⟩
/-- a list of a tuple's things, new -/
theorem cr_listT : CallR X (.type "list") (fun xs H Q => ∃ p ys, xs = [.ref p] ∧ SqT X.K H p ys ∧ ∀ l, H l = none → l ≠ sysModules → Q (.ref l) (upd H l (.lst ys))) := by
  intro pins s σ H xs us Q I r h
  obtain ⟨p, ys, rfl, hq, q⟩ := h
  obtain ⟨u, rfl, rx⟩ := vals1 r; cases rx
  obtain ⟨its, r', ⟨o, ho, hc, n, hd⟩, hz⟩ := I.tuple hq
  have hlen := r'.length
  exact call_list_seq p (.inr rfl) ho hc hd (fun h' c' kp e => ⟨.ref s.heap.objs.size, _, I.laid (t' := s.toks) kp (Nat.le_refl _) (show ObjOk X.prog X.w _ h' _ (.lst ys) from ⟨hz, its, c', r', e⟩), rfl, q _ (I.hok.fresh (Nat.le_refl _)) (Nat.ne_of_gt I.big)⟩) (by simp only [List.size_toArray]; omega)
end
section
variable {X : Cx}
/-- "x" * 41 -/
theorem op_x41 : OpR X (binaryOp .Mult) (fun x y H Q => x = .str "x" ∧ y = .int 41 ∧ ∀ z : Str, z.length = 41 → (∀ c ∈ z.cps.toList, c = 120) → Q (.str z) H) := by
  intro pins s σ H x y v u Q I rx ry h
  obtain ⟨rfl, rfl, q⟩ := h
  obtain ⟨t, rfl⟩ := rx
  obtain ⟨t2, rfl⟩ := ry
  refine PySem.P.mul_str (by decide) (fun _ _ => by decide +kernel) (fun _ _ => by decide +kernel) ⟨by decide +kernel, .str ⟨(List.replicate 41 ("x" : Str).cps).foldl (· ++ ·) #[]⟩, H, I.tok _, ⟨_, rfl⟩, q _ (by decide +kernel) (by decide +kernel)⟩
end
end Xtu
set_option Elab.async false
set_option linter.all false
set_option maxRecDepth 100000
set_option maxHeartbeats 4000000
set_option pp.maxSteps 400
set_option pp.deepTerms false
namespace K37
open PySem PySem.Spec PyProof.Rows L2
open Xk Az W37
def top (i : Nat) : Stmt := PySem.Challenge.pw_takesworks_k37_works_or_not.main.body.getD i (.Pass ⟨0, 0, 0, 0⟩)
abbrev sIsTextOf : Stmt := top 2
abbrev sIsSmallText : Stmt := top 3
abbrev sIsTongue : Stmt := top 9
abbrev sIsNameText : Stmt := top 10
abbrev sIsName : Stmt := top 11
abbrev sIsNameWithParts : Stmt := top 14
abbrev sIsWork : Stmt := top 15
abbrev sHand : Stmt := top 17
abbrev sTake : Stmt := top 18
abbrev sPick : Stmt := top 19
abbrev sSigns : Stmt := top 20
abbrev sText : Stmt := top 21
abbrev sTongue : Stmt := top 22
abbrev sNames : Stmt := top 23
abbrev sTree : Stmt := top 24
abbrev sWork : Stmt := top 25
abbrev sAll : Stmt := top 26
abbrev sLetters : Stmt := top 28
abbrev sLawIsName : Stmt := top 29
abbrev sWalked : Stmt := top 30
abbrev sOdd : Stmt := top 31
abbrev sOtherwise : Stmt := top 32
abbrev sChain : Stmt := top 33
abbrev sLaw : Stmt := top 34
theorem scIsTextOf : FnScope ["thing", "signs", "least", "most", "sign"] ["thing", "signs", "least", "most"] (defScope sIsTextOf) := ⟨rfl, rfl, rfl, by decide +kernel, rfl, by decide +kernel, by decide +kernel⟩
theorem scIsSmallText : FnScope ["thing", "least", "most"] ["thing", "least", "most"] (defScope sIsSmallText) := ⟨rfl, rfl, rfl, by decide +kernel, rfl, by decide +kernel, by decide +kernel⟩
theorem scIsTongue : FnScope ["thing"] ["thing"] (defScope sIsTongue) := ⟨rfl, rfl, rfl, by decide +kernel, rfl, by decide +kernel, by decide +kernel⟩
theorem scIsNameText : FnScope ["thing"] ["thing"] (defScope sIsNameText) := ⟨rfl, rfl, rfl, by decide +kernel, rfl, by decide +kernel, by decide +kernel⟩
theorem scIsName : FnScope ["thing"] ["thing"] (defScope sIsName) := ⟨rfl, rfl, rfl, by decide +kernel, rfl, by decide +kernel, by decide +kernel⟩
theorem scIsNameWithParts : FnScope ["thing"] ["thing"] (defScope sIsNameWithParts) := ⟨rfl, rfl, rfl, by decide +kernel, rfl, by decide +kernel, by decide +kernel⟩
theorem scIsWork : FnScope ["thing", "seen", "waiting", "part", "deep", "inner"] ["thing"] (defScope sIsWork) := ⟨rfl, rfl, rfl, by decide +kernel, rfl, by decide +kernel, by decide +kernel⟩
theorem scHand : FnScope ["_law_script", "_law_k", "_law_cell", "_law_great"] ["_law_script", "_law_k"] (defScope sHand) := ⟨rfl, rfl, rfl, by decide +kernel, rfl, by decide +kernel, by decide +kernel⟩
theorem scTake : FnScope ["_law_hand_here", "_law_many", "_law_digit", "_law_turn", "_law_one", "_law_two", "_law_mixed", "_law_last"] ["_law_hand_here", "_law_many"] (defScope sTake) := ⟨rfl, rfl, rfl, by decide +kernel, rfl, by decide +kernel, by decide +kernel⟩
theorem scPick : FnScope ["_law_hand_here", "_law_some"] ["_law_hand_here", "_law_some"] (defScope sPick) := ⟨rfl, rfl, rfl, by decide +kernel, rfl, by decide +kernel, by decide +kernel⟩
theorem scSigns : FnScope [] [] (defScope sSigns) := ⟨rfl, rfl, rfl, by decide +kernel, rfl, by decide +kernel, by decide +kernel⟩
theorem scText : FnScope ["_law_hand_here", "_law_most", "_law_text_here", "_law_size", "_law_k", "_law_sign"] ["_law_hand_here", "_law_most"] (defScope sText) := ⟨rfl, rfl, rfl, by decide +kernel, rfl, by decide +kernel, by decide +kernel⟩
theorem scTongue : FnScope ["_law_hand_here", "_law_letters_here", "_law_k"] ["_law_hand_here"] (defScope sTongue) := ⟨rfl, rfl, rfl, by decide +kernel, rfl, by decide +kernel, by decide +kernel⟩
theorem scNames : FnScope ["_law_hand_here", "_law_many", "_law_stem", "_law_at", "_law_signs_here", "_law_found", "_law_tongues", "_law_k", "_law_sign"] ["_law_hand_here", "_law_many"] (defScope sNames) := ⟨rfl, rfl, rfl, by decide +kernel, rfl, by decide +kernel, by decide +kernel⟩
theorem scTree : FnScope ["_law_hand_here", "_law_deep", "_law_left", "_law_name", "_law_parts", "_law_k"] ["_law_hand_here", "_law_deep", "_law_left"] (defScope sTree) := ⟨rfl, rfl, rfl, by decide +kernel, rfl, by decide +kernel, by decide +kernel⟩
theorem scWork : FnScope ["_law_hand_here", "_law_many", "_law_names_here", "_law_left", "_law_work_here"] ["_law_hand_here", "_law_many"] (defScope sWork) := ⟨rfl, rfl, rfl, by decide +kernel, rfl, by decide +kernel, by decide +kernel⟩
theorem scAll : FnScope ["_law_work_here", "_law_found", "_law_part"] ["_law_work_here"] (defScope sAll) := ⟨rfl, rfl, rfl, by decide +kernel, rfl, by decide +kernel, by decide +kernel⟩
theorem scLetters : FnScope ["_law_thing", "_law_least", "_law_most", "_law_signs_here", "_law_sign"] ["_law_thing", "_law_least", "_law_most", "_law_signs_here"] (defScope sLetters) := ⟨rfl, rfl, rfl, by decide +kernel, rfl, by decide +kernel, by decide +kernel⟩
theorem scLawIsName : FnScope ["_law_thing"] ["_law_thing"] (defScope sLawIsName) := ⟨rfl, rfl, rfl, by decide +kernel, rfl, by decide +kernel, by decide +kernel⟩
theorem scWalked : FnScope ["_law_thing", "_law_deep", "_law_met", "_law_part"] ["_law_thing", "_law_deep", "_law_met"] (defScope sWalked) := ⟨rfl, rfl, rfl, by decide +kernel, rfl, by decide +kernel, by decide +kernel⟩
theorem scOdd : FnScope ["_law_hand_here", "_law_thing", "_law_names_here", "_law_some"] ["_law_hand_here", "_law_thing", "_law_names_here"] (defScope sOdd) := ⟨rfl, rfl, rfl, by decide +kernel, rfl, by decide +kernel, by decide +kernel⟩
theorem scOtherwise : FnScope ["_law_hand_here", "_law_thing", "_law_names_here", "_law_at", "_law_way"] ["_law_hand_here", "_law_thing", "_law_names_here"] (defScope sOtherwise) := ⟨rfl, rfl, rfl, by decide +kernel, rfl, by decide +kernel, by decide +kernel⟩
theorem scChain : FnScope ["_law_names_here", "_law_many", "_law_work_here", "_law_name"] ["_law_names_here", "_law_many"] (defScope sChain) := ⟨rfl, rfl, rfl, by decide +kernel, rfl, by decide +kernel, by decide +kernel⟩
theorem scLaw : FnScope ["_law_script", "_law_k", "_law_hand_here", "_law_work_here", "_law_names_here", "_law_others", "_law_free", "_law_deep", "_law_turn", "_law_things", "_law_thing", "_law_found"] ["_law_script"] (defScope sLaw) := ⟨rfl, rfl, rfl, by decide +kernel, rfl, by decide +kernel, by decide +kernel⟩
/-! ## objects -/
/-- all that was tracked stands but for the hand -/
def But (h : Addr) (H H' : Hp) : Prop := ∀ b o, b ≠ h → H b = some o → H' b = some o
theorem But.refl (h : Addr) (H : Hp) : But h H H := fun _ _ _ e => e
theorem But.trans {h : Addr} {H H1 H2 : Hp} (p : But h H H1) (q : But h H1 H2) : But h H H2 := fun b o n e => q b o n (p b o n e)
theorem Same.but {H H' : Hp} (s : Same H H') (h : Addr) : But h H H' := fun b o _ e => s b o e
theorem But.seqT {K : PySem.W.Frag} {h : Addr} {H H' : Hp} (s : But h H H') {t : Addr} {xs : List V} (n : t ≠ h) (q : SqT K H t xs) : SqT K H' t xs := by
  rcases q with (q | ⟨o, q⟩) | q
  · exact .inl (.inl (s _ _ n q))
  · exact .inl (.inr ⟨o, s _ _ n q⟩)
  · exact .inr q
theorem But.seqL {K : PySem.W.Frag} {h : Addr} {H H' : Hp} (s : But h H H') {t : Addr} {xs : List V} (n : t ≠ h) (q : SqL K H t xs) : SqL K H' t xs := by
  rcases q with (q | ⟨o, q⟩) | q
  · exact .inl (.inl (s _ _ n q))
  · exact .inl (.inr ⟨o, s _ _ n q⟩)
  · exact .inr q
theorem Same.seqT {K : PySem.W.Frag} {H H' : Hp} (s : Same H H') {t : Addr} {xs : List V} (q : SqT K H t xs) : SqT K H' t xs := by
  rcases q with (q | ⟨o, q⟩) | q
  · exact .inl (.inl (s _ _ q))
  · exact .inl (.inr ⟨o, s _ _ q⟩)
  · exact .inr q
theorem same_upd {H : Hp} {p : Addr} {o : HO} (h : H p = none) : Same H (upd H p o) := fun b x e => by
  rw [upd_ne (ne_of_none e h)]
  exact e
theorem but_upd {H : Hp} {p : Addr} {o : HO} : But p H (upd H p o) := fun b x n e => by
  rw [upd_ne n]
  exact e
/-- the hand: what is left of the cell, what it is mixed of, how often it was asked -/
def Hand (n : Int) (H : Hp) (a : Addr) : Prop := ∃ g m c : Int, H a = some (.lst [.int g, .int m, .int c]) ∧ 0 ≤ g ∧ 0 ≤ m ∧ m < 2305843009213693951 ∧ 0 ≤ c ∧ c ≤ n
theorem Hand.mono {n n' : Int} {H : Hp} {a : Addr} (h : Hand n H a) (l : n ≤ n') : Hand n' H a := by
  obtain ⟨g, m, c, e, h1, h2, h3, h4, h5⟩ := h
  exact ⟨g, m, c, e, h1, h2, h3, h4, Int.le_trans h5 l⟩
theorem Hand.same {n : Int} {H H' : Hp} {a : Addr} (h : Hand n H a) (s : Same H H') : Hand n H' a := by
  obtain ⟨g, m, c, e, r⟩ := h
  exact ⟨g, m, c, s _ _ e, r⟩
theorem Hand.at_ {n : Int} {H : Hp} {a : Addr} (h : Hand n H a) : ∃ xs, H a = some (.lst xs) := by
  obtain ⟨g, m, c, e, r⟩ := h
  exact ⟨_, e⟩
theorem Hand.ne_tup {K : PySem.W.Frag} {n : Int} {H : Hp} {a t : Addr} {xs : List V} (h : Hand n H a) (e : H t = some (.tup xs)) : t ≠ a := by
  obtain ⟨ys, e2⟩ := h.at_
  exact ne_of e e2 (by intro z; cases z)
theorem But.free {h l : Addr} {H H' : Hp} (b : But h H H') (ne : l ≠ h) (e : H' l = none) : H l = none := by
  cases q : H l with
  | none => rfl
  | some o =>
    rw [b l o ne q] at e
    cases e
theorem Hand.fresh {n : Int} {H : Hp} {a l : Addr} (h : Hand n H a) (e : H l = none) : l ≠ a := by
  obtain ⟨xs, q⟩ := h.at_
  exact (ne_of_none q e).symm
theorem Hand.upd {n : Int} {H : Hp} {a p : Addr} {x : HO} (h : Hand n H a) (ne : a ≠ p) : Hand n (L2.upd H p x) a := by
  obtain ⟨g, m, c, e, r⟩ := h
  exact ⟨g, m, c, by rw [upd_ne ne]; exact e, r⟩
theorem off_all {h : Addr} {H : Hp} : L2.Same (del H h) H := fun b o e => by
  by_cases z : b = h
  · rw [z, del_same] at e
    cases e
  · rw [del_ne z] at e
    exact e
theorem off_but {h : Addr} {H H' : Hp} (s : But h H H') : L2.Same (del H h) (del H' h) := fun b o e => by
  by_cases z : b = h
  · rw [z, del_same] at e
    cases e
  · rw [del_ne z] at e
    rw [del_ne z]
    exact s b o z e
theorem off_new {h p : Addr} {H : Hp} {o : HO} (ne : p ≠ h) : del (upd H p o) h p = some o := by rw [del_ne ne, upd_same]
theorem off_at {h p : Addr} {H : Hp} {o : HO} (ne : p ≠ h) (e : H p = some o) : del H h p = some o := by rw [del_ne ne, e]
section
variable {X : Cx}
theorem cr_alt {f : Value} {r1 r2 : List V → Hp → VK → Prop} (h1 : CallR X f r1) (h2 : CallR X f r2) : CallR X f (fun xs H Q => r1 xs H Q ∨ r2 xs H Q) :=
  fun pins s σ H xs us Q I r h => h.elim (h1 pins s σ H xs us Q I r) (h2 pins s σ H xs us Q I r)
end
end K37
set_option Elab.async false
set_option linter.all false
set_option maxRecDepth 100000
set_option maxHeartbeats 4000000
set_option pp.maxSteps 400
set_option pp.deepTerms false
namespace K37
open PySem PySem.Spec PyProof.Rows L2
open Xk Az W37
section
variable {P : Program} {w : World} {K : PySem.W.Frag} {mg : Str → Option Value} {base : Heap}
/-- a def that may be called by its name -/
structure Ca (P : Program) (w : World) (K : PySem.W.Frag) (mg : Str → Option Value) (base : Heap) (k : Nat) (x : Str) (ps : List Str) (sp : Sp) : Prop where
  ex : ∃ (f : Addr) (fd : FuncData), FnOk P w K mg base CX0 k f fd ps sp ∧ mg x = some (.ref f) ∧ PySem.W.keepIn K (.ref f) = true ∧ Binds K fd ps []
/-- a def of the text, as the head finds it -/
structure Df (K : PySem.W.Frag) (mg : Str → Option Value) (x : Str) (ps : List Str) (st : Stmt) (f : Addr) (fd : FuncData) : Prop where
  fn : Fun K x x st f fd
  mgf : mg x = some (.ref f)
  bd : Binds K fd ps []
theorem Df.ca {k : Nat} {x : Str} {ps : List Str} {st : Stmt} {f : Addr} {fd : FuncData} {sp : Sp} (d : Df K mg x ps st f fd)
    (h : FnOk P w K mg base CX0 k f fd ps sp) : Ca P w K mg base k x ps sp := ⟨f, fd, h, d.mgf, d.fn.kp, d.bd⟩
section
variable {X : Cx} {k j : Nat} {x : Str} {ps : List Str} {sp : Sp} {p pos : Pos} {e : Expr} {es : List Expr} {t : TA}
theorem pe_ca (c : Ca X.prog X.w X.K X.mg X.base k x ps sp) (hr : Room j X.A) (hk : k ≤ j) (hg : Gl X x) (ha : PA X (e :: es) t) (hdb : (x == ("__debug__" : Str)) = false := by decide)
    (he : starEach (e :: es) X.env = (false, eval e X.env) :: starEach es X.env := by rfl) (hpl : (backTo pos (starEach es X.env)).any (·.1) = false := by rfl) :
    PE X (.Call (.Name x p) (e :: es) [] pos) (tCall sp [] E0 t) := by
  obtain ⟨f, fd, F, hm, kp, b⟩ := c.ex
  exact pe_call F (hr.mono hk) hg hm kp b .nil pass0 ha hdb he hpl
end
def small : Str := "abcdefghijklmnopqrstuvwxyz"
def signs : Str := "abcdefghijklmnopqrstuvwxyzABCDEFGHIJKLMNOPQRSTUVWXYZ0123456789 '-."
/-- what the top has left, besides the defs -/
structure Txt (mg : Str → Option Value) : Prop where
  sm : ∃ t, mg "SMALL_LETTERS" = some (.str small t)
  sg : ∃ t, mg "TEXT_SIGNS" = some (.str signs t)
  st : ∃ t, mg "SHORTEST_TONGUE" = some (.int 2 t)
  lt : ∃ t, mg "LONGEST_TONGUE" = some (.int 3 t)
  lx : ∃ t, mg "LONGEST_TEXT" = some (.int 40 t)
  dp : ∃ t, mg "DEEPEST" = some (.int 5 t)
  isi : mg "isinstance" = none
  int : mg "int" = none
  bool : mg "bool" = none
  str : mg "str" = none
  tuple : mg "tuple" = none
  list : mg "list" = none
  len : mg "len" = none
  all : mg "all" = none
  range : mg "range" = none
  max : mg "max" = none
  min : mg "min" = none
  abs : mg "abs" = none
abbrev far : Int := 1000000
def spHand (K : PySem.W.Frag) : Sp := fun vs H Q _ => ∃ (a : Addr) (k : Int) (ns : List Int), vs = [.ref a, .int k] ∧ 0 ≤ k ∧ SqL K H a (ns.map V.int) ∧
  ∀ p g m, H p = none → 0 ≤ g → 0 ≤ m → m < 2305843009213693951 → Q (.ref p) (upd H p (.lst [.int g, .int m, .int 0]))
def spTake : Sp := fun vs H Q _ => ∃ (h : Addr) (many n : Int), vs = [.ref h, .int many] ∧ 0 < many ∧ many < 10 ^ 30 ∧ Hand n H h ∧ n ≤ far ∧
  ∀ d H', 0 ≤ d → d < many → Hand (n + 1) H' h → But h H H' → Q (.int d) H'
def spPick : Sp := fun vs H Q _ => ∃ (h : Addr) (n : Int) (s : V), vs = [.ref h, s] ∧ Hand n H h ∧ n ≤ far ∧
  ((∃ (l : Addr) (xs : List V), s = .ref l ∧ H l = some (.lst xs) ∧ l ≠ h ∧ xs ≠ [] ∧ xs.length < 1000 ∧ ∀ v H', v ∈ xs → Hand (n + 1) H' h → But h H H' → Q v H') ∨
   (∃ x : Str, s = .str x ∧ 0 < x.length ∧ x.length < 1000 ∧ ∀ c H', c ∈ x.cps.toList → Hand (n + 1) H' h → But h H H' → Q (.str ⟨#[c]⟩) H'))
theorem wide30 {g many : Int} (m1 : 0 < many) (m2 : many < 10 ^ 30) : CDivW g many := by
  have h : (10 : Int) ^ 30 < 2 ^ 110 := by decide
  exact wide_div (b := 110) m1 (by omega) (by decide) (by decide)
theorem lt30 {n : Nat} (h : n < 1000) : (n : Int) < 10 ^ 30 := Int.lt_trans (Int.ofNat_lt.mpr h) (by decide)
theorem ok_hand {f : Addr} {fd : FuncData} (D : Df K mg "_law_hand" ["_law_script", "_law_k"] sHand f fd) (T : Txt mg) : FnOk P w K mg base CX0 1 f fd ["_law_script", "_law_k"] (spHand K) := by
  refine D.fn.ok scHand (fun vs H Q E h => ?_) (fun cdv A outer s H vs Q E hr h => ?_)
  · obtain ⟨a, k, ns, rfl, hk, hS, q⟩ := h
    rfl
  · obtain ⟨a, k, ns, rfl, hk, hS, q⟩ := h
    refine ⟨_, (C8.pss_cut (ps_set (i := 2) scHand.nd rfl (.inl rfl) (pe_ifExp (pt_cmpR op_lt (pv 1) (pe_callB call_len_seq (by rfl) T.len PySem.boot_len (pa_cons (pv 0) pa_nil)) (nomark _)) (pe_callB call_abs (by rfl) T.abs (by decide +kernel) (pa_cons (pe_ix ix_list (pv 0) (pv 1) (fun _ _ => rfl)) pa_nil)) pe_int))
      (C8.pss_cut (ps_set (i := 3) scHand.nd rfl (.inl rfl) (pe_ifExp (pt_cmpR op_ge (pv 2) (pe_op op_pow pe_int pe_int) (nomark _)) (pe_op op_mod (pv 2) (pe_op op_mulW (pe_op op_mulW (pe_op op_pow pe_int pe_int) (pe_op op_pow pe_int pe_int)) (pe_op op_pow pe_int pe_int))) pe_int))
      (pss_one (ps_ret (pe_lst (pa_cons (pv 3) (pa_cons (pe_op op_mod (pe_op op_add (pe_op op_add (pe_op op_mul (pe_op op_mod (pv 2) pe_int) pe_int) (pe_op op_mul pe_int (pv 1))) pe_int) pe_int) (pa_cons pe_int pa_nil)))))))), ?_⟩
    refine ⟨fun σ Hx => Hx = H ∧ ∃ c : Int, σ = [some (.ref a), some (.int k), some (.int c), none] ∧ 0 ≤ c, ?_, ?_⟩
    · refine ⟨_, rfl, _, rfl, a, _, rfl, .inl hS, k, _, rfl, rfl, _, rfl, ?_⟩
      refine ite2 (fun e => ?_) (fun e => ?_)
      · have hlt : k < ((ns.map V.int).length : Int) := of_decide_eq_true e
        rw [List.length_map] at hlt
        obtain ⟨j, rfl⟩ : ∃ j : Nat, k = (j : Int) := ⟨k.toNat, by omega⟩
        have hj : j < ns.length := by omega
        have hat : atI (ns.map V.int) ((j : Nat) : Int) = some (.int ns[j]) := atI_nat (by rw [List.getElem?_map, List.getElem?_eq_getElem hj]; rfl)
        exact ⟨_, rfl, _, rfl, a, _, _, _, rfl, rfl, hS, hat, _, rfl, rfl, _, rfl, by split <;> omega⟩
      · exact ⟨rfl, _, rfl, Int.le_refl _⟩
    rintro σ Hx ⟨rfl, c, rfl, c0⟩
    refine ⟨fun σ Hy => Hy = Hx ∧ ∃ g : Int, σ = [some (.ref a), some (.int k), some (.int c), some (.int g)] ∧ 0 ≤ g, ?_, ?_⟩
    · refine ⟨_, rfl, 10, 18, rfl, rfl, ⟨by decide, by decide, by decide⟩, c, _, rfl, rfl, _, rfl, ?_⟩
      refine ite2 (fun e => ?_) (fun e => ?_)
      · refine ⟨_, rfl, 10, 60, rfl, rfl, ⟨by decide, by decide, by decide⟩, 10, 60, rfl, rfl, ⟨by decide, by decide, by decide⟩, _, _, rfl, rfl, ?_, 10, 60, rfl, rfl, ⟨by decide, by decide, by decide⟩, _, _, rfl, rfl, ?_, c, _, rfl, rfl, ?_, ?_⟩
        · exact wide_mul (a := 300) (b := 300) (by decide +kernel) (by decide +kernel) (by decide) (by decide) (by decide)
        · exact wide_mul (a := 600) (b := 300) (by decide +kernel) (by decide +kernel) (by decide) (by decide) (by decide)
        · show (0 : Int) < 10 ^ (60 : Int).toNat * 10 ^ (60 : Int).toNat * 10 ^ (60 : Int).toNat
          decide +kernel
        · exact ⟨rfl, _, rfl, Int.emod_nonneg _ (by decide +kernel)⟩
      · exact ⟨rfl, _, rfl, Int.le_refl _⟩
    rintro σ Hy ⟨rfl, g, rfl, g0⟩
    refine ⟨_, rfl, _, rfl, c, 2305843009213693951, rfl, rfl, (by show (0 : Int) < 2305843009213693951; decide), _, 1000003, rfl, rfl, .inr (by decide), _, rfl, 7919, k, rfl, rfl, .inl (by decide), _, _, rfl, rfl, _, 11, rfl, rfl, _, 2305843009213693921, rfl, rfl, (by show (0 : Int) < 2305843009213693921; decide), (by show 3 ≤ sizeLine; decide), fun p np => ?_⟩
    exact q p _ _ np g0 (Int.emod_nonneg _ (by decide)) (Int.lt_trans (Int.emod_lt_of_pos _ (by decide)) (by decide))
theorem ok_take {f : Addr} {fd : FuncData} (D : Df K mg "_law_take" ["_law_hand_here", "_law_many"] sTake f fd)  : FnOk P w K mg base CX0 1 f fd ["_law_hand_here", "_law_many"] spTake := by
  refine D.fn.ok scTake (fun vs H Q E h => ?_) (fun cdv A outer s H vs Q E hr h => ?_)
  · obtain ⟨h, many, n, rfl, m1, m2, ⟨g, m, c, hh, g0, k0, k1, c0, c1⟩, hn, q⟩ := h
    rfl
  · obtain ⟨h, many, n, rfl, m1, m2, ⟨g, m, c, hh, g0, k0, k1, c0, c1⟩, hn, q⟩ := h
    refine ⟨_, (pss_cons (ps_if (pt_cmpR op_gt (pe_ix ix_list (pv 0) pe_int (fun _ _ => rfl)) pe_int (nomark _)) (pss_cons (ps_set (i := 2) scTake.nd rfl (.inl rfl) (pe_op op_mod (pe_ix ix_list (pv 0) pe_int (fun _ _ => rfl)) (pv 1)))
      (pss_cons (ps_asg (pe_op op_fdivW (pe_ix ix_list (pv 0) pe_int (fun _ _ => rfl)) (pv 1)) (pg_sub (pv 0) pe_int set_list))
      (pss_one (ps_ret (pv 2))))) pss_nil)
      (pss_cons (ps_set (i := 3) scTake.nd rfl (.inl rfl) (pe_op op_add (pe_ix ix_list (pv 0) pe_int (fun _ _ => rfl)) pe_int))
      (pss_cons (ps_asg (pv 3) (pg_sub (pv 0) pe_int set_list))
      (pss_cons (ps_set (i := 4) scTake.nd rfl (.inl rfl) (pe_op op_add (pe_ix ix_list (pv 0) pe_int (fun _ _ => rfl)) (pe_op op_mul pe_int (pv 3))))
      (pss_cons (ps_set (i := 5) scTake.nd rfl (.inl rfl) (pe_op op_add (pe_op op_add (pe_op op_mod (pe_ix ix_list (pv 0) pe_int (fun _ _ => rfl)) pe_int) (pe_op op_mul pe_int (pv 3))) pe_int))
      (pss_cons (ps_set (i := 6) scTake.nd rfl (.inl rfl) (pe_op op_mod (pe_op op_mul (pv 4) (pv 5)) pe_int))
      (pss_cons (ps_set (i := 7) scTake.nd rfl (.inl rfl) (pe_op op_add (pe_op op_add (pe_op op_mod (pv 6) pe_int) (pe_op op_mul pe_int (pv 3))) pe_int))
      (pss_one (ps_ret (pe_op op_mod (pe_op op_fdiv (pe_op op_mod (pe_op op_mul (pe_op op_add (pv 6) pe_int) (pv 7)) pe_int) pe_int) (pv 1))))))))))), ?_⟩
    have far' : n ≤ 1000000 := hn
    refine ⟨_, rfl, h, _, 0, _, rfl, rfl, SqL.of hh, atI_nat (j := 0) rfl, g, 0, rfl, rfl, _, rfl, ite2 (fun e => ?_) (fun e => ?_)⟩
    · refine ⟨_, rfl, h, _, 0, _, rfl, rfl, SqL.of hh, atI_nat (j := 0) rfl, _, rfl, g, many, rfl, rfl, m1, ?_⟩
      refine ⟨_, rfl, h, _, 0, _, rfl, rfl, SqL.of hh, atI_nat (j := 0) rfl, _, rfl, g, many, rfl, rfl, wide30 m1 m2, _, rfl, h, _, 0, 0, rfl, rfl, hh, rfl, ?_⟩
      refine ⟨_, rfl, ?_⟩
      exact q _ _ (Int.emod_nonneg _ (by omega)) (Int.emod_lt_of_pos _ m1) ⟨g / many, m, c, upd_same, Int.ediv_nonneg g0 (by omega), k0, k1, c0, by omega⟩ but_upd
    · refine ⟨_, rfl, h, _, 2, _, rfl, rfl, SqL.of hh, atI_nat (j := 2) rfl, c, 1, rfl, rfl, _, rfl, _, rfl, h, _, 2, 2, rfl, rfl, hh, rfl, ?_⟩
      have h2 : (upd H h (.lst [.int g, .int m, .int (c + 1)])) h = some (.lst [.int g, .int m, .int (c + 1)]) := upd_same
      have s2 := SqL.of (K := K) h2
      refine ⟨_, rfl, h, _, 1, _, rfl, rfl, s2, atI_nat (j := 1) rfl, _, rfl, 104729, c + 1, rfl, rfl, .inl (by decide), m, _, rfl, rfl, ?_⟩
      refine ⟨_, rfl, h, _, 1, _, rfl, rfl, s2, atI_nat (j := 1) rfl, m, 7919, rfl, rfl, (by show (0 : Int) < 7919; decide), _, rfl, 15485863, c + 1, rfl, rfl, .inl (by decide), _, _, rfl, rfl, _, 17, rfl, rfl, ?_⟩
      have e64 : (2 : Int) ^ 64 = 18446744073709551616 := by decide
      refine ⟨_, rfl, _, rfl, _, _, rfl, rfl, .inl (by rw [e64]; omega), _, 2305843009213693951, rfl, rfl, (by show (0 : Int) < 2305843009213693951; decide), ?_⟩
      generalize (m + 104729 * (c + 1)) * (m % 7919 + 15485863 * (c + 1) + 17) = z
      have z0 : 0 ≤ z % 2305843009213693951 := Int.emod_nonneg _ (by decide)
      have z1 : z % 2305843009213693951 < 2305843009213693951 := Int.emod_lt_of_pos _ (by decide)
      refine ⟨_, rfl, _, 1000003, rfl, rfl, (by show (0 : Int) < 1000003; decide), _, rfl, 6700417, c + 1, rfl, rfl, .inl (by decide), _, _, rfl, rfl, _, 5, rfl, rfl, ?_⟩
      refine ⟨_, rfl, _, 13, rfl, rfl, _, rfl, _, _, rfl, rfl, .inl (by rw [e64]; omega), _, 2305843009213693907, rfl, rfl, (by show (0 : Int) < 2305843009213693907; decide), _, 64, rfl, rfl, ⟨by decide, by decide⟩, _, rfl, _, many, rfl, rfl, m1, ?_⟩
      exact q _ _ (Int.emod_nonneg _ (by omega)) (Int.emod_lt_of_pos _ m1) ⟨g, m, c + 1, h2, g0, k0, k1, by omega, by omega⟩ but_upd
theorem ok_pick {f : Addr} {fd : FuncData} (D : Df K mg "_law_pick" ["_law_hand_here", "_law_some"] sPick f fd) (T : Txt mg) (cT : Ca P w K mg base 1 "_law_take" ["_law_hand_here", "_law_many"] spTake) : FnOk P w K mg base CX0 2 f fd ["_law_hand_here", "_law_some"] spPick := by
  refine D.fn.ok scPick (fun vs H Q E h => ?_) (fun cdv A outer s H vs Q E hr h => ?_)
  · obtain ⟨h, n, s, rfl, hh, hn, q⟩ := h
    rfl
  · obtain ⟨h, n, s, rfl, hh, hn, q⟩ := h
    refine ⟨_, (pss_one (ps_ret (pe_ix ix_seq (pv 1) (pe_ca cT hr (by decide) (by rfl) (pa_cons (pv 0) (pa_cons (pe_callB (cr_alt call_len_seq call_len_str) (by rfl) T.len PySem.boot_len (pa_cons (pv 1) pa_nil)) pa_nil))) (fun _ _ => rfl)))), ?_⟩
    refine ⟨_, rfl, _, rfl, _, rfl, ?_⟩
    rcases q with ⟨l, xs, rfl, hl, nl, ne, few, q⟩ | ⟨x, rfl, pos, few, q⟩
    · have pos : 0 < xs.length := List.length_pos_iff.mpr ne
      refine .inl ⟨l, xs, rfl, .inl (SqL.of hl), h, (xs.length : Int), n, rfl, by omega, lt30 few, hh, hn, fun d H' d0 d1 hh' bt => ?_⟩
      obtain ⟨j, rfl⟩ : ∃ j : Nat, d = (j : Int) := ⟨d.toNat, by omega⟩
      have hj : j < xs.length := by omega
      refine .inl ⟨l, xs, _, xs[j], rfl, rfl, SqL.of (bt _ _ nl hl), atI_nat (List.getElem?_eq_getElem hj), ?_⟩
      exact q _ H' (List.getElem_mem hj) hh' bt
    · have sz : x.length ≤ sizeLine := Nat.le_trans (show x.length ≤ 1000 by omega) (by decide)
      refine .inr ⟨x, rfl, sz, h, (x.length : Int), n, rfl, by omega, lt30 few, hh, hn, fun d H' d0 d1 hh' bt => ?_⟩
      obtain ⟨j, rfl⟩ : ∃ j : Nat, d = (j : Int) := ⟨d.toNat, by omega⟩
      have hj : j < x.cps.toList.length := by
        have : x.length = x.cps.toList.length := by rw [Array.length_toList]; rfl
        omega
      refine .inr (.inr ⟨x, _, x.cps.toList[j], rfl, rfl, sz, atI_nat (List.getElem?_eq_getElem hj), ?_⟩)
      exact q _ H' (List.getElem_mem hj) hh' bt
end
end K37
set_option Elab.async false
set_option linter.all false
set_option maxRecDepth 100000
set_option maxHeartbeats 4000000
set_option pp.maxSteps 400
set_option pp.deepTerms false
namespace K37
open PySem PySem.Spec PyProof.Rows L2
open Xk Az W37
section
variable {P : Program} {w : World} {K : PySem.W.Frag} {mg : Str → Option Value} {base : Heap}
def lawSigns : Str := "abcdefghijklmnopqrstuvwxyzABCDEFGHIJKLMNOPQRSTUVWXYZ0123456789'-."
theorem lawSigns7 : ∀ c ∈ lawSigns.cps.toList, c < 128 := by decide +kernel
theorem small7 : ∀ c ∈ small.cps.toList, c < 128 := by decide +kernel
/-- signs that are few -/
def As (x : Str) : Prop := ∀ c ∈ x.cps.toList, c < 128
theorem As.app {x y : Str} (h1 : As x) (h2 : As y) : As (x ++ y) := fun c hc => by
  rw [Str.cps_append, Array.toList_append, List.mem_append] at hc
  exact hc.elim (h1 c) (h2 c)
theorem as0 : As "" := fun c hc => by
  have e : (("" : Str)).cps.toList = [] := rfl
  rw [e] at hc
  cases hc
theorem as1 {c : Nat} (h : c < 128) : As ⟨#[c]⟩ := fun d hd => by
  have : d = c := by simpa using hd
  rw [this]; exact h
theorem lt30i {i : Int} (h : i < 1000000) : i < 10 ^ 30 := Int.lt_trans h (by decide)
def spSigns : Sp := fun vs H Q _ => vs = [] ∧ Q (.str lawSigns) H
section
variable {X : Cx} {k j : Nat} {x : Str} {ps : List Str} {sp : Sp} {p pos : Pos}
theorem pe_ca0 (c : Ca X.prog X.w X.K X.mg X.base k x ps sp) (hr : Room j X.A) (hk : k ≤ j) (hg : Gl X x) (hdb : (x == ("__debug__" : Str)) = false := by decide) :
    PE X (.Call (.Name x p) [] [] pos) (tCall sp [] E0 tNil) := by
  obtain ⟨f, fd, F, hm, kp, b⟩ := c.ex
  exact pe_call0 F (hr.mono hk) hg hm kp b .nil pass0 hdb
end
def spText : Sp := fun vs H Q _ => ∃ (h : Addr) (n most : Int), vs = [.ref h, .int most] ∧ 1 ≤ most ∧ most ≤ 40 ∧ Hand n H h ∧ n + 200 ≤ far ∧
  ∀ (x : Str) H', 1 ≤ (x.length : Int) → (x.length : Int) ≤ most → As x → Hand (n + 100) H' h → But h H H' → Q (.str x) H'
def spTongue : Sp := fun vs H Q _ => ∃ (h : Addr) (n : Int), vs = [.ref h] ∧ Hand n H h ∧ n + 100 ≤ far ∧
  ∀ (x : Str) H', x.length ≤ 3 → As x → Hand (n + 10) H' h → But h H H' → Q (.str x) H'
theorem len_cps (x : Str) : x.length = x.cps.toList.length := by
  rw [Array.length_toList]
  rfl
theorem at_last {l : List Nat} (h : l ≠ []) : atI l (-1) = l.getLast? := by
  have p : 0 < l.length := List.length_pos_iff.mpr h
  unfold atI ixN
  rw [if_neg (by omega), if_pos (by omega)]
  rw [List.getLast?_eq_getElem?]
  simp only [Option.bind_some]
  congr 1
  omega
theorem ok_signs {f : Addr} {fd : FuncData} (D : Df K mg "_law_signs" [] sSigns f fd)  : FnOk P w K mg base CX0 1 f fd [] spSigns := by
  refine D.fn.ok scSigns (fun vs H Q E h => ?_) (fun cdv A outer s H vs Q E hr h => ?_)
  · obtain ⟨rfl, q⟩ := h
    rfl
  · obtain ⟨rfl, q⟩ := h
    refine ⟨_, (pss_one (ps_ret pe_str)), ?_⟩
    exact q
theorem ok_text {f : Addr} {fd : FuncData} (D : Df K mg "_law_text" ["_law_hand_here", "_law_most"] sText f fd) (T : Txt mg) (cT : Ca P w K mg base 1 "_law_take" ["_law_hand_here", "_law_many"] spTake) (cP : Ca P w K mg base 2 "_law_pick" ["_law_hand_here", "_law_some"] spPick) (cS : Ca P w K mg base 1 "_law_signs" [] spSigns) : FnOk P w K mg base CX0 3 f fd ["_law_hand_here", "_law_most"] spText := by
  refine D.fn.ok scText (fun vs H Q E h => ?_) (fun cdv A outer s H vs Q E hr h => ?_)
  · obtain ⟨h, n, most, rfl, m0, m1, hd, hn, q⟩ := h
    rfl
  · obtain ⟨h, n, most, rfl, m0, m1, hd, hn, q⟩ := h
    refine ⟨_, (pss_cons (ps_par (i := 2) (j := 3) (by rfl) scText.nd rfl rfl (by decide) rfl rfl (pa_cons pe_str (pa_cons (pe_op op_add pe_int (pe_ca cT hr (by decide) (by rfl) (pa_cons (pv 0) (pa_cons (pv 1) pa_nil)))) pa_nil)) (by rfl))
      (pss_cons (ps_for PassesOwn.never rfl (pi_range1 (by rfl) T.range (pa_cons (pv 3) pa_nil)) (pg_name (i := 4) scText.nd rfl (.inl rfl)) (pss_cons (ps_set (i := 5) scText.nd rfl (.inl rfl) (pe_ca cP hr (by decide) (by rfl) (pa_cons (pv 0) (pa_cons (pe_ca0 cS hr (by decide) (by rfl)) pa_nil))))
      (C8.pss_cut (ps_if (PW.pt (pw_and (pt_chain op_lt op_lt pe_int (pv 4) (pe_op op_sub (pv 3) pe_int)) (pw_and (pt_cmpR op_ne (pe_ix ix_str (pv 2) (pe_un un_neg pe_int) (fun _ _ => rfl)) pe_str (nomark _)) (pw_and1 (pt_cmpR op_eq (pe_ca cT hr (by decide) (by rfl) (pa_cons (pv 0) (pa_cons pe_int pa_nil))) pe_int (nomark _)))))) (pss_one (ps_set (i := 5) scText.nd rfl (.inl rfl) pe_str)) pss_nil)
      (pss_one (ps_set (i := 2) scText.nd rfl (.inl rfl) (pe_op op_add_str (pv 2) (pv 5)))))))
      (pss_one (ps_ret (pv 2))))), ?_⟩
    have fr : n + 200 ≤ 1000000 := hn
    have l65 : lawSigns.length = 65 := by decide +kernel
    refine ⟨_, rfl, _, rfl, h, most, n, rfl, by omega, lt30i (by omega), hd, by show n ≤ 1000000; omega, fun d H1 d0 d1 h1 b1 => ?_⟩
    refine ⟨_, _, rfl, rfl, _, _, rfl, ?_⟩
    refine ⟨_, rfl, 1 + d, rfl, by omega, by omega, for_range (lo := 0) (n := (1 + d).toNat) (fun k σ Hi => ∃ (x : Str) (c4 c5 : Option V), σ = [some (.ref h), some (.int most), some (.str x), some (.int (1 + d)), c4, c5] ∧ x.length = k ∧ As x ∧ Hand (n + 1 + 2 * k) Hi h ∧ But h H Hi) ?_ ?_ ?_⟩
    · exact ⟨"", none, none, rfl, rfl, as0, h1.mono (by omega), b1⟩
    · rintro k σ Hi hk ⟨x, c4, c5, rfl, lx, ax, hdi, bi⟩
      have km : (k : Int) < 1 + d := by omega
      have kb : n + 1 + 2 * (k : Int) + 2 ≤ 1000000 := by omega
      refine ⟨_, rfl, rfl, h, n + 1 + 2 * k, _, rfl, hdi, by show n + 1 + 2 * (k : Int) ≤ 1000000; omega, .inr ⟨lawSigns, rfl, by rw [l65]; decide, by rw [l65]; decide, fun c H2 mc h2 b2 => ?_⟩⟩
      have sx : x.length ≤ 100 := by omega
      have fit : x.length + 1 ≤ sizeLine := Nat.le_trans (show x.length + 1 ≤ 200 by omega) (by decide)
      have nx : ∀ (c' : Nat) (Hx : Hp), c' < 128 → But h H Hx → Hand (n + 1 + 2 * ((k + 1 : Nat) : Int)) Hx h → ∀ c4 c5 : Option V, ∃ (x' : Str) (c4' c5' : Option V), [some (V.ref h), some (.int most), some (.str (x ++ ⟨#[c']⟩)), some (.int (1 + d)), c4, c5] = [some (V.ref h), some (.int most), some (.str x'), some (.int (1 + d)), c4', c5'] ∧ x'.length = k + 1 ∧ As x' ∧ Hand (n + 1 + 2 * ((k + 1 : Nat) : Int)) Hx h ∧ But h H Hx := fun c' Hx m1 bx hx c4 c5 => by
        refine ⟨x ++ ⟨#[c']⟩, c4, c5, rfl, ?_, ax.app (as1 m1), hx, bx⟩
        rw [strLen_append, lx]; rfl
      have mc' : c < 128 := lawSigns7 c mc
      have h2' := h2.mono (n' := n + 1 + 2 * (k : Int) + 1) (by omega)
      have b2' := bi.trans b2
      refine ⟨fun σ Hx => ∃ c' : Nat, σ = [some (V.ref h), some (.int most), some (.str x), some (.int (1 + d)), some (.int (0 + (k : Int))), some (.str ⟨#[c']⟩)] ∧ c' < 128 ∧ Hand (n + 1 + 2 * ((k + 1 : Nat) : Int)) Hx h ∧ But h H Hx, ?_, ?_⟩
      · refine ⟨_, rfl, _, _, rfl, rfl, _, rfl, ite2 (fun e1 => ?_) (fun e1 => ?_)⟩
        · refine ⟨_, rfl, _, 1, rfl, rfl, _, _, rfl, rfl, _, rfl, ite2 (fun e2 => ?_) (fun e2 => ?_)⟩
          · have k0 : (0 : Int) < 0 + (k : Int) := of_decide_eq_true e1
            have xn : x.cps.toList ≠ [] := fun z => by
              have : x.length = 0 := by rw [len_cps, z]; rfl
              omega
            obtain ⟨dd, ed⟩ : ∃ d, x.cps.toList.getLast? = some d := by
              cases z : x.cps.toList.getLast? with
              | none => exact absurd (List.getLast?_eq_none_iff.mp z) xn
              | some d => exact ⟨d, rfl⟩
            refine ⟨_, rfl, 1, rfl, x, -1, dd, rfl, rfl, Nat.le_trans (Nat.le_succ _) fit, (at_last xn).trans ed, rfl, _, rfl, ite2 (fun e3 => ?_) (fun e3 => ?_)⟩
            · refine ⟨_, rfl, h, 6, n + 1 + 2 * k + 1, rfl, by decide, by decide, h2', by show n + 1 + 2 * (k : Int) + 1 ≤ 1000000; omega, fun d3 H3 e0 e1 h3 b3 => ⟨rfl, _, rfl, ite2 (fun e4 => ?_) (fun e4 => ?_)⟩⟩
              · exact ⟨32, rfl, by decide, h3.mono (by omega), b2'.trans b3⟩
              · exact ⟨c, rfl, mc', h3.mono (by omega), b2'.trans b3⟩
            · exact ⟨c, rfl, mc', h2'.mono (by omega), b2'⟩
          · exact ⟨c, rfl, mc', h2'.mono (by omega), b2'⟩
        · exact ⟨_, rfl, iteF ⟨c, rfl, mc', h2'.mono (by omega), b2'⟩⟩
      · rintro σ Hx ⟨c', rfl, m1, hx, bx⟩
        exact ⟨_, rfl, _, rfl, x, ⟨#[c']⟩, rfl, rfl, fit, nx c' Hx m1 bx hx _ _⟩
    rintro σ He ⟨x, c4, c5, rfl, lx, ax, hde, be⟩
    have lx' : (x.length : Int) = 1 + d := by
      have : x.length = (1 + d).toNat := lx
      omega
    refine ⟨_, rfl, q x He (by omega) (by omega) ax (hde.mono ?_) be⟩
    show n + 1 + 2 * (((1 + d).toNat : Nat) : Int) ≤ n + 100
    omega
end
end K37
set_option Elab.async false
set_option linter.all false
set_option maxRecDepth 100000
set_option maxHeartbeats 4000000
set_option pp.maxSteps 400
set_option pp.deepTerms false
namespace K37
open PySem PySem.Spec PyProof.Rows L2
open Xk Az W37
section
variable {P : Program} {w : World} {K : PySem.W.Frag} {mg : Str → Option Value} {base : Heap}
theorem join_cps' : ∀ ys : List Str, (Str.join "" ys).cps.toList = (ys.map fun y => y.cps.toList).flatten
  | [] => rfl
  | [x] => by simp [Str.join]
  | x :: z :: r => by
    show (x ++ "" ++ Str.join "" (z :: r)).cps.toList = _
    rw [Str.cps_append, Array.toList_append, Str.cps_append, Array.toList_append, join_cps' (z :: r)]
    have e0 : (("" : Str)).cps.toList = [] := rfl
    rw [e0, List.append_nil]
    rfl
theorem join_cps (ys : List Str) : (Txt.join "" ys).cps.toList = (ys.map fun y => y.cps.toList).flatten := by
  rw [TL.join_eq]
  exact join_cps' ys
theorem join_len (ys : List Str) : (Txt.join "" ys).length = (ys.map (·.length)).sum := by
  rw [len_cps, join_cps, List.length_flatten, List.map_map]
  congr 1
theorem ones_sum : ∀ ys : List Str, (∀ y ∈ ys, y.length = 1) → (ys.map (·.length)).sum = ys.length
  | [], _ => rfl
  | y :: r, h => by
    rw [List.map_cons, List.sum_cons, h y List.mem_cons_self, ones_sum r (fun z hz => h z (List.mem_cons_of_mem _ hz)), List.length_cons]
    omega
section
variable {X : Cx}
theorem vals_map {α : Type} (g : α → V) (R : α → Value → Prop) (hR : ∀ a v, R a v → RelV (g a) v) : ∀ (as : List α) (us : List Value), as.length = us.length → (∀ (i : Nat) (a : α) (u : Value), as[i]? = some a → us[i]? = some u → R a u) → Vals (as.map g) us
  | [], [], _, _ => .nil
  | a :: as, u :: us, hl, h => .cons (hR a u (h 0 a u rfl rfl)) (vals_map g R hR as us (by simpa using hl) fun i b v e1 e2 => h (i + 1) b v (by simpa using e1) (by simpa using e2))
  | [], _ :: _, hl, _ => by simp at hl
  | _ :: _, [], hl, _ => by simp at hl
def sg1 (c : Nat) : V := .str ⟨#[c]⟩
theorem cr_listS (hc : X.calm = true) : CallR X (.type "list") (fun xs H Q => ∃ x : Str, xs = [.str x] ∧ x.length ≤ sizeLine ∧ ∀ l, H l = none → Q (.ref l) (upd H l (.lst (x.cps.toList.map sg1)))) := by
  intro pins s σ H xs us Q I r h
  obtain ⟨x, rfl, hz, q⟩ := h
  obtain ⟨u, rfl, rx⟩ := vals1 r
  obtain ⟨t, rfl⟩ := rx
  refine call_list_str (I.ok.hd hc) x t (fun h' tk acc c kp e it => ?_) hz
  have v : Vals (x.cps.toList.map sg1) acc.toList := by
    refine vals_map sg1 (fun c u => ∃ t, u = Value.str ⟨#[c]⟩ t) (fun a v ⟨t, e⟩ => ⟨t, e⟩) _ _ (by rw [Array.length_toList, Array.length_toList, it.1]) fun i a u e1 e2 => ?_
    obtain ⟨c', t', q1, q2⟩ := it.2 i u (by rw [← Array.getElem?_toList]; exact e2)
    rw [← Array.getElem?_toList, e1] at q1
    exact ⟨t', by rw [Option.some.inj q1]; exact q2⟩
  have hl : (x.cps.toList.map sg1).length ≤ sizeLine := by rw [List.length_map, Array.length_toList]; exact hz
  exact ⟨.ref s.heap.objs.size, _, I.laid (t' := tk) kp (Nat.le_refl _) (show ObjOk X.prog X.w _ h' _ (.lst (x.cps.toList.map sg1)) from ⟨hl, acc.toList, c, v, by simpa using e⟩), rfl, q _ (I.hok.fresh (Nat.le_refl _))⟩
end
theorem ins_cps {st : Str} {k c : Nat} (h : k ≤ st.cps.toList.length) : (cutS st none (some (k : Int)) ++ ⟨#[c]⟩ ++ cutS st (some (k : Int)) none).cps.toList = st.cps.toList.take k ++ c :: st.cps.toList.drop k := by
  rw [len_cps st |>.symm] at h
  rw [Str.cps_append, Array.toList_append, Str.cps_append, Array.toList_append]
  have e1 : HT.sIx st.length 0 (some (k : Int)) = k := by rw [HT.sIx_nat]; omega
  have e2 : HT.sIx st.length st.length (some (k : Int)) = k := by rw [HT.sIx_nat]; omega
  have e3 : HT.sIx st.length 0 none = 0 := rfl
  have e4 : HT.sIx st.length st.length none = st.length := rfl
  unfold cutS
  rw [e1, e2, e3, e4]
  simp only [List.drop_zero, Nat.sub_zero, List.append_assoc, List.singleton_append]
  congr 2
  rw [List.take_of_length_le (by rw [List.length_drop, ← len_cps]; omega)]
theorem ins_len {st : Str} {k c : Nat} (h : k ≤ st.cps.toList.length) : (cutS st none (some (k : Int))).length + (cutS st (some (k : Int)) none).length ≤ st.length ∧ (cutS st none (some (k : Int))).length ≤ st.length ∧ (cutS st none (some (k : Int)) ++ ⟨#[c]⟩ ++ cutS st (some (k : Int)) none).length = st.length + 1 := by
  have e := congrArg List.length (ins_cps (c := c) h)
  have l1 : (cutS st none (some (k : Int)) ++ ⟨#[c]⟩ ++ cutS st (some (k : Int)) none).length = st.length + 1 := by
    rw [len_cps, e, List.length_append, List.length_cons, List.length_take, List.length_drop, len_cps st]
    omega
  rw [strLen_append, strLen_append] at l1
  have o1 : (⟨#[c]⟩ : Str).length = 1 := rfl
  rw [strLen_append, strLen_append]
  omega
theorem erase_map {α β : Type} (f : α → β) : ∀ (l : List α) (j : Nat), (l.map f).eraseIdx j = (l.eraseIdx j).map f
  | [], _ => rfl
  | _ :: _, 0 => rfl
  | a :: r, j + 1 => by
    show f a :: (r.map f).eraseIdx j = f a :: (r.eraseIdx j).map f
    rw [erase_map f r j]
theorem perm_erase {α : Type} : ∀ (l : List α) (j : Nat) (h : j < l.length), l.Perm (l[j] :: l.eraseIdx j)
  | a :: r, 0, _ => List.Perm.refl _
  | a :: r, j + 1, h => by
    have hj : j < r.length := by simpa using h
    have ih := perm_erase r j hj
    show (a :: r).Perm (r[j] :: a :: r.eraseIdx j)
    exact (List.Perm.cons a ih).trans (List.Perm.swap _ _ _)
def insT (st : Str) (k c : Nat) : Str := cutS st none (some (k : Int)) ++ ⟨#[c]⟩ ++ cutS st (some (k : Int)) none
theorem insT_inj {st : Str} {k c d : Nat} (h : k ≤ st.cps.toList.length) (e : insT st k c = insT st k d) : c = d := by
  have q := congrArg (fun x : Str => x.cps.toList) e
  simp only [insT] at q
  rw [ins_cps h, ins_cps h] at q
  have := List.append_cancel_left q
  injection this
theorem insT_as {st : Str} {k c : Nat} (h : k ≤ st.cps.toList.length) (a : As st) (hc : c < 128) : As (insT st k c) := fun d hd => by
  unfold insT at hd
  rw [ins_cps h] at hd
  rcases List.mem_append.mp hd with z | z
  · exact a d (List.mem_of_mem_take z)
  · rcases List.mem_cons.mp z with z | z
    · rw [z]; exact hc
    · exact a d (List.mem_of_mem_drop z)
/-- a name whose texts are short -/
def Gn' (m : Nm) : Prop := m.1.length ≤ 3 ∧ As m.1 ∧ m.2.length ≤ 41 ∧ As m.2
def spNames : Sp := fun vs H Q _ => ∃ (h : Addr) (n many : Int), vs = [.ref h, .int many] ∧ 0 ≤ many ∧ many ≤ 60 ∧ Hand n H h ∧ n + 2000 ≤ far ∧
  ∀ (L : Addr) (xs : List V) (ns : List Nm) H', H' L = some (.lst xs) → L ≠ h → H L = none → NmL H' xs ns → (ns.length : Int) = many → (ns.map (·.2)).Nodup → (∀ m ∈ ns, Gn' m) → Hand (n + 400) H' h → But h H H' → Q (.ref L) H'
theorem ok_tongue {f : Addr} {fd : FuncData} (D : Df K mg "_law_tongue" ["_law_hand_here"] sTongue f fd) (T : Txt mg) (cT : Ca P w K mg base 1 "_law_take" ["_law_hand_here", "_law_many"] spTake) (cP : Ca P w K mg base 2 "_law_pick" ["_law_hand_here", "_law_some"] spPick) : FnOk P w K mg base CX0 3 f fd ["_law_hand_here"] spTongue := by
  refine D.fn.ok scTongue (fun vs H Q E h => ?_) (fun cdv A outer s H vs Q E hr h => ?_)
  · obtain ⟨h, n, rfl, hd, hn, q⟩ := h
    rfl
  · obtain ⟨h, n, rfl, hd, hn, q⟩ := h
    refine ⟨_, (pss_cons (ps_set (i := 1) scTongue.nd rfl (.inr rfl) pe_str)
      (pss_one (ps_ret (pe_m1 F.slot_str_join F.type_str_join mt_join pe_str (pe_lc (own := [("_law_k", 2)]) (g := gName 2) (tt := tYes) (by rfl) scTongue.nd (pi_range1 (by rfl) T.range (pa_cons (pe_op op_add pe_int (pe_ca cT hr (by decide) (by rfl) (pa_cons (pv 0) (pa_cons pe_int pa_nil)))) pa_nil)) (blkOk_by (own := [("_law_k", 2)]) (N := ["_law_hand_here", "_law_letters_here", "_law_k"]) (sc := defScope sTongue) (by decide +kernel)) (fun _ _ _ _ _ => pg_name (i := 2) scTongue.nd rfl (.inl rfl)) (fun _ _ _ _ _ => pts_nil) (fun _ _ _ _ _ => pe_ca cP hr (by decide) (by rfl) (pa_cons (pv 0) (pa_cons (pv 1) pa_nil)))))))), ?_⟩
    have fr : n + 100 ≤ 1000000 := hn
    have lf : small.length = 26 := by decide +kernel
    refine ⟨⟨_, rfl⟩, ?_⟩
    refine ⟨_, rfl, h, 2, n, rfl, by decide, by decide, hd, by show n ≤ 1000000; omega, fun d H1 d0 d1 h1 b1 => ?_⟩
    refine ⟨2, d, rfl, rfl, _, rfl, by omega, by omega, fun L nL => ?_⟩
    have s1 := same_upd nL (o := .lst [])
    have Lh := h1.fresh nL
    refine lc_range (lo := 0) (fun i Hi => ∃ ys : List Str, Hi L = some (.lst (ys.map V.str)) ∧ ys.length = i ∧ (∀ y ∈ ys, ∃ c ∈ small.cps.toList, y = ⟨#[c]⟩) ∧ Hand (n + 1 + i) Hi h ∧ But h H1 Hi) ?_ ?_ ?_
    · exact ⟨[], upd_same, rfl, by simp, (h1.same s1).mono (by omega), Same.but s1 h⟩
    · rintro i Hi hi ⟨ys, eL, ly, cy, hdi, bi⟩
      have hi' : i < (2 + d).toNat := hi
      refine ⟨rfl, ?_⟩
      unfold tYes
      refine iteT ?_
      refine ⟨_, rfl, _, rfl, h, n + 1 + i, _, rfl, hdi, by show n + 1 + (i : Int) ≤ 1000000; omega, .inr ⟨small, rfl, by rw [lf]; decide, by rw [lf]; decide, fun c H2 mc h2 b2 => ?_⟩⟩
      refine ⟨_, b2 _ _ Lh eL, ?_, ys ++ [⟨#[c]⟩], ?_, by rw [List.length_append, ly]; rfl, ?_, ?_, ?_⟩
      · rw [List.length_map, ly]
        exact Nat.lt_of_le_of_lt (show i ≤ 100 by omega) (by decide)
      · rw [upd_same, List.map_append]
        rfl
      · intro y hy
        rcases List.mem_append.mp hy with z | z
        · exact cy y z
        · exact ⟨c, mc, List.mem_singleton.mp z⟩
      · exact (h2.upd (Ne.symm Lh)).mono (by omega)
      · intro b x nb e
        rw [upd_ne (ne_of_none e nL)]
        exact b2 b x nb (bi b x nb e)
    · rintro He ⟨ys, eL, ly, cy, hde, be⟩
      have le : (ys.map (·.length)).sum = ys.length := ones_sum ys (fun y hy => by obtain ⟨c, _, e⟩ := cy y hy; rw [e]; rfl)
      have ly' : (ys.length : Int) = 2 + d := by
        have : ys.length = (2 + d).toNat := ly
        omega
      refine ⟨_, L, ys, rfl, rfl, .inl (SqL.of eL), ?_, ?_⟩
      · rw [le]
        have e0 : (("" : Str)).length = 0 := rfl
        rw [e0]
        omega
      · have jl : (Txt.join "" ys).length = ys.length := by rw [join_len, le]
        refine q _ _ (by rw [jl]; omega) ?_ (hde.mono ?_) (b1.trans be)
        · intro c hc
          rw [join_cps] at hc
          obtain ⟨l, ml, hcl⟩ := List.mem_flatten.mp hc
          obtain ⟨y, my, rfl⟩ := List.mem_map.mp ml
          obtain ⟨c', mc', e⟩ := cy y my
          rw [e] at hcl
          have : c = c' := by simpa using hcl
          rw [this]
          exact small7 _ mc'
        · show n + 1 + (((2 + d).toNat : Nat) : Int) ≤ n + 10
          omega
theorem ok_names {f : Addr} {fd : FuncData} (D : Df K mg "_law_names" ["_law_hand_here", "_law_many"] sNames f fd) (T : Txt mg) (cT : Ca P w K mg base 1 "_law_take" ["_law_hand_here", "_law_many"] spTake) (cP : Ca P w K mg base 2 "_law_pick" ["_law_hand_here", "_law_some"] spPick) (cS : Ca P w K mg base 1 "_law_signs" [] spSigns) (cX : Ca P w K mg base 3 "_law_text" ["_law_hand_here", "_law_most"] spText) (cG : Ca P w K mg base 3 "_law_tongue" ["_law_hand_here"] spTongue) : FnOk P w K mg base CX0 4 f fd ["_law_hand_here", "_law_many"] spNames := by
  refine D.fn.ok scNames (fun vs H Q E h => ?_) (fun cdv A outer s H vs Q E hr h => ?_)
  · obtain ⟨h, n, many, rfl, m0, m60, hd, hn, q⟩ := h
    rfl
  · obtain ⟨h, n, many, rfl, m0, m60, hd, hn, q⟩ := h
    refine ⟨_, (pss_cons (ps_set (i := 2) scNames.nd rfl (.inl rfl) (pe_ca cX hr (by decide) (by rfl) (pa_cons (pv 0) (pa_cons (pe_ix ix_list (pe_lst (pa_cons pe_int (pa_cons pe_int pa_nil))) (pe_callTy call_int1 (by rfl) T.int (by decide +kernel) (pa_cons (pe_cmpR op_eq (pe_ca cT hr (by decide) (by rfl) (pa_cons (pv 0) (pa_cons pe_int pa_nil))) pe_int (nomark _)) pa_nil)) (fun _ _ => rfl)) pa_nil))))
      (pss_cons (ps_par3 (i := 3) (j := 4) (l := 5) (by rfl) scNames.nd rfl rfl rfl (by decide) (by decide) (by decide) rfl rfl rfl (pa_cons (pe_ca cT hr (by decide) (by rfl) (pa_cons (pv 0) (pa_cons (pe_op op_add (pe_callB call_len_str (by rfl) T.len PySem.boot_len (pa_cons (pv 2) pa_nil)) pe_int) pa_nil))) (pa_cons (pe_callTy (cr_listS (by rfl)) (by rfl) T.list (by decide +kernel) (pa_cons (pe_ca0 cS hr (by decide) (by rfl)) pa_nil)) (pa_cons (pe_lst pa_nil) pa_nil))) (by rfl))
      (pss_cons (ps_set (i := 6) scNames.nd rfl (.inl rfl) (pe_lst (pa_cons (pe_ca cG hr (by decide) (by rfl) (pa_cons (pv 0) pa_nil)) (pa_cons (pe_ca cG hr (by decide) (by rfl) (pa_cons (pv 0) pa_nil)) pa_nil))))
      (pss_cons (ps_for PassesOwn.never rfl (pi_range1 (by rfl) T.range (pa_cons (pv 1) pa_nil)) (pg_name (i := 7) scNames.nd rfl (.inl rfl)) (pss_cons (ps_set (i := 8) scNames.nd rfl (.inl rfl) (pe_bm PySem.F.plainAttrs_list PySem.F.slot_list_pop PySem.F.type_list_pop mt_popAt (pv 4) (pa_cons (pe_ca cT hr (by decide) (by rfl) (pa_cons (pv 0) (pa_cons (pe_callB call_len_seq (by rfl) T.len PySem.boot_len (pa_cons (pv 4) pa_nil)) pa_nil))) pa_nil)))
      (pss_one (ps_expr (pe_bm PySem.F.plainAttrs_list PySem.F.slot_list_append PySem.F.type_list_append mt_append (pv 5) (pa_cons (pe_tup (pa_cons (pe_ca cP hr (by decide) (by rfl) (pa_cons (pv 0) (pa_cons (pv 6) pa_nil))) (pa_cons (pe_op op_add_str (pe_op op_add_str (pe_slice sl_str (pv 2) po_none (po_some (pv 3))) (pv 8)) (pe_slice sl_str (pv 2) (po_some (pv 3)) po_none)) pa_nil))) pa_nil))))))
      (pss_one (ps_ret (pv 5))))))), ?_⟩
    have fr : n + 2000 ≤ 1000000 := hn
    have l65 : lawSigns.length = 65 := by decide +kernel
    -- stem
    refine ⟨_, rfl, (by show 2 ≤ sizeLine; decide), fun l1 nl1 => ?_⟩
    have s1 := same_upd nl1 (o := .lst [.int 12, .int 39])
    have e1 : (upd H l1 (.lst [.int 12, .int 39])) l1 = some (.lst [.int 12, .int 39]) := upd_same
    generalize upd H l1 (.lst [.int 12, .int 39]) = H1 at s1 e1 ⊢
    have l1h := hd.fresh nl1
    refine ⟨_, rfl, h, 8, n, rfl, by decide, by decide, hd.same s1, by show n ≤ 1000000; omega, fun d H2 d0 d1 h2 b2 => ?_⟩
    have pk : ∀ b : Bool, ∃ m : Int, atI [V.int 12, .int 39] (if b = true then 1 else 0) = some (.int m) ∧ 1 ≤ m ∧ m ≤ 40 := fun b => by
      cases b
      · exact ⟨12, rfl, by decide, by decide⟩
      · exact ⟨39, rfl, by decide, by decide⟩
    obtain ⟨m, em, m0, m1⟩ := pk (decide (V.int d = V.int 7))
    refine ⟨rfl, .inr ⟨_, rfl, l1, _, _, _, rfl, rfl, SqL.of (b2 _ _ l1h e1), em, ?_⟩⟩
    refine ⟨h, n + 1, m, rfl, m0, m1, h2, by show n + 1 + 200 ≤ 1000000; omega, fun st H3 st0 st1 as h3 b3 => ?_⟩
    have bb : But h H H3 := (Same.but s1 h).trans (b2.trans b3)
    clear b2 b3 s1 e1 h2
    have lsz : st.length ≤ sizeLine := Nat.le_trans (show st.length ≤ 100 by omega) (by decide)
    -- at, signs, found
    refine ⟨_, rfl, _, rfl, st, rfl, lsz, _, 1, rfl, rfl, h, (st.length : Int) + 1, n + 101, rfl, by omega, lt30i (by omega), h3.mono (by omega), by show n + 101 ≤ 1000000; omega, fun at' H4 a0 a1 h4 b4 => ?_⟩
    obtain ⟨k0, rfl⟩ : ∃ k0 : Nat, at' = (k0 : Int) := ⟨at'.toNat, by omega⟩
    refine ⟨rfl, lawSigns, rfl, by rw [l65]; decide, fun S nS => ?_⟩
    have sS := same_upd nS (o := .lst (lawSigns.cps.toList.map sg1))
    have eS : (upd H4 S (.lst (lawSigns.cps.toList.map sg1))) S = some (.lst (lawSigns.cps.toList.map sg1)) := upd_same
    have Sh := h4.fresh nS
    generalize upd H4 S (.lst (lawSigns.cps.toList.map sg1)) = H5 at sS eS ⊢
    refine ⟨(by show 0 ≤ sizeLine; decide), fun F nF => ?_⟩
    have sF := same_upd nF (o := .lst [])
    have eF : (upd H5 F (.lst [])) F = some (.lst []) := upd_same
    have Fh := (h4.same sS).fresh nF
    have SF : S ≠ F := ne_of_none eS nF
    generalize upd H5 F (.lst []) = H6 at sF eF ⊢
    refine ⟨_, _, _, rfl, ?_⟩
    have HF : H F = none := bb.free Fh (b4.free Fh (by
      cases z : H4 F with
      | none => rfl
      | some o => have := sS _ _ z; rw [nF] at this; cases this))
    have HS : H S = none := bb.free Sh (b4.free Sh nS)
    have b7 : But h H H6 := bb.trans (b4.trans (Same.but (sS.trans sF) h))
    have h7 := (h4.same sS).same sF
    have eS7 := sF _ _ eS
    have eF7 := eF
    clear h4 h3 b4 bb sS sF
    -- tongues
    refine ⟨_, rfl, h, n + 102, rfl, h7.mono (by omega), by show n + 102 + 100 ≤ 1000000; omega, fun t1 H8 lt1 at1 h8 b8 => ?_⟩
    refine ⟨_, rfl, h, n + 112, rfl, h8.mono (by omega), by show n + 112 + 100 ≤ 1000000; omega, fun t2 H9 lt2 at2 h9 b9 => ?_⟩
    refine ⟨(by show 2 ≤ sizeLine; decide), fun T' nT => ?_⟩
    have sT := same_upd nT (o := .lst [.str t1, .str t2])
    have eT : (upd H9 T' (.lst [.str t1, .str t2])) T' = some (.lst [.str t1, .str t2]) := upd_same
    have Th := h9.fresh nT
    have eS9 := b9 _ _ Sh (b8 _ _ Sh eS7)
    have eF9 := b9 _ _ Fh (b8 _ _ Fh eF7)
    have ST : S ≠ T' := ne_of_none eS9 nT
    have FT : F ≠ T' := ne_of_none eF9 nT
    generalize upd H9 T' (.lst [.str t1, .str t2]) = HA at sT eT ⊢
    have bA : But h H HA := b7.trans (b8.trans (b9.trans (Same.but sT h)))
    have hA := h9.same sT
    have eSA := sT _ _ eS9
    have eFA := sT _ _ eF9
    clear sT b9 b8 b7 h9 h8 h7 eS9 eF9 eS7 eF7
    have kst : k0 ≤ st.cps.toList.length := by rw [← len_cps]; omega
    refine ⟨_, rfl, many, rfl, by omega, by omega, for_range (lo := 0) (n := many.toNat) (fun k σ Hi => ∃ (sg cs : List Nat) (xs : List V) (ns : List Nm) (c7 c8 : Option V), σ = [some (.ref h), some (.int many), some (.str st), some (.int (k0 : Int)), some (.ref S), some (.ref F), some (.ref T'), c7, c8] ∧
      Hi S = some (.lst (sg.map sg1)) ∧ sg.length + k = 65 ∧ (cs ++ sg).Nodup ∧ (∀ c ∈ sg, c < 128) ∧ Hi T' = some (.lst [.str t1, .str t2]) ∧ Hi F = some (.lst xs) ∧ NmL Hi xs ns ∧ ns.map (·.2) = cs.map (insT st k0) ∧ ns.length = k ∧ (∀ m ∈ ns, Gn' m) ∧ Hand (n + 122 + 3 * k) Hi h ∧ But h H Hi) ?_ ?_ ?_⟩
    · exact ⟨_, [], [], [], none, none, rfl, eSA, (by decide +kernel), (by decide +kernel), lawSigns7, eT, eFA, .nil, rfl, rfl, by simp, hA.mono (by omega), bA⟩
    · rintro k σ Hi hk ⟨sg, cs, xs, ns, c7, c8, rfl, eSi, lsg, nd, csg, eTi, eFi, nml, esn, lns, gns, hdi, bi⟩
      have hk' : k < many.toNat := hk
      have nkb : n + 122 + 3 * (k : Int) + 10 ≤ 1000000 := by omega
      have sgl : 0 < sg.length := by omega
      refine ⟨_, rfl, .inl ⟨rfl, _, SqL.of eSi⟩, _, rfl, _, rfl, S, _, rfl, .inl (SqL.of eSi), h, ((sg.map sg1).length : Int), n + 122 + 3 * k, rfl, by rw [List.length_map]; omega, by rw [List.length_map]; exact lt30i (by omega), hdi, by show n + 122 + 3 * (k : Int) ≤ 1000000; omega, fun j Hb j0 j1 hb bb => ?_⟩
      rw [List.length_map] at j1
      obtain ⟨jn, rfl⟩ : ∃ jn : Nat, j = (jn : Int) := ⟨j.toNat, by omega⟩
      have jl : jn < sg.length := by omega
      have eSb := bb _ _ Sh eSi
      refine ⟨S, _, (jn : Int), jn, sg1 sg[jn], rfl, rfl, eSb, by omega, by omega, by rw [List.length_map, seqIndex_of (by omega) (by omega)]; rfl, by rw [List.getElem?_map, List.getElem?_eq_getElem jl]; rfl, ?_⟩
      have er : (sg.map sg1).eraseIdx jn = (sg.eraseIdx jn).map sg1 := erase_map sg1 sg jn
      rw [er]
      have mj := csg _ (List.getElem_mem jl)
      have nd' : (cs ++ sg[jn] :: sg.eraseIdx jn).Nodup := (List.Perm.nodup_iff (List.Perm.append_left _ (perm_erase sg jn jl))).mp nd
      generalize sg[jn] = cj at mj nd' ⊢
      have eSc : (upd Hb S (.lst ((sg.eraseIdx jn).map sg1))) S = some (.lst ((sg.eraseIdx jn).map sg1)) := upd_same
      have eTc : (upd Hb S (.lst ((sg.eraseIdx jn).map sg1))) T' = some (.lst [.str t1, .str t2]) := by rw [upd_ne (Ne.symm ST)]; exact bb _ _ Th eTi
      have eFc : (upd Hb S (.lst ((sg.eraseIdx jn).map sg1))) F = some (.lst xs) := by rw [upd_ne (Ne.symm SF)]; exact bb _ _ Fh eFi
      have hc := hb.upd (Ne.symm Sh) (x := .lst ((sg.eraseIdx jn).map sg1))
      have tpb : ∀ {Hx Hy : Hp} {m : Int}, Hand m Hx h → But h Hx Hy → Tp Hx Hy := fun {Hx Hy m} hx b c ys e => b c _ (hx.ne_tup (K := K) e) e
      have pc : Tp Hi (upd Hb S (.lst ((sg.eraseIdx jn).map sg1))) := (tpb hdi bb).trans (tp_upd (fun ys z => by rw [eSb] at z; cases z))
      have bc : But h H (upd Hb S (.lst ((sg.eraseIdx jn).map sg1))) := fun b x nb e => by
        rw [upd_ne (ne_of_none e HS)]
        exact bb b x nb (bi b x nb e)
      have lsg' : (sg.eraseIdx jn).length + (k + 1) = 65 := by
        rw [List.length_eraseIdx_of_lt jl]
        omega
      have csg' : ∀ c ∈ sg.eraseIdx jn, c < 128 := fun c hc => csg c (List.mem_of_mem_eraseIdx hc)
      generalize upd Hb S (.lst ((sg.eraseIdx jn).map sg1)) = Hc at eSc eTc eFc hc pc bc ⊢
      generalize sg.eraseIdx jn = sg' at eSc lsg' csg' nd' ⊢
      clear eSb hb bb er j0 j1
      have tne : [V.str t1, V.str t2] ≠ [] := by simp
      refine ⟨_, rfl, .inl ⟨rfl, _, SqL.of eFc⟩, _, rfl, _, rfl, h, n + 122 + 3 * k + 1, _, rfl, hc, by show n + 122 + 3 * (k : Int) + 1 ≤ 1000000; omega, .inl ⟨T', _, rfl, eTc, Th, tne, by show 2 < 1000; decide, fun v1 Ha mv1 ha ba => ?_⟩⟩
      obtain ⟨tt, rfl, ltt, att⟩ : ∃ tt : Str, v1 = .str tt ∧ tt.length ≤ 3 ∧ As tt := by
        simp only [List.mem_cons, List.not_mem_nil, or_false] at mv1
        rcases mv1 with e | e
        · exact ⟨t1, e, lt1, at1⟩
        · exact ⟨t2, e, lt2, at2⟩
      have il := ins_len (c := cj) kst
      have z1 : (⟨#[cj]⟩ : Str).length = 1 := rfl
      have fit1 : (cutS st none (some (k0 : Int))).length + (⟨#[cj]⟩ : Str).length ≤ sizeLine := by rw [z1]; exact Nat.le_trans (show _ ≤ 100 by omega) (by decide)
      have fit2 : (cutS st none (some (k0 : Int)) ++ ⟨#[cj]⟩).length + (cutS st (some (k0 : Int)) none).length ≤ sizeLine := by rw [strLen_append, z1]; exact Nat.le_trans (show _ ≤ 100 by omega) (by decide)
      refine ⟨_, rfl, _, rfl, (k0 : Int), rfl, st, rfl, lsz, _, rfl, _, _, rfl, rfl, fit1, _, rfl, _, rfl, (k0 : Int), rfl, st, rfl, lsz, _, _, rfl, rfl, fit2, (by show 2 ≤ sizeLine; decide), fun t nt => ?_⟩
      have st2 := same_upd nt (o := .tup [.str tt, .str (insT st k0 cj)])
      have et : (upd Ha t (.tup [.str tt, .str (insT st k0 cj)])) t = some (.tup [.str tt, .str (insT st k0 cj)]) := upd_same
      have eFa := st2 _ _ (ba _ _ Fh eFc)
      have eSa := st2 _ _ (ba _ _ Sh eSc)
      have eTa := st2 _ _ (ba _ _ Th eTc)
      have ha' := ha.same st2
      have ba' : But h H (upd Ha t (.tup [.str tt, .str (insT st k0 cj)])) := bc.trans (ba.trans (Same.but st2 h))
      have pa : Tp Hi (upd Ha t (.tup [.str tt, .str (insT st k0 cj)])) := pc.trans ((tpb hc ba).trans (tp_same st2))
      refine ⟨F, _, _, rfl, rfl, eFa, ?_, ?_⟩
      · rw [nml.len, lns]
        exact Nat.lt_of_le_of_lt (show k ≤ 100 by omega) (by decide)
      have TF : T' ≠ F := Ne.symm FT
      refine ⟨sg', cs ++ [cj], _, ns ++ [(tt, insT st k0 cj)], _, _, rfl, by rw [upd_ne SF]; exact eSa, lsg', by rw [List.append_assoc]; exact nd', csg', by rw [upd_ne TF]; exact eTa, upd_same, ?_, by rw [List.map_append, List.map_append, esn]; rfl, by rw [List.length_append, lns]; rfl, fun m hm => ?_, (ha'.upd (Ne.symm Fh)).mono (by omega), fun b x nb e => ?_⟩
      · have pf : Tp (upd Ha t (.tup [.str tt, .str (insT st k0 cj)])) (upd (upd Ha t (.tup [.str tt, .str (insT st k0 cj)])) F (.lst (xs ++ [.ref t]))) := tp_upd (fun ys z => by rw [eFa] at z; cases z)
        exact (nml.tp (pa.trans pf)).snoc ⟨t, rfl, pf _ _ et⟩
      · rcases List.mem_append.mp hm with z | z
        · exact gns m z
        · rw [List.mem_singleton.mp z]
          refine ⟨ltt, att, ?_, insT_as kst as mj⟩
          show (insT st k0 cj).length ≤ 41
          have := il.2.2
          unfold insT
          omega
      · rw [upd_ne (ne_of_none e HF)]
        exact ba' b x nb e
    rintro σ He ⟨sg, cs, xs, ns, c7, c8, rfl, eS, lsg, nd, csg, eT', eF, nml, esn, lns, gns, hde, be⟩
    have lns' : (ns.length : Int) = many := by
      have : ns.length = many.toNat := lns
      omega
    refine ⟨_, rfl, q F xs ns He eF Fh HF nml lns' ?_ gns (hde.mono ?_) be⟩
    · rw [esn]
      exact List.pairwise_map.mpr ((List.nodup_append.mp nd).1.imp fun ne e => ne (insT_inj kst e))
    · show n + 122 + 3 * ((many.toNat : Nat) : Int) ≤ n + 400
      omega
end
end K37
set_option Elab.async false
set_option linter.all false
set_option maxRecDepth 100000
set_option maxHeartbeats 4000000
set_option pp.maxSteps 400
set_option pp.deepTerms false
namespace K37
open PySem PySem.Spec PyProof.Rows L2
open Xk Az W37
section
variable {P : Program} {w : World} {K : PySem.W.Frag} {mg : Str → Option Value} {base : Heap}
/-- all stands but the hand and a list -/
def B2 (h L : Addr) (H H' : Hp) : Prop := ∀ b o, b ≠ h → b ≠ L → H b = some o → H' b = some o
theorem ne_of_none' {H : Hp} {a b : Addr} {o : HO} (h : H a = some o) (h' : H b = none) : b ≠ a := Ne.symm (ne_of_none h h')
theorem drop_take_app {α : Type} (a b : Nat) (l : List α) (h : a ≤ b) : (l.take b).drop a ++ l.drop b = l.drop a := by
  have e := List.take_append_drop b l
  conv => rhs; rw [← e]
  by_cases hb : b ≤ l.length
  · rw [List.drop_append_of_le_length (by rw [List.length_take]; omega)]
  · rw [List.drop_of_length_le (l := l) (i := b) (by omega), List.append_nil, List.append_nil]
def spTree : Nat → Sp
  | 0 => fun _ _ _ _ => False
  | k + 1 => fun vs H Q _ => ∃ (h : Addr) (n : Int) (L : Addr) (xs : List V) (ns : List Nm), vs = [.ref h, .int ((k + 1 : Nat) : Int), .ref L] ∧ H L = some (.lst xs) ∧ L ≠ h ∧ NmL H xs ns ∧ ns ≠ [] ∧ ns.length ≤ 60 ∧ Hand n H h ∧ n + (ns.length : Int) ≤ far ∧
    ∀ v w m H', m < ns.length → H' L = some (.lst (xs.take m)) → Wk H' v w → w.nms = (ns.drop m).reverse → w.dp ≤ k + 1 → Hand (n + (ns.length - m : Nat)) H' h → B2 h L H H' → Q v H'
theorem ok_tree {f : Addr} {fd : FuncData} {k : Nat} (D : Df K mg "_law_tree" ["_law_hand_here", "_law_deep", "_law_left"] sTree f fd) (T : Txt mg) (cP : Ca P w K mg base 2 "_law_pick" ["_law_hand_here", "_law_some"] spPick) (cTr : Ca P w K mg base (k + 3) "_law_tree" ["_law_hand_here", "_law_deep", "_law_left"] (spTree k)) : FnOk P w K mg base CX0 (k + 4) f fd ["_law_hand_here", "_law_deep", "_law_left"] (spTree (k + 1)) := by
  refine D.fn.ok scTree (fun vs H Q E h => ?_) (fun cdv A outer s H vs Q E hr h => ?_)
  · obtain ⟨h, n, L, xs, ns, rfl, eL, nLh, nml, nne, n60, hh, hn, q⟩ := h
    rfl
  · obtain ⟨h, n, L, xs, ns, rfl, eL, nLh, nml, nne, n60, hh, hn, q⟩ := h
    refine ⟨_, (pss_cons (ps_par (i := 3) (j := 4) (by rfl) scTree.nd rfl rfl (by decide) rfl rfl (pa_cons (pe_bm0 PySem.F.plainAttrs_list PySem.F.slot_list_pop PySem.F.type_list_pop mt_pop (pv 2)) (pa_cons (pe_lst pa_nil) pa_nil)) (by rfl))
      (C8.pss_cut (ps_if (pt_cmpR op_gt (pv 1) pe_int (nomark _)) (pss_one (ps_for PassesOwn.never rfl (pi_range1 (by rfl) T.range (pa_cons (pe_ca cP hr (by omega) (by rfl) (pa_cons (pv 0) (pa_cons (pe_lst (pa_cons pe_int (pa_cons pe_int (pa_cons pe_int (pa_cons pe_int (pa_cons pe_int (pa_cons pe_int pa_nil))))))) pa_nil))) pa_nil)) (pg_name (i := 5) scTree.nd rfl (.inl rfl)) (pss_one (ps_if (pt_cmpR (Xt.op_neL0 hr.units) (pv 2) (pe_lst pa_nil) (nomark _)) (pss_one (ps_expr (pe_bm PySem.F.plainAttrs_list PySem.F.slot_list_append PySem.F.type_list_append mt_append (pv 4) (pa_cons (pe_ca cTr hr (by omega) (by rfl) (pa_cons (pv 0) (pa_cons (pe_op op_sub (pv 1) pe_int) (pa_cons (pv 2) pa_nil)))) pa_nil)))) pss_nil)))) pss_nil)
      (pss_one (ps_ret (pe_tup (pa_cons (pv 3) (pa_cons (pe_callTy call_tuple_of (by rfl) T.tuple (by decide +kernel) (pa_cons (pv 4) pa_nil)) pa_nil))))))), ?_⟩
    have fr : n + (ns.length : Int) ≤ 1000000 := hn
    have lx := nml.len
    have npos : 0 < ns.length := List.length_pos_iff.mpr nne
    obtain ⟨m0, em0⟩ : ∃ m0, ns.length = m0 + 1 := ⟨ns.length - 1, by omega⟩
    have hm : m0 < xs.length := by omega
    obtain ⟨nm, enm, nv⟩ := nml.get (List.getElem?_eq_getElem hm)
    have HL0 : ∀ {b : Addr}, H b = none → b ≠ L := fun {b} e z => by rw [z, eL] at e; cases e
    refine ⟨_, rfl, .inl ⟨rfl, _, SqL.of eL⟩, L, xs, xs[m0], rfl, rfl, eL, by rw [show xs.length - 1 = m0 by omega]; exact List.getElem?_eq_getElem hm, ?_⟩
    have edl : xs.dropLast = xs.take m0 := by rw [List.dropLast_eq_take]; congr 1; omega
    rw [edl]
    have eL1 : (upd H L (.lst (xs.take m0))) L = some (.lst (xs.take m0)) := upd_same
    have h1 := hh.upd (Ne.symm nLh) (x := .lst (xs.take m0))
    have b1 : B2 h L H (upd H L (.lst (xs.take m0))) := fun b o _ nb e => by rw [upd_ne nb]; exact e
    generalize upd H L (.lst (xs.take m0)) = H1 at eL1 h1 b1 ⊢
    refine ⟨(by show 0 ≤ sizeLine; decide), fun P' nP => ⟨_, _, rfl, ?_⟩⟩
    have sP := same_upd nP (o := .lst [])
    have eP : (upd H1 P' (.lst [])) P' = some (.lst []) := upd_same
    have PL : P' ≠ L := ne_of_none' eL1 nP
    have Ph := h1.fresh nP
    generalize upd H1 P' (.lst []) = H2 at sP eP ⊢
    have HP : H P' = none := by
      cases z : H P' with
      | none => rfl
      | some o => have := b1 _ _ Ph PL z; rw [nP] at this; cases this
    have b2 : B2 h L H H2 := fun b o e1 e2 e => sP _ _ (b1 b o e1 e2 e)
    have eL2 := sP _ _ eL1
    have h2 := h1.same sP
    have nmv : NmV H xs[m0] nm := nv
    have tpB : ∀ {Hx : Hp}, B2 h L H Hx → Tp H Hx := fun {Hx} b c ys e => b c _ (hh.ne_tup (K := K) e) (fun z => by rw [z, eL] at e; cases e) e
    clear sP b1 h1 eL1 nP
    refine ⟨fun σ Hx => ∃ (ys : List V) (ws : List W) (m : Nat) (c5 : Option V), σ = [some (.ref h), some (.int ((k + 1 : Nat) : Int)), some (.ref L), some xs[m0], some (.ref P'), c5] ∧ Hx P' = some (.lst ys) ∧ WkL Hx ys ws ∧ m ≤ m0 ∧ ys.length ≤ 60 ∧ Hx L = some (.lst (xs.take m)) ∧ nm :: nmsL ws = (ns.drop m).reverse ∧ dpL ws ≤ k ∧ Hand (n + (ns.length - m : Nat)) Hx h ∧ B2 h L H Hx, ?_, ?_⟩
    · have dr0 : (ns.drop m0).reverse = [nm] := by
        have hl : m0 < ns.length := by omega
        rw [List.drop_eq_getElem_cons hl, List.drop_of_length_le (by omega)]
        rw [List.getElem?_eq_getElem hl] at enm
        cases enm
        rfl
      refine ⟨_, rfl, _, 1, rfl, rfl, _, rfl, ite2 (fun e => ?_) (fun e => ?_)⟩
      · have k1 : 1 ≤ k := by
          have : ((k + 1 : Nat) : Int) > 1 := of_decide_eq_true e
          omega
        obtain ⟨j, rfl⟩ : ∃ j, k = j + 1 := ⟨k - 1, by omega⟩
        refine ⟨_, rfl, (by show 6 ≤ sizeLine; decide), fun p np => ?_⟩
        have sp := same_upd np (o := .lst [.int 0, .int 1, .int 2, .int 3, .int 4, .int 2])
        have hp := h2.same sp
        refine ⟨h, n, _, rfl, hp, by show n ≤ 1000000; omega, .inl ⟨p, _, rfl, upd_same, h2.fresh np, by simp, by show 6 < 1000; decide, fun v H3 mv h3 b3 => ?_⟩⟩
        obtain ⟨r, rfl, r0, r1⟩ : ∃ r : Int, v = .int r ∧ 0 ≤ r ∧ r ≤ 4 := by
          simp only [List.mem_cons, List.not_mem_nil, or_false] at mv
          rcases mv with e | e | e | e | e | e <;> exact ⟨_, e, by decide, by decide⟩
        have b3' : B2 h L H H3 := fun b o e1 e2 e => b3 b o e1 (sp _ _ (b2 b o e1 e2 e))
        have eP3 := b3 _ _ Ph (sp _ _ eP)
        have eL3 := b3 _ _ nLh (sp _ _ eL2)
        clear sp hp b3 mv
        refine ⟨r, rfl, by omega, by omega, for_range (lo := 0) (n := r.toNat) (fun i σ Hx => ∃ (ys : List V) (ws : List W) (m : Nat) (c5 : Option V), σ = [some (.ref h), some (.int ((j + 1 + 1 : Nat) : Int)), some (.ref L), some xs[m0], some (.ref P'), c5] ∧ Hx P' = some (.lst ys) ∧ WkL Hx ys ws ∧ m ≤ m0 ∧ ys.length ≤ i ∧ Hx L = some (.lst (xs.take m)) ∧ nm :: nmsL ws = (ns.drop m).reverse ∧ dpL ws ≤ j + 1 ∧ Hand (n + (ns.length - m : Nat)) Hx h ∧ B2 h L H Hx) ?_ ?_ ?_⟩
        · exact ⟨[], [], m0, none, rfl, eP3, .nil, Nat.le_refl _, Nat.le_refl _, eL3, by rw [dr0]; rfl, by simp [dpL], h3.mono (by omega), b3'⟩
        · rintro i σ Hx hi ⟨ys, ws, m, c5, rfl, ePx, wl, mm, ly, eLx, enw, dl, hx, bx⟩
          have i4 : i < r.toNat := hi
          refine ⟨_, rfl, (by show 0 ≤ sizeLine; decide), fun z nz => ?_⟩
          have sz := same_upd nz (o := .lst [])
          refine ⟨L, z, _, rfl, rfl, sz _ _ eLx, upd_same, _, rfl, ?_⟩
          have zL : z ≠ L := ne_of_none' eLx nz
          have zP : z ≠ P' := ne_of_none' ePx nz
          generalize upd Hx z (.lst []) = Hy at sz ⊢
          have bxy : B2 h L H Hy := fun b o e1 e2 e => sz _ _ (bx b o e1 e2 e)
          cases em : (xs.take m).isEmpty
          · refine iteT ?_
            have mpos : 0 < m := by
              rcases Nat.eq_zero_or_pos m with z0 | z0
              · rw [z0] at em; cases em
              · exact z0
            have ltk : (ns.take m).length = m := by rw [List.length_take]; omega
            refine ⟨_, rfl, .inl ⟨rfl, _, SqL.of (sz _ _ ePx)⟩, _, rfl, _, rfl, _, 1, rfl, rfl, _, rfl, ?_⟩
            refine ⟨h, n + (ns.length - m : Nat), L, xs.take m, ns.take m, (by show [V.ref h, V.int (((j + 1 + 1 : Nat) : Int) - 1), .ref L] = [V.ref h, .int ((j + 1 : Nat) : Int), .ref L]; rw [show ((j + 1 + 1 : Nat) : Int) - 1 = ((j + 1 : Nat) : Int) by omega]), sz _ _ eLx, nLh, (nml.take m).tp (tpB bxy), (fun z0 => by rw [z0] at ltk; simp at ltk; omega), by omega, hx.same sz, ?_, fun v w m' Hz hm' eLz wk enm' dw hz bz => ?_⟩
            · show n + ((ns.length - m : Nat) : Int) + ((ns.take m).length : Int) ≤ 1000000
              omega
            · have ePz := bz _ _ Ph PL (sz _ _ ePx)
              have bz' : B2 h L H Hz := fun b o e1 e2 e => bz b o e1 e2 (bxy b o e1 e2 e)
              refine ⟨P', ys, v, rfl, rfl, ePz, Nat.lt_of_le_of_lt (show ys.length ≤ 100 by omega) (by decide), ?_⟩
              have up : Tp Hz (upd Hz P' (.lst (ys ++ [v]))) := tp_upd (fun us z => by rw [ePz] at z; cases z)
              have bP : B2 h L H (upd Hz P' (.lst (ys ++ [v]))) := fun b o e1 e2 e => by
                rw [upd_ne (ne_of_none e HP)]
                exact bz' b o e1 e2 e
              have txz : Tp Hx Hz := fun c us e => bz c _ (hx.ne_tup (K := K) e) (fun z => by rw [z, eLx] at e; cases e) (sz _ _ e)
              rw [ltk] at hm'
              refine ⟨ys ++ [v], ws ++ [w], m', _, rfl, upd_same, (wl.tp (txz.trans up)).snoc (wk.tp up), by omega, ?_, ?_, ?_, dpL_app ws w (j + 1) dl (Nat.le_trans dw (Nat.le_refl _)), (hz.upd (Ne.symm Ph)).mono ?_, bP⟩
              · rw [List.length_append]; exact Nat.add_le_add_right ly 1
              · rw [upd_ne (Ne.symm PL), eLz, List.take_take, Nat.min_eq_left (by omega)]
              · rw [nmsL_app, nmsL, nmsL, List.append_nil, ← List.cons_append, enw, enm', ← List.reverse_append, drop_take_app m' m ns (by omega)]
              · rw [ltk]
                omega
          · refine iteF ⟨ys, ws, m, _, rfl, sz _ _ ePx, wl.tp (tp_same sz), mm, Nat.le_succ_of_le ly, sz _ _ eLx, enw, dl, hx.same sz, bxy⟩
        · rintro σ Hx ⟨ys, ws, m, c5, rfl, r1, r2, r3, r4, r5⟩
          exact ⟨ys, ws, m, c5, rfl, r1, r2, r3, Nat.le_trans r4 (by omega), r5⟩
      · exact ⟨[], [], m0, none, rfl, eP, .nil, Nat.le_refl _, by simp, eL2, by rw [dr0]; rfl, by simp [dpL], h2.mono (by omega), b2⟩
    rintro σ Hx ⟨ys, ws, m, c5, rfl, ePx, wl, mm, ly, eLx, enw, dl, hx, bx⟩
    refine ⟨_, rfl, _, rfl, P', _, rfl, .inl ⟨SqL.of ePx, fun p np => ?_⟩⟩
    have s1 := same_upd np (o := .tup ys)
    have e1 : (upd Hx p (.tup ys)) p = some (.tup ys) := upd_same
    generalize upd Hx p (.tup ys) = Hy at s1 e1 ⊢
    refine ⟨(by show 2 ≤ sizeLine; decide), fun t nt => ?_⟩
    have s2 := same_upd nt (o := .tup [xs[m0], .ref p])
    have e2 : (upd Hy t (.tup [xs[m0], .ref p])) t = some (.tup [xs[m0], .ref p]) := upd_same
    generalize upd Hy t (.tup [xs[m0], .ref p]) = Hz at s2 e2 ⊢
    have tz : Tp Hx Hz := (tp_same s1).trans (tp_same s2)
    refine q _ (.mk nm ws) m Hz (by omega) (s2 _ _ (s1 _ _ eLx)) (.mk e2 (nmv.tp ((tpB bx).trans tz)) (s2 _ _ e1) (wl.tp tz)) ?_ ?_ ((hx.same s1).same s2) (fun b o e1 e2 e => s2 _ _ (s1 _ _ (bx b o e1 e2 e)))
    · rw [W.nms]; exact enw
    · rw [W.dp]; omega
theorem tree_fn {f : Addr} {fd : FuncData} (D : Df K mg "_law_tree" ["_law_hand_here", "_law_deep", "_law_left"] sTree f fd) (T : Txt mg) (cP : Ca P w K mg base 2 "_law_pick" ["_law_hand_here", "_law_some"] spPick) :
    ∀ k, FnOk P w K mg base CX0 (k + 3) f fd ["_law_hand_here", "_law_deep", "_law_left"] (spTree k)
  | 0 => ⟨fun _ _ _ _ h => h.elim, fun _ _ _ _ _ _ _ _ _ _ _ _ _ h => h.elim⟩
  | k + 1 => ok_tree D T cP (D.ca (tree_fn D T cP k))
end
end K37
set_option Elab.async false
set_option linter.all false
set_option maxRecDepth 100000
set_option maxHeartbeats 4000000
set_option pp.maxSteps 400
set_option pp.deepTerms false
namespace K37
open PySem PySem.Spec PyProof.Rows L2
open Xk Az W37
section
variable {P : Program} {w : World} {K : PySem.W.Frag} {mg : Str → Option Value} {base : Heap}
theorem _root_.W37.W.dp_pos : ∀ w : W, 1 ≤ w.dp
  | .mk _ _ => by rw [W.dp]; omega
theorem nmsL_take : ∀ (i : Nat) (ps : List W), (nmsL (ps.take i)).length ≤ (nmsL ps).length
  | 0, ps => by rw [List.take_zero, nmsL]; simp
  | _ + 1, [] => by simp [nmsL]
  | i + 1, w :: r => by
    rw [List.take_succ_cons, nmsL, nmsL, List.length_append, List.length_append]
    have := nmsL_take i r
    omega
theorem nmsL_mem : ∀ {ps : List W} {w : W}, w ∈ ps → w.nms.length ≤ (nmsL ps).length
  | x :: r, w, h => by
    rw [nmsL, List.length_append]
    rcases List.mem_cons.mp h with z | z
    · rw [z]; omega
    · have := nmsL_mem z
      omega
theorem cutV_take (xs : List V) (k : Nat) : cutV xs none (some (k : Int)) = xs.take k := by
  unfold cutV
  have e1 : HT.sIx xs.length 0 none = 0 := rfl
  have e2 : HT.sIx xs.length xs.length (some (k : Int)) = min k xs.length := by rw [HT.sIx_nat]
  rw [e1, e2, List.drop_zero, Nat.sub_zero]
  by_cases h : k ≤ xs.length
  · rw [Nat.min_eq_left h]
  · rw [Nat.min_eq_right (by omega), List.take_of_length_le (Nat.le_refl _), List.take_of_length_le (by omega)]
theorem cutV_drop (xs : List V) (k : Nat) (h : k ≤ xs.length) : cutV xs (some (k : Int)) none = xs.drop k := by
  unfold cutV
  have e1 : HT.sIx xs.length 0 (some (k : Int)) = min k xs.length := by rw [HT.sIx_nat]
  have e2 : HT.sIx xs.length xs.length none = xs.length := rfl
  rw [e1, e2, Nat.min_eq_left h, List.take_of_length_le (by rw [List.length_drop]; omega)]
/-- what is found in another list, each at most once -/
theorem sub_names (ns : List Nm) (k m : Nat) : List.Sublist ((((ns.take k).drop m).reverse ++ ns.drop k).map fun x => x) ((ns.take k).reverse ++ ns.drop k) := by
  rw [List.map_id']
  exact List.Sublist.append_right (List.Sublist.reverse (List.drop_sublist m _)) _
theorem rev_nodup {ns : List Nm} {k : Nat} {ys : List Nm} (h : (ns.map (·.2)).Nodup) (s : List.Sublist ys ((ns.take k).reverse ++ ns.drop k)) : (ys.map (·.2)).Nodup := by
  refine (List.Sublist.map _ s).nodup ?_
  have p : ((ns.take k).reverse ++ ns.drop k).Perm ns := by
    conv => rhs; rw [← List.take_append_drop k ns]
    exact List.Perm.append_right _ (List.reverse_perm _)
  exact (List.Perm.nodup_iff (p.map _)).mpr h
def spAll : Nat → Sp
  | 0 => fun _ _ _ _ => False
  | k + 1 => fun vs H Q _ => ∃ (v : V) (w : W), vs = [v] ∧ Wk H v w ∧ w.dp ≤ k + 1 ∧ w.nms.length ≤ 1000 ∧ ∀ L xs H', H' L = some (.lst xs) → NmL H' xs w.nms → H L = none → L2.Same H H' → Q (.ref L) H'
theorem ok_all {f : Addr} {fd : FuncData} {k : Nat} (D : Df K mg "_law_all" ["_law_work_here"] sAll f fd) (T : Txt mg) (cAl : Ca P w K mg base (k + 1) "_law_all" ["_law_work_here"] (spAll k)) : FnOk P w K mg base CX0 (k + 2) f fd ["_law_work_here"] (spAll (k + 1)) := by
  refine D.fn.ok scAll (fun vs H Q E h => ?_) (fun cdv A outer s H vs Q E hr h => ?_)
  · obtain ⟨v, w, rfl, wk, hd, hl, q⟩ := h
    rfl
  · obtain ⟨v, w, rfl, wk, hd, hl, q⟩ := h
    refine ⟨_, (pss_cons (ps_set (i := 1) scAll.nd rfl (.inl rfl) (pe_lst (pa_cons (pe_ix ix_tup (pv 0) pe_int (fun _ _ => rfl)) pa_nil)))
      (pss_cons (ps_for PassesOwn.never rfl (pi_tup (pe_ix ix_tup (pv 0) pe_int (fun _ _ => rfl))) (pg_name (i := 2) scAll.nd rfl (.inl rfl)) (pss_one (ps_expr (pe_bm PySem.F.plainAttrs_list PySem.F.slot_list_extend PySem.F.type_list_extend mt_extend (pv 1) (pa_cons (pe_ca cAl hr (by omega) (by rfl) (pa_cons (pv 2) pa_nil)) pa_nil)))))
      (pss_one (ps_ret (pv 1))))), ?_⟩
    cases wk with
    | @mk t p v0 nm xs ps e1 nv e2 wl =>
    rw [W.dp] at hd
    rw [W.nms, List.length_cons] at hl
    refine ⟨_, rfl, t, _, 0, v0, rfl, rfl, SqT.of e1, rfl, (by show 1 ≤ sizeLine; decide), fun F nF => ?_⟩
    have sF := same_upd nF (o := .lst [v0])
    have eF : (upd H F (.lst [v0])) F = some (.lst [v0]) := upd_same
    generalize upd H F (.lst [v0]) = H1 at sF eF ⊢
    refine ⟨_, rfl, t, _, 1, .ref p, rfl, rfl, SqT.of (sF _ _ e1), rfl, p, rfl, ⟨_, SqT.of (sF _ _ e2)⟩, for_tup (K := K) (a := p) (xs := xs) (fun i σ Hx => ∃ (ys : List V) (c2 : Option V), σ = [some (.ref t), some (.ref F), c2] ∧ Hx F = some (.lst ys) ∧ NmL Hx ys (nm :: nmsL (ps.take i)) ∧ L2.Same H Hx) ?_ ?_ ?_ ?_⟩
    · exact ⟨[v0], none, rfl, eF, .cons (nv.tp (tp_same sF)) (by rw [List.take_zero, nmsL]; exact .nil), sF⟩
    · rintro i σ Hx _ ⟨ys, c2, rfl, eFx, nml, sx⟩
      exact SqT.of (sx _ _ e2)
    · rintro i x σ Hx hx ⟨ys, c2, rfl, eFx, nml, sx⟩
      obtain ⟨w', ew, wk'⟩ := wl.get hx
      have mw := List.mem_of_getElem? ew
      have dw := dpL_mem mw
      have le := nml.len
      have nle : (nm :: nmsL (ps.take i)).length ≤ 1001 := by
        have := nmsL_take i ps
        rw [List.length_cons]; omega
      have nlw := nmsL_mem mw
      have dpos := W.dp_pos w'
      obtain ⟨j, rfl⟩ : ∃ j, k = j + 1 := ⟨k - 1, by omega⟩
      refine ⟨_, rfl, .inl ⟨rfl, _, SqL.of eFx⟩, _, rfl, x, w', rfl, wk'.tp (tp_same sx), by omega, by omega, fun L2' xs2 Hy eL2 nm2 nL2 sy => ?_⟩
      have eFy := sy _ _ eFx
      refine ⟨F, L2', ys, xs2, rfl, rfl, eFy, eL2, ?_, ?_⟩
      · rw [nml.len, nm2.len]
        exact Nat.le_trans (show _ ≤ 3000 by omega) (by decide)
      have up : Tp Hy (upd Hy F (.lst (ys ++ xs2))) := tp_upd (fun us z => by rw [eFy] at z; cases z)
      refine ⟨ys ++ xs2, _, rfl, upd_same, ?_, fun b o e => ?_⟩
      · have : nm :: nmsL (ps.take (i + 1)) = (nm :: nmsL (ps.take i)) ++ w'.nms := by
          rw [List.take_succ, ew, nmsL_app]
          simp [nmsL]
        rw [this]
        exact (nml.tp ((tp_same sy).trans up)).app (nm2.tp up)
      · rw [upd_ne (ne_of_none e nF)]
        exact sy _ _ (sx _ _ e)
    · rintro σ Hx ⟨ys, c2, rfl, eFx, nml, sx⟩
      refine ⟨_, rfl, q F ys Hx eFx ?_ nF sx⟩
      rw [W.nms]
      have l := wl.len
      rw [List.take_of_length_le (by omega)] at nml
      exact nml
theorem all_fn {f : Addr} {fd : FuncData} (D : Df K mg "_law_all" ["_law_work_here"] sAll f fd) (T : Txt mg) : ∀ k, FnOk P w K mg base CX0 (k + 1) f fd ["_law_work_here"] (spAll k)
  | 0 => ⟨fun _ _ _ _ h => h.elim, fun _ _ _ _ _ _ _ _ _ _ _ _ _ h => h.elim⟩
  | k + 1 => ok_all D T (D.ca (all_fn D T k))
theorem fn_all {k N : Nat} {f : Addr} {fd : FuncData} {ps : List Str} {sp : Nat → Sp} (F : ∀ n, n ≤ N → FnOk P w K mg base CX0 k f fd ps (sp n)) : FnOk P w K mg base CX0 k f fd ps (fun vs H Q E => ∃ n, n ≤ N ∧ sp n vs H Q E) :=
  ⟨fun vs H Q E ⟨n, h, q⟩ => (F n h).len vs H Q E q, fun A outer s H args us vs Q E hr e0 hb hv ⟨n, h, q⟩ => (F n h).run A outer s H args us vs Q E hr e0 hb hv q⟩
def spWork : Sp := fun vs H Q _ => ∃ (h : Addr) (n many : Int), vs = [.ref h, .int many] ∧ 1 ≤ many ∧ many ≤ 50 ∧ Hand n H h ∧ n + 3000 ≤ far ∧
  ∀ (t A O : Addr) (v : V) (w : W) (xa xo : List V) (no : List Nm) H', H' t = some (.tup [v, .ref A, .ref O]) → Wk H' v w → w.dp ≤ 5 → H' A = some (.lst xa) → A ≠ h → H A = none → NmL H' xa w.nms → H' O = some (.lst xo) → O ≠ h → H O = none → NmL H' xo no → no.length = 3 →
    ((w.nms ++ no).map (·.2)).Nodup → (∀ m ∈ w.nms ++ no, Gn' m) → (w.nms.length : Int) ≤ many → Hand (n + 600) H' h → But h H H' → Q (.ref t) H'
theorem ok_work {f : Addr} {fd : FuncData} (D : Df K mg "_law_work" ["_law_hand_here", "_law_many"] sWork f fd) (T : Txt mg) (cT : Ca P w K mg base 1 "_law_take" ["_law_hand_here", "_law_many"] spTake) (cN : Ca P w K mg base 4 "_law_names" ["_law_hand_here", "_law_many"] spNames) (cTA : Ca P w K mg base 8 "_law_tree" ["_law_hand_here", "_law_deep", "_law_left"] (fun vs H Q E => ∃ n, n ≤ 5 ∧ spTree n vs H Q E)) (cAA : Ca P w K mg base 6 "_law_all" ["_law_work_here"] (spAll 5)) : FnOk P w K mg base CX0 9 f fd ["_law_hand_here", "_law_many"] spWork := by
  refine D.fn.ok scWork (fun vs H Q E h => ?_) (fun cdv A outer s H vs Q E hr h => ?_)
  · obtain ⟨h, n, many, rfl, m0, m1, hh, hn, q⟩ := h
    rfl
  · obtain ⟨h, n, many, rfl, m0, m1, hh, hn, q⟩ := h
    refine ⟨_, (pss_cons (ps_set (i := 2) scWork.nd rfl (.inl rfl) (pe_ca cN hr (by decide) (by rfl) (pa_cons (pv 0) (pa_cons (pe_op op_add (pv 1) pe_int) pa_nil))))
      (pss_cons (ps_set (i := 3) scWork.nd rfl (.inl rfl) (pe_slice sl_list (pv 2) po_none (po_some (pv 1))))
      (pss_cons (ps_set (i := 4) scWork.nd rfl (.inl rfl) (pe_ca cTA hr (by decide) (by rfl) (pa_cons (pv 0) (pa_cons (pe_op op_add pe_int (pe_ca cT hr (by decide) (by rfl) (pa_cons (pv 0) (pa_cons pe_int pa_nil)))) (pa_cons (pv 3) pa_nil)))))
      (pss_one (ps_ret (pe_tup (pa_cons (pv 4) (pa_cons (pe_ca cAA hr (by decide) (by rfl) (pa_cons (pv 4) pa_nil)) (pa_cons (pe_slice sl_list (pv 2) (po_some (pv 1)) po_none) pa_nil))))))))), ?_⟩
    have fr : n + 3000 ≤ 1000000 := hn
    obtain ⟨mn, rfl⟩ : ∃ mn : Nat, many = (mn : Int) := ⟨many.toNat, by omega⟩
    refine ⟨_, rfl, _, rfl, _, 3, rfl, rfl, h, n, _, rfl, by omega, by omega, hh, by show n + 2000 ≤ 1000000; omega, fun L xs ns H1 eL nLh nL nml lns nd gn h1 b1 => ?_⟩
    refine ⟨_, rfl, _, rfl, _, rfl, L, xs, rfl, SqL.of eL, fun F nF => ?_⟩
    have lx := nml.len
    have ct : cutV xs none (some (mn : Int)) = xs.take mn := cutV_take xs mn
    rw [ct]
    have sF := same_upd nF (o := .lst (xs.take mn))
    have eF : (upd H1 F (.lst (xs.take mn))) F = some (.lst (xs.take mn)) := upd_same
    have Fh := h1.fresh nF
    generalize upd H1 F (.lst (xs.take mn)) = H2 at sF eF ⊢
    have h2 := h1.same sF
    have b2 : But h H H2 := b1.trans (Same.but sF h)
    have eL2 := sF _ _ eL
    have LF : L ≠ F := ne_of_none eL nF
    have HF : H F = none := b1.free Fh nF
    refine ⟨_, rfl, _, rfl, h, 5, n + 400, rfl, by decide, by decide, h2, by show n + 400 ≤ 1000000; omega, fun d H3 d0 d1 h3 b3 => ?_⟩
    have eF3 := b3 _ _ Fh eF
    have eL3 := b3 _ _ nLh eL2
    have b03 := b2.trans b3
    have tpB : ∀ {Hx Hy : Hp} {m : Int}, Hand m Hx h → But h Hx Hy → Tp Hx Hy := fun {Hx Hy m} hx b c ys e => b c _ (hx.ne_tup (K := K) e) e
    have nm3 := nml.tp ((tp_same sF).trans (tpB h2 b3))
    obtain ⟨k, rfl⟩ : ∃ k : Nat, d = (k : Int) := ⟨d.toNat, by omega⟩
    have ltm : (ns.take mn).length = mn := by rw [List.length_take]; omega
    refine ⟨1, (k : Int), rfl, rfl, _, rfl, k + 1, by omega, h, n + 401, F, xs.take mn, ns.take mn, (by show [V.ref h, V.int (1 + (k : Int)), .ref F] = [V.ref h, .int ((k + 1 : Nat) : Int), .ref F]; rw [show 1 + (k : Int) = ((k + 1 : Nat) : Int) by omega]), eF3, Fh, nm3.take mn, (fun z => by rw [z] at ltm; simp at ltm; omega), by omega, h3.mono (by omega), ?_, fun v w m H4 mlt eF4 wk enm dw h4 b4 => ?_⟩
    · show n + 401 + ((ns.take mn).length : Int) ≤ 1000000
      omega
    rw [ltm] at mlt
    have b04 : But h H H4 := fun b o e1 e => b4 b o e1 (ne_of_none e HF) (b03 b o e1 e)
    have t34 : Tp H3 H4 := fun c us e => b4 c _ (h3.ne_tup (K := K) e) (fun z => by rw [z, eF3] at e; cases e) e
    have eL4 := b4 _ _ nLh LF eL3
    have nm4 := nm3.tp t34
    have lw : w.nms.length ≤ mn := by
      rw [enm, List.length_reverse, List.length_drop, ltm]; omega
    refine ⟨_, rfl, _, rfl, v, w, rfl, wk, (by show w.dp ≤ 5; omega), by omega, fun A xa H5 eA nmA nA s5 => ?_⟩
    refine ⟨_, rfl, _, rfl, _, rfl, L, xs, rfl, SqL.of (s5 _ _ eL4), fun O nO => ?_⟩
    have cd : cutV xs (some (mn : Int)) none = xs.drop mn := cutV_drop xs mn (by omega)
    rw [cd]
    have sO := same_upd nO (o := .lst (xs.drop mn))
    have eO : (upd H5 O (.lst (xs.drop mn))) O = some (.lst (xs.drop mn)) := upd_same
    have Ah := h4.fresh nA
    have Oh := (h4.same s5).fresh nO
    generalize upd H5 O (.lst (xs.drop mn)) = H6 at sO eO ⊢
    refine ⟨(by show 3 ≤ sizeLine; decide), fun t nt => ?_⟩
    have s7 := same_upd nt (o := .tup [v, .ref A, .ref O])
    have e7 : (upd H6 t (.tup [v, .ref A, .ref O])) t = some (.tup [v, .ref A, .ref O]) := upd_same
    generalize upd H6 t (.tup [v, .ref A, .ref O]) = H7 at s7 e7 ⊢
    have s57 := sO.trans s7
    have s47 := s5.trans s57
    have HA : H A = none := b04.free Ah nA
    have HO : H O = none := b04.free Oh (by
      cases z : H4 O with
      | none => rfl
      | some o => have := s5 _ _ z; rw [nO] at this; cases this)
    refine q t A O v w xa (xs.drop mn) (ns.drop mn) H7 e7 (wk.tp (tp_same s47)) (by omega) (s57 _ _ eA) Ah HA (nmA.tp (tp_same s57)) (s7 _ _ eO) Oh HO ((nm4.drop mn).tp (tp_same s47)) (by rw [List.length_drop]; omega) ?_ ?_ (by omega) ((h4.same s47).mono ?_) (b04.trans (Same.but s47 h))
    · rw [enm]
      have sb := sub_names ns mn m
      rw [List.map_id'] at sb
      exact rev_nodup nd sb
    · intro x hx
      refine gn x ?_
      rw [enm] at hx
      rcases List.mem_append.mp hx with z | z
      · exact List.mem_of_mem_take (List.mem_of_mem_drop (List.mem_reverse.mp z))
      · exact List.mem_of_mem_drop z
    · rw [ltm]
      omega
end
end K37
set_option Elab.async false
set_option linter.all false
set_option maxRecDepth 100000
set_option maxHeartbeats 4000000
set_option pp.maxSteps 400
set_option pp.deepTerms false
namespace K37
open PySem PySem.Spec PyProof.Rows L2
open Xk Az W37
section
variable {P : Program} {w : World} {K : PySem.W.Frag} {mg : Str → Option Value} {base : Heap}
def isStr : PyData → Bool
  | .str _ => true
  | _ => false
def isTup : PyData → Bool
  | .tuple _ => true
  | _ => false
theorem z_str : ∀ d : PyData, PySem.W.kitOne K (.type (kindD d)) (.type "str") = some (isStr d)
  | .none => kit_ty (a := "NoneType") (b := "str") (r := false) (by decide +kernel)
  | .bool _ => kit_ty (a := "bool") (b := "str") (r := false) (by decide +kernel)
  | .int _ => kit_ty (a := "int") (b := "str") (r := false) (by decide +kernel)
  | .str _ => kit_ty (a := "str") (b := "str") (r := true) (by decide +kernel)
  | .list _ => kit_ty (a := "list") (b := "str") (r := false) (by decide +kernel)
  | .tuple _ => kit_ty (a := "tuple") (b := "str") (r := false) (by decide +kernel)
  | .dict _ => kit_ty (a := "dict") (b := "str") (r := false) (by decide +kernel)
theorem z_tup : ∀ d : PyData, PySem.W.kitOne K (.type (kindD d)) (.type "tuple") = some (isTup d)
  | .none => kit_ty (a := "NoneType") (b := "tuple") (r := false) (by decide +kernel)
  | .bool _ => kit_ty (a := "bool") (b := "tuple") (r := false) (by decide +kernel)
  | .int _ => kit_ty (a := "int") (b := "tuple") (r := false) (by decide +kernel)
  | .str _ => kit_ty (a := "str") (b := "tuple") (r := false) (by decide +kernel)
  | .list _ => kit_ty (a := "list") (b := "tuple") (r := false) (by decide +kernel)
  | .tuple _ => kit_ty (a := "tuple") (b := "tuple") (r := true) (by decide +kernel)
  | .dict _ => kit_ty (a := "dict") (b := "tuple") (r := false) (by decide +kernel)
def chk (x sg : Str) : Bool := x.cps.toList.all fun c => decide (c ∈ sg.cps.toList)
def ofT (d : PyData) (sg : Str) (a b : Int) : Bool := match d with
  | .str x => decide (a ≤ (x.length : Int)) && decide ((x.length : Int) ≤ b) && chk x sg
  | _ => false
def spTextOf (K : PySem.W.Frag) : Sp := fun vs H Q _ => ∃ (v : V) (d : PyData) (sg : Str) (a b : Int), vs = [v, .str sg, .int a, .int b] ∧ Dz K H v d ∧ (∀ x, d = .str x → x.length ≤ 2000) ∧ ∀ H', L2.Same H H' → Q (.bl (ofT d sg a b)) H'
theorem ok_of {f : Addr} {fd : FuncData} (D : Df K mg "is_text_of" ["thing", "signs", "least", "most"] sIsTextOf f fd) (T : Txt mg) : FnOk P w K mg base CX0 1 f fd ["thing", "signs", "least", "most"] (spTextOf K) := by
  refine D.fn.ok scIsTextOf (fun vs H Q E h => ?_) (fun cdv A outer s H vs Q E hr h => ?_)
  · obtain ⟨v, d, sg, a, b, rfl, hz, sz, q⟩ := h
    rfl
  · obtain ⟨v, d, sg, a, b, rfl, hz, sz, q⟩ := h
    refine ⟨_, (pss_cons (ps_if (PW.pt (pw_or (pt_not (pt_val (pe_callB call_isi (by rfl) T.isi (by decide +kernel) (pa_cons (pv 0) (pa_cons (pe_bltn (v := .ty "str") (by rfl) T.str (by decide +kernel) rfl) pa_nil))))) (pw_or1 (pt_not (pt_chain op_le op_le (pv 2) (pe_callB call_len_str (by rfl) T.len PySem.boot_len (pa_cons (pv 0) pa_nil)) (pv 3)))))) (pss_one (ps_ret pe_bl)) pss_nil)
      (pss_one (ps_ret (pe_callB (cr_all (by rfl)) (by rfl) T.all (by decide +kernel) (pa_cons (pe_lc (own := [("sign", 4)]) (g := gName 4) (tt := tYes) (by rfl) scIsTextOf.nd (pi_str (pv 0)) (blkOk_by (own := [("sign", 4)]) (N := ["thing", "signs", "least", "most", "sign"]) (sc := defScope sIsTextOf) (by decide +kernel)) (fun _ _ _ _ _ => pg_name (i := 4) scIsTextOf.nd rfl (.inl rfl)) (fun _ _ _ _ _ => pts_nil) (fun _ _ _ _ _ => pe_cmpR op_in_sign (pv 4) (pv 1) (by rfl))) pa_nil))))), ?_⟩
    refine ⟨_, rfl, _, _, _, _, isStr d, rfl, .ty _, hz.ty, z_str d, _, rfl, ?_⟩
    have qf : ofT d sg a b = false → Q (.bl false) H := fun e => by
      have w := q H (Same.refl H)
      rw [e] at w
      exact w
    cases hz with
    | str x =>
      have lx := sz x rfl
      have fit : x.length ≤ sizeLine := Nat.le_trans lx (by decide)
      refine iteF ⟨_, rfl, _, rfl, x, rfl, fit, a, _, rfl, rfl, _, rfl, ?_⟩
      have eo : ofT (.str x) sg a b = (decide (a ≤ (x.length : Int)) && decide ((x.length : Int) ≤ b) && chk x sg) := rfl
      cases c1 : decide (a ≤ (x.length : Int)) with
      | false => exact iteF ⟨_, rfl, iteT (qf (by rw [eo, c1]; rfl))⟩
      | true =>
        refine iteT ⟨_, rfl, _, b, rfl, rfl, _, rfl, ?_⟩
        cases c2 : decide ((x.length : Int) ≤ b) with
        | false => exact iteT (qf (by rw [eo, c1, c2]; rfl))
        | true =>
          refine iteF ⟨_, rfl, x, rfl, fun L nL => ?_⟩
          have sL := same_upd nL (o := .lst [])
          refine lc_it (walk_str (z := x)) (fun i Hi => ∃ bs : List Bool, bs = (x.cps.toList.take i).map (fun c => decide (c ∈ sg.cps.toList)) ∧ Hi L = some (.lst (bs.map V.bl)) ∧ L2.Same H Hi) ?_ (fun _ _ _ _ => trivial) ?_ ?_
          · exact ⟨[], rfl, upd_same, sL⟩
          · rintro i v Hi Hi' _ ⟨bs, eb, eL, sm⟩ ⟨rfl, c, ec, rfl⟩
            rw [← Array.getElem?_toList] at ec
            refine ⟨rfl, ?_⟩
            unfold tYes
            refine iteT ⟨_, rfl, _, rfl, c, sg, rfl, rfl, ?_⟩
            have il : i < x.cps.toList.length := (List.getElem?_eq_some_iff.mp ec).1
            refine ⟨_, eL, ?_, bs ++ [decide (c ∈ sg.cps.toList)], ?_, ?_, fun b o e => ?_⟩
            · rw [List.length_map, eb, List.length_map, List.length_take]
              refine Nat.lt_of_le_of_lt (show min i x.cps.toList.length ≤ 2000 from ?_) (by decide)
              rw [← len_cps]
              omega
            · rw [List.take_succ, ec, List.map_append, eb]
              rfl
            · rw [upd_same, List.map_append]
              rfl
            · rw [upd_ne (ne_of_none e nL)]
              exact sm _ _ e
          · rintro He ⟨bs, eb, eL, sm⟩
            refine ⟨L, _, rfl, SqL.of eL, ?_⟩
            have w := q He sm
            rw [eo, c1, c2] at w
            rw [eb, List.take_of_length_le (by rw [Array.length_toList]; exact Nat.le_refl _), List.all_map]
            exact w
    | _ => exact iteT (qf rfl)
def spLet (K : PySem.W.Frag) : Sp := fun vs H Q _ => ∃ (v : V) (d : PyData) (sg : Str) (a b : Int), vs = [v, .int a, .int b, .str sg] ∧ Dz K H v d ∧ (∀ x, d = .str x → x.length ≤ 2000) ∧ ∀ H', L2.Same H H' → Q (.bl (ofT d sg a b)) H'
theorem ok_letters {f : Addr} {fd : FuncData} (D : Df K mg "_law_letters" ["_law_thing", "_law_least", "_law_most", "_law_signs_here"] sLetters f fd) (T : Txt mg) : FnOk P w K mg base CX0 1 f fd ["_law_thing", "_law_least", "_law_most", "_law_signs_here"] (spLet K) := by
  refine D.fn.ok scLetters (fun vs H Q E h => ?_) (fun cdv A outer s H vs Q E hr h => ?_)
  · obtain ⟨v, d, sg, a, b, rfl, hz, sz, q⟩ := h
    rfl
  · obtain ⟨v, d, sg, a, b, rfl, hz, sz, q⟩ := h
    refine ⟨_, (pss_cons (ps_if (PW.pt (pw_or (pt_not (pt_val (pe_callB call_isi (by rfl) T.isi (by decide +kernel) (pa_cons (pv 0) (pa_cons (pe_bltn (v := .ty "str") (by rfl) T.str (by decide +kernel) rfl) pa_nil))))) (pw_or1 (pt_not (pt_chain op_le op_le (pv 1) (pe_callB call_len_str (by rfl) T.len PySem.boot_len (pa_cons (pv 0) pa_nil)) (pv 2)))))) (pss_one (ps_ret pe_bl)) pss_nil)
      (pss_one (ps_ret (pe_callB (cr_all (by rfl)) (by rfl) T.all (by decide +kernel) (pa_cons (pe_lc (own := [("_law_sign", 4)]) (g := gName 4) (tt := tYes) (by rfl) scLetters.nd (pi_str (pv 0)) (blkOk_by (own := [("_law_sign", 4)]) (N := ["_law_thing", "_law_least", "_law_most", "_law_signs_here", "_law_sign"]) (sc := defScope sLetters) (by decide +kernel)) (fun _ _ _ _ _ => pg_name (i := 4) scLetters.nd rfl (.inl rfl)) (fun _ _ _ _ _ => pts_nil) (fun _ _ _ _ _ => pe_cmpR op_in_sign (pv 4) (pv 3) (by rfl))) pa_nil))))), ?_⟩
    refine ⟨_, rfl, _, _, _, _, isStr d, rfl, .ty _, hz.ty, z_str d, _, rfl, ?_⟩
    have qf : ofT d sg a b = false → Q (.bl false) H := fun e => by
      have w := q H (Same.refl H)
      rw [e] at w
      exact w
    cases hz with
    | str x =>
      have lx := sz x rfl
      have fit : x.length ≤ sizeLine := Nat.le_trans lx (by decide)
      refine iteF ⟨_, rfl, _, rfl, x, rfl, fit, a, _, rfl, rfl, _, rfl, ?_⟩
      have eo : ofT (.str x) sg a b = (decide (a ≤ (x.length : Int)) && decide ((x.length : Int) ≤ b) && chk x sg) := rfl
      cases c1 : decide (a ≤ (x.length : Int)) with
      | false => exact iteF ⟨_, rfl, iteT (qf (by rw [eo, c1]; rfl))⟩
      | true =>
        refine iteT ⟨_, rfl, _, b, rfl, rfl, _, rfl, ?_⟩
        cases c2 : decide ((x.length : Int) ≤ b) with
        | false => exact iteT (qf (by rw [eo, c1, c2]; rfl))
        | true =>
          refine iteF ⟨_, rfl, x, rfl, fun L nL => ?_⟩
          have sL := same_upd nL (o := .lst [])
          refine lc_it (walk_str (z := x)) (fun i Hi => ∃ bs : List Bool, bs = (x.cps.toList.take i).map (fun c => decide (c ∈ sg.cps.toList)) ∧ Hi L = some (.lst (bs.map V.bl)) ∧ L2.Same H Hi) ?_ (fun _ _ _ _ => trivial) ?_ ?_
          · exact ⟨[], rfl, upd_same, sL⟩
          · rintro i v Hi Hi' _ ⟨bs, eb, eL, sm⟩ ⟨rfl, c, ec, rfl⟩
            rw [← Array.getElem?_toList] at ec
            refine ⟨rfl, ?_⟩
            unfold tYes
            refine iteT ⟨_, rfl, _, rfl, c, sg, rfl, rfl, ?_⟩
            have il : i < x.cps.toList.length := (List.getElem?_eq_some_iff.mp ec).1
            refine ⟨_, eL, ?_, bs ++ [decide (c ∈ sg.cps.toList)], ?_, ?_, fun b o e => ?_⟩
            · rw [List.length_map, eb, List.length_map, List.length_take]
              refine Nat.lt_of_le_of_lt (show min i x.cps.toList.length ≤ 2000 from ?_) (by decide)
              rw [← len_cps]
              omega
            · rw [List.take_succ, ec, List.map_append, eb]
              rfl
            · rw [upd_same, List.map_append]
              rfl
            · rw [upd_ne (ne_of_none e nL)]
              exact sm _ _ e
          · rintro He ⟨bs, eb, eL, sm⟩
            refine ⟨L, _, rfl, SqL.of eL, ?_⟩
            have w := q He sm
            rw [eo, c1, c2] at w
            rw [eb, List.take_of_length_le (by rw [Array.length_toList]; exact Nat.le_refl _), List.all_map]
            exact w
    | _ => exact iteT (qf rfl)
def sk (x : Str) : Bool := decide (V.str x = V.str (Txt.stripChars x " "))
def db (x : Str) : Bool := !(Builtin.Str.occurrences x "  " 0 x.length 1).isEmpty
def ntx (d : PyData) : Bool := match d with
  | .str x => ofT (.str x) signs 1 40 && (sk x && !db x)
  | _ => false
def nmD (d : PyData) : Bool := match d with
  | .tuple [a, b] => ofT a small 2 3 && ntx b
  | _ => false
def Tx (d : PyData) : Prop := ∀ x, d = .str x → x.length ≤ 2000
def T2 (d : PyData) : Prop := ∀ ds, d = .tuple ds → ∀ e ∈ ds, Tx e
theorem ofT_str {d : PyData} {sg : Str} {a b : Int} (h : ofT d sg a b = true) : ∃ x, d = .str x := by
  cases d with
  | str x => exact ⟨x, rfl⟩
  | _ => cases h
theorem ntx_no {d : PyData} (h : ofT d signs 1 40 = false) : ntx d = false := by
  cases d with
  | str x =>
    show (ofT (.str x) signs 1 40 && (sk x && !db x)) = false
    rw [h]
    rfl
  | _ => rfl
theorem len3 {α : Type} {a b c : α} {r : List α} (e : ¬(!decide (V.int (((a :: b :: c :: r).length : Nat) : Int) = V.int 2)) = true) : (0 : Nat) ≠ 0 := fun _ => by
  have n : ¬ V.int (((a :: b :: c :: r).length : Nat) : Int) = V.int 2 := fun z => by
    have := V.int.inj z
    simp at this
    omega
  rw [decide_eq_false n] at e
  exact e rfl
def spSmall (K : PySem.W.Frag) : Sp := fun vs H Q _ => ∃ (v : V) (d : PyData) (a b : Int), vs = [v, .int a, .int b] ∧ Dz K H v d ∧ (∀ x, d = .str x → x.length ≤ 2000) ∧ ∀ H', L2.Same H H' → Q (.bl (ofT d small a b)) H'
def spTongueP (K : PySem.W.Frag) : Sp := fun vs H Q _ => ∃ (v : V) (d : PyData), vs = [v] ∧ Dz K H v d ∧ (∀ x, d = .str x → x.length ≤ 2000) ∧ ∀ H', L2.Same H H' → Q (.bl (ofT d small 2 3)) H'
def spNT (K : PySem.W.Frag) : Sp := fun vs H Q _ => ∃ (v : V) (d : PyData), vs = [v] ∧ Dz K H v d ∧ (∀ x, d = .str x → x.length ≤ 2000) ∧ ∀ H', L2.Same H H' → Q (.bl (ntx d)) H'
def spIsName (K : PySem.W.Frag) : Sp := fun vs H Q _ => ∃ (v : V) (d : PyData), vs = [v] ∧ Dz K H v d ∧ T2 d ∧ ∀ H', L2.Same H H' → Q (.bl (nmD d)) H'
theorem ok_small {f : Addr} {fd : FuncData} (D : Df K mg "is_small_text" ["thing", "least", "most"] sIsSmallText f fd) (T : Txt mg) (cO : Ca P w K mg base 1 "is_text_of" ["thing", "signs", "least", "most"] (spTextOf K)) : FnOk P w K mg base CX0 2 f fd ["thing", "least", "most"] (spSmall K) := by
  obtain ⟨_, gS⟩ := T.sm
  obtain ⟨_, gG⟩ := T.sg
  obtain ⟨_, gA⟩ := T.st
  obtain ⟨_, gB⟩ := T.lt
  obtain ⟨_, gX⟩ := T.lx
  obtain ⟨_, gD⟩ := T.dp
  refine D.fn.ok scIsSmallText (fun vs H Q E h => ?_) (fun cdv A outer s H vs Q E hr h => ?_)
  · obtain ⟨v, d, a, b, rfl, hz, sz, q⟩ := h
    rfl
  · obtain ⟨v, d, a, b, rfl, hz, sz, q⟩ := h
    refine ⟨_, (pss_one (ps_ret (pe_ca cO hr (by decide) (by rfl) (pa_cons (pv 0) (pa_cons (pe_glob (v := .str small) (by rfl) gS ⟨_, rfl⟩) (pa_cons (pv 1) (pa_cons (pv 2) pa_nil))))))), ?_⟩
    exact ⟨_, rfl, _, rfl, _, rfl, v, d, small, a, b, rfl, hz, sz, q⟩
theorem ok_tonguep {f : Addr} {fd : FuncData} (D : Df K mg "is_tongue" ["thing"] sIsTongue f fd) (T : Txt mg) (cSm : Ca P w K mg base 2 "is_small_text" ["thing", "least", "most"] (spSmall K)) : FnOk P w K mg base CX0 3 f fd ["thing"] (spTongueP K) := by
  obtain ⟨_, gS⟩ := T.sm
  obtain ⟨_, gG⟩ := T.sg
  obtain ⟨_, gA⟩ := T.st
  obtain ⟨_, gB⟩ := T.lt
  obtain ⟨_, gX⟩ := T.lx
  obtain ⟨_, gD⟩ := T.dp
  refine D.fn.ok scIsTongue (fun vs H Q E h => ?_) (fun cdv A outer s H vs Q E hr h => ?_)
  · obtain ⟨v, d, rfl, hz, sz, q⟩ := h
    rfl
  · obtain ⟨v, d, rfl, hz, sz, q⟩ := h
    refine ⟨_, (pss_one (ps_ret (pe_ca cSm hr (by decide) (by rfl) (pa_cons (pv 0) (pa_cons (pe_glob (v := .int 2) (by rfl) gA ⟨_, rfl⟩) (pa_cons (pe_glob (v := .int 3) (by rfl) gB ⟨_, rfl⟩) pa_nil)))))), ?_⟩
    exact ⟨_, rfl, v, d, 2, 3, rfl, hz, sz, q⟩
theorem ok_nt {f : Addr} {fd : FuncData} (D : Df K mg "is_name_text" ["thing"] sIsNameText f fd) (T : Txt mg) (cO : Ca P w K mg base 1 "is_text_of" ["thing", "signs", "least", "most"] (spTextOf K)) : FnOk P w K mg base CX0 2 f fd ["thing"] (spNT K) := by
  obtain ⟨_, gS⟩ := T.sm
  obtain ⟨_, gG⟩ := T.sg
  obtain ⟨_, gA⟩ := T.st
  obtain ⟨_, gB⟩ := T.lt
  obtain ⟨_, gX⟩ := T.lx
  obtain ⟨_, gD⟩ := T.dp
  refine D.fn.ok scIsNameText (fun vs H Q E h => ?_) (fun cdv A outer s H vs Q E hr h => ?_)
  · obtain ⟨v, d, rfl, hz, sz, q⟩ := h
    rfl
  · obtain ⟨v, d, rfl, hz, sz, q⟩ := h
    refine ⟨_, (pss_cons (ps_if (pt_not (pt_val (pe_ca cO hr (by decide) (by rfl) (pa_cons (pv 0) (pa_cons (pe_glob (v := .str signs) (by rfl) gG ⟨_, rfl⟩) (pa_cons pe_int (pa_cons (pe_glob (v := .int 40) (by rfl) gX ⟨_, rfl⟩) pa_nil))))))) (pss_one (ps_ret pe_bl)) pss_nil)
      (pss_one (ps_ret (pe_and (pe_cmpR op_eq (pv 0) (pe_m1 F.slot_str_strip F.type_str_strip mt_stripChars (pv 0) pe_str) (nomark _)) (pe_one (pe_cmpR op_notin_str pe_str (pv 0) (by rfl))))))), ?_⟩
    refine ⟨_, rfl, v, d, signs, 1, 40, rfl, hz, sz, fun H1 s1 => ⟨_, rfl, ?_⟩⟩
    have w := q H1 s1
    cases c : ofT d signs 1 40 with
    | false =>
      rw [ntx_no c] at w
      exact iteT w
    | true =>
      obtain ⟨x, rfl⟩ := ofT_str c
      obtain ⟨x', rfl⟩ : ∃ x', v = .str x' := by cases hz; exact ⟨_, rfl⟩
      have ex : x' = x := by cases hz; rfl
      subst ex
      have fit : x'.length ≤ sizeLine := Nat.le_trans (sz x' rfl) (by decide)
      have e : ntx (.str x') = (sk x' && !db x') := by
        show (ofT (.str x') signs 1 40 && (sk x' && !db x')) = _
        rw [c]
        rfl
      rw [e] at w
      refine iteF ⟨_, rfl, _, rfl, ⟨_, rfl⟩, x', " ", rfl, rfl, fit, rfl, _, rfl, ?_⟩
      refine ite2 (fun c2 => ?_) (fun c2 => ?_)
      · have cs : sk x' = true := c2
        rw [cs] at w
        exact ⟨_, rfl, "  ", x', rfl, rfl, w⟩
      · have cs : sk x' = false := Bool.eq_false_iff.mpr c2
        rw [cs] at w
        exact w
theorem ok_name {f : Addr} {fd : FuncData} (D : Df K mg "is_name" ["thing"] sIsName f fd) (T : Txt mg) (cTo : Ca P w K mg base 3 "is_tongue" ["thing"] (spTongueP K)) (cNt : Ca P w K mg base 2 "is_name_text" ["thing"] (spNT K)) : FnOk P w K mg base CX0 4 f fd ["thing"] (spIsName K) := by
  refine D.fn.ok scIsName (fun vs H Q E h => ?_) (fun cdv A outer s H vs Q E hr h => ?_)
  · obtain ⟨v, d, rfl, hz, t2, q⟩ := h
    rfl
  · obtain ⟨v, d, rfl, hz, t2, q⟩ := h
    refine ⟨_, (pss_cons (ps_if (PW.pt (pw_or (pt_not (pt_val (pe_callB call_isi (by rfl) T.isi (by decide +kernel) (pa_cons (pv 0) (pa_cons (pe_bltn (v := .ty "tuple") (by rfl) T.tuple (by decide +kernel) rfl) pa_nil))))) (pw_or1 (pt_cmpR op_ne (pe_callB call_len_seq (by rfl) T.len PySem.boot_len (pa_cons (pv 0) pa_nil)) pe_int (nomark _))))) (pss_one (ps_ret pe_bl)) pss_nil)
      (pss_one (ps_ret (pe_and (pe_ca cTo hr (by decide) (by rfl) (pa_cons (pe_ix ix_tup (pv 0) pe_int (fun _ _ => rfl)) pa_nil)) (pe_one (pe_ca cNt hr (by decide) (by rfl) (pa_cons (pe_ix ix_tup (pv 0) pe_int (fun _ _ => rfl)) pa_nil))))))), ?_⟩
    refine ⟨_, rfl, _, _, _, _, isTup d, rfl, .ty _, hz.ty, z_tup d, _, rfl, ?_⟩
    have qf : nmD d = false → Q (.bl false) H := fun e => by
      have w := q H (Same.refl H)
      rw [e] at w
      exact w
    cases hz with
    | @tup t xs ds et ra =>
      refine iteF ⟨_, rfl, t, xs, rfl, .inr (SqT.of et), rfl, _, rfl, ?_⟩
      match xs, ds, ra with
      | [], _, .nil => exact iteT (qf rfl)
      | [_], _, .cons _ .nil => exact iteT (qf rfl)
      | _ :: _ :: _ :: r, _, .cons _ (.cons _ (.cons _ _)) => exact ite2 (fun _ => qf rfl) (fun e => absurd rfl (len3 e))
      | [va, vb], _, .cons (d := a) ha (.cons (d := b) hb .nil) =>
        obtain ⟨ta, tb⟩ : Tx a ∧ Tx b := ⟨t2 _ rfl a (by simp), t2 _ rfl b (by simp)⟩
        refine iteF ⟨_, rfl, t, _, 0, va, rfl, rfl, SqT.of et, atI_nat (j := 0) rfl, va, a, rfl, ha, fun x e => ta x e, fun H1 s1 => ⟨_, rfl, ?_⟩⟩
        have w := fun H' sm => q H' sm
        cases c : ofT a small 2 3 with
        | false =>
          have w := q H1 s1
          rw [show nmD (.tuple [a, b]) = false by show (ofT a small 2 3 && ntx b) = false; rw [c]; rfl] at w
          exact iteF w
        | true =>
          refine iteT ⟨_, rfl, t, _, 1, vb, rfl, rfl, SqT.of (s1 _ _ et), atI_nat (j := 1) rfl, vb, b, rfl, hb.same s1, fun x e => tb x e, fun H2 s2 => ?_⟩
          have w := q H2 (s1.trans s2)
          rw [show nmD (.tuple [a, b]) = ntx b by show (ofT a small 2 3 && ntx b) = _; rw [c]; rfl] at w
          exact w
    | _ => exact iteT (qf rfl)
theorem tw0 {l : List Nat} {g : Nat → Bool} (h : ∀ c, l.head? = some c → g c = false) : l.takeWhile g = [] := by
  cases l with
  | nil => rfl
  | cons a r => rw [List.takeWhile_cons, h a rfl]; rfl
theorem sp32 (c : Nat) : ((" " : Str)).cps.contains c = decide (c = 32) := by
  have e : ((" " : Str)).cps = #[32] := by decide +kernel
  rw [e]
  by_cases h : c = 32
  · subst h; simp
  · rw [decide_eq_false h]
    simpa using h
theorem sg_in : ∀ c ∈ (lawSigns ++ " ").cps.toList, c ∈ signs.cps.toList := by decide +kernel
theorem sg_out : ∀ c ∈ signs.cps.toList, c ∈ (lawSigns ++ " ").cps.toList := by decide +kernel
theorem ofT_signs (d : PyData) (a b : Int) : ofT d (lawSigns ++ " ") a b = ofT d signs a b := by
  cases d with
  | str x =>
    have e : chk x (lawSigns ++ " ") = chk x signs := by
      unfold chk
      congr 1
      funext c
      exact decide_eq_decide.mpr ⟨sg_in c, sg_out c⟩
    show (decide (a ≤ (x.length : Int)) && decide ((x.length : Int) ≤ b) && chk x (lawSigns ++ " ")) = _
    rw [e]
    rfl
  | _ => rfl
theorem one_dec (c : Nat) : decide (V.str ⟨#[c]⟩ = V.str " ") = decide (c = 32) := by
  refine decide_eq_decide.mpr ⟨fun h => ?_, fun h => by rw [h]; rfl⟩
  have h := V.str.inj h
  have : (⟨#[c]⟩ : Str).cps.toList = (" " : Str).cps.toList := by rw [h]
  have e : (" " : Str).cps.toList = [32] := by decide +kernel
  rw [e] at this
  simpa using this
theorem sk_iff {x : Str} {a b : Nat} (ha : x.cps.toList.head? = some a) (hb : x.cps.toList.getLast? = some b) : sk x = (!decide (a = 32) && !decide (b = 32)) := by
  have ct : ∀ c : Nat, ((" " : Str)).cps.contains c = decide (c = 32) := sp32
  have lo : stripLo ((" " : Str)).cps.contains true x = (x.cps.toList.takeWhile fun c => decide (c = 32)).length := by
    unfold stripLo
    rw [if_pos rfl]
    congr 2
    funext c
    exact ct c
  obtain ⟨l, el⟩ : ∃ l, x.cps.toList = a :: l := by
    cases z : x.cps.toList with
    | nil => rw [z] at ha; cases ha
    | cons c l => rw [z] at ha; cases ha; exact ⟨l, rfl⟩
  have lp : 0 < x.length := by rw [len_cps, el]; simp
  have key : stripSame ((" " : Str)).cps.contains true true x = (!decide (a = 32) && !decide (b = 32)) := by
    unfold stripSame
    rw [lo, el, List.takeWhile_cons]
    by_cases z0 : a = 32
    · rw [decide_eq_true z0]
      rw [if_pos rfl]
      simp
    · rw [decide_eq_false z0, if_neg (by decide)]
      show ((0 : Nat) == 0 && stripHi ((" " : Str)).cps.contains true x 0 == x.length) = (true && !decide (b = 32))
      unfold stripHi
      rw [if_pos rfl, List.drop_zero, show (((" " : Str)).cps.contains) = fun c => decide (c = 32) from funext ct]
      have hr : x.cps.toList.reverse.head? = some b := by rw [List.head?_reverse]; exact hb
      cases z : x.cps.toList.reverse with
      | nil => rw [z] at hr; cases hr
      | cons c r =>
        rw [z] at hr
        cases hr
        rw [List.takeWhile_cons]
        by_cases z1 : b = 32
        · rw [decide_eq_true z1, if_pos rfl, List.length_cons]
          simp only [beq_self_eq_true, Bool.true_and, Bool.not_true]
          rw [beq_eq_false_iff_ne]
          omega
        · rw [decide_eq_false z1, if_neg (by decide)]
          simp
  unfold sk Txt.stripChars Txt.stripBy
  rw [key]
  cases q : (!decide (a = 32) && !decide (b = 32)) with
  | true => rw [if_pos rfl]; exact decide_eq_true rfl
  | false =>
    rw [if_neg (by decide)]
    refine decide_eq_false fun e => ?_
    have e := congrArg (·.length) (V.str.inj e)
    have e : x.length = (stripped (" " : Str).cps.contains true true x).length := e
    rw [q] at key
    have hi : stripHi ((" " : Str)).cps.contains true x (stripLo ((" " : Str)).cps.contains true x) ≤ x.length := by
      unfold stripHi
      rw [if_pos rfl]
      omega
    unfold stripped at e
    have ls : ∀ i j : Nat, j ≤ x.length → (Builtin.Str.strSub x i j).length = j - i := fun i j hj => by
      unfold Builtin.Str.strSub
      show (x.cps.extract i j).size = _
      rw [Array.size_extract]
      show min j x.length - i = _
      rw [Nat.min_eq_left hj]
    rw [ls _ _ hi] at e
    unfold stripSame at key
    rw [Bool.and_eq_false_iff, beq_eq_false_iff_ne, beq_eq_false_iff_ne] at key
    omega
theorem ok_lname {f : Addr} {fd : FuncData} (D : Df K mg "_law_is_name" ["_law_thing"] sLawIsName f fd) (T : Txt mg) (cLe : Ca P w K mg base 1 "_law_letters" ["_law_thing", "_law_least", "_law_most", "_law_signs_here"] (spLet K)) (cS : Ca P w K mg base 1 "_law_signs" [] spSigns) : FnOk P w K mg base CX0 2 f fd ["_law_thing"] (spIsName K) := by
  refine D.fn.ok scLawIsName (fun vs H Q E h => ?_) (fun cdv A outer s H vs Q E hr h => ?_)
  · obtain ⟨v, d, rfl, hz, t2, q⟩ := h
    rfl
  · obtain ⟨v, d, rfl, hz, t2, q⟩ := h
    refine ⟨_, (pss_cons (ps_if (PW.pt (pw_or (pt_not (pt_val (pe_callB call_isi (by rfl) T.isi (by decide +kernel) (pa_cons (pv 0) (pa_cons (pe_bltn (v := .ty "tuple") (by rfl) T.tuple (by decide +kernel) rfl) pa_nil))))) (pw_or1 (pt_cmpR op_ne (pe_callB call_len_seq (by rfl) T.len PySem.boot_len (pa_cons (pv 0) pa_nil)) pe_int (nomark _))))) (pss_one (ps_ret pe_bl)) pss_nil)
      (pss_cons (ps_if (pt_not (pt_val (pe_ca cLe hr (by decide) (by rfl) (pa_cons (pe_ix ix_tup (pv 0) pe_int (fun _ _ => rfl)) (pa_cons pe_int (pa_cons pe_int (pa_cons pe_str pa_nil))))))) (pss_one (ps_ret pe_bl)) pss_nil)
      (pss_cons (ps_if (pt_not (pt_val (pe_ca cLe hr (by decide) (by rfl) (pa_cons (pe_ix ix_tup (pv 0) pe_int (fun _ _ => rfl)) (pa_cons pe_int (pa_cons pe_int (pa_cons (pe_op op_add_str (pe_ca0 cS hr (by decide) (by rfl)) pe_str) pa_nil))))))) (pss_one (ps_ret pe_bl)) pss_nil)
      (pss_one (ps_ret (pe_and (pe_cmpR op_ne (pe_ix ix_str (pe_ix ix_tup (pv 0) pe_int (fun _ _ => rfl)) pe_int (fun _ _ => rfl)) pe_str (nomark _)) (pe_and (pe_cmpR op_ne (pe_ix ix_str (pe_ix ix_tup (pv 0) pe_int (fun _ _ => rfl)) (pe_un un_neg pe_int) (fun _ _ => rfl)) pe_str (nomark _)) (pe_one (pe_cmpR op_notin_str pe_str (pe_ix ix_tup (pv 0) pe_int (fun _ _ => rfl)) (by rfl)))))))))), ?_⟩
    refine ⟨_, rfl, _, _, _, _, isTup d, rfl, .ty _, hz.ty, z_tup d, _, rfl, ?_⟩
    have qf : nmD d = false → Q (.bl false) H := fun e => by
      have w := q H (Same.refl H)
      rw [e] at w
      exact w
    cases hz with
    | @tup t xs ds et ra =>
      refine iteF ⟨_, rfl, t, xs, rfl, .inr (SqT.of et), rfl, _, rfl, ?_⟩
      match xs, ds, ra with
      | [], _, .nil => exact iteT (qf rfl)
      | [_], _, .cons _ .nil => exact iteT (qf rfl)
      | _ :: _ :: _ :: r, _, .cons _ (.cons _ (.cons _ _)) => exact ite2 (fun _ => qf rfl) (fun e => absurd rfl (len3 e))
      | [va, vb], _, .cons (d := a) ha (.cons (d := b) hb .nil) =>
        obtain ⟨ta, tb⟩ : Tx a ∧ Tx b := ⟨t2 _ rfl a (by simp), t2 _ rfl b (by simp)⟩
        refine iteF ⟨_, rfl, t, _, 0, va, rfl, rfl, SqT.of et, atI_nat (j := 0) rfl, va, a, small, 2, 3, rfl, ha, fun x e => (ta x e), fun H1 s1 => ⟨_, rfl, ?_⟩⟩
        cases c : ofT a small 2 3 with
        | false =>
          have w := q H1 s1
          rw [show nmD (.tuple [a, b]) = false by show (ofT a small 2 3 && ntx b) = false; rw [c]; rfl] at w
          exact iteT w
        | true =>
          refine iteF ⟨_, rfl, t, _, 1, vb, rfl, rfl, SqT.of (s1 _ _ et), atI_nat (j := 1) rfl, rfl, lawSigns, " ", rfl, rfl, (by show lawSigns.length + (" " : Str).length ≤ sizeLine; decide +kernel), vb, b, lawSigns ++ " ", 1, 40, rfl, hb.same s1, fun x e => (tb x e), fun H2 s2 => ⟨_, rfl, ?_⟩⟩
          have s02 := s1.trans s2
          have w := q H2 s02
          rw [show nmD (.tuple [a, b]) = ntx b by show (ofT a small 2 3 && ntx b) = _; rw [c]; rfl] at w
          rw [ofT_signs]
          cases c3 : ofT b signs 1 40 with
          | false =>
            rw [ntx_no c3] at w
            exact iteT w
          | true =>
            obtain ⟨x, rfl⟩ := ofT_str c3
            obtain ⟨x', rfl⟩ : ∃ x', vb = .str x' := by cases hb; exact ⟨_, rfl⟩
            have ex : x' = x := by cases hb; rfl
            subst ex
            have fit : x'.length ≤ sizeLine := Nat.le_trans (tb x' rfl) (by decide)
            have e : ntx (.str x') = (sk x' && !db x') := by
              show (ofT (.str x') signs 1 40 && (sk x' && !db x')) = _
              rw [c3]
              rfl
            rw [e] at w
            have pos : 1 ≤ x'.length := by
              have z : (decide ((1 : Int) ≤ (x'.length : Int)) && decide ((x'.length : Int) ≤ 40) && chk x' signs) = true := c3
              rw [Bool.and_eq_true, Bool.and_eq_true] at z
              have := of_decide_eq_true z.1.1
              omega
            have xn : x'.cps.toList ≠ [] := fun z => by rw [len_cps, z] at pos; exact absurd pos (by decide)
            obtain ⟨c0, e0⟩ : ∃ d, x'.cps.toList.head? = some d := by
              cases z : x'.cps.toList.head? with
              | none => exact absurd (List.head?_eq_none_iff.mp z) xn
              | some d => exact ⟨d, rfl⟩
            obtain ⟨c1, e1⟩ : ∃ d, x'.cps.toList.getLast? = some d := by
              cases z : x'.cps.toList.getLast? with
              | none => exact absurd (List.getLast?_eq_none_iff.mp z) xn
              | some d => exact ⟨d, rfl⟩
            have a0 : atI x'.cps.toList 0 = some c0 := atI_nat (j := 0) (by rw [← List.head?_eq_getElem?]; exact e0)
            have sq := sk_iff e0 e1
            refine iteF ⟨_, rfl, t, _, 1, .str x', rfl, rfl, SqT.of (s02 _ _ et), atI_nat (j := 1) rfl, x', 0, c0, rfl, rfl, fit, a0, rfl, _, rfl, ?_⟩
            have d0 : decide (V.str ⟨#[c0]⟩ = V.str " ") = decide (c0 = 32) := one_dec c0
            have d1 : decide (V.str ⟨#[c1]⟩ = V.str " ") = decide (c1 = 32) := one_dec c1
            rw [d0]
            by_cases z0 : c0 = 32
            · rw [decide_eq_true z0]
              rw [sq, decide_eq_true z0] at w
              exact iteF w
            · rw [decide_eq_false z0]
              refine iteT ⟨_, rfl, t, _, 1, .str x', rfl, rfl, SqT.of (s02 _ _ et), atI_nat (j := 1) rfl, 1, rfl, x', -1, c1, rfl, rfl, fit, (at_last xn).trans e1, rfl, _, rfl, ?_⟩
              rw [d1]
              rw [sq, decide_eq_false z0] at w
              by_cases z1 : c1 = 32
              · rw [decide_eq_true z1]
                rw [decide_eq_true z1] at w
                exact iteF w
              · rw [decide_eq_false z1]
                rw [decide_eq_false z1] at w
                exact iteT ⟨_, rfl, t, _, 1, .str x', rfl, rfl, SqT.of (s02 _ _ et), atI_nat (j := 1) rfl, "  ", x', rfl, rfl, w⟩
    | _ => exact iteT (qf rfl)
end
end K37
set_option Elab.async false
set_option linter.all false
set_option maxRecDepth 100000
set_option maxHeartbeats 4000000
set_option pp.maxSteps 400
set_option pp.deepTerms false
namespace K37
open PySem PySem.Spec PyProof.Rows L2
open Xk Az W37
section
variable {P : Program} {w : World} {K : PySem.W.Frag} {mg : Str → Option Value} {base : Heap}
def kN (m : Nm) : List Key := [.inr m.1, .inr m.2]
theorem kN_inj {m n : Nm} (h : kN m = kN n) : m = n := by
  obtain ⟨a, b⟩ := m
  obtain ⟨c, d⟩ := n
  unfold kN at h
  injection h with h1 h
  injection h with h2 _
  injection h1 with h1
  injection h2 with h2
  exact Prod.ext h1 h2
def seenK (ms : List Nm) : List (List Key × V) := ms.map fun m => (kN m, .bl true)
theorem seen_is (ms : List Nm) (m : Nm) : (valV (seenK ms) (kN m)).isSome = decide (m ∈ ms) := by
  rw [← valV_any]
  unfold seenK
  rw [List.any_map, Bool.eq_iff_iff, List.any_eq_true]
  simp only [Function.comp, decide_eq_true_eq]
  constructor
  · rintro ⟨x, hx, e⟩
    rw [← kN_inj e]; exact hx
  · intro h
    exact ⟨m, h, rfl⟩
theorem seen_put (ms : List Nm) (m : Nm) (h : m ∉ ms) : putK (seenK ms) (kN m) (.bl true) = seenK (ms ++ [m]) := by
  have e : ((seenK ms).any fun kv => decide (kv.1 = kN m)) = false := by
    rw [valV_any, seen_is, decide_eq_false h]
  unfold putK
  rw [if_neg (by rw [e]; decide)]
  unfold seenK
  rw [List.map_append]
  rfl
theorem nd_map {ms : List Nm} (h : ms.Nodup) : (ms.map nD).Nodup := List.pairwise_map.mpr (h.imp fun ne e => ne (nD_inj e))
theorem nd_snoc {ms : List Nm} {m : Nm} (h : ms.Nodup) (hm : m ∉ ms) : (ms ++ [m]).Nodup := by
  rw [List.nodup_append]
  exact ⟨h, by simp, fun a ha b hb e => hm (by rw [List.mem_singleton.mp hb] at e; rw [← e]; exact ha)⟩
theorem nmD_mk {n : PyData} (h : nmD n = true) : ∃ m : Nm, n = nD m := by
  unfold nmD at h
  split at h
  · rename_i a b
    rw [Bool.and_eq_true] at h
    obtain ⟨x, rfl⟩ := ofT_str h.1
    cases b with
    | str y => exact ⟨(x, y), rfl⟩
    | _ => cases h.2
  · cases h
/-- all stands but one thing -/
def Kt (L : Addr) (H H' : Hp) : Prop := ∀ b o, b ≠ L → H b = some o → H' b = some o
/-- a stack of things -/
inductive SL (K : PySem.W.Frag) (H0 H : Hp) : List V → List (PyData × Nat) → Prop
  | nil : SL K H0 H [] []
  | cons {T : Addr} {v : V} {d : PyData} {k : Nat} {xs : List V} {st : List (PyData × Nat)} : H T = some (.tup [v, .int (6 - (k : Int))]) → Dz K H0 v d → gd d → SL K H0 H xs st → SL K H0 H (.ref T :: xs) ((d, k) :: st)
theorem SL.tp {H0 H H' : Hp} (s : Tp H H') : ∀ {xs : List V} {st : List (PyData × Nat)}, SL K H0 H xs st → SL K H0 H' xs st
  | _, _, .nil => .nil
  | _, _, .cons e h g r => .cons (s _ _ e) h g (SL.tp s r)
theorem Kt.tp {L : Addr} {H H' : Hp} {u : HO} (k : Kt L H H') (e : H L = some u) (nl : ∀ xs, u ≠ .tup xs) : Tp H H' := fun b ys eb => k b _ (ne_of eb e (fun z => nl ys z.symm)) eb
theorem SL.len {H0 H : Hp} : ∀ {xs : List V} {st : List (PyData × Nat)}, SL K H0 H xs st → xs.length = st.length
  | _, _, .nil => rfl
  | _, _, .cons _ _ _ r => by rw [List.length_cons, List.length_cons, r.len]
theorem SL.app {H0 H : Hp} : ∀ {xs ys : List V} {st su : List (PyData × Nat)}, SL K H0 H xs st → SL K H0 H ys su → SL K H0 H (xs ++ ys) (st ++ su)
  | _, _, _, _, .nil, h => h
  | _, _, _, _, .cons e h g r, h' => .cons e h g (r.app h')
theorem SL.last {H0 H : Hp} : ∀ {xs : List V} {st : List (PyData × Nat)}, SL K H0 H xs st → xs ≠ [] → ∃ (ys : List V) (fs : List (PyData × Nat)) (T : Addr) (v : V) (d : PyData) (k : Nat), xs = ys ++ [.ref T] ∧ st = fs ++ [(d, k)] ∧ SL K H0 H ys fs ∧ H T = some (.tup [v, .int (6 - (k : Int))]) ∧ Dz K H0 v d ∧ gd d
  | _, _, .nil, h => absurd rfl h
  | _, _, .cons (T := T) (v := v) (d := d) (k := k) (xs := xs) (st := st) e h g r, _ => by
    by_cases n : xs = []
    · subst n
      cases r
      exact ⟨[], [], T, v, d, k, rfl, rfl, .nil, e, h, g⟩
    · obtain ⟨ys, fs, T2, v2, d2, k2, e1, e2, s, r1, r2, r3⟩ := r.last n
      exact ⟨.ref T :: ys, (d, k) :: fs, T2, v2, d2, k2, by rw [e1]; rfl, by rw [e2]; rfl, .cons e h g s, r1, r2, r3⟩
def wtS (st : List (PyData × Nat)) : Nat := (st.map fun p => wt p.1).sum
theorem wtS_app (a b : List (PyData × Nat)) : wtS (a ++ b) = wtS a + wtS b := by
  unfold wtS
  rw [List.map_append, List.sum_append]
theorem wtS_map (k : Nat) : ∀ ps : List PyData, wtS (ps.map fun e => (e, k)) = wts ps
  | [] => rfl
  | d :: r => by
    have ih := wtS_map k r
    unfold wtS at ih ⊢
    rw [List.map_cons, List.map_cons, List.sum_cons, ih, wts]
theorem wtS_len : ∀ st : List (PyData × Nat), st.length ≤ wtS st
  | [] => Nat.zero_le _
  | p :: r => by
    have ih := wtS_len r
    have := wt_pos p.1
    unfold wtS at ih ⊢
    rw [List.map_cons, List.sum_cons, List.length_cons]
    omega
theorem dz_len {H : Hp} : ∀ {xs : List V} {ds : List PyData}, DzAll K H xs ds → xs.length = ds.length
  | _, _, .nil => rfl
  | _, _, .cons _ r => by rw [List.length_cons, List.length_cons, dz_len r]
theorem dz_get {H : Hp} : ∀ {xs : List V} {ds : List PyData} {i : Nat} {x : V}, DzAll K H xs ds → xs[i]? = some x → ∃ d, ds[i]? = some d ∧ Dz K H x d
  | _, _, 0, _, .cons h r, e => by
    rw [List.getElem?_cons_zero] at e
    cases e
    exact ⟨_, rfl, h⟩
  | _, _, i + 1, _, .cons h r, e => by
    rw [List.getElem?_cons_succ] at e
    obtain ⟨n, e1, q⟩ := dz_get r e
    exact ⟨n, by rw [List.getElem?_cons_succ]; exact e1, q⟩
theorem dz_pair {H : Hp} {v : V} {nm : Nm} {ps : List PyData} (h : Dz K H v (.tuple [nD nm, .tuple ps])) : ∃ (t vn p : Addr) (zs : List V), v = .ref t ∧ H t = some (.tup [.ref vn, .ref p]) ∧ H vn = some (.tup ((kN nm).map kV)) ∧ H p = some (.tup zs) ∧ DzAll K H zs ps := by
  cases h with
  | tup e r =>
    cases r with
    | cons h1 r =>
      cases r with
      | cons h2 r =>
        cases r
        cases h1 with
        | tup e1 r1 =>
          cases r1 with
          | cons a r1 =>
            cases r1 with
            | cons b r1 =>
              cases r1
              cases a
              cases b
              cases h2 with
              | tup e2 r2 => exact ⟨_, _, _, _, rfl, e, e1, e2, r2⟩
theorem gd_t2 {d : PyData} (h : gd d) : T2 d := fun ds e => by
  subst e
  rw [gd, gds_iff] at h
  intro e he x ex
  subst ex
  have := h _ he
  rw [gd] at this
  exact Nat.le_trans this.1 (by decide)
def spNwp (K : PySem.W.Frag) : Sp := fun vs H Q _ => ∃ (v : V) (d : PyData), vs = [v] ∧ Dz K H v d ∧ gd d ∧ ∀ H', L2.Same H H' → Q (.bl (nwp nmD d)) H'
def spIsWork (K : PySem.W.Frag) : Sp := fun vs H Q _ => ∃ (v : V) (d : PyData), vs = [v] ∧ Dz K H v d ∧ gd d ∧ wt d ≤ 3000 ∧ ∀ (b : Bool) H', (b = true ↔ IsW nmD d) → L2.Same H H' → Q (.bl b) H'
theorem ok_nwp {f : Addr} {fd : FuncData} (D : Df K mg "is_name_with_parts" ["thing"] sIsNameWithParts f fd) (T : Txt mg) (cNm : Ca P w K mg base 4 "is_name" ["thing"] (spIsName K)) : FnOk P w K mg base CX0 5 f fd ["thing"] (spNwp K) := by
  refine D.fn.ok scIsNameWithParts (fun vs H Q E h => ?_) (fun cdv A outer s H vs Q E hr h => ?_)
  · obtain ⟨v, d, rfl, hz, hg, q⟩ := h
    rfl
  · obtain ⟨v, d, rfl, hz, hg, q⟩ := h
    refine ⟨_, (pss_one (ps_ret (pe_and (pe_callB call_isi (by rfl) T.isi (by decide +kernel) (pa_cons (pv 0) (pa_cons (pe_bltn (v := .ty "tuple") (by rfl) T.tuple (by decide +kernel) rfl) pa_nil))) (pe_and (pe_cmpR op_eq (pe_callB call_len_seq (by rfl) T.len PySem.boot_len (pa_cons (pv 0) pa_nil)) pe_int (nomark _)) (pe_and (pe_ca cNm hr (by decide) (by rfl) (pa_cons (pe_ix ix_tup (pv 0) pe_int (fun _ _ => rfl)) pa_nil)) (pe_one (pe_callB call_isi (by rfl) T.isi (by decide +kernel) (pa_cons (pe_ix ix_tup (pv 0) pe_int (fun _ _ => rfl)) (pa_cons (pe_bltn (v := .ty "tuple") (by rfl) T.tuple (by decide +kernel) rfl) pa_nil))))))))), ?_⟩
    have qf : nwp nmD d = false → Q (.bl false) H := fun e => by
      have w := q H (Same.refl H)
      rw [e] at w
      exact w
    refine ⟨_, rfl, _, _, _, _, isTup d, rfl, .ty _, hz.ty, z_tup d, _, rfl, ?_⟩
    cases hz with
    | @tup t xs ds et ra =>
      refine iteT ⟨_, rfl, t, xs, rfl, .inr (SqT.of et), rfl, _, rfl, ?_⟩
      match xs, ds, ra with
      | [], _, .nil => exact iteF (qf rfl)
      | [_], _, .cons _ .nil => exact iteF (qf rfl)
      | _ :: _ :: _ :: r, d1 :: d2 :: d3 :: rd, .cons _ (.cons _ (.cons _ _)) =>
        have qd : nwp nmD (.tuple (d1 :: d2 :: d3 :: rd)) = false := by cases d2 <;> rfl
        exact ite2 (fun e => absurd (V.int.inj (of_decide_eq_true e)) (by simp; omega)) (fun _ => qf qd)
      | [va, vb], _, .cons (d := a) ha (.cons (d := b) hb .nil) =>
        have ga : gd a := by rw [gd, gds] at hg; exact hg.1
        refine iteT ⟨_, rfl, t, _, 0, va, rfl, rfl, SqT.of et, atI_nat (j := 0) rfl, va, a, rfl, ha, gd_t2 ga, fun H1 s1 => ⟨_, rfl, ?_⟩⟩
        cases c : nmD a with
        | false =>
          have w := q H1 s1
          rw [show nwp nmD (.tuple [a, b]) = false by cases b <;> first | rfl | (show nmD a = false; exact c)] at w
          exact iteF w
        | true =>
          refine iteT ⟨_, rfl, t, _, 1, vb, rfl, rfl, SqT.of (s1 _ _ et), atI_nat (j := 1) rfl, _, _, _, _, isTup b, rfl, .ty _, (hb.same s1).ty, z_tup b, ?_⟩
          have w := q H1 s1
          rw [show nwp nmD (.tuple [a, b]) = isTup b by cases b <;> first | rfl | (show nmD a = true; exact c)] at w
          exact w
    | _ => exact iteF (qf rfl)
theorem ok_work_is {f : Addr} {fd : FuncData} (D : Df K mg "is_work" ["thing"] sIsWork f fd) (T : Txt mg) (cNw : Ca P w K mg base 5 "is_name_with_parts" ["thing"] (spNwp K)) : FnOk P w K mg base CX0 6 f fd ["thing"] (spIsWork K) := by
  obtain ⟨_, gS⟩ := T.sm
  obtain ⟨_, gG⟩ := T.sg
  obtain ⟨_, gA⟩ := T.st
  obtain ⟨_, gB⟩ := T.lt
  obtain ⟨_, gX⟩ := T.lx
  obtain ⟨_, gD⟩ := T.dp
  refine D.fn.ok scIsWork (fun vs H Q E h => ?_) (fun cdv A outer s H vs Q E hr h => ?_)
  · obtain ⟨v, d, rfl, hz, hg, hw, q⟩ := h
    rfl
  · obtain ⟨v, d, rfl, hz, hg, hw, q⟩ := h
    refine ⟨_, (pss_cons (ps_set (i := 1) scIsWork.nd rfl (.inl rfl) pe_dnewT)
      (pss_cons (ps_set (i := 2) scIsWork.nd rfl (.inl rfl) (pe_lst (pa_cons (pe_tup (pa_cons (pv 0) (pa_cons pe_int pa_nil))) pa_nil)))
      (pss_cons (ps_while PassesOwn.never (pt_cmpR op_gt (pe_callB call_len_seq (by rfl) T.len PySem.boot_len (pa_cons (pv 2) pa_nil)) pe_int (nomark _)) (pss_cons (ps_asg (pe_bm0 PySem.F.plainAttrs_list PySem.F.slot_list_pop PySem.F.type_list_pop mt_pop (pv 2)) (pg_tup (by rfl) (pgs_cons (pg_name (i := 3) scIsWork.nd rfl (.inl rfl)) (pgs_cons (pg_name (i := 4) scIsWork.nd rfl (.inr rfl)) pgs_nil))))
      (pss_cons (ps_if (PW.pt (pw_or (pt_cmpR op_gt (pv 4) (pe_glob (v := .int 5) (by rfl) gD ⟨_, rfl⟩) (nomark _)) (pw_or (pt_not (pt_val (pe_ca cNw hr (by decide) (by rfl) (pa_cons (pv 3) pa_nil)))) (pw_or1 (pt_cmp (pc_din (hu_of hr) (pe_ix ix_tup (pv 3) pe_int (fun _ _ => rfl)) (pv 1))))))) (pss_one (ps_ret pe_bl)) pss_nil)
      (pss_cons (ps_dput (hu_of hr) (pv 1) (pe_ix ix_tup (pv 3) pe_int (fun _ _ => rfl)) pe_bl rfl)
      (pss_one (ps_expr (pe_bm PySem.F.plainAttrs_list PySem.F.slot_list_extend PySem.F.type_list_extend mt_extend (pv 2) (pa_cons (pe_lc (own := [("inner", 5)]) (g := gName 5) (tt := tYes) (by rfl) scIsWork.nd (pi_tup (pe_ix ix_tup (pv 3) pe_int (fun _ _ => rfl))) (blkOk_by (own := [("inner", 5)]) (N := ["thing", "seen", "waiting", "part", "deep", "inner"]) (sc := defScope sIsWork) (by decide +kernel)) (fun _ _ _ _ _ => pg_name (i := 5) scIsWork.nd rfl (.inl rfl)) (fun _ _ _ _ _ => pts_nil) (fun _ _ _ _ _ => pe_tup (pa_cons (pv 5) (pa_cons (pe_op op_add (pv 4) pe_int) pa_nil)))) pa_nil))))))))
      (pss_one (ps_ret pe_bl))))), ?_⟩
    intro S nS
    have z0 := same_upd nS (o := .dT [])
    have eS : (upd H S (.dT [])) S = some (.dT []) := upd_same
    generalize upd H S (.dT []) = H0 at z0 eS ⊢
    refine ⟨_, rfl, (by show 2 ≤ sizeLine; decide), fun t0 n0 => ⟨(by show 1 ≤ sizeLine; decide), fun L nL => ?_⟩⟩
    have z1 := same_upd n0 (o := .tup [v, .int 1])
    have e1 : (upd H0 t0 (.tup [v, .int 1])) t0 = some (.tup [v, .int 1]) := upd_same
    generalize upd H0 t0 (.tup [v, .int 1]) = H1 at z1 e1 nL ⊢
    have z2 := same_upd nL (o := .lst [.ref t0])
    have e2 : (upd H1 L (.lst [.ref t0])) L = some (.lst [.ref t0]) := upd_same
    generalize upd H1 L (.lst [.ref t0]) = H2 at z2 e2 ⊢
    have z12 := z1.trans z2
    have s2 : L2.Same H H2 := z0.trans z12
    have SL' : S ≠ L := ne_of_none (z1 _ _ eS) nL
    have HL : H L = none := by
      cases q : H L with
      | none => rfl
      | some o => have := z1 _ _ (z0 _ _ q); rw [nL] at this; cases this
    refine ⟨fun m σ Hx => ∃ (xs : List V) (st : List (PyData × Nat)) (ms : List Nm) (c3 c4 c5 : Option V), σ = [some v, some (.ref S), some (.ref L), c3, c4, c5] ∧ L2.Same H Hx ∧ Hx L = some (.lst xs) ∧ Hx S = some (.dT (seenK ms)) ∧ SL K H Hx xs st ∧ ms.Nodup ∧ (Ans nmD st (ms.map nD) ↔ IsW nmD d) ∧ m = wtS st ∧ m ≤ 3000 ∧ ms.length + m ≤ 3000,
      ⟨wt d, [.ref t0], [(d, 5)], [], none, none, none, rfl, s2, e2, z12 _ _ eS, .cons (z2 _ _ e1) hz hg .nil, List.nodup_nil, ans_one nmD, by simp [wtS], hw, by simpa using hw⟩, ?_⟩
    rintro m σ Hx ⟨xs, st, ms, c3, c4, c5, rfl, sm, eL, eS, sk, nd, an, rfl, mw, lw⟩
    refine ⟨_, rfl, L, xs, rfl, .inl (SqL.of eL), _, 0, rfl, rfl, _, rfl, ?_⟩
    by_cases ne : xs = []
    · subst ne
      cases sk
      refine ite2 (fun e => absurd (of_decide_eq_true e) (by simp)) (fun _ => ?_)
      exact q true Hx ⟨fun _ => an.mp (ans_nil nmD (nd_map nd)), fun _ => rfl⟩ sm
    have pos : 0 < xs.length := List.length_pos_iff.mpr ne
    refine ite2 (fun _ => ?_) (fun e => absurd (decide_eq_true (show ((xs.length : Nat) : Int) > 0 by omega)) e)
    obtain ⟨ys, fs, T', v', d', k, rfl, rfl, sk', eT, hz', hg'⟩ := sk.last ne
    have wl : wtS (fs ++ [(d', k)]) = wtS fs + wt d' := by rw [wtS_app]; simp [wtS]
    refine ⟨fun σ' Hy => ∃ m', m' < wtS (fs ++ [(d', k)]) ∧ ∃ (xs : List V) (st : List (PyData × Nat)) (ms : List Nm) (c3 c4 c5 : Option V), σ' = [some v, some (.ref S), some (.ref L), c3, c4, c5] ∧ L2.Same H Hy ∧ Hy L = some (.lst xs) ∧ Hy S = some (.dT (seenK ms)) ∧ SL K H Hy xs st ∧ ms.Nodup ∧ (Ans nmD st (ms.map nD) ↔ IsW nmD d) ∧ m' = wtS st ∧ m' ≤ 3000 ∧ ms.length + m' ≤ 3000, fun σ' H' z => z, ?_⟩
    refine ⟨_, rfl, .inl ⟨rfl, _, SqL.of eL⟩, L, _, _, rfl, rfl, eL, (by rw [List.length_append, List.length_singleton, Nat.add_sub_cancel, List.getElem?_append_right (Nat.le_refl _), Nat.sub_self]; rfl), ?_⟩
    rw [List.dropLast_concat]
    have s1 : L2.Same H (upd Hx L (.lst ys)) := fun c o e => by rw [upd_ne (ne_of_none e HL)]; exact sm _ _ e
    have kL : Kt L Hx (upd Hx L (.lst ys)) := fun c o nb e => by rw [upd_ne nb]; exact e
    have eL1 : (upd Hx L (.lst ys)) L = some (.lst ys) := upd_same
    have eS1 := kL _ _ SL' eS
    have TL : T' ≠ L := ne_of eT eL (by intro z; cases z)
    have eT1 := kL _ _ TL eT
    have sk1 := sk'.tp (kL.tp eL (by intro xs z; cases z))
    generalize upd Hx L (.lst ys) = Hy at s1 eL1 eS1 eT1 sk1 ⊢
    refine ⟨T', _, rfl, SqT.of eT1, rfl, _, _, rfl, _, _, rfl, rfl, ?_⟩
    have no : ¬ Ans nmD (fs ++ [(d', k)]) (ms.map nD) → ∀ Hz, L2.Same H Hz → Q (.bl false) Hz := fun na Hz sz => q false Hz ⟨(fun z => Bool.noConfusion z), fun z => absurd (an.mpr z) na⟩ sz
    refine ⟨_, rfl, _, 5, rfl, rfl, _, rfl, ?_⟩
    cases k with
    | zero =>
      refine ite2 (fun _ => no (ans_zero nmD) _ s1) (fun e => absurd (decide_eq_true (show (6 : Int) - ((0 : Nat) : Int) > 5 by omega)) e)
    | succ k =>
      refine ite2 (fun e => ?_) (fun _ => ?_)
      · have z : (6 : Int) - ((k + 1 : Nat) : Int) > 5 := of_decide_eq_true e
        omega
      refine ⟨_, rfl, v', d', rfl, hz'.same s1, hg', fun H3 s3 => ⟨_, rfl, ?_⟩⟩
      cases cn : nwp nmD d' with
      | false => exact iteT (no (ans_bad nmD (form_nwp nmD cn)) _ (s1.trans s3))
      | true =>
        obtain ⟨n, ps, rfl, hn⟩ := nwp_mk nmD cn
        obtain ⟨nm, rfl⟩ := nmD_mk hn
        obtain ⟨t, vn, p, zs, rfl, et, en, ep, hps⟩ := dz_pair hz'
        have s13 := s1.trans s3
        have et3 := s13 _ _ et
        have en3 := s13 _ _ en
        have eS3 := s3 _ _ eS1
        have eL3 := s3 _ _ eL1
        have sk3 := sk1.tp (tp_same s3)
        have dg : DGet H3 S (.ref vn) (valV (seenK ms) (kN nm)) := DGet.t eS3 en3
        refine iteF ⟨_, rfl, t, _, 0, .ref vn, rfl, rfl, SqT.of et3, rfl, _, rfl, S, _, rfl, dg, _, rfl, ?_⟩
        rw [seen_is ms nm]
        by_cases hm : nm ∈ ms
        · rw [decide_eq_true hm]
          exact iteT (no (ans_seen nmD (List.mem_map.mpr ⟨nm, hm, rfl⟩)) _ s13)
        rw [decide_eq_false hm]
        refine iteF ?_
        -- seen
        have lm : ms.length < sizeLine := Nat.lt_of_le_of_lt (show ms.length ≤ 3000 by omega) (by decide)
        refine ⟨_, rfl, _, rfl, t, _, 0, .ref vn, rfl, rfl, SqT.of et3, rfl, S, _, rfl, DPut.t (k := kN nm) eS3 en3 (by rw [seenK, List.length_map]; exact lm), ?_⟩
        rw [seen_put ms nm hm]
        have HS : H S = none := nS
        have s4 : L2.Same H (upd H3 S (.dT (seenK (ms ++ [nm])))) := fun c o e => by rw [upd_ne (ne_of_none e HS)]; exact s13 _ _ e
        have kS : Kt S H3 (upd H3 S (.dT (seenK (ms ++ [nm])))) := fun c o nb e => by rw [upd_ne nb]; exact e
        have eS4 : (upd H3 S (.dT (seenK (ms ++ [nm])))) S = some (.dT (seenK (ms ++ [nm]))) := upd_same
        have sk4 := sk3.tp (kS.tp eS3 (by intro xs z; cases z))
        have eL4 := kS _ _ (Ne.symm SL') eL3
        generalize upd H3 S (.dT (seenK (ms ++ [nm]))) = H4 at s4 eS4 sk4 eL4 ⊢
        have et4 := s4 _ _ et
        have ep4 := s4 _ _ ep
        clear sk3 sk1 kL kS eS3 eL3 et3 en3 s13
        refine ⟨_, rfl, .inl ⟨rfl, _, SqL.of eL4⟩, _, rfl, t, _, 1, .ref p, rfl, rfl, SqT.of et4, rfl, p, rfl, ⟨_, SqT.of ep4⟩, fun D nDD => ?_⟩
        have g2 : gd (.tuple ps) := by
          have := hg'
          simp only [gd, gds] at this ⊢
          exact this.2.1
        have wps : wt (.tuple [nD nm, .tuple ps]) = wts ps + 5 := by simp only [wt, wts, nD]; omega
        have DL : D ≠ L := ne_of_none' eL4 nDD
        have lz := dz_len hps
        have lp := len_wts ps
        rw [wl, wps] at mw lw
        refine lc_it (walk_tup (K := K) (a := p) (xs := zs)) (fun i Hi => ∃ acc, Hi D = some (.lst acc) ∧ L2.Same H4 Hi ∧ SL K H Hi acc ((ps.take i).map fun e => (e, k))) ⟨[], upd_same, same_upd nDD, .nil⟩ (fun i Hi _ z => by obtain ⟨_, _, z, _⟩ := z; exact SqT.of (z _ _ ep4)) ?_ ?_
        · rintro i x Hi0 Hi hi ⟨acc, eD, si, ski⟩ ⟨rfl, hx⟩
          obtain ⟨e, ee, ze⟩ := dz_get hps hx
          have ge : gd e := gds_iff.mp (by simpa [gd] using g2) e (List.mem_of_getElem? ee)
          refine ⟨rfl, ?_⟩
          unfold tYes
          refine iteT ⟨_, rfl, _, rfl, _, 1, rfl, rfl, (by show 2 ≤ sizeLine; decide), fun t5 nt5 => ?_⟩
          have s5 := same_upd nt5 (o := .tup [x, .int (6 - ((k + 1 : Nat) : Int) + 1)])
          have e5 : (upd Hi t5 (.tup [x, .int (6 - ((k + 1 : Nat) : Int) + 1)])) t5 = some (.tup [x, .int (6 - ((k + 1 : Nat) : Int) + 1)]) := upd_same
          generalize upd Hi t5 (.tup [x, .int (6 - ((k + 1 : Nat) : Int) + 1)]) = H5 at s5 e5 ⊢
          have eD5 := s5 _ _ eD
          have la := ski.len
          refine ⟨acc, eD5, ?_, _, upd_same, fun c o e' => ?_, ?_⟩
          · rw [la, List.length_map, List.length_take]
            exact Nat.lt_of_le_of_lt (show _ ≤ 3000 by omega) (by decide)
          · rw [upd_ne (ne_of_none e' nDD)]
            exact s5 _ _ (si _ _ e')
          · have kD : Kt D H5 (upd H5 D (.lst (acc ++ [.ref t5]))) := fun c o nb e => by rw [upd_ne nb]; exact e
            rw [List.take_succ, ee, List.map_append]
            have q1 := (ski.tp (tp_same s5)).tp (kD.tp eD5 (by intro xs z; cases z))
            have q3 := kD _ _ (ne_of e5 eD5 (by intro z; cases z)) e5
            rw [show (6 : Int) - ((k + 1 : Nat) : Int) + 1 = 6 - (k : Int) by omega] at q3
            exact q1.app (.cons q3 ze ge .nil)
        · rintro H6 ⟨acc, eD, s6, sk6⟩
          rw [List.take_of_length_le (by omega)] at sk6
          have eL6 := s6 _ _ eL4
          have skA := (sk4.tp (tp_same s6)).app sk6
          have lA := skA.len
          refine ⟨L, D, _, _, rfl, rfl, eL6, eD, ?_, ?_⟩
          · rw [← List.length_append, lA]
            have := wtS_len (fs ++ ps.map fun e => (e, k))
            have e9 : wtS (fs ++ ps.map fun e => (e, k)) = wtS fs + wts ps := by rw [wtS_app, wtS_map]
            exact Nat.le_trans (show _ ≤ 3000 by omega) (by decide)
          have kL6 : Kt L H6 (upd H6 L (.lst (ys ++ acc))) := fun c o nb e => by rw [upd_ne nb]; exact e
          have e9 : wtS (fs ++ ps.map fun e => (e, k)) = wtS fs + wts ps := by rw [wtS_app, wtS_map]
          refine ⟨wtS fs + wts ps, by rw [wl, wps]; omega, ys ++ acc, fs ++ ps.map (fun e => (e, k)), ms ++ [nm], _, _, _, rfl, fun c o e => ?_, upd_same, kL6 _ _ SL' (s6 _ _ eS4), skA.tp (kL6.tp eL6 (by intro xs z; cases z)), nd_snoc nd hm, ?_, e9.symm, by omega, by rw [List.length_append, List.length_singleton]; omega⟩
          · rw [upd_ne (ne_of_none e HL)]
            exact s6 _ _ (s4 _ _ e)
          · rw [List.map_append, ← an]
            exact (ans_step nmD hn).symm
end
end K37
set_option Elab.async false
set_option linter.all false
set_option maxRecDepth 100000
set_option maxHeartbeats 4000000
set_option pp.maxSteps 400
set_option pp.deepTerms false
namespace K37
open PySem PySem.Spec PyProof.Rows L2
open Xk Az W37
section
variable {P : Program} {w : World} {K : PySem.W.Frag} {mg : Str → Option Value} {base : Heap}
theorem As.ok {x : Str} (h : As x) : PyData.strOk x = true := by
  unfold PyData.strOk
  rw [← Array.all_toList, List.all_eq_true]
  intro c hc
  exact decide_eq_true (Nat.lt_of_lt_of_le (h c hc) (by decide))
theorem shaped_two {a b : Str} (ha : As a) (hb : As b) : SeqAt.shaped (.tuple [.str a, .str b]) = true := by
  unfold SeqAt.shaped
  have h1 : (PyData.tuple [.str a, .str b]).canLay0 = true := by simp [PyData.canLay0, PyData.canLayAll0, ha.ok, hb.ok]
  have h2 : (PyData.tuple [.str a, .str b]).depth ≤ 64 := by simp only [PyData.depth, PyData.depthAll]; omega
  rw [h1, decide_eq_true h2]
  rfl
theorem shaped_list {ds : List PyData} (q1 : PyData.canLayAll0 ds = true) (q2 : PyData.depthAll ds ≤ 3) : SeqAt.shaped (.list ds) = true := by
  unfold SeqAt.shaped
  have h1 : (PyData.list ds).canLay0 = true := by simp only [PyData.canLay0]; exact q1
  have h2 : (PyData.list ds).depth ≤ 64 := by simp only [PyData.depth]; omega
  rw [h1, decide_eq_true h2]
  rfl
theorem r65 {k : Nat} {A : Around} (r : Room k A) : A.units + 65 < cLine := by have := r.un; omega
theorem names_dp {H : Hp} : ∀ (xs : List V) (ns : List Nm), NmL H xs ns → (∀ m ∈ ns, As m.1 ∧ As m.2) → DpAll K H xs (ns.map nD) ∧ PyData.canLayAll0 (ns.map nD) = true ∧ PyData.depthAll (ns.map nD) ≤ 3
  | _, _, .nil, _ => ⟨.nil, by simp [PyData.canLayAll0], by simp [PyData.depthAll]⟩
  | _, _, .cons (n := n) (ns := ns) ⟨t, e1, e2⟩ r, h => by
    obtain ⟨q1, q2, q3⟩ := names_dp _ _ r (fun m hm => h m (List.mem_cons_of_mem _ hm))
    obtain ⟨a1, a2⟩ := h n List.mem_cons_self
    subst e1
    refine ⟨.cons (.tup (SqT.of e2) (.cons (.str _) (.cons (.str _) .nil))) q1, ?_, ?_⟩
    · rw [List.map_cons]
      simp [PyData.canLayAll0, PyData.canLay0, q2, nD, a1.ok, a2.ok]
    · rw [List.map_cons]
      simp only [nD, PyData.depthAll, PyData.depth]
      omega
theorem eqv_nD (a b : Nm) : PyData.eqv (nD a) (nD b) = decide (a = b) := by
  obtain ⟨a1, a2⟩ := a
  obtain ⟨b1, b2⟩ := b
  unfold nD
  simp only [PyData.eqv, PyData.eqvAll, Bool.and_true]
  by_cases h1 : a1 = b1
  · by_cases h2 : a2 = b2
    · subst h1 h2
      simp
    · rw [decide_eq_false (fun z => h2 (congrArg Prod.snd z))]
      rw [beq_eq_false_iff_ne.mpr h2, Bool.and_false]
  · rw [decide_eq_false (fun z => h1 (congrArg Prod.fst z))]
    rw [beq_eq_false_iff_ne.mpr h1, Bool.false_and]
theorem any_eqv (ms : List Nm) (m : Nm) : ((ms.map nD).any fun z => PyData.eqv z (nD m)) = decide (m ∈ ms) := by
  rw [List.any_map, Bool.eq_iff_iff, List.any_eq_true, decide_eq_true_eq]
  simp only [Function.comp, eqv_nD, decide_eq_true_eq]
  constructor
  · rintro ⟨x, hx, rfl⟩; exact hx
  · intro h; exact ⟨m, h, rfl⟩
theorem wts_take : ∀ (i : Nat) (ps : List PyData), wts (ps.take i) ≤ wts ps
  | 0, ps => by rw [List.take_zero, wts]; omega
  | _ + 1, [] => by simp
  | i + 1, d :: r => by
    rw [List.take_succ_cons, wts, wts]
    have := wts_take i r
    omega
theorem _root_.L2.Same.but' {H H' : Hp} (s : L2.Same H H') (h : Addr) : But h H H' := Same.but s h
def spWalked (K : PySem.W.Frag) (k : Nat) : Sp := fun vs H Q _ => ∃ (v : V) (d : PyData) (M : Addr) (xs : List V) (ms : List Nm), vs = [v, .int (k : Int), .ref M] ∧ Dz K (del H M) v d ∧ gd d ∧ H M = some (.lst xs) ∧ NmL H xs ms ∧ ms.Nodup ∧ (∀ m ∈ ms, As m.1 ∧ As m.2) ∧ ms.length + wt d ≤ 3500 ∧
  ∀ (b : Bool) (ext : List Nm) (xs' : List V) H', H' M = some (.lst xs') → NmL H' xs' (ms ++ ext) → (ms ++ ext).Nodup → (∀ m ∈ ext, As m.1 ∧ As m.2) → ext.length ≤ wt d → (b = true → form nmD k d = true ∧ ext.map nD = names k d) → (b = false → ¬ (form nmD k d = true ∧ (ms.map nD ++ names k d).Nodup)) → But M H H' → Q (.bl b) H'
def spWalkedB (K : PySem.W.Frag) : Nat → Sp
  | 0 => fun _ _ _ _ => False
  | k + 1 => spWalked K k
theorem ok_walked {f : Addr} {fd : FuncData} {k : Nat} (D : Df K mg "_law_walked" ["_law_thing", "_law_deep", "_law_met"] sWalked f fd) (T : Txt mg) (cLN : Ca P w K mg base 2 "_law_is_name" ["_law_thing"] (spIsName K)) (cWa : Ca P w K mg base (k + 2) "_law_walked" ["_law_thing", "_law_deep", "_law_met"] (spWalkedB K k)) : FnOk P w K mg base CX0 (k + 3) f fd ["_law_thing", "_law_deep", "_law_met"] (spWalked K k) := by
  refine D.fn.ok scWalked (fun vs H Q E h => ?_) (fun cdv A outer s H vs Q E hr h => ?_)
  · obtain ⟨v, d, M, xs, ms, rfl, hz, hg, eM, nml, nd, ams, hl, q⟩ := h
    rfl
  · obtain ⟨v, d, M, xs, ms, rfl, hz, hg, eM, nml, nd, ams, hl, q⟩ := h
    refine ⟨_, (pss_cons (ps_if (PW.pt (pw_or (pt_cmpR op_eq (pv 1) pe_int (nomark _)) (pw_or (pt_not (pt_val (pe_callB call_isi (by rfl) T.isi (by decide +kernel) (pa_cons (pv 0) (pa_cons (pe_bltn (v := .ty "tuple") (by rfl) T.tuple (by decide +kernel) rfl) pa_nil))))) (pw_or (pt_cmpR op_ne (pe_callB call_len_seq (by rfl) T.len PySem.boot_len (pa_cons (pv 0) pa_nil)) pe_int (nomark _)) (pw_or1 (pt_not (pt_val (pe_ca cLN hr (by omega) (by rfl) (pa_cons (pe_ix ix_tup (pv 0) pe_int (fun _ _ => rfl)) pa_nil))))))))) (pss_one (ps_ret pe_bl)) pss_nil)
      (pss_cons (ps_if (PW.pt (pw_or (pt_cmpR (op_inD (r65 hr)) (pe_ix ix_tup (pv 0) pe_int (fun _ _ => rfl)) (pv 2) (by rfl)) (pw_or1 (pt_not (pt_val (pe_callB call_isi (by rfl) T.isi (by decide +kernel) (pa_cons (pe_ix ix_tup (pv 0) pe_int (fun _ _ => rfl)) (pa_cons (pe_bltn (v := .ty "tuple") (by rfl) T.tuple (by decide +kernel) rfl) pa_nil)))))))) (pss_one (ps_ret pe_bl)) pss_nil)
      (pss_cons (ps_expr (pe_bm PySem.F.plainAttrs_list PySem.F.slot_list_append PySem.F.type_list_append mt_append (pv 2) (pa_cons (pe_ix ix_tup (pv 0) pe_int (fun _ _ => rfl)) pa_nil)))
      (pss_one (ps_ret (pe_callB (cr_all (by rfl)) (by rfl) T.all (by decide +kernel) (pa_cons (pe_lc (own := [("_law_part", 3)]) (g := gName 3) (tt := tYes) (by rfl) scWalked.nd (pi_tup (pe_ix ix_tup (pv 0) pe_int (fun _ _ => rfl))) (blkOk_by (own := [("_law_part", 3)]) (N := ["_law_thing", "_law_deep", "_law_met", "_law_part"]) (sc := defScope sWalked) (by decide +kernel)) (fun _ _ _ _ _ => pg_name (i := 3) scWalked.nd rfl (.inl rfl)) (fun _ _ _ _ _ => pts_nil) (fun _ _ _ _ _ => pe_ca cWa hr (by omega) (by rfl) (pa_cons (pv 3) (pa_cons (pe_op op_sub (pv 1) pe_int) (pa_cons (pv 2) pa_nil))))) pa_nil))))))), ?_⟩
    have hzH : Dz K H v d := hz.same off_all
    have bad : form nmD k d = false → Q (.bl false) H := fun e => q false [] xs H eM (by rw [List.append_nil]; exact nml) (by rw [List.append_nil]; exact nd) (by simp) (Nat.zero_le _) (fun z => Bool.noConfusion z) (fun _ z => by rw [e] at z; exact Bool.noConfusion z.1) (But.refl _ _)
    refine ⟨_, rfl, rfl, _, rfl, ite2 (fun e => ?_) (fun e => ?_)⟩
    · have k0 : k = 0 := by
        have := V.int.inj (of_decide_eq_true e)
        omega
      subst k0
      exact bad rfl
    obtain ⟨j, rfl⟩ : ∃ j, k = j + 1 := by
      cases k with
      | zero => exact absurd (decide_eq_true rfl) e
      | succ j => exact ⟨j, rfl⟩
    clear e
    refine ⟨_, rfl, _, _, _, _, isTup d, rfl, .ty _, hzH.ty, z_tup d, _, rfl, ?_⟩
    cases hz with
    | @tup t zs ds et0 ra0 =>
      have et : H t = some (.tup zs) := off_all _ _ et0
      have ra : DzAll K H zs ds := ra0.same off_all
      refine iteF ⟨_, rfl, t, zs, rfl, .inr (SqT.of et), rfl, _, rfl, ?_⟩
      match zs, ds, ra0, ra with
      | [], _, .nil, _ => exact iteT (bad rfl)
      | [_], _, .cons _ .nil, _ => exact iteT (bad rfl)
      | _ :: _ :: _ :: r, d1 :: d2 :: d3 :: rd, .cons _ (.cons _ (.cons _ _)), _ => exact ite2 (fun _ => bad (form_nwp nmD (by cases d2 <;> rfl))) (fun e => absurd rfl (len3 e))
      | [va, vb], _, .cons (d := a) ha0 (.cons (d := b) hb0 .nil), .cons ha (.cons hb .nil) =>
        have ga : gd a := by rw [gd, gds] at hg; exact hg.1
        refine iteF ⟨_, rfl, t, _, 0, va, rfl, rfl, SqT.of et, atI_nat (j := 0) rfl, va, a, rfl, ha, gd_t2 ga, fun H1 s1 => ⟨_, rfl, ?_⟩⟩
        have bad1 : ∀ Hz, L2.Same H Hz → form nmD (j + 1) (.tuple [a, b]) = false → Q (.bl false) Hz := fun Hz sz e => q false [] xs Hz (sz _ _ eM) (by rw [List.append_nil]; exact nml.tp (tp_same sz)) (by rw [List.append_nil]; exact nd) (by simp) (Nat.zero_le _) (fun z => Bool.noConfusion z) (fun _ z => by rw [e] at z; exact Bool.noConfusion z.1) (Same.but sz _)
        cases cn : nmD a with
        | false => exact iteT (bad1 _ s1 (form_nwp nmD (by cases b <;> first | rfl | exact cn)))
        | true =>
          refine iteF ?_
          obtain ⟨nm, rfl⟩ := nmD_mk cn
          have an : As nm.1 ∧ As nm.2 := by
            simp only [nD, gd, gds, Ok7] at ga
            exact ⟨ga.1.2, ga.2.1.2⟩
          have eM1 := s1 _ _ eM
          have nml1 := nml.tp (tp_same s1)
          obtain ⟨dl, dc, dd⟩ := names_dp xs ms nml1 ams
          obtain ⟨vn, rfl, en⟩ : ∃ vn, va = .ref vn ∧ H vn = some (.tup [.str nm.1, .str nm.2]) := by
            cases ha with
            | tup e1 r1 =>
              cases r1 with
              | cons x r1 =>
                cases r1 with
                | cons y r1 =>
                  cases r1
                  cases x
                  cases y
                  exact ⟨_, rfl, e1⟩
          refine ⟨_, rfl, t, _, 0, _, rfl, rfl, SqT.of (s1 _ _ et), atI_nat (j := 0) rfl, _, rfl, nD nm, _, .tup (SqT.of (s1 _ _ en)) (.cons (.str _) (.cons (.str _) .nil)), .lst (SqL.of eM1) dl, shaped_two an.1 an.2, shaped_list dc dd, _, rfl, ?_⟩
          rw [any_eqv]
          by_cases hm : nm ∈ ms
          · rw [decide_eq_true hm]
            refine iteT (q false [] xs H1 eM1 (by rw [List.append_nil]; exact nml1) (by rw [List.append_nil]; exact nd) (by simp) (Nat.zero_le _) (fun z => Bool.noConfusion z) (fun _ z => ?_) (Same.but s1 _))
            cases hft : isTup b with
            | false =>
              rw [show form nmD (j + 1) (.tuple [nD nm, b]) = false from form_nwp nmD (by cases b <;> first | rfl | cases hft)] at z
              exact Bool.noConfusion z.1
            | true =>
              obtain ⟨ps, rfl⟩ : ∃ ps, b = .tuple ps := by cases b <;> first | exact ⟨_, rfl⟩ | cases hft
              have z2 := z.2
              rw [List.nodup_append] at z2
              exact z2.2.2 _ (List.mem_map.mpr ⟨nm, hm, rfl⟩) _ (by simp [names]) rfl
          rw [decide_eq_false hm]
          refine iteF ⟨_, rfl, t, _, 1, vb, rfl, rfl, SqT.of (s1 _ _ et), atI_nat (j := 1) rfl, _, _, _, _, isTup b, rfl, .ty _, (hb.same s1).ty, z_tup b, _, rfl, ?_⟩
          cases hft : isTup b with
          | false => exact iteT (bad1 _ s1 (form_nwp nmD (by cases b <;> first | rfl | cases hft)))
          | true =>
            refine iteF ?_
            obtain ⟨ps, rfl⟩ : ∃ ps, b = .tuple ps := by cases b <;> first | exact ⟨_, rfl⟩ | cases hft
            obtain ⟨p, ws, rfl, ep, hps⟩ : ∃ (p : Addr) (ws : List V), vb = .ref p ∧ (del H M) p = some (.tup ws) ∧ DzAll K (del H M) ws ps := by
              cases hb0 with
              | tup e r => exact ⟨_, _, rfl, e, r⟩
            have gps : gds ps := by
              simp only [gd, gds] at hg
              exact hg.2.1
            have wps : wt (.tuple [nD nm, .tuple ps]) = wts ps + 5 := by simp only [wt, wts, nD]; omega
            rw [wps] at hl
            have lms := nml.len
            -- met
            refine ⟨_, rfl, .inl ⟨rfl, _, SqL.of eM1⟩, _, rfl, t, _, 0, _, rfl, rfl, SqT.of (s1 _ _ et), atI_nat (j := 0) rfl, M, _, _, rfl, rfl, eM1, Nat.lt_of_le_of_lt (show xs.length ≤ 4000 by omega) (by decide), ?_⟩
            have eM2 : (upd H1 M (.lst (xs ++ [.ref vn]))) M = some (.lst (xs ++ [.ref vn])) := upd_same
            have b2 : But M H (upd H1 M (.lst (xs ++ [.ref vn]))) := (Same.but s1 M).trans but_upd
            have tp2 : Tp H1 (upd H1 M (.lst (xs ++ [.ref vn]))) := tp_upd (fun ys z => by rw [eM1] at z; cases z)
            have nml2 : NmL (upd H1 M (.lst (xs ++ [.ref vn]))) (xs ++ [.ref vn]) (ms ++ [nm]) := (nml1.tp tp2).snoc ⟨vn, rfl, tp2 _ _ (s1 _ _ en)⟩
            have nd2 := nd_snoc nd hm
            generalize upd H1 M (.lst (xs ++ [.ref vn])) = H2 at eM2 b2 nml2 ⊢
            have et2 : H2 t = some (.tup [.ref vn, .ref p]) := b2 _ _ (fun z => by rw [z, eM] at et; cases et) et
            have epH : H p = some (.tup ws) := off_all _ _ ep
            have pM : p ≠ M := fun z => by rw [z, eM] at epH; cases epH
            have ep2 := b2 _ _ pM epH
            refine ⟨_, rfl, t, _, 1, .ref p, rfl, rfl, SqT.of et2, atI_nat (j := 1) rfl, p, rfl, ⟨_, SqT.of ep2⟩, fun D nDD => ?_⟩
            have sD := same_upd nDD (o := .lst [])
            have DM : D ≠ M := ne_of_none' eM2 nDD
            have HD : H D = none := b2.free DM nDD
            have lz := dz_len hps
            have lp := len_wts ps
            refine lc_it (walk_tup (K := K) (a := p) (xs := ws)) (fun i Hi => ∃ (bs : List Bool) (ext : List Nm) (ys : List V), Hi D = some (.lst (bs.map V.bl)) ∧ bs.length = i ∧ But M H Hi ∧ Hi M = some (.lst ys) ∧ NmL Hi ys (ms ++ [nm] ++ ext) ∧ (ms ++ [nm] ++ ext).Nodup ∧ (∀ m ∈ ext, As m.1 ∧ As m.2) ∧ ext.length ≤ wts (ps.take i) ∧
              (bs.all id = true → (∀ e ∈ ps.take i, form nmD j e = true) ∧ ext.map nD = (ps.take i).flatMap (names j)) ∧ (bs.all id = false → ¬ (form nmD (j + 1) (.tuple [nD nm, .tuple ps]) = true ∧ (ms.map nD ++ names (j + 1) (.tuple [nD nm, .tuple ps])).Nodup))) ?_ ?_ ?_ ?_
            · exact ⟨[], [], _, upd_same, rfl, b2.trans (Same.but sD M), sD _ _ eM2, by rw [List.append_nil]; exact nml2.tp (tp_same sD), by rw [List.append_nil]; exact nd2, by simp, Nat.zero_le _, fun _ => ⟨by simp, by simp⟩, fun z => Bool.noConfusion z⟩
            · rintro i Hi _ ⟨_, _, _, _, _, z, _⟩
              exact SqT.of (z _ _ pM epH)
            · rintro i x Hi0 Hi hi ⟨bs, ext, ys, eD, lbs, bi, eMi, nmi, ndi, ai, lei, ok, no⟩ ⟨rfl, hx⟩
              obtain ⟨e, ee, ze⟩ := dz_get hps hx
              have me := List.mem_of_getElem? ee
              have ge := gds_iff.mp gps e me
              have we := wts_mem me
              have wt1 : wts (ps.take (i + 1)) = wts (ps.take i) + wt e := by rw [List.take_succ, ee, wts_app]; simp [wts]
              have wle : wts (ps.take (i + 1)) ≤ wts ps := wts_take (i + 1) ps
              refine ⟨rfl, ?_⟩
              unfold tYes
              refine iteT ?_
              refine ⟨_, rfl, _, rfl, _, 1, rfl, rfl, _, rfl, x, e, M, ys, ms ++ [nm] ++ ext, (by show [x, V.int (((j + 1 : Nat) : Int) - 1), .ref M] = [x, .int (j : Int), .ref M]; rw [show ((j + 1 : Nat) : Int) - 1 = (j : Int) by omega]), ze.same (off_but bi), ge, eMi, nmi, ndi, ?_, ?_, fun b ext' ys' H4 eM4 nm4 nd4 a4 le4 okb nob b4 => ?_⟩
              · intro m hm
                rcases List.mem_append.mp hm with z | z
                · rcases List.mem_append.mp z with z | z
                  · exact ams m z
                  · rw [List.mem_singleton.mp z]; exact an
                · exact ai m z
              · rw [List.length_append, List.length_append, List.length_singleton]
                omega
              have DMi : D ≠ M := DM
              refine ⟨_, b4 _ _ DM eD, ?_, bs ++ [b], ext ++ ext', ys', by rw [upd_same, List.map_append]; rfl, by rw [List.length_append, lbs]; rfl, fun c o nc eo => ?_, by rw [upd_ne (Ne.symm DM)]; exact eM4, ?_, by rw [← List.append_assoc]; exact nd4, ?_, by rw [List.length_append]; omega, ?_, ?_⟩
              · rw [List.length_map, lbs]
                have : i < ws.length := hi
                exact Nat.lt_of_le_of_lt (show i ≤ 4000 by omega) (by decide)
              · rw [upd_ne (ne_of_none eo HD)]
                exact b4 _ _ nc (bi _ _ nc eo)
              · rw [← List.append_assoc]
                exact nm4.tp (tp_upd (fun us z => by rw [b4 _ _ DM eD] at z; cases z))
              · intro m hm
                rcases List.mem_append.mp hm with z | z
                · exact ai m z
                · exact a4 m z
              · intro hb
                rw [List.all_append, Bool.and_eq_true] at hb
                obtain ⟨f1, f2⟩ := ok hb.1
                obtain ⟨g1, g2⟩ := okb (by simpa using hb.2)
                rw [List.take_succ, ee]
                refine ⟨fun u hu => ?_, by rw [List.map_append, f2, g2, List.flatMap_append]; simp⟩
                rcases List.mem_append.mp hu with z | z
                · exact f1 u z
                · rw [show u = e by simpa using z]; exact g1
              · intro hb
                cases hbs : bs.all id with
                | false => exact no hbs
                | true =>
                  have hb' : b = false := by
                    rw [List.all_append, hbs] at hb
                    simpa using hb
                  obtain ⟨f1, f2⟩ := ok hbs
                  rintro ⟨c1, c2⟩
                  refine nob hb' ⟨?_, ?_⟩
                  · simp only [form, cn, Bool.true_and, List.all_eq_true] at c1
                    exact c1 e me
                  · have sp : ps = ps.take i ++ e :: ps.drop (i + 1) := by
                      have il := (List.getElem?_eq_some_iff.mp ee)
                      obtain ⟨il, ie⟩ := il
                      rw [← ie]
                      exact (List.take_append_drop i ps).symm.trans (by rw [List.drop_eq_getElem_cons il])
                    rw [sp] at c2
                    simp only [names, List.flatMap_append, List.flatMap_cons] at c2
                    rw [List.map_append, List.map_append, f2]
                    refine c2.sublist ?_
                    simp only [List.map_cons, List.map_nil, List.append_assoc]
                    refine List.Sublist.append_left ?_ _
                    show ([nD nm] ++ _).Sublist (nD nm :: _)
                    simp only [List.singleton_append]
                    refine List.Sublist.cons_cons _ ?_
                    refine List.Sublist.append_left ?_ _
                    exact List.sublist_append_left _ _
            · rintro H5 ⟨bs, ext, ys, eD, lbs, b5, eM5, nm5, nd5, a5, le5, ok, no⟩
              rw [List.take_of_length_le (by omega)] at ok le5
              refine ⟨D, bs, rfl, SqL.of eD, ?_⟩
              refine q (bs.all id) (nm :: ext) ys H5 eM5 (by simpa using nm5) (by simpa using nd5) ?_ (by rw [wps, List.length_cons]; omega) (fun hb => ?_) no b5
              · intro m hm
                rcases List.mem_cons.mp hm with z | z
                · rw [z]; exact an
                · exact a5 m z
              · obtain ⟨f1, f2⟩ := ok hb
                refine ⟨?_, ?_⟩
                · simp only [form, cn, Bool.true_and, List.all_eq_true]
                  exact f1
                · rw [List.map_cons, f2]
                  rfl
    | _ => exact iteT (bad (form_nwp nmD rfl))
theorem walked_fn {f : Addr} {fd : FuncData} (D : Df K mg "_law_walked" ["_law_thing", "_law_deep", "_law_met"] sWalked f fd) (T : Txt mg) (cLN : Ca P w K mg base 2 "_law_is_name" ["_law_thing"] (spIsName K)) :
    ∀ k, FnOk P w K mg base CX0 (k + 3) f fd ["_law_thing", "_law_deep", "_law_met"] (spWalked K k)
  | 0 => ok_walked (k := 0) D T cLN (D.ca ⟨fun _ _ _ _ h => h.elim, fun _ _ _ _ _ _ _ _ _ _ _ _ _ h => h.elim⟩)
  | k + 1 => ok_walked (k := k + 1) D T cLN (D.ca (walked_fn D T cLN k))
end
end K37
set_option Elab.async false
set_option linter.all false
set_option maxRecDepth 100000
set_option maxHeartbeats 4000000
set_option pp.maxSteps 400
set_option pp.deepTerms false
namespace K37
open PySem PySem.Spec PyProof.Rows L2
open Xk Az W37
section
variable {P : Program} {w : World} {K : PySem.W.Frag} {mg : Str → Option Value} {base : Heap}
/-- a good thing -/
def Gt (K : PySem.W.Frag) (H : Hp) (N D : Nat) (v : V) : Prop := ∃ d, Dz K H v d ∧ gd d ∧ wt d ≤ N ∧ dt d ≤ D
theorem Gt.same {H H' : Hp} {N D : Nat} {v : V} (h : Gt K H N D v) (s : L2.Same H H') : Gt K H' N D v := by
  obtain ⟨d, z, r⟩ := h
  exact ⟨d, z.same s, r⟩
theorem Gt.mono {H : Hp} {N N' D D' : Nat} {v : V} (h : Gt K H N D v) (n : N ≤ N') (m : D ≤ D') : Gt K H N' D' v := by
  obtain ⟨d, z, g, a, b⟩ := h
  exact ⟨d, z, g, Nat.le_trans a n, Nat.le_trans b m⟩
theorem ok_e : gd (.str "") := by rw [gd]; exact ⟨by decide +kernel, by decide +kernel⟩
theorem ok_de : gd (.str "de") := by rw [gd]; exact ⟨by decide +kernel, by decide +kernel⟩
theorem wts_rev (ds : List PyData) : wts ds.reverse = wts ds := by
  induction ds with
  | nil => rfl
  | cons d r ih => rw [List.reverse_cons, wts_app, ih, wts, wts, wts]; omega
theorem dts_rev (ds : List PyData) : dts ds.reverse = dts ds := by
  induction ds with
  | nil => rfl
  | cons d r ih => rw [List.reverse_cons, dts_app, ih, dts, dts, dts]; omega
theorem dz_app {H : Hp} : ∀ {xs ys : List V} {ds es : List PyData}, DzAll K H xs ds → DzAll K H ys es → DzAll K H (xs ++ ys) (ds ++ es)
  | _, _, _, _, .nil, h => h
  | _, _, _, _, .cons h r, h' => .cons h (dz_app r h')
theorem dz_rev {H : Hp} : ∀ {xs : List V} {ds : List PyData}, DzAll K H xs ds → DzAll K H xs.reverse ds.reverse
  | _, _, .nil => .nil
  | _, _, .cons h r => by
    rw [List.reverse_cons, List.reverse_cons]
    exact dz_app (dz_rev r) (.cons h .nil)
theorem cutS_mem (x : Str) (lo hi : Option Int) : ∀ c ∈ (cutS x lo hi).cps.toList, c ∈ x.cps.toList := fun c hc => by
  unfold cutS at hc
  exact List.mem_of_mem_drop (List.mem_of_mem_take (by simpa using hc))
theorem cutS_le (x : Str) (lo hi : Option Int) : (cutS x lo hi).length ≤ x.length := by
  rw [len_cps, len_cps x]
  unfold cutS
  simp only [List.length_take, List.length_drop]
  omega
def spOdd (K : PySem.W.Frag) : Sp := fun vs H Q _ => ∃ (h : Addr) (n : Int) (v : V) (d : PyData) (A : Addr) (xa : List V) (na : List Nm), vs = [.ref h, v, .ref A] ∧ Dz K (del H h) v d ∧ gd d ∧ (∀ x, d = .str x → x.length ≤ 100) ∧ wt d ≤ 3000 ∧ H A = some (.lst xa) ∧ A ≠ h ∧ NmL H xa na ∧ na ≠ [] ∧ na.length ≤ 100 ∧ (∀ m ∈ na, Gn' m) ∧ Hand n H h ∧ n + 10 ≤ far ∧
  ∀ v' d' H', Dz K (del H' h) v' d' → gd d' → wt d' ≤ wt d + 5 → dt d' ≤ dt d + 2 → Hand (n + 3) H' h → But h H H' → Q v' H'
theorem ok_odd {f : Addr} {fd : FuncData} (D : Df K mg "_law_odd" ["_law_hand_here", "_law_thing", "_law_names_here"] sOdd f fd) (T : Txt mg) (cP : Ca P w K mg base 2 "_law_pick" ["_law_hand_here", "_law_some"] spPick) : FnOk P w K mg base CX0 3 f fd ["_law_hand_here", "_law_thing", "_law_names_here"] (spOdd K) := by
  refine D.fn.ok scOdd (fun vs H Q E h => ?_) (fun cdv A outer s H vs Q E hr h => ?_)
  · obtain ⟨h, n, v, d, A, xa, na, rfl, hz, hg, txs, hw, eA, Ah, nma, nne, nl, gna, hh, hn, q⟩ := h
    rfl
  · obtain ⟨h, n, v, d, A, xa, na, rfl, hz, hg, txs, hw, eA, Ah, nma, nne, nl, gna, hh, hn, q⟩ := h
    refine ⟨_, (C8.pss_cut (ps_set (i := 3) scOdd.nd rfl (.inl rfl) (pe_lst (pa_cons pe_non (pa_cons pe_bl (pa_cons pe_int (pa_cons pe_str (pa_cons pe_str (pa_cons (pe_tup pa_nil) (pa_cons (pe_lstZ pa_nil) (pa_cons pe_dnewK (pa_cons (pe_ca cP hr (by decide) (by rfl) (pa_cons (pv 0) (pa_cons (pv 2) pa_nil))) (pa_cons (pe_tup (pa_cons (pe_ca cP hr (by decide) (by rfl) (pa_cons (pv 0) (pa_cons (pv 2) pa_nil))) (pa_cons (pe_tup pa_nil) pa_nil))) pa_nil))))))))))))
      (C8.pss_cut (ps_if (pt_val (pe_callB call_isi (by rfl) T.isi (by decide +kernel) (pa_cons (pv 1) (pa_cons (pe_bltn (v := .ty "str") (by rfl) T.str (by decide +kernel) rfl) pa_nil)))) (pss_one (ps_set (i := 3) scOdd.nd rfl (.inl rfl) (pe_lst (pa_cons (pe_op op_add_str (pv 1) pe_str) (pa_cons (pe_op op_add_str (pv 1) pe_str) (pa_cons (pe_op op_add_str pe_str (pv 1)) (pa_cons (pe_slice sl_str (pv 1) (po_some pe_int) po_none) (pa_cons (pe_op op_add_str (pv 1) pe_str) (pa_cons (pe_op op_add_str (pv 1) pe_str) (pa_cons (pe_op Xtu.op_x41 pe_str pe_int) (pa_cons pe_int pa_nil))))))))))) (pss_one (ps_if (pt_val (pe_callB call_isi (by rfl) T.isi (by decide +kernel) (pa_cons (pv 1) (pa_cons (pe_bltn (v := .ty "tuple") (by rfl) T.tuple (by decide +kernel) rfl) pa_nil)))) (pss_one (ps_set (i := 3) scOdd.nd rfl (.inl rfl) (pe_op op_cat (pv 3) (pe_lst (pa_cons (pe_callTy Xtu.cr_listT (by rfl) T.list (by decide +kernel) (pa_cons (pv 1) pa_nil)) (pa_cons (pe_tup (pa_cons (pv 1) pa_nil)) (pa_cons (Xtu.pe_revN (pv 1)) (pa_cons (pe_op Xtu.op_catU (pv 1) (pe_tup (pa_cons pe_non pa_nil))) pa_nil)))))))) pss_nil)))
      (pss_one (ps_ret (pe_ca cP hr (by decide) (by rfl) (pa_cons (pv 0) (pa_cons (pv 3) pa_nil))))))), ?_⟩
    have fr : n + 10 ≤ 1000000 := hn
    have nmG : ∀ {Hx : Hp} {m : Nm} {u : V}, (∀ b ys, H b = some (.tup ys) → b ≠ h → Hx b = some (.tup ys)) → m ∈ na → NmV H u m → Dz K (del Hx h) u (nD m) ∧ gd (nD m) := fun {Hx m u} s hm hv => by
      obtain ⟨t, rfl, e⟩ := hv
      have th := hh.ne_tup (K := K) e
      refine ⟨.tup (off_at th (s _ _ e th)) (.cons (.str _) (.cons (.str _) .nil)), ?_⟩
      obtain ⟨g1, g2, g3, g4⟩ := gna m hm
      simp only [nD, gd, gds, Ok7]
      exact ⟨⟨by omega, g2⟩, ⟨by omega, g4⟩, trivial⟩
    have lna := nma.len
    have nne' : xa ≠ [] := fun z => nne (by rw [z] at lna; exact List.length_eq_zero_iff.mp lna.symm)
    refine ⟨fun σ Hx => ∃ (L : Addr) (zs : List V), σ = [some (.ref h), some v, some (.ref A), some (.ref L)] ∧ Hx L = some (.lst zs) ∧ L ≠ h ∧ zs ≠ [] ∧ zs.length ≤ 20 ∧ (∀ z ∈ zs, Gt K (del Hx h) (wt d + 5) (dt d + 2) z) ∧ Hand (n + 2) Hx h ∧ But h H Hx, ?_, ?_⟩
    · refine ⟨(by show 0 ≤ sizeLine; decide), fun p1 n1 => ?_⟩
      have s1 := same_upd n1 (o := .tup [])
      have e1 : (upd H p1 (.tup [])) p1 = some (.tup []) := upd_same
      have a1 := hh.fresh n1
      generalize upd H p1 (.tup []) = H1 at s1 e1 ⊢
      refine ⟨(by show 0 ≤ sizeLine; decide), fun p2 n2 ne2 => ?_⟩
      have s2 := same_upd n2 (o := .lst [])
      have e2 : (upd H1 p2 (.lst [])) p2 = some (.lst []) := upd_same
      have a2 := (hh.same s1).fresh n2
      generalize upd H1 p2 (.lst []) = H2 at s2 e2 ⊢
      intro p3 n3
      have s3 := same_upd n3 (o := .dK [])
      have e3 : (upd H2 p3 (.dK [])) p3 = some (.dK []) := upd_same
      have h2 := (hh.same s1).same s2
      have a3 := h2.fresh n3
      generalize upd H2 p3 (.dK []) = H3 at s3 e3 ⊢
      have h3 := h2.same s3
      have s03 := (s1.trans s2).trans s3
      refine ⟨_, rfl, _, rfl, h, n, _, rfl, h3, by show n ≤ 1000000; omega, .inl ⟨A, _, rfl, s03 _ _ eA, Ah, nne', by omega, fun v1 H4 mv1 h4 b4 => ?_⟩⟩
      have b04 := (Same.but s03 h).trans b4
      refine ⟨_, rfl, _, rfl, h, n + 1, _, rfl, h4, by show n + 1 ≤ 1000000; omega, .inl ⟨A, _, rfl, b04 _ _ Ah eA, Ah, nne', by omega, fun v2 H5 mv2 h5 b5 => ?_⟩⟩
      have b05 := b04.trans b5
      refine ⟨(by show 0 ≤ sizeLine; decide), fun p6 n6 => ?_⟩
      have s6 := same_upd n6 (o := .tup [])
      have e6 : (upd H5 p6 (.tup [])) p6 = some (.tup []) := upd_same
      have a6 := h5.fresh n6
      generalize upd H5 p6 (.tup []) = H6 at s6 e6 ⊢
      refine ⟨(by show 2 ≤ sizeLine; decide), fun p7 n7 => ?_⟩
      have s7 := same_upd n7 (o := .tup [v2, .ref p6])
      have e7 : (upd H6 p7 (.tup [v2, .ref p6])) p7 = some (.tup [v2, .ref p6]) := upd_same
      have a7 := (h5.same s6).fresh n7
      generalize upd H6 p7 (.tup [v2, .ref p6]) = H7 at s7 e7 ⊢
      refine ⟨(by show 10 ≤ sizeLine; decide), fun L nL => ?_⟩
      have s8 := same_upd nL (o := .lst [.non, .bl true, .int 0, .str "", .str "de", .ref p1, .ref p2, .ref p3, v1, .ref p7])
      have eL : (upd H7 L (.lst [.non, .bl true, .int 0, .str "", .str "de", .ref p1, .ref p2, .ref p3, v1, .ref p7])) L = some (.lst [.non, .bl true, .int 0, .str "", .str "de", .ref p1, .ref p2, .ref p3, v1, .ref p7]) := upd_same
      have aL := ((h5.same s6).same s7).fresh nL
      generalize upd H7 L (.lst [.non, .bl true, .int 0, .str "", .str "de", .ref p1, .ref p2, .ref p3, v1, .ref p7]) = H8 at s8 eL ⊢
      have h8 := ((h5.same s6).same s7).same s8
      have s68 := s7.trans s8
      have b58 := Same.but (s6.trans s68) h
      have b8 := b05.trans b58
      have b48 : But h H3 H8 := b4.trans (b5.trans b58)
      refine ⟨L, _, rfl, eL, aL, by simp, by show 10 ≤ 20; decide, ?_, h8.mono (by omega), b8⟩
      obtain ⟨m1, hm1, hv1⟩ := nma.mem mv1
      obtain ⟨m2, hm2, hv2⟩ := nma.mem mv2
      obtain ⟨z1, g1⟩ := nmG (Hx := H8) (fun b ys e nb => b8 _ _ nb e) hm1 hv1
      obtain ⟨z2, g2⟩ := nmG (Hx := H8) (fun b ys e nb => b8 _ _ nb e) hm2 hv2
      have f1 := off_at a1 (b48 _ _ a1 (s3 _ _ (s2 _ _ e1)))
      have f2 := off_at a2 (b48 _ _ a2 (s3 _ _ e2))
      have f3 := off_at a3 (b48 _ _ a3 e3)
      have f6 := off_at a6 (s68 _ _ e6)
      have f7 := off_at a7 (s8 _ _ e7)
      have w5 := wt_pos d
      intro z hz
      simp only [List.mem_cons, List.not_mem_nil, or_false] at hz
      rcases hz with rfl | rfl | rfl | rfl | rfl | rfl | rfl | rfl | rfl | rfl
      · exact ⟨.none, .non, trivial, by simp only [wt]; omega, by simp [dt]⟩
      · exact ⟨.bool true, .bl true, trivial, by simp only [wt]; omega, by simp [dt]⟩
      · exact ⟨.int 0, .int 0, trivial, by simp only [wt]; omega, by simp [dt]⟩
      · exact ⟨.str "", .str "", ok_e, by simp only [wt]; omega, by simp [dt]⟩
      · exact ⟨.str "de", .str "de", ok_de, by simp only [wt]; omega, by simp [dt]⟩
      · exact ⟨.tuple [], .tup f1 .nil, (by simp [gd, gds]), by simp only [wt, wts]; omega, by simp only [dt, dts]; omega⟩
      · exact ⟨.list [], .lst f2 ne2 .nil, trivial, by simp only [wt]; omega, by simp [dt]⟩
      · exact ⟨.dict [], .dct f3 .nil, trivial, by simp only [wt]; omega, by simp [dt]⟩
      · exact ⟨nD m1, z1, g1, by simp only [nD, wt, wts]; omega, by simp only [nD, dt, dts]; omega⟩
      · exact ⟨.tuple [nD m2, .tuple []], .tup f7 (.cons z2 (.cons (.tup f6 .nil) .nil)), (by simp only [gd, gds]; exact ⟨g2, trivial, trivial⟩), by simp only [nD, wt, wts]; omega, by simp only [nD, dt, dts]; omega⟩
    rintro σ H1 ⟨L, zs, rfl, eL, Lh, zne, zl, az, h1, b1⟩
    refine ⟨fun σ Hx => ∃ (L : Addr) (zs : List V), σ = [some (.ref h), some v, some (.ref A), some (.ref L)] ∧ Hx L = some (.lst zs) ∧ L ≠ h ∧ zs ≠ [] ∧ zs.length ≤ 30 ∧ (∀ z ∈ zs, Gt K (del Hx h) (wt d + 5) (dt d + 2) z) ∧ Hand (n + 2) Hx h ∧ But h H Hx, ?_, ?_⟩
    · have hz1 : Dz K (del H1 h) v d := hz.same (off_but b1)
      refine ⟨_, rfl, _, _, _, _, isStr d, rfl, .ty _, (hz1.same off_all).ty, z_str d, _, rfl, ?_⟩
      cases d with
      | str x =>
        obtain rfl : v = .str x := by cases hz; rfl
        refine iteT ?_
        have lx := txs x rfl
        have ax : As x := by rw [gd] at hg; exact hg.2
        have fit : ∀ {y z : Str}, y.length + z.length ≤ 150 → y.length + z.length ≤ sizeLine := fun h => Nat.le_trans h (by decide)
        have la : ("a" : Str).length = 1 := by decide +kernel
        have lb : (" " : Str).length = 1 := by decide +kernel
        have lba : ("  a" : Str).length = 3 := by decide +kernel
        have lc : ("," : Str).length = 1 := by decide +kernel
        refine ⟨_, rfl, x, "a", rfl, rfl, fit (by omega), _, rfl, x, " ", rfl, rfl, fit (by omega), _, rfl, " ", x, rfl, rfl, fit (by omega), _, rfl, 1, rfl, x, rfl, Nat.le_trans lx (by decide), _, rfl, x, "  a", rfl, rfl, fit (by omega), _, rfl, x, ",", rfl, rfl, fit (by omega), rfl, rfl, fun z41 l41 c41 => ⟨(by show 8 ≤ sizeLine; decide), fun L2' nL2 => ?_⟩⟩
        have sL := same_upd nL2 (o := .lst [.str (x ++ "a"), .str (x ++ " "), .str (" " ++ x), .str (cutS x (some 1) none), .str (x ++ "  a"), .str (x ++ ","), .str z41, .int 3])
        refine ⟨L2', _, rfl, upd_same, h1.fresh nL2, by simp, by show 8 ≤ 30; decide, ?_, h1.same sL, b1.trans (Same.but sL h)⟩
        have S : ∀ {y : Str} {G : Hp}, y.length ≤ 200 → As y → Gt K G (wt (.str x) + 5) (dt (.str x) + 2) (.str y) := fun {y G} l a => ⟨.str y, .str y, (by rw [gd]; exact ⟨l, a⟩), by simp only [wt]; omega, by simp [dt]⟩
        have aa : As "a" := by unfold As; decide +kernel
        have ab : As " " := by unfold As; decide +kernel
        have aba : As "  a" := by unfold As; decide +kernel
        have ac : As "," := by unfold As; decide +kernel
        intro z hzz
        simp only [List.mem_cons, List.not_mem_nil, or_false] at hzz
        rcases hzz with rfl | rfl | rfl | rfl | rfl | rfl | rfl | rfl
        · exact S (by rw [strLen_append]; omega) (ax.app aa)
        · exact S (by rw [strLen_append]; omega) (ax.app ab)
        · exact S (by rw [strLen_append]; omega) (ab.app ax)
        · exact S (Nat.le_trans (cutS_le x _ _) (by omega)) (fun c hc => ax c (cutS_mem x _ _ c hc))
        · exact S (by rw [strLen_append]; omega) (ax.app aba)
        · exact S (by rw [strLen_append]; omega) (ax.app ac)
        · exact S (by omega) (fun c hc => by rw [c41 c hc]; decide)
        · exact ⟨.int 3, .int 3, trivial, by simp only [wt]; omega, by simp [dt]⟩
      | tuple ds =>
        refine iteF ⟨_, rfl, _, _, _, _, true, rfl, .ty _, (hz1.same off_all).ty, z_tup _, _, rfl, iteT ?_⟩
        obtain ⟨t, ys, rfl, et, ry⟩ : ∃ (t : Addr) (ys : List V), v = .ref t ∧ (del H h) t = some (.tup ys) ∧ DzAll K (del H h) ys ds := by
          cases hz with
          | tup e r => exact ⟨_, _, rfl, e, r⟩
        have etH : H t = some (.tup ys) := off_all _ _ et
        have th := hh.ne_tup (K := K) etH
        have et1 := b1 _ _ th etH
        have ly := dz_len ry
        have lw := len_wts ds
        have wd : wt (.tuple ds) = wts ds + 1 := by rw [wt]
        have dd : dt (.tuple ds) = dts ds + 1 := by rw [dt]
        have gs : gds ds := by rw [gd] at hg; exact hg
        rw [wd] at hw
        refine ⟨_, rfl, _, rfl, t, ys, rfl, SqT.of et1, fun q1 nq1 ne1 => ?_⟩
        have s2 := same_upd nq1 (o := .lst ys)
        have e2 : (upd H1 q1 (.lst ys)) q1 = some (.lst ys) := upd_same
        have a2 := h1.fresh nq1
        generalize upd H1 q1 (.lst ys) = H2 at s2 e2 ⊢
        refine ⟨_, rfl, (by show 1 ≤ sizeLine; decide), fun q2 nq2 => ?_⟩
        have s3 := same_upd nq2 (o := .tup [.ref t])
        have e3 : (upd H2 q2 (.tup [.ref t])) q2 = some (.tup [.ref t]) := upd_same
        have a3 := (h1.same s2).fresh nq2
        generalize upd H2 q2 (.tup [.ref t]) = H3 at s3 e3 ⊢
        have h3 := (h1.same s2).same s3
        refine ⟨_, rfl, t, ys, rfl, s3 _ _ (s2 _ _ et1), fun q3 H4 s4 e4 => ?_⟩
        have h4 := h3.same s4
        have s14 := (s2.trans s3).trans s4
        refine ⟨_, rfl, (by show 1 ≤ sizeLine; decide), fun q4 nq4 => ?_⟩
        have s5 := same_upd nq4 (o := .tup [.non])
        have e5 : (upd H4 q4 (.tup [.non])) q4 = some (.tup [.non]) := upd_same
        generalize upd H4 q4 (.tup [.non]) = H5 at s5 e5 ⊢
        refine ⟨t, q4, ys, _, rfl, rfl, s5 _ _ (s14 _ _ et1), e5, Nat.le_trans (show ys.length + 1 ≤ 3001 by omega) (by decide), fun q5 H6 s6 e6 => ?_⟩
        have h6 := (h4.same s5).same s6
        refine ⟨(by show 4 ≤ sizeLine; decide), fun q6 nq6 => ?_⟩
        have s7 := same_upd nq6 (o := .lst [.ref q1, .ref q2, .ref q3, .ref q5])
        have e7 : (upd H6 q6 (.lst [.ref q1, .ref q2, .ref q3, .ref q5])) q6 = some (.lst [.ref q1, .ref q2, .ref q3, .ref q5]) := upd_same
        generalize upd H6 q6 (.lst [.ref q1, .ref q2, .ref q3, .ref q5]) = H7 at s7 e7 ⊢
        have h7 := h6.same s7
        have s46 := s5.trans s6
        have s17 := (s14.trans s46).trans s7
        refine ⟨L, q6, zs, _, rfl, rfl, s17 _ _ eL, e7, Nat.le_trans (show zs.length + 4 ≤ 100 by omega) (by decide), fun q8 nq8 => ?_⟩
        have s8 := same_upd nq8 (o := .lst (zs ++ [.ref q1, .ref q2, .ref q3, .ref q5]))
        have s18 := s17.trans s8
        have s68 := s7.trans s8
        have h8 := h7.same s8
        have b8 := b1.trans (Same.but s18 h)
        refine ⟨q8, _, rfl, upd_same, h7.fresh nq8, by simp, by rw [List.length_append]; show zs.length + 4 ≤ 30; omega, fun z hzz => ?_, h8, b8⟩
        have sD := off_but (h := h) (Same.but s18 h)
        have ry8 := ry.same (off_but b8)
        rcases List.mem_append.mp hzz with w | w
        · exact (az z w).same sD
        · have f2 := off_at a2 ((((s3.trans s4).trans s46).trans s68) _ _ e2)
          have f3 := off_at a3 (((s4.trans s46).trans s68) _ _ e3)
          have f4 := off_at (h4.ne_tup (K := K) e4) ((s46.trans s68) _ _ e4)
          have f6 := off_at (h6.ne_tup (K := K) e6) (s68 _ _ e6)
          have ft := off_at th (b8 _ _ th etH)
          simp only [List.mem_cons, List.not_mem_nil, or_false] at w
          rcases w with rfl | rfl | rfl | rfl
          · exact ⟨.list ds, .lst f2 ne1 ry8, trivial, by simp only [wt]; omega, by simp [dt]⟩
          · exact ⟨.tuple [.tuple ds], .tup f3 (.cons (.tup ft ry8) .nil), (by simp only [gd, gds]; exact ⟨gs, trivial⟩), by simp only [wt, wts]; omega, by simp only [dt, dts]; omega⟩
          · refine ⟨.tuple ds.reverse, .tup f4 (dz_rev ry8), (by rw [gd, gds_iff]; exact fun e he => gds_iff.mp gs e (List.mem_reverse.mp he)), by rw [wt, wts_rev, wd]; omega, by rw [dt, dts_rev, dd]; omega⟩
          · refine ⟨.tuple (ds ++ [.none]), .tup f6 (dz_app ry8 (.cons .non .nil)), (by rw [gd, gds_app]; exact ⟨gs, by simp [gds, gd]⟩), by rw [wt, wts_app, wd]; simp only [wts, wt]; omega, by rw [dt, dts_app, dd]; simp only [dts, dt]; omega⟩
      | _ => exact iteF ⟨_, rfl, _, _, _, _, false, rfl, .ty _, (hz1.same off_all).ty, z_tup _, _, rfl, iteF ⟨L, zs, rfl, eL, Lh, zne, by omega, az, h1, b1⟩⟩
    rintro σ H2 ⟨L, zs, rfl, eL, Lh, zne, zl, az, h2, b2⟩
    refine ⟨_, rfl, _, rfl, h, n + 2, _, rfl, h2, by show n + 2 ≤ 1000000; omega, .inl ⟨L, _, rfl, eL, Lh, zne, by omega, fun v' H3 mv h3 b3 => ?_⟩⟩
    obtain ⟨d', z', g', w', t'⟩ := az v' mv
    exact q v' d' H3 (z'.same (off_but b3)) g' w' t' (h3.mono (by omega)) (b2.trans b3)
end
end K37
set_option Elab.async false
set_option linter.all false
set_option maxRecDepth 100000
set_option maxHeartbeats 4000000
set_option pp.maxSteps 400
set_option pp.deepTerms false
namespace K37
open PySem PySem.Spec PyProof.Rows L2
open Xk Az W37
section
variable {P : Program} {w : World} {K : PySem.W.Frag} {mg : Str → Option Value} {base : Heap}
mutual
def tx : PyData → Prop
  | .str x => x.length ≤ 100
  | .tuple ds => txs ds
  | _ => True
def txs : List PyData → Prop
  | [] => True
  | d :: r => tx d ∧ txs r
end
theorem txs_mem : ∀ {ds : List PyData} {d : PyData}, txs ds → d ∈ ds → tx d
  | a :: r, d, h, m => by
    rw [txs] at h
    rcases List.mem_cons.mp m with z | z
    · rw [z]; exact h.1
    · exact txs_mem h.2 z
theorem dz_take {H : Hp} : ∀ (j : Nat) {xs : List V} {ds : List PyData}, DzAll K H xs ds → DzAll K H (xs.take j) (ds.take j)
  | 0, _, _, _ => by rw [List.take_zero, List.take_zero]; exact .nil
  | _ + 1, _, _, .nil => .nil
  | j + 1, _, _, .cons h r => .cons h (dz_take j r)
theorem dz_drop {H : Hp} : ∀ (j : Nat) {xs : List V} {ds : List PyData}, DzAll K H xs ds → DzAll K H (xs.drop j) (ds.drop j)
  | 0, _, _, h => h
  | _ + 1, _, _, .nil => .nil
  | j + 1, _, _, .cons _ r => dz_drop j r
theorem wts_at (ds : List PyData) (j : Nat) (e : PyData) (h : ds[j]? = some e) : wts (ds.take j) + wt e + wts (ds.drop (j + 1)) = wts ds := by
  obtain ⟨hj, he⟩ := List.getElem?_eq_some_iff.mp h
  have q : ds = ds.take j ++ e :: ds.drop (j + 1) := by
    rw [← he]
    exact (List.take_append_drop j ds).symm.trans (by rw [List.drop_eq_getElem_cons hj])
  conv => rhs; rw [q]
  rw [wts_app, wts]
  omega
theorem wts_drop : ∀ (i : Nat) (ps : List PyData), wts (ps.drop i) ≤ wts ps
  | 0, ps => by rw [List.drop_zero]; omega
  | _ + 1, [] => by simp
  | i + 1, d :: r => by
    rw [List.drop_succ_cons, wts]
    have := wts_drop i r
    omega
theorem wts_split (ds : List PyData) (j : Nat) : wts (ds.take j) + wts (ds.drop j) = wts ds := by
  conv => rhs; rw [← List.take_append_drop j ds]
  rw [wts_app]
theorem cutV_one (ys : List V) (j : Nat) (h : j < ys.length) : cutV ys (some (j : Int)) (some ((j + 1 : Nat) : Int)) = [ys[j]] := by
  unfold cutV
  rw [HT.sIx_nat, HT.sIx_nat, Nat.min_eq_left (by omega), Nat.min_eq_left (by omega), show j + 1 - j = 1 by omega, List.drop_eq_getElem_cons h]
  rfl
def spOther (K : PySem.W.Frag) (k : Nat) : Sp := fun vs H Q _ => ∃ (h : Addr) (n : Int) (v : V) (d : PyData) (A : Addr) (xa : List V) (na : List Nm), vs = [.ref h, v, .ref A] ∧ Dz K (del H h) v d ∧ gd d ∧ tx d ∧ wt d ≤ 1000 ∧ dt d ≤ k ∧ H A = some (.lst xa) ∧ A ≠ h ∧ NmL H xa na ∧ na ≠ [] ∧ na.length ≤ 100 ∧ (∀ m ∈ na, Gn' m) ∧ Hand n H h ∧ n + 20 * ((k : Int) + 2) ≤ far ∧
  ∀ v' d' H', Dz K (del H' h) v' d' → gd d' → wt d' ≤ wt d + 1010 → Hand (n + 20 * ((k : Int) + 2)) H' h → But h H H' → Q v' H'
def spOtherB (K : PySem.W.Frag) : Nat → Sp
  | 0 => fun _ _ _ _ => False
  | k + 1 => spOther K k
theorem ok_other {f : Addr} {fd : FuncData} {k : Nat} (D : Df K mg "_law_otherwise" ["_law_hand_here", "_law_thing", "_law_names_here"] sOtherwise f fd) (T : Txt mg) (cT : Ca P w K mg base 1 "_law_take" ["_law_hand_here", "_law_many"] spTake) (cOd : Ca P w K mg base 3 "_law_odd" ["_law_hand_here", "_law_thing", "_law_names_here"] (spOdd K)) (cOB : Ca P w K mg base (k + 3) "_law_otherwise" ["_law_hand_here", "_law_thing", "_law_names_here"] (spOtherB K k)) : FnOk P w K mg base CX0 (k + 4) f fd ["_law_hand_here", "_law_thing", "_law_names_here"] (spOther K k) := by
  refine D.fn.ok scOtherwise (fun vs H Q E h => ?_) (fun cdv A outer s H vs Q E hr h => ?_)
  · obtain ⟨h, n, v, d, A, xa, na, rfl, hz, hg, ht, hw, hk, eA, Ah, nma, nne, nl, gna, hh, hn, q⟩ := h
    rfl
  · obtain ⟨h, n, v, d, A, xa, na, rfl, hz, hg, ht, hw, hk, eA, Ah, nma, nne, nl, gna, hh, hn, q⟩ := h
    refine ⟨_, (C8.pss_cut (ps_if (PW.pt (pw_and (pt_val (pe_callB call_isi (by rfl) T.isi (by decide +kernel) (pa_cons (pv 1) (pa_cons (pe_bltn (v := .ty "tuple") (by rfl) T.tuple (by decide +kernel) rfl) pa_nil)))) (pw_and (pt_cmpR op_gt (pe_callB call_len_seq (by rfl) T.len PySem.boot_len (pa_cons (pv 1) pa_nil)) pe_int (nomark _)) (pw_and1 (pt_cmpR op_gt (pe_ca cT hr (by omega) (by rfl) (pa_cons (pv 0) (pa_cons pe_int pa_nil))) pe_int (nomark _)))))) (pss_cons (ps_set (i := 3) scOtherwise.nd rfl (.inl rfl) (pe_ca cT hr (by omega) (by rfl) (pa_cons (pv 0) (pa_cons (pe_callB call_len_seq (by rfl) T.len PySem.boot_len (pa_cons (pv 1) pa_nil)) pa_nil))))
      (pss_one (ps_ret (pe_op Xtu.op_catU (pe_op Xtu.op_catU (pe_slice Xtu.sl_tupU (pv 1) po_none (po_some (pv 3))) (pe_tup (pa_cons (pe_ca cOB hr (by omega) (by rfl) (pa_cons (pv 0) (pa_cons (pe_ix ix_tup (pv 1) (pv 3) (fun _ _ => rfl)) (pa_cons (pv 2) pa_nil)))) pa_nil))) (pe_slice Xtu.sl_tupU (pv 1) (po_some (pe_op op_add (pv 3) pe_int)) po_none))))) pss_nil)
      (pss_cons (ps_set (i := 4) scOtherwise.nd rfl (.inl rfl) (pe_ca cT hr (by omega) (by rfl) (pa_cons (pv 0) (pa_cons pe_int pa_nil))))
      (pss_cons (ps_if (PW.pt (pw_or (pt_not (pt_val (pe_callB call_isi (by rfl) T.isi (by decide +kernel) (pa_cons (pv 1) (pa_cons (pe_bltn (v := .ty "tuple") (by rfl) T.tuple (by decide +kernel) rfl) pa_nil))))) (pw_or (pt_cmpR op_eq (pe_callB call_len_seq (by rfl) T.len PySem.boot_len (pa_cons (pv 1) pa_nil)) pe_int (nomark _)) (pw_or1 (pt_cmpR op_eq (pv 4) pe_int (nomark _)))))) (pss_one (ps_ret (pe_ca cOd hr (by omega) (by rfl) (pa_cons (pv 0) (pa_cons (pv 1) (pa_cons (pv 2) pa_nil)))))) pss_nil)
      (pss_cons (ps_set (i := 3) scOtherwise.nd rfl (.inl rfl) (pe_ca cT hr (by omega) (by rfl) (pa_cons (pv 0) (pa_cons (pe_callB call_len_seq (by rfl) T.len PySem.boot_len (pa_cons (pv 1) pa_nil)) pa_nil))))
      (pss_cons (ps_if (pt_cmpR op_eq (pv 4) pe_int (nomark _)) (pss_one (ps_ret (pe_op Xtu.op_catU (pe_slice Xtu.sl_tupU (pv 1) po_none (po_some (pv 3))) (pe_slice Xtu.sl_tupU (pv 1) (po_some (pe_op op_add (pv 3) pe_int)) po_none)))) pss_nil)
      (pss_one (ps_ret (pe_op Xtu.op_catU (pe_op Xtu.op_catU (pe_slice Xtu.sl_tupU (pv 1) po_none (po_some (pv 3))) (pe_ix ix_list (pe_lst (pa_cons (pe_slice Xtu.sl_tupU (pv 1) (po_some (pv 3)) (po_some (pe_op op_add (pv 3) pe_int))) (pa_cons (pe_tup (pa_cons (pe_ca cOd hr (by omega) (by rfl) (pa_cons (pv 0) (pa_cons (pe_ix ix_tup (pv 1) (pv 3) (fun _ _ => rfl)) (pa_cons (pv 2) pa_nil)))) pa_nil)) pa_nil))) (pe_op op_sub (pv 4) pe_int) (fun _ _ => rfl))) (pe_slice Xtu.sl_tupU (pv 1) (po_some (pv 3)) po_none))))))))), ?_⟩
    have fr : n + 20 * ((k : Int) + 2) ≤ 1000000 := hn
    have odd : ∀ (H1 : Hp) (m1 : Int) (u : V) (e : PyData), But h H H1 → Hand m1 H1 h → m1 ≤ n + 5 → Dz K (del H1 h) u e → gd e → tx e → wt e ≤ 1000 → ∀ Q' : VK, (∀ v' d' H', Dz K (del H' h) v' d' → gd d' → wt d' ≤ wt e + 5 → Hand (m1 + 3) H' h → But h H1 H' → Q' v' H') → spOdd K [.ref h, u, .ref A] H1 Q' E0 := fun H1 m1 u e b1 h1 l1 z g t w Q' qq =>
      ⟨h, m1, u, e, A, xa, na, rfl, z, g, (fun x ex => by subst ex; rw [tx] at t; exact t), by omega, b1 _ _ Ah eA, Ah, nma.tp (fun c ys e => b1 c _ (hh.ne_tup (K := K) e) e), nne, nl, gna, h1, by show m1 + 10 ≤ 1000000; omega, fun v' d' H' z' g' w' _ h' b' => qq v' d' H' z' g' w' h' b'⟩
    have fits : ∀ {ys zs : List V}, ys.length ≤ 1010 → zs.length ≤ 1010 → ys.length + zs.length ≤ sizeLine := fun {ys zs} h1 h2 => Nat.le_trans (show ys.length + zs.length ≤ 2020 by omega) (by decide)
    refine ⟨fun σ Hx => σ = [some (.ref h), some v, some (.ref A), none, none] ∧ Hand (n + 1) Hx h ∧ But h H Hx, ?_, ?_⟩
    · refine ⟨_, rfl, _, _, _, _, isTup d, rfl, .ty _, (hz.same off_all).ty, z_tup d, _, rfl, ?_⟩
      cases hz with
      | @tup t ys ds et ra =>
        have etH : H t = some (.tup ys) := off_all _ _ et
        have th := hh.ne_tup (K := K) etH
        have ly := dz_len ra
        have lw := len_wts ds
        have wd : wt (.tuple ds) = wts ds + 1 := by rw [wt]
        have gs : gds ds := by rw [gd] at hg; exact hg
        have ts : txs ds := by rw [tx] at ht; exact ht
        rw [wd] at hw
        refine iteT ⟨_, rfl, t, ys, rfl, .inr (SqT.of etH), _, 0, rfl, rfl, _, rfl, ite2 (fun e => ?_) (fun _ => ⟨rfl, hh.mono (by omega), But.refl _ _⟩)⟩
        have ypos : 0 < ys.length := by
          have : (ys.length : Int) > 0 := of_decide_eq_true e
          omega
        refine ⟨_, rfl, h, 6, n, rfl, by decide, by decide, hh, by show n ≤ 1000000; omega, fun c0 H1 c1 c2 h1 b1 => ⟨c0, 0, rfl, rfl, _, rfl, ite2 (fun _ => ?_) (fun _ => ⟨rfl, h1, b1⟩)⟩⟩
        have et1 := b1 _ _ th etH
        refine ⟨_, rfl, _, rfl, t, ys, rfl, .inr (SqT.of et1), h, (ys.length : Int), n + 1, rfl, by omega, lt30i (by omega), h1, by show n + 1 ≤ 1000000; omega, fun c H2 d0 d1 h2 b2 => ?_⟩
        obtain ⟨j, rfl⟩ : ∃ j : Nat, c = (j : Int) := ⟨c.toNat, by omega⟩
        have hj : j < ys.length := by omega
        have b02 := b1.trans b2
        refine ⟨_, rfl, _, rfl, (j : Int), rfl, t, ys, rfl, b02 _ _ th etH, fun p1 H3 s3 e3 => ?_⟩
        rw [cutV_take] at e3
        have b03 := b02.trans (Same.but s3 h)
        have h3 := h2.same s3
        obtain ⟨e, ee, ze⟩ := dz_get ra (List.getElem?_eq_getElem hj)
        have me := List.mem_of_getElem? ee
        have dts1 : dt (.tuple ds) = dts ds + 1 := by rw [dt]
        have de := dts_mem me
        cases k with
        | zero => omega
        | succ k =>
        refine ⟨_, rfl, _, rfl, _, rfl, t, ys, _, ys[j], rfl, rfl, SqT.of (b03 _ _ th etH), atI_nat (List.getElem?_eq_getElem hj), _, rfl, ?_⟩
        have we := wts_mem me
        refine ⟨h, n + 2, ys[j], e, A, xa, na, rfl, ze.same (off_but b03), gds_iff.mp gs e me, txs_mem ts me, by omega, by omega, b03 _ _ Ah eA, Ah, nma.tp (fun c ys e => b03 c _ (hh.ne_tup (K := K) e) e), nne, nl, gna, h3.mono (by omega), (by show n + 2 + 20 * ((k : Int) + 2) ≤ 1000000; omega), fun v' d' H4 z' g' w' h4 b4 => ?_⟩
        refine ⟨(by show 1 ≤ sizeLine; decide), fun p2 np2 => ?_⟩
        have s5 := same_upd np2 (o := .tup [v'])
        have p1h := h3.ne_tup (K := K) e3
        refine ⟨p1, p2, _, _, rfl, rfl, s5 _ _ (b4 _ _ p1h e3), upd_same, fits (by rw [List.length_take]; omega) (by show 1 ≤ 1010; decide), fun p3 H6 s6 e6 => ?_⟩
        have b06 : But h H H6 := (b03.trans b4).trans (Same.but (s5.trans s6) h)
        refine ⟨_, rfl, _, rfl, (j : Int), 1, rfl, rfl, _, rfl, t, ys, rfl, b06 _ _ th etH, fun p4 H7 s7 e7 => ?_⟩
        rw [show (j : Int) + 1 = ((j + 1 : Nat) : Int) by omega, cutV_drop ys (j + 1) (by omega)] at e7
        refine ⟨p3, p4, _, _, rfl, rfl, s7 _ _ e6, e7, fits (by rw [List.length_append, List.length_take]; show _ + 1 ≤ 1010; omega) (by rw [List.length_drop]; omega), fun p5 H8 s8 e8 => ?_⟩
        have sA := ((s5.trans s6).trans s7).trans s8
        have h8 := h4.same sA
        have b08 : But h H H8 := (b03.trans b4).trans (Same.but sA h)
        have ra8 := ra.same (off_but b08)
        have wj := wts_at ds j e ee
        refine q (.ref p5) (.tuple (ds.take j ++ [d'] ++ ds.drop (j + 1))) H8 (.tup (off_at (h8.ne_tup (K := K) e8) e8) (dz_app (dz_app (dz_take j ra8) (.cons (z'.same (off_but (Same.but sA h))) .nil)) (dz_drop (j + 1) ra8))) ?_ ?_ (h8.mono ?_) b08
        · rw [gd, gds_app, gds_app]
          exact ⟨⟨gds_iff.mpr fun u hu => gds_iff.mp gs u (List.mem_of_mem_take hu), by simp only [gds]; exact ⟨g', trivial⟩⟩, gds_iff.mpr fun u hu => gds_iff.mp gs u (List.mem_of_mem_drop hu)⟩
        · rw [wt, wts_app, wts_app, wd]
          simp only [wts]
          omega
        · show n + 2 + 20 * ((k : Int) + 2) ≤ n + 20 * (((k + 1 : Nat) : Int) + 2)
          omega
      | _ => exact iteF ⟨rfl, hh.mono (by omega), But.refl _ _⟩
    rintro σ H1 ⟨rfl, h1, b1⟩
    refine ⟨_, rfl, h, 4, n + 1, rfl, by decide, by decide, h1, by show n + 1 ≤ 1000000; omega, fun w H2 w0 w1 h2 b2' => ?_⟩
    have b2 := b1.trans b2'
    have b2z : Dz K (del H2 h) v d := hz.same (off_but b2)
    have goOdd : ∀ (Q' : VK), (∀ v' H', Q v' H' → Q' v' H') → spOdd K [.ref h, v, .ref A] H2 Q' E0 := fun Q' imp =>
      odd H2 (n + 2) v d b2 (h2.mono (by omega)) (by omega) b2z hg ht hw Q' (fun v' d' H' z' g' w' h' b' => imp _ _ (q v' d' H' z' g' (by omega) (h'.mono (by omega)) (b2.trans b')))
    refine ⟨_, rfl, _, _, _, _, isTup d, rfl, .ty _, (b2z.same off_all).ty, z_tup d, _, rfl, ?_⟩
    cases hz with
    | @tup t ys ds et ra =>
      have etH : H t = some (.tup ys) := off_all _ _ et
      have th := hh.ne_tup (K := K) etH
      have ly := dz_len ra
      have lw := len_wts ds
      have wd : wt (.tuple ds) = wts ds + 1 := by rw [wt]
      have gs : gds ds := by rw [gd] at hg; exact hg
      have ts : txs ds := by rw [tx] at ht; exact ht
      rw [wd] at hw
      have et2 := b2 _ _ th etH
      refine iteF ⟨_, rfl, t, ys, rfl, .inr (SqT.of et2), rfl, _, rfl, ite2 (fun _ => ?_) (fun e1 => ?_)⟩
      · exact ⟨_, rfl, _, rfl, _, rfl, goOdd _ (fun _ _ z => z)⟩
      have ypos : 0 < ys.length := by
        rcases Nat.eq_zero_or_pos ys.length with z | z
        · exact absurd (decide_eq_true (by rw [z]; rfl)) e1
        · exact z
      refine ⟨_, rfl, rfl, _, rfl, ite2 (fun _ => ?_) (fun e2 => ?_)⟩
      · exact ⟨_, rfl, _, rfl, _, rfl, goOdd _ (fun _ _ z => z)⟩
      have w2 : 1 ≤ w := by
        rcases Int.lt_or_le 0 w with z | z
        · exact z
        · exact absurd (decide_eq_true (by rw [show w = 0 by omega])) e2
      refine ⟨_, rfl, _, rfl, t, ys, rfl, .inr (SqT.of et2), h, (ys.length : Int), n + 2, rfl, by omega, lt30i (by omega), h2.mono (by omega), by show n + 2 ≤ 1000000; omega, fun c H3 d0 d1 h3 b3' => ?_⟩
      have b3 := b2.trans b3'
      obtain ⟨j, rfl⟩ : ∃ j : Nat, c = (j : Int) := ⟨c.toNat, by omega⟩
      have hj : j < ys.length := by omega
      have et3 := b3 _ _ th etH
      obtain ⟨e, ee, ze⟩ := dz_get ra (List.getElem?_eq_getElem hj)
      have me := List.mem_of_getElem? ee
      have we := wts_mem me
      have wj := wts_at ds j e ee
      have wtk := wts_take j ds
      have wdr := wts_drop j ds
      have gtk : gds (ds.take j) := gds_iff.mpr fun u hu => gds_iff.mp gs u (List.mem_of_mem_take hu)
      have gdr : ∀ i, gds (ds.drop i) := fun i => gds_iff.mpr fun u hu => gds_iff.mp gs u (List.mem_of_mem_drop hu)
      refine ⟨_, rfl, rfl, _, rfl, ite2 (fun _ => ?_) (fun e3 => ?_)⟩
      · refine ⟨_, rfl, _, rfl, (j : Int), rfl, t, ys, rfl, et3, fun p1 H4 s4 e4 => ?_⟩
        rw [cutV_take] at e4
        refine ⟨_, rfl, _, rfl, (j : Int), 1, rfl, rfl, _, rfl, t, ys, rfl, s4 _ _ et3, fun p2 H5 s5 e5 => ?_⟩
        rw [show (j : Int) + 1 = ((j + 1 : Nat) : Int) by omega, cutV_drop ys (j + 1) (by omega)] at e5
        refine ⟨p1, p2, _, _, rfl, rfl, s5 _ _ e4, e5, fits (by rw [List.length_take]; omega) (by rw [List.length_drop]; omega), fun p3 H6 s6 e6 => ?_⟩
        have sA := (s4.trans s5).trans s6
        have h6 := h3.same sA
        have b6 := b3.trans (Same.but sA h)
        have ra6 := ra.same (off_but b6)
        refine q (.ref p3) (.tuple (ds.take j ++ ds.drop (j + 1))) H6 (.tup (off_at (h6.ne_tup (K := K) e6) e6) (dz_app (dz_take j ra6) (dz_drop (j + 1) ra6))) ?_ ?_ (h6.mono (by omega)) b6
        · rw [gd, gds_app]
          exact ⟨gtk, gdr _⟩
        · rw [wt, wts_app, wd]
          omega
      have w3 : w = 2 ∨ w = 3 := by
        rcases Int.lt_or_le 1 w with z | z
        · omega
        · exact absurd (decide_eq_true (by rw [show w = 1 by omega])) e3
      refine ⟨_, rfl, _, rfl, (j : Int), rfl, t, ys, rfl, et3, fun p1 H4 s4 e4 => ?_⟩
      rw [cutV_take] at e4
      refine ⟨_, rfl, _, rfl, (j : Int), rfl, _, rfl, (j : Int), 1, rfl, rfl, _, rfl, t, ys, rfl, s4 _ _ et3, fun p2 H5 s5 e5 => ?_⟩
      have s45 := s4.trans s5
      have b5 := b3.trans (Same.but s45 h)
      have h5 := h3.same s45
      refine ⟨_, rfl, _, rfl, _, rfl, t, ys, _, ys[j], rfl, rfl, SqT.of (b5 _ _ th etH), atI_nat (List.getElem?_eq_getElem hj), _, rfl, ?_⟩
      refine odd H5 (n + 3) ys[j] e b5 (h5.mono (by omega)) (by omega) (ze.same (off_but b5)) (gds_iff.mp gs e me) (txs_mem ts me) (by omega) _ (fun v' d' H6 z' g' w' h6 b6 => ?_)
      have p1h : p1 ≠ h := (h3.same s4).ne_tup (K := K) e4
      have p2h : p2 ≠ h := h5.ne_tup (K := K) e5
      refine ⟨(by show 1 ≤ sizeLine; decide), fun p3 n3 => ?_⟩
      have s7 := same_upd n3 (o := .tup [v'])
      have e7 : (upd H6 p3 (.tup [v'])) p3 = some (.tup [v']) := upd_same
      generalize upd H6 p3 (.tup [v']) = H7 at s7 e7 ⊢
      refine ⟨(by show 2 ≤ sizeLine; decide), fun l nl => ?_⟩
      have s8 := same_upd nl (o := .lst [.ref p2, .ref p3])
      have e8 : (upd H7 l (.lst [.ref p2, .ref p3])) l = some (.lst [.ref p2, .ref p3]) := upd_same
      generalize upd H7 l (.lst [.ref p2, .ref p3]) = H8 at s8 e8 ⊢
      have s78 := s7.trans s8
      have h8 := h6.same s78
      have b58 := b6.trans (Same.but s78 h)
      have b8 := b5.trans b58
      obtain ⟨pv, zs, es, at', ep, rz, ge, we', lz⟩ : ∃ (pv : Addr) (zs : List V) (es : List PyData), atI [V.ref p2, .ref p3] (w - 2) = some (.ref pv) ∧ H8 pv = some (.tup zs) ∧ DzAll K (del H8 h) zs es ∧ gds es ∧ wts es ≤ wts ds + 5 ∧ zs.length ≤ 1 := by
        rcases w3 with rfl | rfl
        · refine ⟨p2, _, [e], atI_nat (j := 0) rfl, b58 _ _ p2h e5, ?_, ⟨gds_iff.mp gs e me, trivial⟩, by simp only [wts]; omega, ?_⟩
          · rw [show (j : Int) + 1 = ((j + 1 : Nat) : Int) by omega, cutV_one ys j hj]
            exact .cons (ze.same (off_but b8)) .nil
          · rw [show (j : Int) + 1 = ((j + 1 : Nat) : Int) by omega, cutV_one ys j hj]
            exact Nat.le_refl _
        · exact ⟨p3, [v'], [d'], atI_nat (j := 1) rfl, s8 _ _ e7, .cons (z'.same (off_but (Same.but s78 h))) .nil, ⟨g', trivial⟩, by simp only [wts]; omega, Nat.le_refl _⟩
      refine ⟨_, rfl, w, 2, rfl, rfl, l, _, _, .ref pv, rfl, rfl, SqL.of e8, at', ?_⟩
      refine ⟨p1, pv, _, _, rfl, rfl, b58 _ _ p1h (s5 _ _ e4), ep, fits (by rw [List.length_take]; omega) (by omega), fun p5 H9 s9 e9 => ?_⟩
      refine ⟨_, rfl, _, rfl, (j : Int), rfl, t, ys, rfl, s9 _ _ (b8 _ _ th etH), fun p6 HA sA eA' => ?_⟩
      rw [cutV_drop ys j (by omega)] at eA'
      refine ⟨p5, p6, _, _, rfl, rfl, sA _ _ e9, eA', fits (by rw [List.length_append, List.length_take]; omega) (by rw [List.length_drop]; omega), fun p7 HB sB eB => ?_⟩
      have s9B := (s9.trans sA).trans sB
      have hB := h8.same s9B
      have bB := b8.trans (Same.but s9B h)
      have raB := ra.same (off_but bB)
      have wdr' := wts_drop j ds
      refine q (.ref p7) (.tuple (ds.take j ++ es ++ ds.drop j)) HB (.tup (off_at (hB.ne_tup (K := K) eB) eB) (dz_app (dz_app (dz_take j raB) (rz.same (off_but (Same.but s9B h)))) (dz_drop j raB))) ?_ ?_ (hB.mono (by omega)) bB
      · rw [gd, gds_app, gds_app]
        exact ⟨⟨gtk, ge⟩, gdr _⟩
      · rw [wt, wts_app, wts_app, wd]
        have := wts_split ds j
        omega
    | _ => exact iteT ⟨_, rfl, _, rfl, _, rfl, goOdd _ (fun _ _ z => z)⟩
theorem other_fn {f : Addr} {fd : FuncData} (D : Df K mg "_law_otherwise" ["_law_hand_here", "_law_thing", "_law_names_here"] sOtherwise f fd) (T : Txt mg) (cT : Ca P w K mg base 1 "_law_take" ["_law_hand_here", "_law_many"] spTake) (cOd : Ca P w K mg base 3 "_law_odd" ["_law_hand_here", "_law_thing", "_law_names_here"] (spOdd K)) :
    ∀ k, FnOk P w K mg base CX0 (k + 4) f fd ["_law_hand_here", "_law_thing", "_law_names_here"] (spOther K k)
  | 0 => ok_other (k := 0) D T cT cOd (D.ca ⟨fun _ _ _ _ h => h.elim, fun _ _ _ _ _ _ _ _ _ _ _ _ _ h => h.elim⟩)
  | k + 1 => ok_other (k := k + 1) D T cT cOd (D.ca (other_fn D T cT cOd k))
end
end K37
set_option Elab.async false
set_option linter.all false
set_option maxRecDepth 100000
set_option maxHeartbeats 4000000
set_option pp.maxSteps 400
set_option pp.deepTerms false
namespace K37
open PySem PySem.Spec PyProof.Rows L2
open Xk Az W37
section
variable {P : Program} {w : World} {K : PySem.W.Frag} {mg : Str → Option Value} {base : Heap}
theorem gn_gd {m : Nm} (h : Gn' m) : gd (nD m) := by
  obtain ⟨g1, g2, g3, g4⟩ := h
  simp only [nD, gd, gds, Ok7]
  exact ⟨⟨by omega, g2⟩, ⟨by omega, g4⟩, trivial⟩
theorem gn_tx {m : Nm} (h : Gn' m) : tx (nD m) := by
  obtain ⟨g1, g2, g3, g4⟩ := h
  simp only [nD, tx, txs]
  exact ⟨by omega, by omega, trivial⟩
mutual
theorem wt_dat : ∀ w : W, wt w.dat = 5 * w.nms.length
  | .mk n ps => by
    rw [W.dat, W.nms, List.length_cons]
    simp only [wt, wts, nD]
    rw [wts_dat ps]
    omega
theorem wts_dat : ∀ ws : List W, wts (datL ws) = 5 * (nmsL ws).length
  | [] => by simp [datL, wts, nmsL]
  | w :: r => by
    rw [datL, wts, nmsL, List.length_append, wt_dat w, wts_dat r]
    omega
end
mutual
theorem dt_dat : ∀ w : W, dt w.dat ≤ 2 * w.dp
  | .mk n ps => by
    rw [W.dat, W.dp]
    simp only [dt, dts, nD]
    have := dts_dat ps
    omega
theorem dts_dat : ∀ ws : List W, dts (datL ws) ≤ 2 * dpL ws
  | [] => by simp [datL, dts]
  | w :: r => by
    rw [datL, dts, dpL]
    have := dt_dat w
    have := dts_dat r
    omega
end
mutual
theorem gd_dat : ∀ w : W, (∀ m ∈ w.nms, Gn' m) → gd w.dat
  | .mk n ps, h => by
    rw [W.nms] at h
    rw [W.dat, gd, gds, gds, gd]
    exact ⟨gn_gd (h n List.mem_cons_self), gds_dat ps (fun m hm => h m (List.mem_cons_of_mem _ hm)), trivial⟩
theorem gds_dat : ∀ ws : List W, (∀ m ∈ nmsL ws, Gn' m) → gds (datL ws)
  | [], _ => by rw [datL, gds]; trivial
  | w :: r, h => by
    rw [nmsL] at h
    rw [datL, gds]
    exact ⟨gd_dat w (fun m hm => h m (List.mem_append_left _ hm)), gds_dat r (fun m hm => h m (List.mem_append_right _ hm))⟩
end
mutual
theorem tx_dat : ∀ w : W, (∀ m ∈ w.nms, Gn' m) → tx w.dat
  | .mk n ps, h => by
    rw [W.nms] at h
    rw [W.dat, tx, txs, txs, tx]
    exact ⟨gn_tx (h n List.mem_cons_self), txs_dat ps (fun m hm => h m (List.mem_cons_of_mem _ hm)), trivial⟩
theorem txs_dat : ∀ ws : List W, (∀ m ∈ nmsL ws, Gn' m) → txs (datL ws)
  | [], _ => by rw [datL, txs]; trivial
  | w :: r, h => by
    rw [nmsL] at h
    rw [datL, txs]
    exact ⟨tx_dat w (fun m hm => h m (List.mem_append_left _ hm)), txs_dat r (fun m hm => h m (List.mem_append_right _ hm))⟩
end
theorem nms_pos (w : W) : 0 < w.nms.length := by
  cases w with
  | mk n ps => rw [W.nms, List.length_cons]; omega
def spChain (K : PySem.W.Frag) : Sp := fun vs H Q _ => ∃ (A : Addr) (xs : List V) (ns : List Nm) (mn : Nat), vs = [.ref A, .int (mn : Int)] ∧ H A = some (.lst xs) ∧ NmL H xs ns ∧ (∀ m ∈ ns, Gn' m) ∧ 1 ≤ mn ∧ mn ≤ ns.length ∧ mn ≤ 20 ∧
  ∀ v d H', (∀ G, Tp H' G → Dz K G v d) → gd d → wt d ≤ 200 → L2.Same H H' → Q v H'
def Gs (K : PySem.W.Frag) (H : Hp) (N : Nat) (v : V) : Prop := ∃ d, Dz K H v d ∧ gd d ∧ wt d ≤ N
theorem Gs.same {H H' : Hp} {N : Nat} {v : V} (h : Gs K H N v) (s : L2.Same H H') : Gs K H' N v := by
  obtain ⟨d, z, r⟩ := h
  exact ⟨d, z.same s, r⟩
theorem Gs.mono {H : Hp} {N N' : Nat} {v : V} (h : Gs K H N v) (n : N ≤ N') : Gs K H N' v := by
  obtain ⟨d, z, g, a⟩ := h
  exact ⟨d, z, g, Nat.le_trans a n⟩
theorem sameD {H : Hp} {D : Addr} {x : HO} (f : H D = none) : L2.Same H (del (upd H D x) D) := fun b o e => by
  rw [del_ne (ne_of_none e f), upd_ne (ne_of_none e f)]
  exact e
theorem Tp.refl (H : Hp) : Tp H H := fun _ _ e => e
def spLaw (K : PySem.W.Frag) : Sp := fun vs H Q _ => ∃ (a : Addr) (ns : List Int), vs = [.ref a] ∧ SqL K H a (ns.map V.int) ∧ ns.length ≤ 63 ∧ ∀ H', Q (.bl true) H'
theorem ok_chain {f : Addr} {fd : FuncData} (D : Df K mg "_law_chain" ["_law_names_here", "_law_many"] sChain f fd) (T : Txt mg) : FnOk P w K mg base CX0 1 f fd ["_law_names_here", "_law_many"] (spChain K) := by
  refine D.fn.ok scChain (fun vs H Q E h => ?_) (fun cdv A outer s H vs Q E hr h => ?_)
  · obtain ⟨A, xs, ns, mn, rfl, eA, nml, gn, m1, ml, m20, q⟩ := h
    rfl
  · obtain ⟨A, xs, ns, mn, rfl, eA, nml, gn, m1, ml, m20, q⟩ := h
    refine ⟨_, (pss_cons (ps_set (i := 2) scChain.nd rfl (.inl rfl) (pe_tup pa_nil))
      (pss_cons (ps_for PassesOwn.never rfl (pi_list (pe_slice sl_list (pv 0) po_none (po_some (pv 1)))) (pg_name (i := 3) scChain.nd rfl (.inl rfl)) (pss_one (ps_set (i := 2) scChain.nd rfl (.inl rfl) (pe_tup (pa_cons (pe_tup (pa_cons (pv 3) (pa_cons (pv 2) pa_nil))) pa_nil)))))
      (pss_one (ps_ret (pe_ix ix_tup (pv 2) pe_int (fun _ _ => rfl)))))), ?_⟩
    have lx := nml.len
    refine ⟨(by show 0 ≤ sizeLine; decide), fun t0 n0 => ?_⟩
    have s0 := same_upd n0 (o := .tup [])
    have e0 : (upd H t0 (.tup [])) t0 = some (.tup []) := upd_same
    generalize upd H t0 (.tup []) = H1 at s0 e0 ⊢
    refine ⟨_, rfl, _, rfl, (mn : Int), rfl, A, xs, rfl, SqL.of (s0 _ _ eA), fun F nF => ?_⟩
    rw [cutV_take]
    have sF := same_upd nF (o := .lst (xs.take mn))
    have eF : (upd H1 F (.lst (xs.take mn))) F = some (.lst (xs.take mn)) := upd_same
    generalize upd H1 F (.lst (xs.take mn)) = H2 at sF eF ⊢
    have ltk : (xs.take mn).length = mn := by rw [List.length_take]; omega
    have s02 := s0.trans sF
    refine ⟨F, rfl, ⟨_, SqL.of eF⟩, for_list (K := K) (a := F) (xs := xs.take mn) (fun i σ Hx => ∃ (t : Addr) (zs : List V) (ds : List PyData) (c3 : Option V), σ = [some (.ref A), some (.int (mn : Int)), some (.ref t), c3] ∧ Hx t = some (.tup zs) ∧ (∀ G, Tp Hx G → DzAll K G zs ds) ∧ gds ds ∧ wts ds ≤ 6 * i ∧ (i = 0 ∨ ds.length = 1) ∧ L2.Same H2 Hx) ?_ ?_ ?_ ?_⟩
    · exact ⟨t0, [], [], none, rfl, sF _ _ e0, fun _ _ => .nil, trivial, Nat.zero_le _, .inl rfl, Same.refl _⟩
    · rintro i σ Hx _ ⟨_, _, _, _, _, _, _, _, _, _, sx⟩
      exact SqL.of (sx _ _ eF)
    · rintro i x σ Hx hx ⟨t, zs, ds, c3, rfl, et, rz, gs, wl, _, sx⟩
      obtain ⟨m, hm, hv⟩ := (nml.take mn).mem (List.mem_of_getElem? hx)
      have hv' := hv.tp (tp_same (s02.trans sx))
      refine ⟨_, rfl, _, rfl, (by show 2 ≤ sizeLine; decide), fun p1 n1 => ?_⟩
      have s1 := same_upd n1 (o := .tup [x, .ref t])
      have e1 : (upd Hx p1 (.tup [x, .ref t])) p1 = some (.tup [x, .ref t]) := upd_same
      generalize upd Hx p1 (.tup [x, .ref t]) = H3 at s1 e1 ⊢
      refine ⟨(by show 1 ≤ sizeLine; decide), fun p2 n2 => ?_⟩
      have s2 := same_upd n2 (o := .tup [.ref p1])
      have e2 : (upd H3 p2 (.tup [.ref p1])) p2 = some (.tup [.ref p1]) := upd_same
      generalize upd H3 p2 (.tup [.ref p1]) = H4 at s2 e2 ⊢
      have s12 := s1.trans s2
      have gm := gn_gd (gn m (List.mem_of_mem_take hm))
      refine ⟨p2, [.ref p1], [.tuple [nD m, .tuple ds]], _, rfl, e2, fun G tp => .cons (.tup (tp _ _ (s2 _ _ e1)) (.cons (hv'.tp ((tp_same s12).trans tp)).dz (.cons (.tup (tp _ _ (s12 _ _ et)) (rz G ((tp_same s12).trans tp))) .nil))) .nil, ?_, ?_, .inr rfl, sx.trans s12⟩
      · simp only [gds, gd]
        exact ⟨⟨gm, gs, trivial⟩, trivial⟩
      · simp only [wts, wt, nD]
        omega
    · rintro σ Hx ⟨t, zs, ds, c3, rfl, et, rz, gs, wl, sh, sx⟩
      have l1 : ds.length = 1 := by
        rcases sh with z | z
        · rw [ltk] at z; omega
        · exact z
      have lz := dz_len (rz Hx (Tp.refl _))
      obtain ⟨z0, hz0⟩ : ∃ z0, zs[0]? = some z0 := ⟨zs[0], List.getElem?_eq_getElem (by omega)⟩
      obtain ⟨d0, ed0, zd⟩ := dz_get (rz Hx (Tp.refl _)) hz0
      have md := List.mem_of_getElem? ed0
      rw [ltk] at wl
      have := wts_mem md
      exact ⟨_, rfl, t, zs, 0, z0, rfl, rfl, SqT.of et, atI_nat (j := 0) hz0, q z0 d0 Hx (fun G tp => by obtain ⟨d', e', z'⟩ := dz_get (rz G tp) hz0; rw [ed0] at e'; cases e'; exact z') (gds_iff.mp gs d0 md) (by omega) (s02.trans sx)⟩
end
end K37
set_option Elab.async false
set_option linter.all false
set_option maxRecDepth 100000
set_option maxHeartbeats 4000000
set_option pp.maxSteps 400
set_option pp.deepTerms false
namespace K37
open PySem PySem.Spec PyProof.Rows L2
open Xk Az W37
section
variable {P : Program} {w : World} {K : PySem.W.Frag} {mg : Str → Option Value} {base : Heap}
theorem ok_law {f : Addr} {fd : FuncData} (D : Df K mg "law" ["_law_script"] sLaw f fd) (T : Txt mg) (cH : Ca P w K mg base 1 "_law_hand" ["_law_script", "_law_k"] (spHand K)) (cT : Ca P w K mg base 1 "_law_take" ["_law_hand_here", "_law_many"] spTake) (cWo : Ca P w K mg base 9 "_law_work" ["_law_hand_here", "_law_many"] spWork) (cN : Ca P w K mg base 4 "_law_names" ["_law_hand_here", "_law_many"] spNames) (cCh : Ca P w K mg base 1 "_law_chain" ["_law_names_here", "_law_many"] (spChain K)) (cOt : Ca P w K mg base 14 "_law_otherwise" ["_law_hand_here", "_law_thing", "_law_names_here"] (Xfr.spF (spOther K 10))) (cIW : Ca P w K mg base 6 "is_work" ["thing"] (spIsWork K)) (cW5 : Ca P w K mg base 8 "_law_walked" ["_law_thing", "_law_deep", "_law_met"] (spWalked K 5)) : FnOk P w K mg base CX0 15 f fd ["_law_script"] (spLaw K) := by
  refine D.fn.ok scLaw (fun vs H Q E h => ?_) (fun cdv A outer s H vs Q E hr h => ?_)
  · obtain ⟨a, ns, rfl, hS, hlen, q⟩ := h
    rfl
  · obtain ⟨a, ns, rfl, hS, hlen, q⟩ := h
    refine ⟨_, (pss_cons (ps_for PassesOwn.never rfl (pi_range1 (by rfl) T.range (pa_cons (pe_callB (call_max2 (by rfl)) (by rfl) T.max (by decide +kernel) (pa_cons pe_int (pa_cons (pe_callB (call_min2 (by rfl)) (by rfl) T.min (by decide +kernel) (pa_cons (pe_callB call_len_seq (by rfl) T.len PySem.boot_len (pa_cons (pv 0) pa_nil)) (pa_cons pe_int pa_nil))) pa_nil))) pa_nil)) (pg_name (i := 1) scLaw.nd rfl (.inl rfl)) (pss_cons (ps_set (i := 2) scLaw.nd rfl (.inr rfl) (pe_ca cH hr (by decide) (by rfl) (pa_cons (pv 0) (pa_cons (pv 1) pa_nil))))
      (pss_cons (ps_asg (pe_ca cWo hr (by decide) (by rfl) (pa_cons (pv 2) (pa_cons (pe_op op_add pe_int (pe_ca cT hr (by decide) (by rfl) (pa_cons (pv 2) (pa_cons (pe_ix ix_list (pe_lst (pa_cons pe_int (pa_cons pe_int pa_nil))) (pe_callTy call_int1 (by rfl) T.int (by decide +kernel) (pa_cons (pe_cmpR op_eq (pe_ca cT hr (by decide) (by rfl) (pa_cons (pv 2) (pa_cons pe_int pa_nil))) pe_int (nomark _)) pa_nil)) (fun _ _ => rfl)) pa_nil)))) pa_nil))) (pg_tup (by rfl) (pgs_cons (pg_name (i := 3) scLaw.nd rfl (.inr rfl)) (pgs_cons (pg_name (i := 4) scLaw.nd rfl (.inr rfl)) (pgs_cons (pg_name (i := 5) scLaw.nd rfl (.inr rfl)) pgs_nil)))))
      (pss_cons (ps_par (i := 6) (j := 7) (by rfl) scLaw.nd rfl rfl (by decide) rfl rfl (pa_cons (pe_ca cN hr (by decide) (by rfl) (pa_cons (pv 2) (pa_cons pe_int pa_nil))) (pa_cons (pv 3) pa_nil)) (by rfl))
      (pss_cons (ps_for PassesOwn.never rfl (pi_range1 (by rfl) T.range (pa_cons pe_int pa_nil)) (pg_name (i := 8) scLaw.nd rfl (.inl rfl)) (pss_one (ps_set (i := 7) scLaw.nd rfl (.inl rfl) (pe_ix ix_list (pe_lst (pa_cons (pe_tup (pa_cons (pv 7) pa_nil)) (pa_cons (pe_lstZ (pa_cons (pv 7) pa_nil)) (pa_cons (pe_tup (pa_cons (pe_ix ix_list (pv 4) pe_int (fun _ _ => rfl)) (pa_cons (pe_tup (pa_cons (pv 7) pa_nil)) pa_nil))) pa_nil)))) (pe_ca cT hr (by decide) (by rfl) (pa_cons (pv 2) (pa_cons pe_int pa_nil))) (fun _ _ => rfl)))))
      (C8.pss_cut (ps_set (i := 9) scLaw.nd rfl (.inl rfl) (pe_lst (pa_cons (pv 3) (pa_cons (pe_ca cCh hr (by decide) (by rfl) (pa_cons (pv 6) (pa_cons pe_int pa_nil))) (pa_cons (pe_ca cCh hr (by decide) (by rfl) (pa_cons (pv 6) (pa_cons pe_int pa_nil))) (pa_cons (pv 7) (pa_cons pe_non (pa_cons pe_bl (pa_cons pe_str (pa_cons (pe_tup pa_nil) (pa_cons (pe_lstZ (pa_cons (pv 3) pa_nil)) (pa_cons (pe_tup (pa_cons (pv 3) pa_nil)) (pa_cons (pe_ix ix_list (pv 4) pe_int (fun _ _ => rfl)) pa_nil)))))))))))))
      (C8.pss_cut (ps_set (i := 9) scLaw.nd rfl (.inl rfl) (pe_op op_cat (pv 9) (pe_lst (pa_cons (pe_tup (pa_cons (pe_ix ix_list (pv 4) pe_int (fun _ _ => rfl)) (pa_cons (pe_lstZ (pa_cons (pv 3) pa_nil)) pa_nil))) (pa_cons (pe_tup (pa_cons (pv 3) (pa_cons (pe_tup pa_nil) pa_nil))) (pa_cons (pe_tup (pa_cons (pe_ix ix_list (pv 5) pe_int (fun _ _ => rfl)) (pa_cons (pe_tup (pa_cons (pv 3) (pa_cons (pv 3) pa_nil))) pa_nil))) (pa_cons (pe_tup (pa_cons (pe_ix ix_list (pv 5) pe_int (fun _ _ => rfl)) (pa_cons (pe_tup (pa_cons (pv 3) pa_nil)) pa_nil))) pa_nil)))))))
      (pss_one (ps_for PassesOwn.never rfl (pi_list (pe_op op_cat (pv 9) (pe_lc (own := [("_law_turn", 8)]) (g := gName 8) (tt := tYes) (by rfl) scLaw.nd (pi_range1 (by rfl) T.range (pa_cons pe_int pa_nil)) (blkOk_by (own := [("_law_turn", 8)]) (N := ["_law_script", "_law_k", "_law_hand_here", "_law_work_here", "_law_names_here", "_law_others", "_law_free", "_law_deep", "_law_turn", "_law_things", "_law_thing", "_law_found"]) (sc := defScope sLaw) (by decide +kernel)) (fun _ _ _ _ _ => pg_name (i := 8) scLaw.nd rfl (.inl rfl)) (fun _ _ _ _ _ => pts_nil) (fun _ _ _ _ _ => pe_ca cOt hr (by decide) (by rfl) (pa_cons (pv 2) (pa_cons (pv 3) (pa_cons (pe_op op_cat (pv 4) (pv 5)) pa_nil))))))) (pg_name (i := 10) scLaw.nd rfl (.inl rfl)) (pss_cons (ps_set (i := 11) scLaw.nd rfl (.inl rfl) (pe_ca cIW hr (by decide) (by rfl) (pa_cons (pv 10) pa_nil)))
      (pss_one (ps_if (PW.pt (pw_or (pt_not (pt_val (pe_callB call_isi (by rfl) T.isi (by decide +kernel) (pa_cons (pv 11) (pa_cons (pe_bltn (v := .ty "bool") (by rfl) T.bool (by decide +kernel) rfl) pa_nil))))) (pw_or1 (pt_cmpR op_ne (pv 11) (pe_ca cW5 hr (by decide) (by rfl) (pa_cons (pv 10) (pa_cons pe_int (pa_cons (pe_lst pa_nil) pa_nil)))) (nomark _))))) (pss_one (ps_ret pe_bl)) pss_nil))))))))))))
      (pss_one (ps_ret pe_bl))), ?_⟩
    refine ⟨_, rfl, a, _, rfl, .inl hS, _, 5, rfl, 1, _, rfl, _, rfl, ?_, ?_, for_range (lo := 0) (fun k σ Hi => ∃ c1 c2 c3 c4 c5 c6 c7 c8 c9 c10 c11 : Option V, σ = [some (.ref a), c1, c2, c3, c4, c5, c6, c7, c8, c9, c10, c11] ∧ L2.Same H Hi) ?_ ?_ ?_⟩
    · rw [List.length_map]; split <;> (try split) <;> omega
    · rw [List.length_map]; split <;> (try split) <;> omega
    · exact ⟨_, _, _, _, _, _, _, _, _, _, _, rfl, Same.refl H⟩
    · rintro kk σ Hi hk ⟨c1, c2, c3, c4, c5, c6, c7, c8, c9, c10, c11, rfl, sm⟩
      refine ⟨_, rfl, _, rfl, a, 0 + (kk : Int), ns, rfl, by omega, sm.seq hS, fun h g m nh g0 m0 m1 => ?_⟩
      have sh := same_upd nh (o := .lst [.int g, .int m, .int 0])
      have hh0 : Hand 0 (upd Hi h (.lst [.int g, .int m, .int 0])) h := ⟨g, m, 0, upd_same, g0, m0, m1, Int.le_refl _, Int.le_refl _⟩
      have back : ∀ {Hz : Hp}, But h (upd Hi h (.lst [.int g, .int m, .int 0])) Hz → L2.Same H Hz := fun {Hz} b y o e => by
        have e2 := sm _ _ e
        exact b y o (ne_of_none e2 nh) (sh _ _ e2)
      generalize upd Hi h (.lst [.int g, .int m, .int 0]) = H0 at hh0 back ⊢
      clear sh
      -- the work
      refine ⟨_, rfl, _, rfl, (by show 2 ≤ sizeLine; decide), fun l1 nl1 => ?_⟩
      have s1 := same_upd nl1 (o := .lst [.int 6, .int 40])
      have e1 : (upd H0 l1 (.lst [.int 6, .int 40])) l1 = some (.lst [.int 6, .int 40]) := upd_same
      have l1h := hh0.fresh nl1
      generalize upd H0 l1 (.lst [.int 6, .int 40]) = H1 at s1 e1 ⊢
      refine ⟨_, rfl, h, 4, 0, rfl, by decide, by decide, hh0.same s1, by decide, fun d H2 d0 d1 h2 b2 => ?_⟩
      have pk : ∀ b : Bool, ∃ m : Int, atI [V.int 6, .int 40] (if b = true then 1 else 0) = some (.int m) ∧ 1 ≤ m ∧ m ≤ 40 := fun b => by
        cases b
        · exact ⟨6, rfl, by decide, by decide⟩
        · exact ⟨40, rfl, by decide, by decide⟩
      obtain ⟨mm, em, mm0, mm1⟩ := pk (decide (V.int d = V.int 3))
      refine ⟨rfl, .inr ⟨_, rfl, l1, _, _, _, rfl, rfl, SqL.of (b2 _ _ l1h e1), em, ?_⟩⟩
      refine ⟨h, mm, 1, rfl, by omega, lt30i (by omega), h2, by decide, fun e H3 ee0 ee1 h3 b3 => ?_⟩
      have b03 : But h H0 H3 := (Same.but s1 h).trans (b2.trans b3)
      refine ⟨1, e, rfl, rfl, h, 2, 1 + e, rfl, by omega, by omega, h3, by decide, fun t A O v w xa xo no H4 et wk dw eA Ah nA nmA eO Oh nO nmO lno nd gn lw h4 b4 => ⟨t, _, rfl, SqT.of et, rfl, _, _, rfl, _, _, rfl, _, _, rfl, rfl, ?_⟩⟩
      have b04 := b03.trans b4
      clear b03 b3 b2 s1 e1 h2 h3 em nA nO
      have gnA : ∀ m ∈ w.nms, Gn' m := fun m hm => gn m (List.mem_append_left _ hm)
      have gnO : ∀ m ∈ no, Gn' m := fun m hm => gn m (List.mem_append_right _ hm)
      have wt4 : wt w.dat ≤ 200 := by rw [wt_dat]; omega
      have dt4 : dt w.dat ≤ 10 := Nat.le_trans (dt_dat w) (by omega)
      have gd4 : gd w.dat := gd_dat w gnA
      have tx4 : tx w.dat := tx_dat w gnA
      have tpB : ∀ {Hx Hy : Hp} {m : Int}, Hand m Hx h → But h Hx Hy → Tp Hx Hy := fun {Hx Hy m} hx b c ys e => b c _ (hx.ne_tup (K := K) e) e
      have dzW : ∀ {Hx : Hp}, But h H4 Hx → Dz K (del Hx h) v w.dat := fun {Hx} b => (wk.tp (fun c ys e => off_at (h4.ne_tup (K := K) e) (b c _ (h4.ne_tup (K := K) e) e))).dz
      have dzN : ∀ {Hx : Hp} {xs : List V} {ns : List Nm} {u : V}, But h H4 Hx → NmL H4 xs ns → (∀ m ∈ ns, Gn' m) → u ∈ xs → ∃ m, Dz K (del Hx h) u (nD m) ∧ gd (nD m) := fun {Hx xs ns u} b nm g hu => by
        obtain ⟨m, hm, hv⟩ := nm.mem hu
        exact ⟨m, (hv.tp (fun c ys e => off_at (h4.ne_tup (K := K) e) (b c _ (h4.ne_tup (K := K) e) e))).dz, gn_gd (g m hm)⟩
      have lA := nmA.len
      have lO := nmO.len
      obtain ⟨a0, ha0⟩ : ∃ a0, xa[0]? = some a0 := ⟨xa[0]'(by have := nms_pos w; omega), List.getElem?_eq_getElem _⟩
      obtain ⟨o0, ho0⟩ : ∃ o0, xo[0]? = some o0 := ⟨xo[0]'(by omega), List.getElem?_eq_getElem _⟩
      have ma0 := List.mem_of_getElem? ha0
      have mo0 := List.mem_of_getElem? ho0
      -- free names
      refine ⟨_, rfl, h, 602, 6, rfl, by decide, by decide, h4, by decide, fun F xf nf H5 eF Fh nF nmF lf ndf gnF h5 b5 => ?_⟩
      refine ⟨_, rfl, _, _, rfl, ?_⟩
      have lF := nmF.len
      -- deep
      refine ⟨9, rfl, by decide, by decide, for_range (lo := 0) (n := (9 : Int).toNat) (fun i σ Hx => ∃ (u : V) (c8 : Option V), σ = [some (.ref a), some (.int (0 + (kk : Int))), some (.ref h), some v, some (.ref A), some (.ref O), some (.ref F), some u, c8, c9, c10, c11] ∧ Gs K (del Hx h) (200 + 6 * i) u ∧ Hand (1002 + i) Hx h ∧ But h H5 Hx) ?_ ?_ ?_⟩
      · exact ⟨v, c8, rfl, ⟨w.dat, dzW b5, gd4, by omega⟩, h5.mono (by decide), But.refl _ _⟩
      · rintro i σ Hx hi ⟨u, c8', rfl, ⟨du, zu, gu, wu⟩, hx, bx⟩
        have i9 : i < (9 : Int).toNat := hi
        have i9' : i < 9 := i9
        have b4x := b5.trans bx
        refine ⟨_, rfl, (by show 1 ≤ sizeLine; decide), fun p1 n1 => ?_⟩
        have t1 := same_upd n1 (o := .tup [u])
        have f1 : (upd Hx p1 (.tup [u])) p1 = some (.tup [u]) := upd_same
        generalize upd Hx p1 (.tup [u]) = G1 at t1 f1 ⊢
        have g1 := hx.same t1
        have a1 := hx.fresh n1
        refine ⟨_, rfl, (by show 1 ≤ sizeLine; decide), fun p2 n2 ne2 => ?_⟩
        have t2 := same_upd n2 (o := .lst [u])
        have f2 : (upd G1 p2 (.lst [u])) p2 = some (.lst [u]) := upd_same
        have a2 := g1.fresh n2
        generalize upd G1 p2 (.lst [u]) = G2 at t2 f2 ⊢
        have b4y := b4x.trans (Same.but (t1.trans t2) h)
        refine ⟨_, rfl, A, xa, 0, a0, rfl, rfl, SqL.of (b4y _ _ Ah eA), atI_nat (j := 0) ha0, _, rfl, (by show 1 ≤ sizeLine; decide), fun p3 n3 => ?_⟩
        have t3 := same_upd n3 (o := .tup [u])
        have f3 : (upd G2 p3 (.tup [u])) p3 = some (.tup [u]) := upd_same
        have a3 := (g1.same t2).fresh n3
        generalize upd G2 p3 (.tup [u]) = G3 at t3 f3 ⊢
        refine ⟨(by show 2 ≤ sizeLine; decide), fun p4 n4 => ?_⟩
        have t4 := same_upd n4 (o := .tup [a0, .ref p3])
        have f4 : (upd G3 p4 (.tup [a0, .ref p3])) p4 = some (.tup [a0, .ref p3]) := upd_same
        have a4 := ((g1.same t2).same t3).fresh n4
        generalize upd G3 p4 (.tup [a0, .ref p3]) = G4 at t4 f4 ⊢
        refine ⟨(by show 3 ≤ sizeLine; decide), fun p5 n5 => ?_⟩
        have t5 := same_upd n5 (o := .lst [.ref p1, .ref p2, .ref p4])
        have f5 : (upd G4 p5 (.lst [.ref p1, .ref p2, .ref p4])) p5 = some (.lst [.ref p1, .ref p2, .ref p4]) := upd_same
        have g4 := ((g1.same t2).same t3).same t4
        have a5 := g4.fresh n5
        generalize upd G4 p5 (.lst [.ref p1, .ref p2, .ref p4]) = G5 at t5 f5 ⊢
        have g5 := g4.same t5
        refine ⟨_, rfl, h, 3, 1002 + i, rfl, by decide, by decide, g5, by show 1002 + (i : Int) ≤ 1000000; omega, fun c G6 e0 e1 g6 b6 => ?_⟩
        have t25 := (t2.trans t3).trans (t4.trans t5)
        have t15 := t1.trans t25
        have bx6 : But h Hx G6 := (Same.but t15 h).trans b6
        have z6 := zu.same (off_but bx6)
        obtain ⟨m0', zm, gm⟩ := dzN (b4x.trans bx6) nmA gnA ma0
        have F1 := off_at a1 (b6 _ _ a1 (t25 _ _ f1))
        have F2 := off_at a2 (b6 _ _ a2 (((t3.trans t4).trans t5) _ _ f2))
        have F3 := off_at a3 (b6 _ _ a3 ((t4.trans t5) _ _ f3))
        have F4 := off_at a4 (b6 _ _ a4 (t5 _ _ f4))
        have done : ∀ (j : Nat) (r : V) (dr : PyData), [V.ref p1, .ref p2, .ref p4][j]? = some r → Dz K (del G6 h) r dr → gd dr → wt dr ≤ wt du + 5 → atI [V.ref p1, .ref p2, .ref p4] (j : Int) = some r ∧ Gs K (del G6 h) (200 + 6 * (i + 1)) r := fun j r dr hr z g w => ⟨atI_nat hr, dr, z, g, by omega⟩
        obtain ⟨r, hr, gr⟩ : ∃ r, atI [V.ref p1, .ref p2, .ref p4] c = some r ∧ Gs K (del G6 h) (200 + 6 * (i + 1)) r := by
          obtain rfl | rfl | rfl : c = 0 ∨ c = 1 ∨ c = 2 := by omega
          · exact ⟨_, done 0 _ (.tuple [du]) rfl (.tup F1 (.cons z6 .nil)) (by simp only [gd, gds]; exact ⟨gu, trivial⟩) (by simp only [wt, wts]; omega)⟩
          · exact ⟨_, done 1 _ (.list [du]) rfl (.lst F2 ne2 (.cons z6 .nil)) trivial (by simp only [wt]; omega)⟩
          · exact ⟨_, done 2 _ (.tuple [nD m0', .tuple [du]]) rfl (.tup F4 (.cons zm (.cons (.tup F3 (.cons z6 .nil)) .nil))) (by simp only [gd, gds]; exact ⟨gm, ⟨gu, trivial⟩, trivial⟩) (by simp only [wt, wts, nD]; omega)⟩
        exact ⟨p5, _, c, r, rfl, rfl, SqL.of (b6 _ _ a5 f5), hr, r, _, rfl, gr, g6.mono (by omega), bx.trans bx6⟩
      rintro σ Hx ⟨u, c8', rfl, gu, hx, bx⟩
      have gu : Gs K (del Hx h) 260 u := gu.mono (by decide)
      have hx : Hand 1011 Hx h := hx
      have b4x := b5.trans bx
      have eFx := bx _ _ Fh eF
      have nmFx := nmF.tp (tpB h5 bx)
      -- things
      refine ⟨fun σ Hy => ∃ (L : Addr) (zs : List V), σ = [some (.ref a), some (.int (0 + (kk : Int))), some (.ref h), some v, some (.ref A), some (.ref O), some (.ref F), some u, c8', some (.ref L), c10, c11] ∧ Hy L = some (.lst zs) ∧ L ≠ h ∧ zs.length ≤ 11 ∧ (∀ z ∈ zs, Gs K (del Hy h) 1000 z) ∧ Hand 1011 Hy h ∧ But h Hx Hy, ?_, ?_⟩
      · refine ⟨_, rfl, _, rfl, F, xf, nf, 5, rfl, eFx, nmFx, gnF, by decide, by omega, by decide, fun v5 d5 G1 z5 g5 w5 t1 => ?_⟩
        refine ⟨_, rfl, F, xf, nf, 6, rfl, t1 _ _ eFx, nmFx.tp (tp_same t1), gnF, by decide, by omega, by decide, fun v6 d6 G2 z6 g6 w6 t2 => ?_⟩
        refine ⟨_, rfl, (by show 0 ≤ sizeLine; decide), fun p1 n1 => ?_⟩
        have t3 := same_upd n1 (o := .tup [])
        have f1 : (upd G2 p1 (.tup [])) p1 = some (.tup []) := upd_same
        have hG2 := (hx.same t1).same t2
        have a1 := hG2.fresh n1
        generalize upd G2 p1 (.tup []) = G3 at t3 f1 ⊢
        refine ⟨_, rfl, (by show 1 ≤ sizeLine; decide), fun p2 n2 ne2 => ?_⟩
        have t4 := same_upd n2 (o := .lst [v])
        have f2 : (upd G3 p2 (.lst [v])) p2 = some (.lst [v]) := upd_same
        have a2 := (hG2.same t3).fresh n2
        generalize upd G3 p2 (.lst [v]) = G4 at t4 f2 ⊢
        refine ⟨_, rfl, (by show 1 ≤ sizeLine; decide), fun p3 n3 => ?_⟩
        have t5 := same_upd n3 (o := .tup [v])
        have f3 : (upd G4 p3 (.tup [v])) p3 = some (.tup [v]) := upd_same
        have hG4 := (hG2.same t3).same t4
        have a3 := hG4.fresh n3
        generalize upd G4 p3 (.tup [v]) = G5 at t5 f3 ⊢
        have t12 := t1.trans t2
        have t35 := (t3.trans t4).trans t5
        have bG5 := b4x.trans (Same.but (t12.trans t35) h)
        refine ⟨_, rfl, A, xa, 0, a0, rfl, rfl, SqL.of (bG5 _ _ Ah eA), atI_nat (j := 0) ha0, (by show 11 ≤ sizeLine; decide), fun L nL => ?_⟩
        have t6 := same_upd nL (o := .lst [v, v5, v6, u, .non, .bl true, .str "", .ref p1, .ref p2, .ref p3, a0])
        have hG5 := hG4.same t5
        have t16 := (t12.trans t35).trans t6
        have bX6 : But h Hx (upd G5 L (.lst [v, v5, v6, u, .non, .bl true, .str "", .ref p1, .ref p2, .ref p3, a0])) := Same.but t16 h
        refine ⟨L, _, rfl, upd_same, hG5.fresh nL, by show 11 ≤ 11; decide, ?_, hG5.same t6, bX6⟩
        generalize upd G5 L (.lst [v, v5, v6, u, .non, .bl true, .str "", .ref p1, .ref p2, .ref p3, a0]) = G6 at t6 bX6 t16 ⊢
        have b46 := b4x.trans bX6
        have zw := dzW b46
        obtain ⟨ma, zma, gma⟩ := dzN b46 nmA gnA ma0
        have tG : ∀ {G : Hp}, L2.Same Hx G → L2.Same G G6 → Hand 1011 G h → Tp G (del G6 h) := fun {G} _ s hg c ys e => off_at (hg.ne_tup (K := K) e) (s _ _ e)
        have t36 := t35.trans t6
        have c5 := z5 (del G6 h) (tG t1 ((t2.trans t35).trans t6) (hx.same t1))
        have c6 := z6 (del G6 h) (tG t12 t36 hG2)
        have F1 := off_at a1 (((t4.trans t5).trans t6) _ _ f1)
        have F2 := off_at a2 ((t5.trans t6) _ _ f2)
        have F3 := off_at a3 (t6 _ _ f3)
        intro z hz
        simp only [List.mem_cons, List.not_mem_nil, or_false] at hz
        rcases hz with rfl | rfl | rfl | rfl | rfl | rfl | rfl | rfl | rfl | rfl | rfl
        · exact ⟨_, zw, gd4, by omega⟩
        · exact ⟨_, c5, g5, by omega⟩
        · exact ⟨_, c6, g6, by omega⟩
        · exact (gu.same (off_but bX6)).mono (by omega)
        · exact ⟨.none, .non, trivial, by simp [wt]⟩
        · exact ⟨.bool true, .bl true, trivial, by simp [wt]⟩
        · exact ⟨.str "", .str "", ok_e, by simp [wt]⟩
        · exact ⟨.tuple [], .tup F1 .nil, (by simp [gd, gds]), by simp [wt, wts]⟩
        · exact ⟨.list [w.dat], .lst F2 ne2 (.cons zw .nil), trivial, by simp [wt]⟩
        · exact ⟨.tuple [w.dat], .tup F3 (.cons zw .nil), (by simp only [gd, gds]; exact ⟨gd4, trivial⟩), by simp only [wt, wts]; omega⟩
        · exact ⟨_, zma, gma, by simp [wt, wts, nD]⟩
      rintro σ G0 ⟨L, zs, rfl, eL, Lh, zl, az, hG, bG⟩
      have b4g := b4x.trans bG
      refine ⟨fun σ Hy => ∃ (L : Addr) (zs : List V), σ = [some (.ref a), some (.int (0 + (kk : Int))), some (.ref h), some v, some (.ref A), some (.ref O), some (.ref F), some u, c8', some (.ref L), c10, c11] ∧ Hy L = some (.lst zs) ∧ L ≠ h ∧ zs.length ≤ 15 ∧ (∀ z ∈ zs, Gs K (del Hy h) 1000 z) ∧ Hand 1011 Hy h ∧ But h Hx Hy, ?_, ?_⟩
      · refine ⟨_, rfl, _, rfl, A, xa, 0, a0, rfl, rfl, SqL.of (b4g _ _ Ah eA), atI_nat (j := 0) ha0, _, rfl, (by show 1 ≤ sizeLine; decide), fun p1 n1 ne1 => ?_⟩
        have t1 := same_upd n1 (o := .lst [v])
        have f1 : (upd G0 p1 (.lst [v])) p1 = some (.lst [v]) := upd_same
        have a1 := hG.fresh n1
        generalize upd G0 p1 (.lst [v]) = G1 at t1 f1 ⊢
        refine ⟨(by show 2 ≤ sizeLine; decide), fun p2 n2 => ?_⟩
        have t2 := same_upd n2 (o := .tup [a0, .ref p1])
        have f2 : (upd G1 p2 (.tup [a0, .ref p1])) p2 = some (.tup [a0, .ref p1]) := upd_same
        have hG1 := hG.same t1
        have a2 := hG1.fresh n2
        generalize upd G1 p2 (.tup [a0, .ref p1]) = G2 at t2 f2 ⊢
        refine ⟨_, rfl, (by show 0 ≤ sizeLine; decide), fun p3 n3 => ?_⟩
        have t3 := same_upd n3 (o := .tup [])
        have f3 : (upd G2 p3 (.tup [])) p3 = some (.tup []) := upd_same
        have hG2 := hG1.same t2
        have a3 := hG2.fresh n3
        generalize upd G2 p3 (.tup []) = G3 at t3 f3 ⊢
        refine ⟨(by show 2 ≤ sizeLine; decide), fun p4 n4 => ?_⟩
        have t4 := same_upd n4 (o := .tup [v, .ref p3])
        have f4 : (upd G3 p4 (.tup [v, .ref p3])) p4 = some (.tup [v, .ref p3]) := upd_same
        have hG3 := hG2.same t3
        have a4 := hG3.fresh n4
        generalize upd G3 p4 (.tup [v, .ref p3]) = G4 at t4 f4 ⊢
        have hG4 := hG3.same t4
        have t14 := (t1.trans t2).trans (t3.trans t4)
        have b44 := b4g.trans (Same.but t14 h)
        refine ⟨_, rfl, O, xo, 0, o0, rfl, rfl, SqL.of (b44 _ _ Oh eO), atI_nat (j := 0) ho0, _, rfl, _, rfl, (by show 2 ≤ sizeLine; decide), fun p5 n5 => ?_⟩
        have t5 := same_upd n5 (o := .tup [v, v])
        have f5 : (upd G4 p5 (.tup [v, v])) p5 = some (.tup [v, v]) := upd_same
        have a5 := hG4.fresh n5
        generalize upd G4 p5 (.tup [v, v]) = G5 at t5 f5 ⊢
        have hG5 := hG4.same t5
        refine ⟨(by show 2 ≤ sizeLine; decide), fun p6 n6 => ?_⟩
        have t6 := same_upd n6 (o := .tup [o0, .ref p5])
        have f6 : (upd G5 p6 (.tup [o0, .ref p5])) p6 = some (.tup [o0, .ref p5]) := upd_same
        have a6 := hG5.fresh n6
        generalize upd G5 p6 (.tup [o0, .ref p5]) = G6 at t6 f6 ⊢
        have hG6 := hG5.same t6
        have t16 := t14.trans (t5.trans t6)
        have b46 := b4g.trans (Same.but t16 h)
        refine ⟨_, rfl, O, xo, 0, o0, rfl, rfl, SqL.of (b46 _ _ Oh eO), atI_nat (j := 0) ho0, _, rfl, (by show 1 ≤ sizeLine; decide), fun p7 n7 => ?_⟩
        have t7 := same_upd n7 (o := .tup [v])
        have f7 : (upd G6 p7 (.tup [v])) p7 = some (.tup [v]) := upd_same
        have a7 := hG6.fresh n7
        generalize upd G6 p7 (.tup [v]) = G7 at t7 f7 ⊢
        have hG7 := hG6.same t7
        refine ⟨(by show 2 ≤ sizeLine; decide), fun p8 n8 => ?_⟩
        have t8 := same_upd n8 (o := .tup [o0, .ref p7])
        have f8 : (upd G7 p8 (.tup [o0, .ref p7])) p8 = some (.tup [o0, .ref p7]) := upd_same
        have a8 := hG7.fresh n8
        generalize upd G7 p8 (.tup [o0, .ref p7]) = G8 at t8 f8 ⊢
        have hG8 := hG7.same t8
        refine ⟨(by show 4 ≤ sizeLine; decide), fun q1 m1' => ?_⟩
        have t9 := same_upd m1' (o := .lst [.ref p2, .ref p4, .ref p6, .ref p8])
        have f9 : (upd G8 q1 (.lst [.ref p2, .ref p4, .ref p6, .ref p8])) q1 = some (.lst [.ref p2, .ref p4, .ref p6, .ref p8]) := upd_same
        generalize upd G8 q1 (.lst [.ref p2, .ref p4, .ref p6, .ref p8]) = G9 at t9 f9 ⊢
        have hG9 := hG8.same t9
        have t79 := (t7.trans t8).trans t9
        have t09 := t16.trans t79
        refine ⟨L, q1, zs, _, rfl, rfl, t09 _ _ eL, f9, Nat.le_trans (show zs.length + 4 ≤ 100 by omega) (by decide), fun q2 m2' => ?_⟩
        have t10 := same_upd m2' (o := .lst (zs ++ [.ref p2, .ref p4, .ref p6, .ref p8]))
        have a10 := hG9.fresh m2'
        have f10 : (upd G9 q2 (.lst (zs ++ [.ref p2, .ref p4, .ref p6, .ref p8]))) q2 = some (.lst (zs ++ [.ref p2, .ref p4, .ref p6, .ref p8])) := upd_same
        generalize upd G9 q2 (.lst (zs ++ [.ref p2, .ref p4, .ref p6, .ref p8])) = GA at t10 f10 ⊢
        have t0A := t09.trans t10
        have bA := Same.but t0A h
        have b4A := b4g.trans bA
        refine ⟨q2, _, rfl, f10, a10, (by rw [List.length_append]; show zs.length + 4 ≤ 15; omega), fun z hz => ?_, hG9.same t10, bG.trans bA⟩
        have zw := dzW b4A
        obtain ⟨ma, zma, gma⟩ := dzN b4A nmA gnA ma0
        obtain ⟨mo, zmo, gmo⟩ := dzN b4A nmO gnO mo0
        have t8A := t8.trans (t9.trans t10)
        have t7A := t7.trans t8A
        have t5A := t5.trans (t6.trans t7A)
        have F1 := off_at a1 (((t2.trans (t3.trans t4)).trans t5A) _ _ f1)
        have F2 := off_at a2 (((t3.trans t4).trans t5A) _ _ f2)
        have F3 := off_at a3 ((t4.trans t5A) _ _ f3)
        have F4 := off_at a4 (t5A _ _ f4)
        have F5 := off_at a5 ((t6.trans t7A) _ _ f5)
        have F6 := off_at a6 (t7A _ _ f6)
        have F7 := off_at a7 (t8A _ _ f7)
        have F8 := off_at a8 ((t9.trans t10) _ _ f8)
        rcases List.mem_append.mp hz with y | y
        · exact (az z y).same (off_but bA)
        · simp only [List.mem_cons, List.not_mem_nil, or_false] at y
          rcases y with rfl | rfl | rfl | rfl
          · exact ⟨.tuple [nD ma, .list [w.dat]], .tup F2 (.cons zma (.cons (.lst F1 ne1 (.cons zw .nil)) .nil)), (by simp only [gd, gds]; exact ⟨gma, trivial, trivial⟩), by simp [wt, wts, nD]⟩
          · exact ⟨.tuple [w.dat, .tuple []], .tup F4 (.cons zw (.cons (.tup F3 .nil) .nil)), (by simp only [gd, gds]; exact ⟨gd4, trivial, trivial⟩), by simp only [wt, wts]; omega⟩
          · exact ⟨.tuple [nD mo, .tuple [w.dat, w.dat]], .tup F6 (.cons zmo (.cons (.tup F5 (.cons zw (.cons zw .nil))) .nil)), (by simp only [gd, gds]; exact ⟨gmo, ⟨gd4, gd4, trivial⟩, trivial⟩), by simp only [wt, wts, nD]; omega⟩
          · exact ⟨.tuple [nD mo, .tuple [w.dat]], .tup F8 (.cons zmo (.cons (.tup F7 (.cons zw .nil)) .nil)), (by simp only [gd, gds]; exact ⟨gmo, ⟨gd4, trivial⟩, trivial⟩), by simp only [wt, wts, nD]; omega⟩
      rintro σ G1 ⟨L, zs, rfl, eL, Lh, zl, az, hG1, bG1⟩
      have b41 := b4x.trans bG1
      -- all of them
      refine ⟨_, rfl, 10, rfl, by decide, by decide, fun D nD' => ?_⟩
      have sD := same_upd nD' (o := .lst [])
      have Dh := hG1.fresh nD'
      have H4D : H4 D = none := b41.free Dh nD'
      refine lc_range (lo := 0) (fun i Hx' => ∃ acc : List V, Hx' D = some (.lst acc) ∧ acc.length = i ∧ (∀ z ∈ acc, Gs K (del (del Hx' D) h) 1300 z) ∧ Hand (1011 + 240 * i) Hx' h ∧ But h G1 Hx') ⟨[], upd_same, rfl, by simp, (hG1.same sD).mono (by omega), Same.but sD h⟩ ?_ ?_
      · rintro i G2 hi ⟨acc, eD, la, aa, hG2, b12⟩
        have i10 : i < (10 : Int).toNat := hi
        have i10' : i < 10 := i10
        have b42 := b41.trans b12
        refine ⟨rfl, ?_⟩
        unfold tYes
        refine iteT ?_
        refine ⟨_, rfl, _, rfl, _, rfl, _, rfl, A, O, xa, xo, rfl, rfl, b42 _ _ Ah eA, b42 _ _ Oh eO, Nat.le_trans (show xa.length + xo.length ≤ 100 by omega) (by decide), fun p np => ?_⟩
        have tp := same_upd np (o := .lst (xa ++ xo))
        have ep : (upd G2 p (.lst (xa ++ xo))) p = some (.lst (xa ++ xo)) := upd_same
        have ph := hG2.fresh np
        have pD : p ≠ D := ne_of_none' eD np
        generalize upd G2 p (.lst (xa ++ xo)) = G3 at tp ep ⊢
        have b43 : But h H4 (del G3 D) := fun b o nb e => by
          rw [del_ne (ne_of_none e H4D)]
          exact tp _ _ (b42 b o nb e)
        have hG3 : Hand (1011 + 240 * i) (del G3 D) h := by
          obtain ⟨g, m, c, e, r⟩ := hG2.same tp
          exact ⟨g, m, c, by rw [del_ne (Ne.symm Dh)]; exact e, r⟩
        refine ⟨D, acc, tp _ _ eD, h, 1011 + 240 * i, v, w.dat, p, xa ++ xo, w.nms ++ no, rfl, dzW b43, gd4, tx4, by omega, dt4, by rw [del_ne pD]; exact ep, ph, (nmA.app nmO).tp (tpB h4 b43), (fun z => by have := congrArg List.length z; rw [List.length_append, List.length_nil, lno] at this; omega), by rw [List.length_append]; omega, gn, hG3, (by show 1011 + 240 * (i : Int) + 20 * (((10 : Nat) : Int) + 2) ≤ 1000000; omega), fun v' d' G4 z' g' w' hG4 b34 fD => ?_⟩
        refine ⟨acc, upd_same, Nat.lt_of_le_of_lt (show acc.length ≤ 100 by omega) (by decide), acc ++ [v'], upd_same, by rw [List.length_append, la]; rfl, fun z hz => ?_, ?_, ?_⟩
        · rw [upd_upd]
          have sD4 : L2.Same (del G4 h) (del (del (upd G4 D (.lst (acc ++ [v']))) D) h) := off_but (Same.but (sameD fD) h)
          rcases List.mem_append.mp hz with y | y
          · have b24 : But h (del G2 D) G4 := fun b o nb e => by
              by_cases c : b = D
              · rw [c, del_same] at e; cases e
              · rw [del_ne c] at e
                exact b34 b o nb (by rw [del_ne c]; exact tp _ _ e)
            exact ((aa z y).same (off_but b24)).same sD4
          · rw [List.mem_singleton.mp y]
            exact ⟨d', z'.same sD4, g', by omega⟩
        · rw [upd_upd]
          refine (hG4.upd (Ne.symm Dh)).mono ?_
          show 1011 + 240 * (i : Int) + 20 * (((10 : Nat) : Int) + 2) ≤ 1011 + 240 * ((i + 1 : Nat) : Int)
          omega
        · intro b o nb e
          rw [upd_upd, upd_ne (ne_of_none e nD')]
          refine b34 b o nb ?_
          rw [del_ne (ne_of_none e nD')]
          exact tp _ _ (b12 b o nb e)
      · rintro G2 ⟨acc, eD, la, aa, hG2, b12⟩
        have la' : acc.length ≤ 20 := by rw [la]; decide
        refine ⟨L, D, zs, acc, rfl, rfl, b12 _ _ Lh eL, eD, Nat.le_trans (show zs.length + acc.length ≤ 100 by omega) (by decide), fun Z nZ => ?_⟩
        have sZ := same_upd nZ (o := .lst (zs ++ acc))
        have eZ : (upd G2 Z (.lst (zs ++ acc))) Z = some (.lst (zs ++ acc)) := upd_same
        generalize upd G2 Z (.lst (zs ++ acc)) = G3 at sZ eZ ⊢
        have allG : ∀ z ∈ zs ++ acc, Gs K G3 1300 z := fun z hz => by
          rcases List.mem_append.mp hz with y | y
          · exact (((az z y).same (off_but b12)).same off_all).mono (by omega) |>.same sZ
          · exact (((aa z y).same off_all).same off_all).same sZ
        have bG3 : But h H0 G3 := b04.trans (b41.trans (b12.trans (Same.but sZ h)))
        refine ⟨Z, rfl, ⟨_, SqL.of eZ⟩, for_list (K := K) (a := Z) (xs := zs ++ acc) (fun i σ Hx => ∃ c10 c11 : Option V, σ = [some (.ref a), some (.int (0 + (kk : Int))), some (.ref h), some v, some (.ref A), some (.ref O), some (.ref F), some u, c8', some (.ref L), c10, c11] ∧ L2.Same G3 Hx) ⟨c10, c11, rfl, Same.refl _⟩ (fun i σ Hx _ z => by obtain ⟨_, _, _, s⟩ := z; exact SqL.of (s _ _ eZ)) ?_ ?_⟩
        · rintro i x σ Hx hx ⟨c10', c11', rfl, sx⟩
          obtain ⟨dx, zx, gx, wx⟩ := allG x (List.mem_of_getElem? hx)
          refine ⟨_, rfl, x, dx, rfl, zx.same sx, gx, by omega, fun b H5 hb s5 => ?_⟩
          refine ⟨_, rfl, _, _, _, _, true, rfl, .ty _, .base (.bl b), kit_ty (by decide +kernel), _, rfl, iteF ?_⟩
          have s35 := sx.trans s5
          refine ⟨_, rfl, _, rfl, (by show 0 ≤ sizeLine; decide), fun M nM => ?_⟩
          have sM := same_upd nM (o := .lst [])
          refine ⟨x, dx, M, [], [], rfl, (zx.same s35).same (fun b o e => by rw [del_ne (ne_of_none e nM)]; exact sM _ _ e), gx, upd_same, .nil, List.nodup_nil, by simp, by show 0 + wt dx ≤ 3500; omega, fun b' ext xs' H6 e6 n6 nd6 a6 l6 ok6 no6 b6 => ?_⟩
          have eb : b' = b := by
            cases b' with
            | true =>
              obtain ⟨f1, f2⟩ := ok6 rfl
              exact (hb.mpr ⟨f1, by rw [← f2]; exact nd_map (by simpa using nd6)⟩).symm
            | false =>
              cases b with
              | false => rfl
              | true =>
                obtain ⟨f1, f2⟩ := hb.mp rfl
                exact absurd ⟨f1, by simpa using f2⟩ (no6 rfl)
          subst eb
          refine ⟨rfl, _, rfl, ?_⟩
          rw [show (!decide (V.bl b' = V.bl b')) = false by simp]
          refine iteF ⟨_, _, rfl, fun c o e => ?_⟩
          have e5 := s35 _ _ e
          exact b6 c o (ne_of_none e5 nM) (sM _ _ e5)
        · rintro σ Hx ⟨c10', c11', rfl, sx⟩
          exact ⟨_, _, _, _, _, _, _, _, _, _, _, rfl, fun c o e => sx _ _ (back bG3 c o e)⟩
    · rintro σ He _
      exact q _
end
end K37
set_option Elab.async false
set_option linter.all false
set_option maxRecDepth 100000
set_option maxHeartbeats 4000000
set_option pp.maxSteps 400
set_option pp.deepTerms false
namespace K37
open PySem PySem.Spec PyProof.Rows L2
open Xk Az W37
theorem all_mk {l : PySem.W.OpenLaw} {w : World} {K : PySem.W.Frag} {h : Heap} {mg : Str → Option Value} {fa f0 f1 f2 f3 f4 f5 f6 f7 f8 f9 f10 f11 f12 f13 f14 f15 f16 f17 f18 f19 f20 f21 f22 f23 : Addr}
    {od0 an0 od1 an1 od2 an2 od3 an3 od4 an4 od5 an5 od6 an6 od7 an7 od8 an8 od9 an9 od10 an10 od11 an11 od12 an12 od13 an13 od14 an14 od15 an15 od16 an16 od17 an17 od18 an18 od19 an19 od20 an20 od21 an21 od22 an22 od23 an23 : Option Addr}
    {sl0 sl1 sl2 sl3 sl4 sl5 sl6 sl7 sl8 sl9 sl10 sl11 sl12 sl13 sl14 sl15 sl16 sl17 sl18 sl19 sl20 sl21 sl22 sl23 : Array (Option Value)}
    {oc0 kV0 dc0 pm0 cd0 ct0 oc1 kV1 dc1 pm1 cd1 ct1 oc2 kV2 dc2 pm2 cd2 ct2 oc3 kV3 dc3 pm3 cd3 ct3 oc4 kV4 dc4 pm4 cd4 ct4 oc5 kV5 dc5 pm5 cd5 ct5 oc6 kV6 dc6 pm6 cd6 ct6 oc7 kV7 dc7 pm7 cd7 ct7 oc8 kV8 dc8 pm8 cd8 ct8 oc9 kV9 dc9 pm9 cd9 ct9 oc10 kV10 dc10 pm10 cd10 ct10 oc11 kV11 dc11 pm11 cd11 ct11 oc12 kV12 dc12 pm12 cd12 ct12 oc13 kV13 dc13 pm13 cd13 ct13 oc14 kV14 dc14 pm14 cd14 ct14 oc15 kV15 dc15 pm15 cd15 ct15 oc16 kV16 dc16 pm16 cd16 ct16 oc17 kV17 dc17 pm17 cd17 ct17 oc18 kV18 dc18 pm18 cd18 ct18 oc19 kV19 dc19 pm19 cd19 ct19 oc20 kV20 dc20 pm20 cd20 ct20 oc21 kV21 dc21 pm21 cd21 ct21 oc22 kV22 dc22 pm22 cd22 ct22 oc23 kV23 dc23 pm23 cd23 ct23 : Value}
    {u_SMALL_LETTERS u_TEXT_SIGNS u_SHORTEST_TONGUE u_LONGEST_TONGUE u_LONGEST_TEXT u_DEEPEST : Tok}
    (X : K.In h) (G : h.Ns mainGlobals mg) (hfa : mg "law" = some (.ref fa))
    (a0 : PySem.W.nsIn K mainGlobals "is_text_of" = some (some (.ref f0)))
    (l0 : K.lookup f0 = some ⟨oc0, od0, .func (PySem.W.fnOf "is_text_of" "is_text_of" (defArgs sIsTextOf) (defBody sIsTextOf) (defScope sIsTextOf) .none kV0 dc0 pm0 an0 cd0 ct0), sl0⟩)
    (c0 : PySem.W.codeIn K cd0 "is_text_of" = true)
    (k0 : PySem.W.keepIn K (.ref f0) = true)
    (a1 : PySem.W.nsIn K mainGlobals "is_small_text" = some (some (.ref f1)))
    (l1 : K.lookup f1 = some ⟨oc1, od1, .func (PySem.W.fnOf "is_small_text" "is_small_text" (defArgs sIsSmallText) (defBody sIsSmallText) (defScope sIsSmallText) .none kV1 dc1 pm1 an1 cd1 ct1), sl1⟩)
    (c1 : PySem.W.codeIn K cd1 "is_small_text" = true)
    (k1 : PySem.W.keepIn K (.ref f1) = true)
    (a2 : PySem.W.nsIn K mainGlobals "is_tongue" = some (some (.ref f2)))
    (l2 : K.lookup f2 = some ⟨oc2, od2, .func (PySem.W.fnOf "is_tongue" "is_tongue" (defArgs sIsTongue) (defBody sIsTongue) (defScope sIsTongue) .none kV2 dc2 pm2 an2 cd2 ct2), sl2⟩)
    (c2 : PySem.W.codeIn K cd2 "is_tongue" = true)
    (k2 : PySem.W.keepIn K (.ref f2) = true)
    (a3 : PySem.W.nsIn K mainGlobals "is_name_text" = some (some (.ref f3)))
    (l3 : K.lookup f3 = some ⟨oc3, od3, .func (PySem.W.fnOf "is_name_text" "is_name_text" (defArgs sIsNameText) (defBody sIsNameText) (defScope sIsNameText) .none kV3 dc3 pm3 an3 cd3 ct3), sl3⟩)
    (c3 : PySem.W.codeIn K cd3 "is_name_text" = true)
    (k3 : PySem.W.keepIn K (.ref f3) = true)
    (a4 : PySem.W.nsIn K mainGlobals "is_name" = some (some (.ref f4)))
    (l4 : K.lookup f4 = some ⟨oc4, od4, .func (PySem.W.fnOf "is_name" "is_name" (defArgs sIsName) (defBody sIsName) (defScope sIsName) .none kV4 dc4 pm4 an4 cd4 ct4), sl4⟩)
    (c4 : PySem.W.codeIn K cd4 "is_name" = true)
    (k4 : PySem.W.keepIn K (.ref f4) = true)
    (a5 : PySem.W.nsIn K mainGlobals "is_name_with_parts" = some (some (.ref f5)))
    (l5 : K.lookup f5 = some ⟨oc5, od5, .func (PySem.W.fnOf "is_name_with_parts" "is_name_with_parts" (defArgs sIsNameWithParts) (defBody sIsNameWithParts) (defScope sIsNameWithParts) .none kV5 dc5 pm5 an5 cd5 ct5), sl5⟩)
    (c5 : PySem.W.codeIn K cd5 "is_name_with_parts" = true)
    (k5 : PySem.W.keepIn K (.ref f5) = true)
    (a6 : PySem.W.nsIn K mainGlobals "is_work" = some (some (.ref f6)))
    (l6 : K.lookup f6 = some ⟨oc6, od6, .func (PySem.W.fnOf "is_work" "is_work" (defArgs sIsWork) (defBody sIsWork) (defScope sIsWork) .none kV6 dc6 pm6 an6 cd6 ct6), sl6⟩)
    (c6 : PySem.W.codeIn K cd6 "is_work" = true)
    (k6 : PySem.W.keepIn K (.ref f6) = true)
    (a7 : PySem.W.nsIn K mainGlobals "_law_hand" = some (some (.ref f7)))
    (l7 : K.lookup f7 = some ⟨oc7, od7, .func (PySem.W.fnOf "_law_hand" "_law_hand" (defArgs sHand) (defBody sHand) (defScope sHand) .none kV7 dc7 pm7 an7 cd7 ct7), sl7⟩)
    (c7 : PySem.W.codeIn K cd7 "_law_hand" = true)
    (k7 : PySem.W.keepIn K (.ref f7) = true)
    (a8 : PySem.W.nsIn K mainGlobals "_law_take" = some (some (.ref f8)))
    (l8 : K.lookup f8 = some ⟨oc8, od8, .func (PySem.W.fnOf "_law_take" "_law_take" (defArgs sTake) (defBody sTake) (defScope sTake) .none kV8 dc8 pm8 an8 cd8 ct8), sl8⟩)
    (c8 : PySem.W.codeIn K cd8 "_law_take" = true)
    (k8 : PySem.W.keepIn K (.ref f8) = true)
    (a9 : PySem.W.nsIn K mainGlobals "_law_pick" = some (some (.ref f9)))
    (l9 : K.lookup f9 = some ⟨oc9, od9, .func (PySem.W.fnOf "_law_pick" "_law_pick" (defArgs sPick) (defBody sPick) (defScope sPick) .none kV9 dc9 pm9 an9 cd9 ct9), sl9⟩)
    (c9 : PySem.W.codeIn K cd9 "_law_pick" = true)
    (k9 : PySem.W.keepIn K (.ref f9) = true)
    (a10 : PySem.W.nsIn K mainGlobals "_law_signs" = some (some (.ref f10)))
    (l10 : K.lookup f10 = some ⟨oc10, od10, .func (PySem.W.fnOf "_law_signs" "_law_signs" (defArgs sSigns) (defBody sSigns) (defScope sSigns) .none kV10 dc10 pm10 an10 cd10 ct10), sl10⟩)
    (c10 : PySem.W.codeIn K cd10 "_law_signs" = true)
    (k10 : PySem.W.keepIn K (.ref f10) = true)
    (a11 : PySem.W.nsIn K mainGlobals "_law_text" = some (some (.ref f11)))
    (l11 : K.lookup f11 = some ⟨oc11, od11, .func (PySem.W.fnOf "_law_text" "_law_text" (defArgs sText) (defBody sText) (defScope sText) .none kV11 dc11 pm11 an11 cd11 ct11), sl11⟩)
    (c11 : PySem.W.codeIn K cd11 "_law_text" = true)
    (k11 : PySem.W.keepIn K (.ref f11) = true)
    (a12 : PySem.W.nsIn K mainGlobals "_law_tongue" = some (some (.ref f12)))
    (l12 : K.lookup f12 = some ⟨oc12, od12, .func (PySem.W.fnOf "_law_tongue" "_law_tongue" (defArgs sTongue) (defBody sTongue) (defScope sTongue) .none kV12 dc12 pm12 an12 cd12 ct12), sl12⟩)
    (c12 : PySem.W.codeIn K cd12 "_law_tongue" = true)
    (k12 : PySem.W.keepIn K (.ref f12) = true)
    (a13 : PySem.W.nsIn K mainGlobals "_law_names" = some (some (.ref f13)))
    (l13 : K.lookup f13 = some ⟨oc13, od13, .func (PySem.W.fnOf "_law_names" "_law_names" (defArgs sNames) (defBody sNames) (defScope sNames) .none kV13 dc13 pm13 an13 cd13 ct13), sl13⟩)
    (c13 : PySem.W.codeIn K cd13 "_law_names" = true)
    (k13 : PySem.W.keepIn K (.ref f13) = true)
    (a14 : PySem.W.nsIn K mainGlobals "_law_tree" = some (some (.ref f14)))
    (l14 : K.lookup f14 = some ⟨oc14, od14, .func (PySem.W.fnOf "_law_tree" "_law_tree" (defArgs sTree) (defBody sTree) (defScope sTree) .none kV14 dc14 pm14 an14 cd14 ct14), sl14⟩)
    (c14 : PySem.W.codeIn K cd14 "_law_tree" = true)
    (k14 : PySem.W.keepIn K (.ref f14) = true)
    (a15 : PySem.W.nsIn K mainGlobals "_law_work" = some (some (.ref f15)))
    (l15 : K.lookup f15 = some ⟨oc15, od15, .func (PySem.W.fnOf "_law_work" "_law_work" (defArgs sWork) (defBody sWork) (defScope sWork) .none kV15 dc15 pm15 an15 cd15 ct15), sl15⟩)
    (c15 : PySem.W.codeIn K cd15 "_law_work" = true)
    (k15 : PySem.W.keepIn K (.ref f15) = true)
    (a16 : PySem.W.nsIn K mainGlobals "_law_all" = some (some (.ref f16)))
    (l16 : K.lookup f16 = some ⟨oc16, od16, .func (PySem.W.fnOf "_law_all" "_law_all" (defArgs sAll) (defBody sAll) (defScope sAll) .none kV16 dc16 pm16 an16 cd16 ct16), sl16⟩)
    (c16 : PySem.W.codeIn K cd16 "_law_all" = true)
    (k16 : PySem.W.keepIn K (.ref f16) = true)
    (a17 : PySem.W.nsIn K mainGlobals "_law_letters" = some (some (.ref f17)))
    (l17 : K.lookup f17 = some ⟨oc17, od17, .func (PySem.W.fnOf "_law_letters" "_law_letters" (defArgs sLetters) (defBody sLetters) (defScope sLetters) .none kV17 dc17 pm17 an17 cd17 ct17), sl17⟩)
    (c17 : PySem.W.codeIn K cd17 "_law_letters" = true)
    (k17 : PySem.W.keepIn K (.ref f17) = true)
    (a18 : PySem.W.nsIn K mainGlobals "_law_is_name" = some (some (.ref f18)))
    (l18 : K.lookup f18 = some ⟨oc18, od18, .func (PySem.W.fnOf "_law_is_name" "_law_is_name" (defArgs sLawIsName) (defBody sLawIsName) (defScope sLawIsName) .none kV18 dc18 pm18 an18 cd18 ct18), sl18⟩)
    (c18 : PySem.W.codeIn K cd18 "_law_is_name" = true)
    (k18 : PySem.W.keepIn K (.ref f18) = true)
    (a19 : PySem.W.nsIn K mainGlobals "_law_walked" = some (some (.ref f19)))
    (l19 : K.lookup f19 = some ⟨oc19, od19, .func (PySem.W.fnOf "_law_walked" "_law_walked" (defArgs sWalked) (defBody sWalked) (defScope sWalked) .none kV19 dc19 pm19 an19 cd19 ct19), sl19⟩)
    (c19 : PySem.W.codeIn K cd19 "_law_walked" = true)
    (k19 : PySem.W.keepIn K (.ref f19) = true)
    (a20 : PySem.W.nsIn K mainGlobals "_law_odd" = some (some (.ref f20)))
    (l20 : K.lookup f20 = some ⟨oc20, od20, .func (PySem.W.fnOf "_law_odd" "_law_odd" (defArgs sOdd) (defBody sOdd) (defScope sOdd) .none kV20 dc20 pm20 an20 cd20 ct20), sl20⟩)
    (c20 : PySem.W.codeIn K cd20 "_law_odd" = true)
    (k20 : PySem.W.keepIn K (.ref f20) = true)
    (a21 : PySem.W.nsIn K mainGlobals "_law_otherwise" = some (some (.ref f21)))
    (l21 : K.lookup f21 = some ⟨oc21, od21, .func (PySem.W.fnOf "_law_otherwise" "_law_otherwise" (defArgs sOtherwise) (defBody sOtherwise) (defScope sOtherwise) .none kV21 dc21 pm21 an21 cd21 ct21), sl21⟩)
    (c21 : PySem.W.codeIn K cd21 "_law_otherwise" = true)
    (k21 : PySem.W.keepIn K (.ref f21) = true)
    (a22 : PySem.W.nsIn K mainGlobals "_law_chain" = some (some (.ref f22)))
    (l22 : K.lookup f22 = some ⟨oc22, od22, .func (PySem.W.fnOf "_law_chain" "_law_chain" (defArgs sChain) (defBody sChain) (defScope sChain) .none kV22 dc22 pm22 an22 cd22 ct22), sl22⟩)
    (c22 : PySem.W.codeIn K cd22 "_law_chain" = true)
    (k22 : PySem.W.keepIn K (.ref f22) = true)
    (a23 : PySem.W.nsIn K mainGlobals "law" = some (some (.ref f23)))
    (l23 : K.lookup f23 = some ⟨oc23, od23, .func (PySem.W.fnOf "law" "law" (defArgs sLaw) (defBody sLaw) (defScope sLaw) .none kV23 dc23 pm23 an23 cd23 ct23), sl23⟩)
    (c23 : PySem.W.codeIn K cd23 "law" = true)
    (k23 : PySem.W.keepIn K (.ref f23) = true)
    (g_SMALL_LETTERS : PySem.W.nsIn K mainGlobals "SMALL_LETTERS" = some (some (.str "abcdefghijklmnopqrstuvwxyz" u_SMALL_LETTERS)))
    (g_TEXT_SIGNS : PySem.W.nsIn K mainGlobals "TEXT_SIGNS" = some (some (.str "abcdefghijklmnopqrstuvwxyzABCDEFGHIJKLMNOPQRSTUVWXYZ0123456789 '-." u_TEXT_SIGNS)))
    (g_SHORTEST_TONGUE : PySem.W.nsIn K mainGlobals "SHORTEST_TONGUE" = some (some (.int 2 u_SHORTEST_TONGUE)))
    (g_LONGEST_TONGUE : PySem.W.nsIn K mainGlobals "LONGEST_TONGUE" = some (some (.int 3 u_LONGEST_TONGUE)))
    (g_LONGEST_TEXT : PySem.W.nsIn K mainGlobals "LONGEST_TEXT" = some (some (.int 40 u_LONGEST_TEXT)))
    (g_DEEPEST : PySem.W.nsIn K mainGlobals "DEEPEST" = some (some (.int 5 u_DEEPEST)))
    (z_isinstance : PySem.W.nsIn K mainGlobals "isinstance" = some none)
    (z_int : PySem.W.nsIn K mainGlobals "int" = some none)
    (z_bool : PySem.W.nsIn K mainGlobals "bool" = some none)
    (z_str : PySem.W.nsIn K mainGlobals "str" = some none)
    (z_tuple : PySem.W.nsIn K mainGlobals "tuple" = some none)
    (z_list : PySem.W.nsIn K mainGlobals "list" = some none)
    (z_len : PySem.W.nsIn K mainGlobals "len" = some none)
    (z_all : PySem.W.nsIn K mainGlobals "all" = some none)
    (z_range : PySem.W.nsIn K mainGlobals "range" = some none)
    (z_max : PySem.W.nsIn K mainGlobals "max" = some none)
    (z_min : PySem.W.nsIn K mainGlobals "min" = some none)
    (z_abs : PySem.W.nsIn K mainGlobals "abs" = some none)
    : ∃ fd : FuncData, (∀ (s : Shared) (v : Value), BindsTo s fd ⟨[v], []⟩ [("_law_script", v)]) ∧
      ∀ base : Heap, K.In base → base.Ns mainGlobals mg → FnOk l.prog w K mg base CX0 15 fa fd ["_law_script"] (spLaw K) := by
  have e := hfa.symm.trans (PySem.W.mg_of X G a23)
  cases e
  have F0 := fun_mk (st := sIsTextOf) l0 c0 k0
  have D0 : Df K mg "is_text_of" ["thing", "signs", "least", "most"] sIsTextOf f0 _ := ⟨F0, PySem.W.mg_of X G a0, F0.binds (ps := ["thing", "signs", "least", "most"]) fun _ _ _ _ _ _ us hl => match us, hl with | [_, _, _, _], _ => rfl⟩
  have F1 := fun_mk (st := sIsSmallText) l1 c1 k1
  have D1 : Df K mg "is_small_text" ["thing", "least", "most"] sIsSmallText f1 _ := ⟨F1, PySem.W.mg_of X G a1, F1.binds (ps := ["thing", "least", "most"]) fun _ _ _ _ _ _ us hl => match us, hl with | [_, _, _], _ => rfl⟩
  have F2 := fun_mk (st := sIsTongue) l2 c2 k2
  have D2 : Df K mg "is_tongue" ["thing"] sIsTongue f2 _ := ⟨F2, PySem.W.mg_of X G a2, F2.binds (ps := ["thing"]) fun _ _ _ _ _ _ us hl => match us, hl with | [_], _ => rfl⟩
  have F3 := fun_mk (st := sIsNameText) l3 c3 k3
  have D3 : Df K mg "is_name_text" ["thing"] sIsNameText f3 _ := ⟨F3, PySem.W.mg_of X G a3, F3.binds (ps := ["thing"]) fun _ _ _ _ _ _ us hl => match us, hl with | [_], _ => rfl⟩
  have F4 := fun_mk (st := sIsName) l4 c4 k4
  have D4 : Df K mg "is_name" ["thing"] sIsName f4 _ := ⟨F4, PySem.W.mg_of X G a4, F4.binds (ps := ["thing"]) fun _ _ _ _ _ _ us hl => match us, hl with | [_], _ => rfl⟩
  have F5 := fun_mk (st := sIsNameWithParts) l5 c5 k5
  have D5 : Df K mg "is_name_with_parts" ["thing"] sIsNameWithParts f5 _ := ⟨F5, PySem.W.mg_of X G a5, F5.binds (ps := ["thing"]) fun _ _ _ _ _ _ us hl => match us, hl with | [_], _ => rfl⟩
  have F6 := fun_mk (st := sIsWork) l6 c6 k6
  have D6 : Df K mg "is_work" ["thing"] sIsWork f6 _ := ⟨F6, PySem.W.mg_of X G a6, F6.binds (ps := ["thing"]) fun _ _ _ _ _ _ us hl => match us, hl with | [_], _ => rfl⟩
  have F7 := fun_mk (st := sHand) l7 c7 k7
  have D7 : Df K mg "_law_hand" ["_law_script", "_law_k"] sHand f7 _ := ⟨F7, PySem.W.mg_of X G a7, F7.binds (ps := ["_law_script", "_law_k"]) fun _ _ _ _ _ _ us hl => match us, hl with | [_, _], _ => rfl⟩
  have F8 := fun_mk (st := sTake) l8 c8 k8
  have D8 : Df K mg "_law_take" ["_law_hand_here", "_law_many"] sTake f8 _ := ⟨F8, PySem.W.mg_of X G a8, F8.binds (ps := ["_law_hand_here", "_law_many"]) fun _ _ _ _ _ _ us hl => match us, hl with | [_, _], _ => rfl⟩
  have F9 := fun_mk (st := sPick) l9 c9 k9
  have D9 : Df K mg "_law_pick" ["_law_hand_here", "_law_some"] sPick f9 _ := ⟨F9, PySem.W.mg_of X G a9, F9.binds (ps := ["_law_hand_here", "_law_some"]) fun _ _ _ _ _ _ us hl => match us, hl with | [_, _], _ => rfl⟩
  have F10 := fun_mk (st := sSigns) l10 c10 k10
  have D10 : Df K mg "_law_signs" [] sSigns f10 _ := ⟨F10, PySem.W.mg_of X G a10, F10.binds (ps := []) fun _ _ _ _ _ _ us hl => match us, hl with | [], _ => rfl⟩
  have F11 := fun_mk (st := sText) l11 c11 k11
  have D11 : Df K mg "_law_text" ["_law_hand_here", "_law_most"] sText f11 _ := ⟨F11, PySem.W.mg_of X G a11, F11.binds (ps := ["_law_hand_here", "_law_most"]) fun _ _ _ _ _ _ us hl => match us, hl with | [_, _], _ => rfl⟩
  have F12 := fun_mk (st := sTongue) l12 c12 k12
  have D12 : Df K mg "_law_tongue" ["_law_hand_here"] sTongue f12 _ := ⟨F12, PySem.W.mg_of X G a12, F12.binds (ps := ["_law_hand_here"]) fun _ _ _ _ _ _ us hl => match us, hl with | [_], _ => rfl⟩
  have F13 := fun_mk (st := sNames) l13 c13 k13
  have D13 : Df K mg "_law_names" ["_law_hand_here", "_law_many"] sNames f13 _ := ⟨F13, PySem.W.mg_of X G a13, F13.binds (ps := ["_law_hand_here", "_law_many"]) fun _ _ _ _ _ _ us hl => match us, hl with | [_, _], _ => rfl⟩
  have F14 := fun_mk (st := sTree) l14 c14 k14
  have D14 : Df K mg "_law_tree" ["_law_hand_here", "_law_deep", "_law_left"] sTree f14 _ := ⟨F14, PySem.W.mg_of X G a14, F14.binds (ps := ["_law_hand_here", "_law_deep", "_law_left"]) fun _ _ _ _ _ _ us hl => match us, hl with | [_, _, _], _ => rfl⟩
  have F15 := fun_mk (st := sWork) l15 c15 k15
  have D15 : Df K mg "_law_work" ["_law_hand_here", "_law_many"] sWork f15 _ := ⟨F15, PySem.W.mg_of X G a15, F15.binds (ps := ["_law_hand_here", "_law_many"]) fun _ _ _ _ _ _ us hl => match us, hl with | [_, _], _ => rfl⟩
  have F16 := fun_mk (st := sAll) l16 c16 k16
  have D16 : Df K mg "_law_all" ["_law_work_here"] sAll f16 _ := ⟨F16, PySem.W.mg_of X G a16, F16.binds (ps := ["_law_work_here"]) fun _ _ _ _ _ _ us hl => match us, hl with | [_], _ => rfl⟩
  have F17 := fun_mk (st := sLetters) l17 c17 k17
  have D17 : Df K mg "_law_letters" ["_law_thing", "_law_least", "_law_most", "_law_signs_here"] sLetters f17 _ := ⟨F17, PySem.W.mg_of X G a17, F17.binds (ps := ["_law_thing", "_law_least", "_law_most", "_law_signs_here"]) fun _ _ _ _ _ _ us hl => match us, hl with | [_, _, _, _], _ => rfl⟩
  have F18 := fun_mk (st := sLawIsName) l18 c18 k18
  have D18 : Df K mg "_law_is_name" ["_law_thing"] sLawIsName f18 _ := ⟨F18, PySem.W.mg_of X G a18, F18.binds (ps := ["_law_thing"]) fun _ _ _ _ _ _ us hl => match us, hl with | [_], _ => rfl⟩
  have F19 := fun_mk (st := sWalked) l19 c19 k19
  have D19 : Df K mg "_law_walked" ["_law_thing", "_law_deep", "_law_met"] sWalked f19 _ := ⟨F19, PySem.W.mg_of X G a19, F19.binds (ps := ["_law_thing", "_law_deep", "_law_met"]) fun _ _ _ _ _ _ us hl => match us, hl with | [_, _, _], _ => rfl⟩
  have F20 := fun_mk (st := sOdd) l20 c20 k20
  have D20 : Df K mg "_law_odd" ["_law_hand_here", "_law_thing", "_law_names_here"] sOdd f20 _ := ⟨F20, PySem.W.mg_of X G a20, F20.binds (ps := ["_law_hand_here", "_law_thing", "_law_names_here"]) fun _ _ _ _ _ _ us hl => match us, hl with | [_, _, _], _ => rfl⟩
  have F21 := fun_mk (st := sOtherwise) l21 c21 k21
  have D21 : Df K mg "_law_otherwise" ["_law_hand_here", "_law_thing", "_law_names_here"] sOtherwise f21 _ := ⟨F21, PySem.W.mg_of X G a21, F21.binds (ps := ["_law_hand_here", "_law_thing", "_law_names_here"]) fun _ _ _ _ _ _ us hl => match us, hl with | [_, _, _], _ => rfl⟩
  have F22 := fun_mk (st := sChain) l22 c22 k22
  have D22 : Df K mg "_law_chain" ["_law_names_here", "_law_many"] sChain f22 _ := ⟨F22, PySem.W.mg_of X G a22, F22.binds (ps := ["_law_names_here", "_law_many"]) fun _ _ _ _ _ _ us hl => match us, hl with | [_, _], _ => rfl⟩
  have F23 := fun_mk (st := sLaw) l23 c23 k23
  have D23 : Df K mg "law" ["_law_script"] sLaw fa _ := ⟨F23, PySem.W.mg_of X G a23, F23.binds (ps := ["_law_script"]) fun _ _ _ _ _ _ us hl => match us, hl with | [_], _ => rfl⟩
  have T : Txt mg := ⟨⟨_, PySem.W.mg_of X G g_SMALL_LETTERS⟩,
    ⟨_, PySem.W.mg_of X G g_TEXT_SIGNS⟩,
    ⟨_, PySem.W.mg_of X G g_SHORTEST_TONGUE⟩,
    ⟨_, PySem.W.mg_of X G g_LONGEST_TONGUE⟩,
    ⟨_, PySem.W.mg_of X G g_LONGEST_TEXT⟩,
    ⟨_, PySem.W.mg_of X G g_DEEPEST⟩,
    PySem.W.mg_none_of X G z_isinstance,
    PySem.W.mg_none_of X G z_int,
    PySem.W.mg_none_of X G z_bool,
    PySem.W.mg_none_of X G z_str,
    PySem.W.mg_none_of X G z_tuple,
    PySem.W.mg_none_of X G z_list,
    PySem.W.mg_none_of X G z_len,
    PySem.W.mg_none_of X G z_all,
    PySem.W.mg_none_of X G z_range,
    PySem.W.mg_none_of X G z_max,
    PySem.W.mg_none_of X G z_min,
    PySem.W.mg_none_of X G z_abs⟩
  refine ⟨PySem.W.fnOf "law" "law" (defArgs sLaw) (defBody sLaw) (defScope sLaw) .none kV23 dc23 pm23 an23 cd23 ct23, fun s v => .of_eq rfl, fun base kb gb => ?g⟩
  case g =>
    have cO := D0.ca (ok_of (P := l.prog) (w := w) (base := base) D0 T)
    have cSm := D1.ca (ok_small D1 T cO)
    have cTo := D2.ca (ok_tonguep D2 T cSm)
    have cNt := D3.ca (ok_nt D3 T cO)
    have cNm := D4.ca (ok_name D4 T cTo cNt)
    have cNw := D5.ca (ok_nwp D5 T cNm)
    have cIW := D6.ca (ok_work_is D6 T cNw)
    have cH := D7.ca (ok_hand (P := l.prog) (w := w) (base := base) D7 T)
    have cT := D8.ca (ok_take (P := l.prog) (w := w) (base := base) D8)
    have cP := D9.ca (ok_pick D9 T cT)
    have cS := D10.ca (ok_signs (P := l.prog) (w := w) (base := base) D10)
    have cX := D11.ca (ok_text D11 T cT cP cS)
    have cG := D12.ca (ok_tongue D12 T cT cP)
    have cN := D13.ca (ok_names D13 T cT cP cS cX cG)
    have cTA := D14.ca (fn_all (N := 5) (k := 8) (sp := spTree) fun n hn => FnOk.mono (tree_fn D14 T cP n) (by omega))
    have cAA := D16.ca (all_fn (P := l.prog) (w := w) (base := base) D16 T 5)
    have cWo := D15.ca (ok_work D15 T cT cN cTA cAA)
    have cLe := D17.ca (ok_letters (P := l.prog) (w := w) (base := base) D17 T)
    have cLN := D18.ca (ok_lname D18 T cLe cS)
    have cW5 := D19.ca (walked_fn D19 T cLN 5)
    have cOd := D20.ca (ok_odd D20 T cP)
    have cOt := D21.ca (Xfr.frame (other_fn D21 T cT cOd 10))
    have cCh := D22.ca (ok_chain (P := l.prog) (w := w) (base := base) D22 T)
    exact ok_law D23 T cH cT cWo cN cCh cOt cIW cW5
end K37
open PySem PySem.W PyProof.Rows L2
set_option maxRecDepth 100000 in
set_option maxHeartbeats 0 in
theorem PySem.Challenge.cw_takesworks_k37_works_or_not_holds : PySem.Challenge.rw_takesworks_k37_works_or_not.Holds := by
  w_on; o_law; k_head; (case hw => w_witness2)
  k_fill
  refine walk_of (l := PySem.Challenge.rw_takesworks_k37_works_or_not) (n := 63) (k := 15) (x := "_law_script") (CX := fun _ => CX0) (sp := fun w => K37.spLaw _) rfl (by decide) rfl ⟨rfl, by decide, by decide⟩ (fun w h Y => PySem.W.kIn_of Y) ?F
    (fun w H a ns hl _ hS => ⟨a, ns, rfl, hS, hl, fun _ => rfl⟩) (fun _ _ _ _ _ z => z)
  case F =>
    intro w mg fa h KX G hmg
    refine' K37.all_mk KX G hmg ?a0 ?l0 ?c0 ?k0 ?a1 ?l1 ?c1 ?k1 ?a2 ?l2 ?c2 ?k2 ?a3 ?l3 ?c3 ?k3 ?a4 ?l4 ?c4 ?k4 ?a5 ?l5 ?c5 ?k5 ?a6 ?l6 ?c6 ?k6 ?a7 ?l7 ?c7 ?k7 ?a8 ?l8 ?c8 ?k8 ?a9 ?l9 ?c9 ?k9 ?a10 ?l10 ?c10 ?k10 ?a11 ?l11 ?c11 ?k11 ?a12 ?l12 ?c12 ?k12 ?a13 ?l13 ?c13 ?k13 ?a14 ?l14 ?c14 ?k14 ?a15 ?l15 ?c15 ?k15 ?a16 ?l16 ?c16 ?k16 ?a17 ?l17 ?c17 ?k17 ?a18 ?l18 ?c18 ?k18 ?a19 ?l19 ?c19 ?k19 ?a20 ?l20 ?c20 ?k20 ?a21 ?l21 ?c21 ?k21 ?a22 ?l22 ?c22 ?k22 ?a23 ?l23 ?c23 ?k23 ?g_SMALL_LETTERS ?g_TEXT_SIGNS ?g_SHORTEST_TONGUE ?g_LONGEST_TONGUE ?g_LONGEST_TEXT ?g_DEEPEST ?z_isinstance ?z_int ?z_bool ?z_str ?z_tuple ?z_list ?z_len ?z_all ?z_range ?z_max ?z_min ?z_abs
    (case a0 => k_is)
    (case l0 => k_is)
    (case c0 => k_is)
    (case k0 => k_is)
    (case a1 => k_is)
    (case l1 => k_is)
    (case c1 => k_is)
    (case k1 => k_is)
    (case a2 => k_is)
    (case l2 => k_is)
    (case c2 => k_is)
    (case k2 => k_is)
    (case a3 => k_is)
    (case l3 => k_is)
    (case c3 => k_is)
    (case k3 => k_is)
    (case a4 => k_is)
    (case l4 => k_is)
    (case c4 => k_is)
    (case k4 => k_is)
    (case a5 => k_is)
    (case l5 => k_is)
    (case c5 => k_is)
    (case k5 => k_is)
    (case a6 => k_is)
    (case l6 => k_is)
    (case c6 => k_is)
    (case k6 => k_is)
    (case a7 => k_is)
    (case l7 => k_is)
    (case c7 => k_is)
    (case k7 => k_is)
    (case a8 => k_is)
    (case l8 => k_is)
    (case c8 => k_is)
    (case k8 => k_is)
    (case a9 => k_is)
    (case l9 => k_is)
    (case c9 => k_is)
    (case k9 => k_is)
    (case a10 => k_is)
    (case l10 => k_is)
    (case c10 => k_is)
    (case k10 => k_is)
    (case a11 => k_is)
    (case l11 => k_is)
    (case c11 => k_is)
    (case k11 => k_is)
    (case a12 => k_is)
    (case l12 => k_is)
    (case c12 => k_is)
    (case k12 => k_is)
    (case a13 => k_is)
    (case l13 => k_is)
    (case c13 => k_is)
    (case k13 => k_is)
    (case a14 => k_is)
    (case l14 => k_is)
    (case c14 => k_is)
    (case k14 => k_is)
    (case a15 => k_is)
    (case l15 => k_is)
    (case c15 => k_is)
    (case k15 => k_is)
    (case a16 => k_is)
    (case l16 => k_is)
    (case c16 => k_is)
    (case k16 => k_is)
    (case a17 => k_is)
    (case l17 => k_is)
    (case c17 => k_is)
    (case k17 => k_is)
    (case a18 => k_is)
    (case l18 => k_is)
    (case c18 => k_is)
    (case k18 => k_is)
    (case a19 => k_is)
    (case l19 => k_is)
    (case c19 => k_is)
    (case k19 => k_is)
    (case a20 => k_is)
    (case l20 => k_is)
    (case c20 => k_is)
    (case k20 => k_is)
    (case a21 => k_is)
    (case l21 => k_is)
    (case c21 => k_is)
    (case k21 => k_is)
    (case a22 => k_is)
    (case l22 => k_is)
    (case c22 => k_is)
    (case k22 => k_is)
    (case a23 => k_is)
    (case l23 => k_is)
    (case c23 => k_is)
    (case k23 => k_is)
    (case g_SMALL_LETTERS => k_is)
    (case g_TEXT_SIGNS => k_is)
    (case g_SHORTEST_TONGUE => k_is)
    (case g_LONGEST_TONGUE => k_is)
    (case g_LONGEST_TEXT => k_is)
    (case g_DEEPEST => k_is)
    (case z_isinstance => k_is)
    (case z_int => k_is)
    (case z_bool => k_is)
    (case z_str => k_is)
    (case z_tuple => k_is)
    (case z_list => k_is)
    (case z_len => k_is)
    (case z_all => k_is)
    (case z_range => k_is)
    (case z_max => k_is)
    (case z_min => k_is)
    (case z_abs => k_is)
