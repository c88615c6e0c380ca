import PyProof.Rows.All
import Wide.All
import OpenK.AllK
import Wide.FinOn
import HandS.ForMost
import HandS.ForExc
import HandS.Wide
import HandS.Flow
import HandS.IsInst
import HandS.Codes
import HandS.ExcInit
import HandS.ExcField
import HandS.ExcIs
import HandS.CallSlots
import HandS.Defaults
import HandS.MakeKw
import HandS.MakeKwOnly
import KE.KExcIs
import KE.KTryMore
import KE.KExcInit
import HandS.RaiseMore
import HandS.FStrTup
import PyProof.ReprRoads
import PyProof.StrLawsRepr
import KE.GoesMore
import HandS.Iter
import HandS.Walk
import HandS.More
import KE.GoesZip
import KE.GoesEnum
import PyProof.NeKinds
import HandS.TupAny
import HandS.Style
import HandS.TupLe
import PyProof.StrOps2
import HandS.TupMul
import HandS.OwnEq
import HandS.Zip
import HandS.SortInts
import HandS.Deep
import HandS.StrMore
import HandS.DictComp
import HandS.Conv
import PySem.Challenge.RW_takesworks_k39_paths_that_lead_nowhere
set_option Elab.async false
set_option linter.all false
set_option maxRecDepth 100000
set_option maxHeartbeats 4000000
set_option pp.maxSteps 400
set_option pp.deepTerms false
/-! A caught exception that is kept: tracked as an object of its own, with its class and its dict. -/
namespace Xk
open PySem PySem.Spec PyProof.Rows L2
/-- at a: an exception of the class cls, its dict at d (if it has one) -/
def ExK (cls : Value) (d : Option Addr) (a : Addr) : HO := .ext fun h => ∃ oe : Obj, h.get? a = some oe ∧ Zc cls d oe ∧ ∃ vs, oe.data = .fields vs
theorem exK_ok {P : Program} {w : World} {H : Hp} {h : Heap} {a : Addr} {cls : Value} {d : Option Addr} {oe : Obj} {vs : Array Value}
    (e : h.get? a = some oe) (z : Zc cls d oe) (hd : oe.data = .fields vs) : ObjOk P w H h a (ExK cls d a) :=
  ⟨⟨oe, e, z, vs, hd⟩, ⟨oe, e⟩, fun _ _ y k => by
    obtain ⟨o, q, r⟩ := y
    exact ⟨o, k o q, r⟩⟩
theorem exK_at {P : Program} {w : World} {H : Hp} {h : Heap} {a : Addr} {cls : Value} {d : Option Addr} (hok : HOk P w H h) (e : H a = some (ExK cls d a)) :
    ∃ oe : Obj, h.get? a = some oe ∧ Zc cls d oe ∧ ∃ vs, oe.data = .fields vs := by
  have z : ObjOk P w H h a (.ext fun h => ∃ oe : Obj, h.get? a = some oe ∧ Zc cls d oe ∧ ∃ vs, oe.data = .fields vs) := hok a _ e
  exact z.1
section
variable {X : Cx} {pins : List (Addr × Obj)} {σ : L2.St} {H : Hp} {s : Shared}
/-- an object that came during the call, untracked as yet, is tracked from here on -/
theorem track {a : Addr} {o : HO} (I : Inv X pins σ H s) (h0 : X.s_0.heap.get? a = none) (na : H a = none) (nL : a ≠ X.env.locals)
    (nC : ∀ x c, X.env.cells.lookup x = some c → c ≠ a) (nP : ∀ p ∈ X.pn ++ pins, p.1 ≠ a) (new : ObjOk X.prog X.w (upd H a o) s.heap a o) : Inv X pins σ (upd H a o) s := by
  have n0 : ∀ {b : Addr} {u : Obj}, X.s_0.heap.get? b = some u → b ≠ a := fun {b u} e z => by
    rw [z, h0] at e
    cases e
  refine ⟨I.ok, I.os, I.bare, ⟨I.base.keep, I.base.slot, fun b u e n hx => ?_, I.base.there, fun b xs e => ?_, fun b u v e => ?_, fun b ps e => ?_⟩, I.loc, I.cell, ?_, fun x c e => ?_, fun p hp => ?_, fun b u e => ?_, I.len⟩
  · rw [upd_ne (n0 e)]
    exact I.base.free b u e n hx
  · have q := I.base.tups b xs e
    rw [upd_ne (ne_of_none q na)]
    exact q
  · have q := I.base.frzs b u v e
    rw [upd_ne (ne_of_none q na)]
    exact q
  · obtain ⟨m, q⟩ := I.base.tbls b ps e
    exact ⟨m, by rw [upd_ne (ne_of_none q na)]; exact q⟩
  · rw [upd_ne (Ne.symm nL)]
    exact I.free
  · rw [upd_ne (nC x c e)]
    exact I.freeC x c e
  · obtain ⟨e1, e2, e3⟩ := I.pin p hp
    exact ⟨e1, by rw [upd_ne (nP p hp)]; exact e2, e3⟩
  · by_cases hb : b = a
    · subst hb
      rw [upd_same] at e
      cases e
      exact new
    · rw [upd_ne hb] at e
      refine (I.hok b u e).stay (fun _ _ _ q => q) (fun c q => ?_) fun c xs q => ?_
      · rw [upd_ne (ne_of_none q na)]
        exact q
      · rw [upd_ne (ne_of_none q na)]
        exact q
end
theorem flying_kept {B h h' : Heap} {l : List Env} {a : Addr} {Z : Obj → Prop} (f : HandSPX.FlyingZ B l a Z h) (k : ∀ b o, h.get? b = some o → h'.get? b = some o) : HandSPX.FlyingZ B l a Z h' := by
  obtain ⟨f1, f2, f3, oe, vs, T, oT, ts, t1, t2, t3, t4, t5, t6, t7, t8, t9⟩ := f
  exact ⟨fun b o e => k b o (f1 b o e), f2, f3.of_keeps fun b o e _ => ⟨o, k b o e, rfl⟩, oe, vs, T, oT, ts, k _ _ t1, t2, t3, t4, t5, t6, k _ _ t7, t8, t9⟩
/-- what the clause 'except (A, B, C) as n' wishes of an exception of the body: slot i is n's; the exception is tracked -/
def wKeep (K : PySem.W.Frag) (cs : List Value) (i : Nat) (ts : Addr → TS) (Wout : WX) (D : Ends) : WX := fun cls d σ H =>
  ∃ b, PySem.W.exmAny K cls cs = some b ∧
    (b = true → ∀ a, H a = none → ts a { nx := fun σ' H' => D.nx (σ'.set i none) H', rt := D.rt, bk := fun σ' H' => D.bk (σ'.set i none) H', ct := fun σ' H' => D.ct (σ'.set i none) H' } (σ.set i (some (.ref a))) (upd H a (ExK cls d a))) ∧
    (b = false → Wout cls d σ H)
/-- a module's own class by its name -/
structure Nm (X : Cx) (x : Str) (C : Addr) : Prop where
  gl : Gl X x
  db : (x == ("__debug__" : Str)) = false
  mg : X.mg x = some (.ref C)
section
variable {X : Cx} {x1 x2 x3 n : Str} {C1 C2 C3 : Addr} {i : Nat} {body suite : List Stmt} {b₀ : Stmt} {p1 p2 p3 tp pos pos' : Pos} {tb : WX → TS} {ts : Addr → TS} {Wout : WX} {cx}
theorem ps_try_keep (hs : X.stack = X.env :: X.outer) (hf : X.env.frame = some X.env.locals) (hex : X.ex = []) (hN : X.N.Nodup) (hi : X.N[i]? = some n) (hln : X.env.kindOf n = some .local)
    (n1 : Nm X x1 C1) (n2 : Nm X x2 C2) (n3 : Nm X x3 C3) (tk : Takes X Wout)
    (hb : ∀ (W : WX) (pn : List (Addr × Obj)) (xe : Value → Shared → Prop), Takes (X.tr pn xe) W → PassesOwn (model X.prog X.w) X.A X.env xe → PSs (X.tr pn xe) body (tb W))
    (hsu : ∀ (a : Addr) (pn : List (Addr × Obj)), PSs (X.suite a pn) (b₀ :: suite) (ts a)) :
    PS X (.Try body [.ExceptHandler (some (.Tuple [.Name x1 p1, .Name x2 p2, .Name x3 p3] cx tp)) (some n) (b₀ :: suite) pos'] [] [] pos) (fun D σ H => tb (wKeep X.K [.ref C1, .ref C2, .ref C3] i ts Wout D) D σ H) := by
  refine ⟨fun pins s σ H D I h => ?_⟩
  have ok := I.ok
  have frs2 : X.A.frames = some (X.env :: X.outer) := by rw [ok.frames, hs]
  refine wpAny_Try_except ?_
  refine wpAny_mono ((hb (wKeep X.K [.ref C1, .ref C2, .ref C3] i ts Wout D) (X.pn ++ pins)
    (fun e s₁ => wpAny (model X.prog X.w) X.A (noteFrame e X.env) (fun _ s₂ => wpAny (model X.prog X.w) X.A (setFlight e none) (fun _ s₃ => wpAny (model X.prog X.w) X.A
      (handleBy e X.env [.ExceptHandler (some (.Tuple [.Name x1 p1, .Name x2 p2, .Name x3 p3] cx tp)) (some n) (b₀ :: suite) pos']) (SP X pins D) X.xe s₃) X.xe s₂) X.xe s₁)
    (fun u s' air => ?_) PassesOwn.looking).run [] s σ H D (I.toTry _) h) (fun f s1 hsp => ?_) (fun e s1 he => he)
  · obtain ⟨a, B, sI, pins', σ', H', cls, d, rfl, J', nb, up, sky, na, os, ag, b, hb1, hyes, hno⟩ := air
    have J : Inv X pins σ' H' sI := J'.ofTry ok
    have sky2 : Sky B (X.env :: X.outer) a (Zc cls d) X.env.locals s'.heap := by
      rw [← hs]
      exact sky
    refine Sky.land Zc.steady frs2 hf sky2 fun h3 fl3 up3 => ?_
    obtain ⟨oe3, vs3, he3, hz3, hd3⟩ := fl3.there
    have nfr : a ∉ frs (X.env :: X.outer) := fun hm => by
      obtain ⟨_, o', e', hnf⟩ := fl3.2.2.1.mem hm
      rw [he3] at e'
      cases e'
      exact hnf _ hd3
    have nL : a ≠ X.env.locals := fun z => nfr (List.mem_filterMap.mpr ⟨X.env, List.mem_cons_self, by rw [hf, z]⟩)
    have nF : a ∉ X.fs := fun hm => by
      obtain ⟨e, he, q⟩ := List.mem_filterMap.mp hm
      exact nfr (List.mem_filterMap.mpr ⟨e, List.mem_cons_of_mem _ he, q⟩)
    -- it was not there when the call began
    have aI : sI.heap.get? a = none := by
      cases e : sI.heap.get? a with
      | none => rfl
      | some o =>
        have z := nb a o e (by rw [hs]; exact nfr)
        rw [fl3.2.1] at z
        cases z
    have a0 : X.s_0.heap.get? a = none := by
      cases e : X.s_0.heap.get? a with
      | none => rfl
      | some o =>
        obtain ⟨o', z⟩ := J.base.there a o e (by rw [hex]; exact fun z => nomatch z)
        rw [aI] at z
        cases z
    have nP : ∀ p ∈ X.pn ++ pins, p.1 ≠ a := fun p hp z => by
      have q := (J.pin p hp).1
      rw [z, aI] at q
      cases q
    have trk : ∀ {h4 : Heap} {s4 : Shared}, s4.heap = h4 → HandSPX.FlyingZ B (X.env :: X.outer) a (Zc cls d) h4 → Inv X pins σ' H' s4 → Inv X pins σ' (upd H' a (ExK cls d a)) s4 := fun {h4 s4} e4 fl4 J4 => by
      subst e4
      obtain ⟨oe4, vs4, he4, hz4, hd4⟩ := fl4.there
      refine track J4 a0 na nL (fun x c e z => ?_) nP (exK_ok he4 hz4 hd4)
      obtain ⟨v, o, eo, ed⟩ := J4.cell x c e
      rw [z, he4] at eo
      cases eo
      rw [hd4] at ed
      cases ed
    have J3 : Inv X pins σ' H' { s' with heap := h3 } := J.landed nb fl3.1 (up.trans up3) os ag
    have S3 : Inv (X.suite a (X.pn ++ pins)) [] σ' H' { s' with heap := h3 } :=
      ⟨J3.ok.suite _ _, J3.os, J3.bare, J3.base, J3.loc, J3.cell, J3.free, J3.freeC, fun p hp => J3.pin p (by rw [List.append_nil] at hp; exact hp), J3.hok, J3.len⟩
    refine wpAny_handleBy_cons (codeAny_handlers_test ?_) (by intro q; cases q)
    have own : ∀ {x : Str} {C : Addr} {p : Pos} {Q : Value → Shared → Prop} {E : Value → Shared → Prop}, Nm X x C → Q (.ref C) { s' with heap := h3 } →
        wpAny (model X.prog X.w) (X.A.mark (some (.ref a))) (eval (.Name x p) X.env) Q E { s' with heap := h3 } := fun {x C p Q E} z q => ld_glob (X := X.suite a (X.pn ++ pins)) S3 z.gl z.mg q z.db
    have tup : ∀ {Q : Value → Shared → Prop} {E : Value → Shared → Prop}, Q (.ref h3.objs.size) { s' with heap := h3.push { cls := .type "tuple", data := .seq [Value.ref C1, .ref C2, .ref C3].toArray } } →
        wpAny (model X.prog X.w) (X.A.mark (some (.ref a))) (eval (.Tuple [.Name x1 p1, .Name x2 p2, .Name x3 p3] cx tp) X.env) Q E { s' with heap := h3 } := fun {Q E} q => by
      refine wpAny_Tuple_spliced ?_
      show wpAny _ _ (spliced ((false, eval (.Name x1 p1) X.env) :: (false, eval (.Name x2 p2) X.env) :: (false, eval (.Name x3 p3) X.env) :: [])) _ _ _
      exact Calls.spliced_cons (own n1 (Calls.spliced_cons (own n2 (Calls.spliced_cons (own n3 (Calls.spliced_nil ⟨by show 3 ≤ sizeLine; decide, q⟩))))))
    refine tup ?_
    have k4 : ∀ b o, h3.get? b = some o → (h3.push { cls := .type "tuple", data := .seq [Value.ref C1, .ref C2, .ref C3].toArray }).get? b = some o := fun b o e => Heap.get?_push_of_some _ e
    have t4 := Heap.get?_push_size h3 (o := { cls := .type "tuple", data := .seq [Value.ref C1, .ref C2, .ref C3].toArray }) rfl
    generalize h3.push { cls := .type "tuple", data := .seq [Value.ref C1, .ref C2, .ref C3].toArray } = h4 at k4 t4 ⊢
    have fl4 := flying_kept fl3 k4
    have J4 : Inv X pins σ' H' { s' with heap := h4 } := J3.kept k4
    have LT : PySem.W.Looks (model X.prog X.w) h4 (typeOf (.ref a)) cls := fun A Q E s k q => wpAny_typeOf_ref (k _ _ (k4 _ _ he3)) (by rw [hz3.1]; exact q)
    refine (PySem.W.exm_tup3 (M := model X.prog X.w) J4.kIn LT t4 hb1).here ?_
    cases b with
    | true =>
      refine codeAny_handlers_suite_as ?_
      refine HandSPX.lands_againZ fl4 fun h5 fl5 up5 => ?_
      have J5 : Inv X pins σ' H' { s' with heap := h5 } := J.landed nb fl5.1 ((up.trans up3).trans ((Heap.UpToSlots.of_keeps k4).trans up5)) os ag
      have T5 := trk rfl fl5 J5
      have S5 : Inv (X.suite a (X.pn ++ pins)) [] σ' (upd H' a (ExK cls d a)) { s' with heap := h5 } :=
        ⟨T5.ok.suite _ _, T5.os, T5.bare, T5.base, T5.loc, T5.cell, T5.free, T5.freeC, fun p hp => T5.pin p (by rw [List.append_nil] at hp; exact hp), T5.hok, T5.len⟩
      refine store_ok (X := X.suite a (X.pn ++ pins)) (v := .ref a) S5 hN hi (.inl hln) rfl (fun s6 S6 => ?_) (.inr hln)
      refine wpAny_mono ((hsu a (X.pn ++ pins)).run [] s6 _ _ _ S6 (hyes rfl a na)) (fun f s7 hsp => ?_) (fun _ _ z => False.elim z)
      have back : ∀ {σ7 : L2.St} {H7 : Hp}, Inv (X.suite a (X.pn ++ pins)) [] σ7 H7 s7 → Inv X pins σ7 H7 s7 := fun {σ7 H7} S7 =>
        ⟨ok, S7.os, S7.bare, S7.base, S7.loc, S7.cell, S7.free, S7.freeC, fun p hp => S7.pin p (by rw [List.append_nil]; exact hp), S7.hok, S7.len⟩
      cases f with
      | next =>
        obtain ⟨σ7, H7, S7, q7⟩ := hsp
        exact gone_ok (back S7) hN hi hln fun s8 J8 => ⟨_, _, J8, q7⟩
      | brk =>
        obtain ⟨σ7, H7, S7, q7⟩ := hsp
        exact gone_ok (back S7) hN hi hln fun s8 J8 => ⟨_, _, J8, q7⟩
      | cont =>
        obtain ⟨σ7, H7, S7, q7⟩ := hsp
        exact gone_ok (back S7) hN hi hln fun s8 J8 => ⟨_, _, J8, q7⟩
      | ret u =>
        obtain ⟨v7, σ7, H7, S7, r7, q7⟩ := hsp
        exact gone_ok (back S7) hN hi hln fun s8 J8 => ⟨_, _, _, J8, r7, q7⟩
    | false =>
      refine wpAny_handleBy_nil ?_
      obtain ⟨k1, k2, k3, oe, vs, T, oT, ts', he, hz, hd, h1, hr⟩ := id fl4
      unfold PySem.passOn
      refine wpAny_bind (wpAny_field he hd h1 ?_)
      rw [if_neg (by simp : ¬ ((Value.ref T == Value.none) = true))]
      have fin : wpAny (model X.prog X.w) X.A (setFlight (.ref a) X.env.frame) (fun _ s5 => wpAny (model X.prog X.w) X.A (throw (.ref a) : Sem Flow) (SP X pins D) X.xe s5) X.xe { s' with heap := h4 } := by
        rw [hf]
        refine HandSPX.setFlight_upZ fl4 fun h5 hh5 up5 => wpAny_throw (tk _ _ ?_)
        exact ⟨a, B, sI, pins, σ', H', cls, d, rfl, J, nb, (up.trans up3).trans ((Heap.UpToSlots.of_keeps k4).trans up5), .inr (.inr (by rw [hs]; exact hh5)), na, os, ag, hno rfl⟩
      first
        | exact wpAny_bind (wpAny_pure (wpAny_bind fin))
        | exact wpAny_bind fin
  · cases f with
    | next =>
      obtain ⟨σ', H', J', q⟩ := hsp
      exact wpAny_execs_nil ⟨σ', H', J'.ofTry ok, q⟩
    | brk =>
      obtain ⟨σ', H', J', q⟩ := hsp
      exact ⟨σ', H', J'.ofTry ok, q⟩
    | cont =>
      obtain ⟨σ', H', J', q⟩ := hsp
      exact ⟨σ', H', J'.ofTry ok, q⟩
    | ret u =>
      obtain ⟨v, σ', H', J', r, q⟩ := hsp
      exact ⟨v, σ', H', J'.ofTry ok, r, q⟩
end
end Xk
set_option Elab.async false
set_option linter.all false
set_option maxRecDepth 100000
set_option maxHeartbeats 4000000
set_option pp.maxSteps 400
set_option pp.deepTerms false
namespace Xk
open PySem PySem.Spec PyProof.Rows L2
/-- what an own exception class says, so that its kept instances are read and asked -/
structure XcC (K : PySem.W.Frag) (C : Addr) : Prop where
  cl : (PySem.W.clsIn K C).isSome = true
  ga : PySem.W.findIn K (.ref C) "__getattribute__" = some (some (.builtin "BaseException.__getattribute__"))
  gg : PySem.W.findIn K (.ref C) "__getattr__" = some none
  sb : PySem.W.subIn K (.ref C) (.type "BaseException") = some true
  hd : PySem.W.hasDictIn K C = true
  ha : PySem.W.findIn K (.ref C) "__class__" = some (some (.builtin "object.__class__"))
  hn : PySem.W.specialIn K (.builtin "object.__class__") "__get__" = some (some (.builtin "getset_descriptor.__get__"))
  ht : PySem.W.takesIn K (.builtin "object.__class__") = some true
  hm : PySem.W.mroIn K C (.type "object") = some true
/-- a kept exception of the class at C with the fields fs -/
def Kept (H : Hp) (a C : Addr) (fs : List (Str × V)) : Prop := ∃ d, H a = some (ExK (.ref C) (some d) a) ∧ H d = some (.xd fs)
theorem Kept.same {H H' : Hp} {a C : Addr} {fs : List (Str × V)} (k : Kept H a C fs) (s : L2.Same H H') : Kept H' a C fs := by
  obtain ⟨d, e1, e2⟩ := k
  exact ⟨d, s _ _ e1, s _ _ e2⟩
section
variable {X : Cx} {pins : List (Addr × Obj)} {σ : L2.St} {H : Hp} {s : Shared}
theorem Kept.inst {a C : Addr} {fs : List (Str × V)} (I : Inv X pins σ H s) (k : Kept H a C fs) :
    ∃ (oe od : Obj) (mA : Str → Option Value), PySem.W.InstAt s.heap a oe C (some od) ∧ (∀ n, PySem.W.lookIn n od = some (mA n)) ∧ ∀ f, RelO (fs.lookup f) (mA f) := by
  obtain ⟨d, e1, e2⟩ := k
  obtain ⟨oe, he, hz, vs, hv⟩ := exK_at I.hok e1
  have hx : ObjOk X.prog X.w H s.heap d (.xd fs) := I.hok d _ e2
  obtain ⟨mA, hns, hr⟩ := hx
  obtain ⟨od, ho, hl⟩ := lookIn_ns hns
  refine ⟨oe, od, mA, ⟨he, hz.1, by unfold PySem.W.notCls; rw [hv] <;> rfl, by rw [hz.2]; exact ho⟩, hl, hr⟩
end
/-- e.f of a kept exception -/
def tKf (C : Addr) (f : Str) (te : TE) : TE := fun σ H Q => te σ H fun x H1 => ∃ (a : Addr) (fs : List (Str × V)) (v : V), x = .ref a ∧ Kept H1 a C fs ∧ fs.lookup f = some v ∧ Q v H1
theorem pe_kf {X : Cx} {C : Addr} {e : Expr} {te : TE} {pos : Pos} {n : Str} (T : XcC X.K C) (hno : PySem.W.findIn X.K (.ref C) n = some none) (he : PE X e te)
    (hb : attributeBase e n X.env (eval e X.env) = eval e X.env := by rfl) : PE X (.Attribute e n pos) (tKf C n te) := by
  refine ⟨fun pins s σ H Q I h => attr_of hb (thn (he.run pins s σ H _ I h) fun u s1 z => ?_)⟩
  obtain ⟨x, H1, I1, rx, a, fs, v, ex, k, l, q⟩ := z
  subst ex
  obtain rfl : u = Value.ref a := rx
  obtain ⟨oe, od, mA, J, hl, hr⟩ := k.inst I1
  obtain ⟨y, hy, ry⟩ := RelO.some_of (v := v) (o := mA n) (by rw [← l]; exact hr n)
  exact HandSPX.exc_get I1.kIn J T.ga T.gg T.sb (PySem.W.findObj_own T.hd hno rfl (by rw [hl, hy])) (handed_of ry) ⟨v, H1, I1.tok _, ry, q⟩
/-- isinstance(e, c), isinstance(e, (c1, ..)) of a kept exception -/
def rIsK (K : PySem.W.Frag) (C : Addr) : List V → Hp → VK → Prop := fun xs H Q => ∃ (a : Addr) (fs : List (Str × V)) (c : V) (u : Value) (b : Bool), xs = [.ref a, c] ∧ Kept H a C fs ∧ ClsV c u ∧ PySem.W.kitOne K (.ref C) u = some b ∧ Q (.bl b) H
def rIsKT (K : PySem.W.Frag) (C : Addr) : List V → Hp → VK → Prop := fun xs H Q => ∃ (a tp : Addr) (fs : List (Str × V)) (cs : List V) (us : List Value) (b : Bool), xs = [.ref a, .ref tp] ∧ Kept H a C fs ∧
  H tp = some (.tup cs) ∧ Paired ClsV cs us ∧ PySem.W.kitAny K (.ref C) us = some b ∧ Q (.bl b) H
theorem call_isK {X : Cx} {C : Addr} (T : XcC X.K C) : CallR X (.builtin "isinstance") (rIsK X.K C) := by
  intro pins s σ H xs us Q I r h
  obtain ⟨a, fs, c, u, b, rfl, k, hc, e, q⟩ := h
  obtain ⟨u1, u2, rfl, r1, r2⟩ := vals2 r
  have e2 := hc.eq r2
  subst e2
  cases (show u1 = Value.ref a from r1)
  obtain ⟨oe, od, mA, J, _, _⟩ := k.inst I
  exact PySem.W.kia_one (PySem.W.kitx_exc (ox := oe) (od := some od) T.cl T.ga T.gg T.sb T.ha T.hn T.ht T.hm) I.kIn J e (fun z => nomatch z) fun tk => ⟨.bl b, H, I.tok tk, rfl, q⟩
theorem call_isKT {X : Cx} {C : Addr} (T : XcC X.K C) : CallR X (.builtin "isinstance") (rIsKT X.K C) := by
  intro pins s σ H xs us Q I r h
  obtain ⟨a, tp, fs, cs, ws, b, rfl, k, hT, hc, e, q⟩ := h
  obtain ⟨u1, u2, rfl, r1, r2⟩ := vals2 r
  cases (show u1 = Value.ref a from r1)
  cases (show u2 = Value.ref tp from r2)
  obtain ⟨oe, od, mA, J, _, _⟩ := k.inst I
  have ht : ObjOk X.prog X.w H s.heap tp (.tup cs) := I.hok tp _ hT
  obtain ⟨_, its, rv, o, h1, h2, n, h3⟩ := ht
  have e3 := ClsV.all hc rv
  subst e3
  obtain ⟨oc, od2, dt, sl⟩ := o
  simp only at h2 h3
  subst h2 h3
  exact PySem.W.kia_tup (PySem.W.kitx_exc (ox := oe) (od := some od) T.cl T.ga T.gg T.sb T.ha T.hn T.ht T.hm) I.kIn J h1 e (fun z => nomatch z) fun tk => ⟨.bl b, H, I.tok tk, rfl, q⟩
/-! ### B.__init__(self, ..), B an own class over ValueError without own __init__ -/
structure BiC (K : PySem.W.Frag) (B : Addr) : Prop where
  rd : PySem.W.readsIn K B (.type "type") = true
  sp : PySem.W.specialIn K (.ref B) "__getattribute__" = some (some (.builtin "type.__getattribute__"))
  fi : PySem.W.findCls K (.ref B) (.type "type") "__init__" = some (.val (.builtin "ValueError.__init__"))
theorem pe_binit {X : Cx} {B : Addr} {x : Str} {e : Expr} {es : List Expr} {ta : TA} {p1 p2 pos : Pos} {pl : Sem Bool} (T : BiC X.K B) (gl : Gl X x) (mg : X.mg x = some (.ref B)) (ha : PA X (e :: es) ta) (hdb : (x == ("__debug__" : Str)) = false := by decide)
    (hc : eval (.Call (.Attribute (.Name x p1) "__init__" p2) (e :: es) [] pos) X.env = (do
      let ov ← eval (.Name x p1) X.env
      standAt p2.atName
      let (f, first) ← holding [ov] (getMethod ov "__init__" pl)
      callWith pos f first (backTo pos (starEach (e :: es) X.env)) (backToKw pos (keywordEach [] X.env))) := by rfl)
    (he : starEach (e :: es) X.env = (false, eval e X.env) :: starEach es X.env := by rfl) (hpl : (backTo pos (starEach es X.env)).any (·.1) = false := by rfl) :
    PE X (.Call (.Attribute (.Name x p1) "__init__" p2) (e :: es) [] pos) (tVeI X.K ta) := by
  refine ⟨fun pins s σ H Q I h => PySem.W.methodCall_KW (ld_glob I gl mg ?_ hdb) hc⟩
  refine PySem.W.method_cls I.kIn T.sp (PySem.W.cls_value I.kIn T.rd T.fi (by decide +kernel) ?_)
  show wpAny _ _ (callWith pos (Value.builtin "ValueError.__init__") [] (backTo pos (starEach (e :: es) X.env)) []) _ _ _
  refine PyProof.Rows.callWith_method1 (thn (ha.run pos pins _ σ H _ (I.tok _) h) fun us s1 z => ?_) he hpl
  obtain ⟨vs, H1, I1, r1, a, C, ws, ev, hl, Tx, ea, q⟩ := z
  subst ev
  cases r1 with
  | @cons _ u0 _ ur ra rw' =>
    obtain rfl : u0 = Value.ref a := ra
    refine oinit_ok Tx I1 ea ?_ fun s' J => ⟨.non, H1, J, rfl, q⟩
    rw [← Paired.length rw', sizeLine_eq]
    omega
/-! ### calls in a try's body: what is raised is wished for at the slots -/
section
variable {X : Cx} {CX : CXT} {k n : Nat} {f C : Addr} {fd : FuncData} {ps ks : List Str} {sp : Sp} {dvs : List V} {ds : List Value} {E : L2.St → XK} {x : Str} {p pos : Pos} {e : Expr} {es : List Expr} {kws : List Keyword} {t tk : TA}
  {g : List Value → List Value → List Value} {gV : List V → List V → List V}
def tMakeS (C : Addr) (sp : Sp) (dvs : List V) (E : L2.St → XK) (t : TA) : TE := fun σ H Q => t σ H fun vs H1 => ∀ x dx, H1 x = none → H1 dx = none → dx ≠ x →
  sp (.ref x :: (vs ++ dvs)) (upd (upd H1 dx (.own x)) x (.ins C dx [])) (fun v H2 => v = .non ∧ Q (.ref x) H2) (E σ)
theorem pe_makeS (M : Mk X.K C f) (F : FnOk X.prog X.w X.K X.mg X.base CX k f fd ps sp) (room : Room (k + 1) X.A) (gl : Gl X x) (mg : X.mg x = some (.ref C)) (bd : Binds X.K fd ps ds) (rd : Vals dvs ds) (px : ∀ σ, PassesAt CX X σ (E σ))
    (ha : PA X (e :: es) t) (hdb : (x == ("__debug__" : Str)) = false := by decide) (he : starEach (e :: es) X.env = (false, eval e X.env) :: starEach es X.env := by rfl) (hpl : (backTo pos (starEach es X.env)).any (·.1) = false := by rfl) :
    PE X (.Call (.Name x p) (e :: es) [] pos) (tMakeS C sp dvs E t) := by
  refine ⟨fun pins s σ H Q I h => wpAny_Call_Name_kw (ld_glob I gl mg ?_ hdb)⟩
  refine PySem.W.callWith_K (h₀ := X.base) I.ok.mod.kin M.kp (thn (ha.run pos pins s σ H _ I h) fun us s1 z => ?_) he hpl
  obtain ⟨vs, H1, I1, r, q⟩ := z
  refine ⟨I1.kIn, ?_⟩
  have q1 := q (s1.heap.objs.size + 1) s1.heap.objs.size (I1.hok.fresh (Nat.le_succ _)) (I1.hok.fresh (Nat.le_refl _)) (Nat.ne_of_lt (Nat.lt_succ_self _))
  have I2 := Inv.made (C := C) I1
  have r2 : Vals (V.ref (s1.heap.objs.size + 1) :: (vs ++ dvs)) (Value.ref (s1.heap.objs.size + 1) :: (us ++ ds)) := .cons rfl (r.append rd)
  have many : (Value.ref (s1.heap.objs.size + 1) :: us ++ ds).length = ps.length := (r2.length.symm.trans (F.len _ _ _ _ q1))
  refine wpAny_call (make_map (f := f) I1.kIn M.makes M.init (beq_iff_eq.mp M.fn) (codeAny_mono (F.run _ X.stack _ _ ⟨Value.ref (s1.heap.objs.size + 1) :: us, []⟩ (Value.ref (s1.heap.objs.size + 1) :: (us ++ ds)) _ _ (E σ)
    (room.make C us []) (I2.env0.make C us []) (bd _ (Value.ref (s1.heap.objs.size + 1) :: us) I2.kIn many) r2 q1) fun r s' z => ?_))
  cases r with
  | error e => exact px σ pins _ _ e s' I2 z
  | ok fl =>
    cases fl with
    | ret u =>
      obtain ⟨v, H', I3, rv, ev, q3⟩ := I2.after z
      subst ev
      exact ⟨rv, ⟨V.ref (s1.heap.objs.size + 1), H', I3, rfl, q3⟩⟩
    | next => exact False.elim z
    | brk => exact False.elim z
    | cont => exact False.elim z
def tMakeKS (C : Addr) (m : Nat) (sp : Sp) (gV : List V → List V → List V) (E : L2.St → XK) (tk : TA) : TE := fun σ H Q => tk σ H fun zs H2 => zs.length = m ∧
  ∀ x dx, H2 x = none → H2 dx = none → dx ≠ x → sp (gV [.ref x] zs) (upd (upd H2 dx (.own x)) x (.ins C dx [])) (fun v H3 => v = .non ∧ Q (.ref x) H3) (E σ)
theorem pe_makeKS (M : Mk X.K C f) (F : FnOk X.prog X.w X.K X.mg X.base CX k f fd ps sp) (room : Room (k + 1) X.A) (gl : Gl X x) (mg : X.mg x = some (.ref C)) (kb : KBn X.K fd ps 1 ks g gV) (px : ∀ σ, PassesAt CX X σ (E σ)) (pk : PK X kws tk)
    (hall : (backToKw pos (keywordEach kws X.env)).all (·.1.isSome) = true := by rfl) (hks : (backToKw pos (keywordEach kws X.env)).filterMap (·.1) = ks := by rfl) (hdb : (x == ("__debug__" : Str)) = false := by decide)
    (hpl : ((backTo pos (starEach [] X.env)).any (·.1) || (backToKw pos (keywordEach kws X.env)).any (·.1.isNone)) = false := by rfl) :
    PE X (.Call (.Name x p) [] kws pos) (tMakeKS C ks.length sp gV E tk) := by
  refine ⟨fun pins s σ H Q I h => wpAny_Call_Name_kw (ld_glob I gl mg ?_ hdb)⟩
  refine PySem.W.callWith_KW0 (h₀ := X.base) I.ok.mod.kin M.kp hall (thn (pk.run pos pins s σ H _ I h) fun ws s1 z => ?_) hpl
  obtain ⟨zs, H1, I1, rz, l2, q⟩ := z
  refine ⟨I1.kIn, ?_⟩
  rw [hks]
  have q1 := q (s1.heap.objs.size + 1) s1.heap.objs.size (I1.hok.fresh (Nat.le_succ _)) (I1.hok.fresh (Nat.le_refl _)) (Nat.ne_of_lt (Nat.lt_succ_self _))
  have I2 := Inv.made (C := C) I1
  have r1 : Vals [V.ref (s1.heap.objs.size + 1)] [Value.ref (s1.heap.objs.size + 1)] := .cons rfl .nil
  have r2 := kb.rel r1 rz
  refine wpAny_call (make_map (f := f) I1.kIn M.makes M.init (beq_iff_eq.mp M.fn) (codeAny_mono (F.run _ X.stack _ _ ⟨[Value.ref (s1.heap.objs.size + 1)], ks.zip ws⟩ (g [Value.ref (s1.heap.objs.size + 1)] ws) _ _ (E σ)
    (room.make C [] (ks.zip ws)) (I2.env0.make C [] (ks.zip ws)) (kb.to _ [Value.ref (s1.heap.objs.size + 1)] ws I2.kIn rfl (rz.length.symm.trans l2)) r2 q1) fun r s' z => ?_))
  cases r with
  | error e => exact px σ pins _ _ e s' I2 z
  | ok fl =>
    cases fl with
    | ret u =>
      obtain ⟨v, H', I3, rv, ev, q3⟩ := I2.after z
      subst ev
      exact ⟨rv, ⟨V.ref (s1.heap.objs.size + 1), H', I3, rfl, q3⟩⟩
    | next => exact False.elim z
    | brk => exact False.elim z
    | cont => exact False.elim z
def tCallKS (m : Nat) (sp : Sp) (gV : List V → List V → List V) (E : L2.St → XK) (tk : TA) : TE := fun σ H Q => tk σ H fun zs H2 => zs.length = m ∧ sp (gV [] zs) H2 Q (E σ)
theorem pe_callKS (F : FnOk X.prog X.w X.K X.mg X.base CX k f fd ps sp) (room : Room k X.A) (gl : Gl X x) (mg : X.mg x = some (.ref f)) (kp : PySem.W.keepIn X.K (.ref f) = true) (kb : KBn X.K fd ps 0 ks g gV) (px : ∀ σ, PassesAt CX X σ (E σ)) (pk : PK X kws tk)
    (hall : (backToKw pos (keywordEach kws X.env)).all (·.1.isSome) = true := by rfl) (hks : (backToKw pos (keywordEach kws X.env)).filterMap (·.1) = ks := by rfl) (hdb : (x == ("__debug__" : Str)) = false := by decide)
    (hpl : ((backTo pos (starEach [] X.env)).any (·.1) || (backToKw pos (keywordEach kws X.env)).any (·.1.isNone)) = false := by rfl) :
    PE X (.Call (.Name x p) [] kws pos) (tCallKS ks.length sp gV E tk) := by
  refine ⟨fun pins s σ H Q I h => wpAny_Call_Name_kw (ld_glob I gl mg ?_ hdb)⟩
  refine PySem.W.callWith_KW0 (h₀ := X.base) I.ok.mod.kin kp hall (thn (pk.run pos pins s σ H _ I h) fun ws s1 z => ?_) hpl
  obtain ⟨zs, H1, I1, rz, l2, q⟩ := z
  refine ⟨I1.kIn, ?_⟩
  rw [hks]
  have rn : Vals [] [] := .nil
  have r2 := kb.rel rn rz
  refine wpAny_call (codeAny_mono (F.run X.A X.stack s1 H1 ⟨[], ks.zip ws⟩ (g [] ws) (gV [] zs) Q (E σ) room I1.env0 (kb.to s1 [] ws I1.kIn rfl (rz.length.symm.trans l2)) r2 q) fun r s' z => ?_)
  cases r with
  | error e => exact px σ pins _ _ e s' I1 z
  | ok fl =>
    cases fl with
    | ret u => exact I1.after z
    | next => exact False.elim z
    | brk => exact False.elim z
    | cont => exact False.elim z
end
end Xk
set_option Elab.async false
set_option linter.all false
set_option maxRecDepth 100000
set_option maxHeartbeats 4000000
set_option pp.maxSteps 400
set_option pp.deepTerms false
/-! Own exceptions of any built-in family, whose __init__ asks the family's __init__ and stores one field. -/
namespace Xle
open PySem PySem.Spec PyProof.Rows L2
/-- own classes, then what a built-in class rests on -/
def mroL (cs : List Addr) (tl : List Value) : List Value := cs.map Value.ref ++ tl
theorem mro_has (cs : List Addr) (tl : List Value) (T : String) : (mroL cs tl).contains (.type T) = tl.contains (.type T) := by
  unfold mroL
  induction cs with
  | nil => rfl
  | cons c r ih => rw [List.map_cons, List.cons_append, List.contains_cons, ih]; rfl
theorem mro_pass {tl : List Value} {self : Value} (h : refuseLoop self "__setattr__" tl = pure ()) (cs : List Addr) : refuseLoop self "__setattr__" (mroL cs tl) = pure () := by
  unfold mroL
  induction cs with
  | nil => exact h
  | cons c r ih => rw [List.map_cons, List.cons_append, refuseLoop_ref]; exact ih
/-- what is known of a built-in family -/
structure Fam (B newId initId : String) (tl : List Value) : Prop where
  sf : StoreFacts B tl "object.__setattr__" "object"
  bf : ExcBaseFacts B newId initId tl
theorem fam_lookup : Fam "LookupError" "LookupError.__new__" "LookupError.__init__" [.type "LookupError", .type "Exception", .type "BaseException", .type "object"] := ⟨F.store_LookupError, F.excBase_LookupError⟩
/-- an own class over it -/
structure OfC (K : PySem.W.Frag) (newId : String) (tl : List Value) (C : Addr) : Prop where
  cls : ∃ nm q N bs cs sn sub ab col dd k0 k1 k2 k3 k5, K.lookup C = some (excClassObj nm q C N bs (mroL cs tl) true sn sub ab col dd k0 k1 k2 k3 k5 newId)
  sa : PySem.W.findIn K (.ref C) "__setattr__" = some (some (.builtin "object.__setattr__"))
  exC : PySem.W.subIn K (.ref C) (.type "BaseException") = some true
  tyC : PySem.W.typeIn K (.ref C) = some (.type "type")
  kC : PySem.W.keepIn K (.ref C) = true
section
open Builtin Builtin.ObjectAttr PySem.W PySem.Calls
variable {prog : Program} {w : World} {A : Around} {R : Result → Shared → Prop} {hp : Heap} {g : Array GenState} {d : Drawn} {t : Nat} {os : OsState}
/-- its first field -/
theorem first_field {B newId initId : String} {tl : List Value} (FF : Fam B newId initId tl) {K : Frag} {f : Str} {tk : Tok} {v : Value} {x C : Addr} {fv : Array Value} {cs : List Addr} {cd : ClassData} (X : K.In hp) (hx : hp.get? x = some { cls := .ref C, data := .fields fv })
    (hcd : clsIn K C = some cd) (hm : cd.mro = .ref C :: mroL cs tl) (hh : cd.hasDict = true) (ha : findIn K (.ref C) f = some none)
    (hq : ∀ h2 tk2 dx, (∀ b o, b ≠ x → hp.get? b = some o → h2.get? b = some o) → hp.objs.size ≤ dx → dx ≠ x → h2.get? x = some { cls := .ref C, dict := some dx, data := .fields fv } →
      h2.Ns1 dx (fun y => if y = f then some v else none) → R (.ok (.ret .none)) ⟨h2, g, d, tk2, os⟩) :
    codeAny (model prog w) A (.call (.builtin "object.__setattr__") ⟨[.ref x, .str f tk, v], []⟩) R ⟨hp, g, d, t, os⟩ := by
  have at_ : InstAt hp x { cls := .ref C, data := .fields fv } C none := ⟨hx, rfl, rfl, trivial⟩
  have ST := PySem.F.store_object
  have mro2 : cd.mro = mroL (C :: cs) tl := hm
  have full : cd.mro.isEmpty = false := by rw [hm]; rfl
  have ob : cd.mro.contains (.type "object") = true := by rw [mro2, mro_has]; exact FF.sf.hasOwner
  have old : x < hp.objs.size := Heap.lt_size hx
  have isO : Looks (model prog w) hp (isInstance (.ref x) (.type "object")) true := by
    refine at_.type.andThen (looks_mroIn X ?_)
    unfold mroIn
    rw [hcd, Option.bind_some, if_neg (by rw [full]; decide), ob]
  refine codeAny_call_builtin ST.slot.plain ST.entry ?_
  refine @check_slot (model prog w) _ _ ⟨hp, g, d, t, os⟩ "object.__setattr__" "object" "__setattr__" (.ref x) [.str f tk, v] [] _ ST.kind ST.split isO (ST.args (.ref x) (.str f tk) v) ?_
  have cl : Looks (model prog w) hp (classData C) cd := looks_clsIn X hcd
  have row : Looks (model prog w) hp (mroOf (.ref C)) cd.mro := cl.andThen .now
  rw [osa_eq, refuse_eq]
  refine wpAny_bind (wpAny_bind (at_.type.at (wpAny_bind (row.at ?_))))
  rw [mro2, mro_pass (FF.sf.passes _)]
  have tk0 : Looks (model prog w) hp (storeTaker? none) none := .now
  refine wpAny_pure (wpAny_bind (at_.type.at (wpAny_bind ((looks_findIn X ha).at (wpAny_bind (tk0.at ?_))))))
  show wpAny _ _ (storeInOwnDict (.ref x) (.ref C) (.str f tk) f v false) _ _ _
  obtain ⟨c1, c2, c3, c4, c5, c6, c7, c8, c9, c10, c11⟩ := cd
  obtain rfl : c6 = true := hh
  unfold storeInOwnDict ownDictForStores
  repeat (first | with_reducible refine PySem.HandSPX.store_in_new ?_ ?_ | with_reducible refine wpAny_loadPart_at hx ?_ | with_reducible refine cl.at ?_ | wp_step)
  · exact ⟨_, #[], _, (Heap.get?_update_ne _ _ _ _ (Nat.ne_of_gt old)).trans (Heap.get?_push_at rfl rfl), rfl, fun e he => absurd he (by simp), fun _ => rfl⟩
  · intro h2 tk2 ns sb
    refine hq h2 tk2 hp.objs.size (fun b o nb eb => ?_) (Nat.le_refl _) (Nat.ne_of_gt old) ?_ ns
    · rw [sb.2 b (Nat.ne_of_lt (Heap.lt_size eb)), Heap.get?_update_ne _ _ _ _ nb]
      exact Heap.get?_push_of_some _ eb
    · rw [sb.2 x (Nat.ne_of_lt old)]
      exact Heap.get?_update_self _ (Heap.get?_push_of_some _ hx) rfl
end
section
variable {B newId initId : String} {tl : List Value} {X : Cx} {pins : List (Addr × Obj)} {σ : L2.St} {H : Hp} {s : Shared} {a C : Addr} {f : Str} {y : V} {u : Value} {E : Value → Shared → Prop} {A : Around}
theorem store1 {Q : Unit → Shared → Prop} (FF : Fam B newId initId tl) (T : OfC X.K newId tl C) (I : Inv X pins σ H s) (e : H a = some (exo a C none)) (hno : PySem.W.findIn X.K (.ref C) f = some none) (ry : RelV y u)
    (h : ∀ dx s2, H dx = none → dx ≠ a → Inv X pins σ (upd (upd H dx (exd dx [(f, y)])) a (exo a C (some dx))) s2 → Q () s2) : wpAny (model X.prog X.w) A (setAttr (.ref a) f u) Q E s := by
  obtain ⟨nm, q, N, bs, cs, sn, sub, ab, col, dd, k0, k1, k2, k3, k5, hC⟩ := T.cls
  have cd : ∃ cd, PySem.W.clsIn X.K C = some cd ∧ cd.mro = .ref C :: mroL cs tl ∧ cd.hasDict = true := by
    unfold PySem.W.clsIn
    rw [hC]
    exact ⟨_, rfl, rfl, rfl⟩
  obtain ⟨cd, hcd, hmr, hdc⟩ := cd
  obtain ⟨t1, ho⟩ := exo_at I.hok e
  obtain ⟨hp, g, d, t, os⟩ := s
  refine PySem.W.set_plain I.kIn (ox := { cls := .ref C, dict := none, data := .fields #[.ref t1, .none, .none, .none, .bool false, .none] }) (od := none) ⟨ho, rfl, rfl, trivial⟩ T.sa ?_
  refine first_field FF I.kIn ho hcd hmr hdc hno fun h2 tk2 dx keep dn dne hx hn => ?_
  have hnd : H dx = none := I.hok.fresh dn
  have notd : ∀ {b : Addr} {o : Obj}, hp.get? b = some o → b ≠ dx := fun {b o} z => Nat.ne_of_lt (Nat.lt_of_lt_of_le (Heap.lt_size z) dn)
  have nota : ∀ {b : Addr}, H b = none → b ≠ a := fun {b} n z => by rw [z, e] at n; cases n
  -- what is tracked elsewhere stays
  have els : ∀ {b : Addr} {o : HO}, H b = some o → o ≠ exo a C none → upd (upd H dx (exd dx [(f, y)])) a (exo a C (some dx)) b = some o := fun {b o} q ne => by
    have ba : b ≠ a := fun z => by rw [z, e] at q; exact ne (Option.some.inj q).symm
    rw [upd_ne ba, upd_ne (ne_of_none q hnd), q]
  have U : Un X.fs [] H (upd (upd H dx (exd dx [(f, y)])) a (exo a C (some dx))) hp h2 :=
    ⟨fun b o q n _ _ => keep b o (nota n) q, fun b o q n _ _ => ⟨o.slots, keep b o (nota n) q⟩, fun b o q n _ => by rw [upd_ne (nota n), upd_ne (notd q)]; exact n,
     fun b o q _ => by
      by_cases hb : b = a
      · exact ⟨_, by rw [hb]; exact hx⟩
      · exact ⟨o, keep b o hb q⟩,
     fun b xs q => els q (Ne.symm exo_tup), fun b o v q => els q (Ne.symm exo_frz), fun b ps q => ⟨#[], by rw [els q (Ne.symm exo_tbl)]; simp⟩⟩
  refine h dx _ hnd dne (I.un (t' := tk2) U fun b o q => ?_)
  by_cases hb : b = a
  · rw [hb, upd_same] at q
    cases q
    rw [hb]
    exact exo_ok hx
  rw [upd_ne hb] at q
  by_cases hd : b = dx
  · rw [hd, upd_same] at q
    cases q
    rw [hd]
    exact exd_ok hn (relO_put (fs := []) ry fun _ => True.intro)
  rw [upd_ne hd] at q
  refine (I.hok b o q).stay (fun c v hc z => keep c v ?_ z) (fun c hc => els hc (Ne.symm exo_own)) (fun c xs hc => els hc (Ne.symm exo_tup))
  rcases hc with hc | hc
  · rw [hc]; exact hb
  · exact at_ne e hc exo_own
/-- the family's __init__: nothing of it is told -/
theorem init1 {us : List Value} {Q : Value → Shared → Prop} (FF : Fam B newId initId tl) (T : OfC X.K newId tl C) (I : Inv X pins σ H s) (e : H a = some (exo a C none)) (hl : us.length ≤ sizeLine) (h : ∀ s2, Inv X pins σ H s2 → Q .none s2) :
    wpAny (model X.prog X.w) A (call (.builtin initId) (.ref a :: us)) Q E s := by
  obtain ⟨nm, q, N, bs, cs, sn, sub, ab, col, dd, k0, k1, k2, k3, k5, hC⟩ := T.cls
  obtain ⟨t1, ho⟩ := exo_at I.hok e
  obtain ⟨hp, g, d, t, os⟩ := s
  refine wpAny_call (PySem.HandSPX.init_base FF.bf (mro_has cs tl) (I.kIn _ _ hC) ho hl fun h2 t2 k hx => ?_)
  have J := I.write (t' := t) (x := a) (e := a) (o := exo a C none) (by rw [e]; exact True.intro) (.inl rfl) k ⟨_, hx⟩ (exo_ok hx)
  rw [show upd H a (exo a C none) = H from funext fun b => by
    by_cases hb : b = a
    · rw [hb, upd_same, e]
    · rw [upd_ne hb]] at J
  exact h _ J
/-! ### readings, rules -/
/-- the own family's class that is asked for its __init__ -/
structure BaC (K : PySem.W.Frag) (initId : String) (D : Addr) : Prop where
  rd : PySem.W.readsIn K D (.type "type") = true
  sp : PySem.W.specialIn K (.ref D) "__getattribute__" = some (some (.builtin "type.__getattribute__"))
  fi : PySem.W.findCls K (.ref D) (.type "type") "__init__" = some (.val (.builtin initId))
def tFamI (K : PySem.W.Frag) (newId : String) (tl : List Value) (ta : TA) : TE := fun σ H Q => ta σ H fun vs H1 => ∃ (a C : Addr) (ws : List V), vs = .ref a :: ws ∧ ws.length ≤ 1000 ∧ OfC K newId tl C ∧ H1 a = some (exo a C none) ∧ Q .non H1
theorem pe_fam {D : Addr} {x : Str} {e : Expr} {es : List Expr} {ta : TA} {p1 p2 pos : Pos} {pl : Sem Bool} (FF : Fam B newId initId tl) (T : BaC X.K initId D) (gl : Gl X x) (mg : X.mg x = some (.ref D)) (ha : PA X (e :: es) ta) (hdb : (x == ("__debug__" : Str)) = false := by decide)
    (hc : eval (.Call (.Attribute (.Name x p1) "__init__" p2) (e :: es) [] pos) X.env = (do
      let ov ← eval (.Name x p1) X.env
      standAt p2.atName
      let (f, first) ← holding [ov] (getMethod ov "__init__" pl)
      callWith pos f first (backTo pos (starEach (e :: es) X.env)) (backToKw pos (keywordEach [] X.env))) := by rfl)
    (he : starEach (e :: es) X.env = (false, eval e X.env) :: starEach es X.env := by rfl) (hpl : (backTo pos (starEach es X.env)).any (·.1) = false := by rfl) (hin : PySem.W.handedIn (.builtin initId) = true := by decide +kernel) :
    PE X (.Call (.Attribute (.Name x p1) "__init__" p2) (e :: es) [] pos) (tFamI X.K newId tl ta) := by
  refine ⟨fun pins s σ H Q I h => PySem.W.methodCall_KW (ld_glob I gl mg ?_ hdb) hc⟩
  refine PySem.W.method_cls I.kIn T.sp (PySem.W.cls_value I.kIn T.rd T.fi hin ?_)
  refine PyProof.Rows.callWith_method1 (thn (ha.run pos pins _ σ H _ (I.tok _) h) fun us s1 z => ?_) he hpl
  obtain ⟨vs, H1, I1, r1, a, C, ws, rfl, hl, Tx, ea, q⟩ := z
  cases r1 with
  | @cons _ u0 _ ur ra rw' =>
    obtain rfl : u0 = Value.ref a := ra
    exact init1 FF Tx I1 ea (by rw [← Paired.length rw', sizeLine_eq]; omega) fun s2 J => ⟨.non, H1, J, rfl, q⟩
/-- self.f = e, the first and only field -/
def tOs1 (K : PySem.W.Frag) (newId : String) (tl : List Value) (f : Str) (to te : TE) : TS := fun D σ H => te σ H fun y H1 => to σ H1 fun x H2 => ∃ a C : Addr, x = .ref a ∧ OfC K newId tl C ∧ PySem.W.findIn K (.ref C) f = some none ∧
  H2 a = some (exo a C none) ∧ ∀ dx, H2 dx = none → dx ≠ a → D.nx σ (upd (upd H2 dx (exd dx [(f, y)])) a (exo a C (some dx)))
theorem ps_os1 {o e : Expr} {to te : TE} {p' pos : Pos} (FF : Fam B newId initId tl) (ho : PE X o to) (he : PE X e te) (hs : swapsWith e (some (.Attribute o f p')) pos.line X.env = pure false := by rfl) : PS X (.Assign [.Attribute o f p'] e pos) (tOs1 X.K newId tl f to te) := by
  refine ⟨fun pins s σ H D I h => plainObj_wpAny_Assign_Attribute (thn (he.run pins s σ H _ I h) fun v s1 z => ?_) hs⟩
  obtain ⟨y, H1, I1, r1, q1⟩ := z
  refine thn (ho.run pins s1 σ H1 _ I1 q1) fun u s2 z => ?_
  obtain ⟨x, H2, I2, r2, a, C, rfl, T, hno, ea, q⟩ := z
  obtain rfl : u = Value.ref a := r2
  exact store1 FF T I2 ea hno r1 fun dx s3 n ne J => ⟨σ, _, J, q dx n ne⟩
/-- C(e, ..), whose own __init__ keeps sp -/
theorem pmk_of {CX : CXT} {x : Str} {C fI : Addr} {k : Nat} {fd : FuncData} {ps : List Str} {sp : Sp} {ds : List Value} {dvs : List V} {e : Expr} {es : List Expr} {ta : TA} {p pos : Pos} (FF : Fam B newId initId tl) (T : OfC X.K newId tl C)
    (iC : PySem.W.findIn X.K (.ref C) "__init__" = some (some (.ref fI))) (tI : PySem.W.typeIn X.K (.ref fI) = some (.type "function")) (F1 : FnOk X.prog X.w X.K X.mg X.base CX k fI fd ps sp) (hr : Room (k + 1) X.A) (hb : Binds X.K fd ps ds) (hd : Vals dvs ds)
    (hx : Passes CX X (fun _ _ _ => False)) (hg : Gl X x) (hm : X.mg x = some (.ref C)) (ha : PA X (e :: es) ta) (hdb : (x == ("__debug__" : Str)) = false := by decide)
    (he : starEach (e :: es) X.env = (false, eval e X.env) :: starEach es X.env := by rfl) (hpl : (backTo pos (starEach es X.env)).any (·.1) = false := by rfl) :
    PMk X (.Call (.Name x p) (e :: es) [] pos) (tMkO C sp dvs ta) := by
  intro pins s σ H Q I h
  obtain ⟨nm, q, N, bs, cs, sn, sub, ab, col, dd, k0, k1, k2, k3, k5, hC⟩ := T.cls
  refine wpAny_Call_Name_kw (ld_glob I hg hm ?_ hdb)
  refine PySem.W.callWith_K (h₀ := X.base) I.ok.mod.kin T.kC (thn (ha.run pos pins s σ H _ I h) fun us s1 z => ?_) he hpl
  obtain ⟨vs, H1, I1, r1, hz, q1⟩ := z
  refine ⟨I1.kIn, ?_⟩
  show wpAny _ _ (call (.ref C) us) _ _ _
  obtain ⟨hp, g, dr, tk, os⟩ := s1
  -- the new object, its args ahead of it
  obtain ⟨m, em⟩ : ∃ m : Addr, m = hp.objs.size + 1 := ⟨_, rfl⟩
  have le : hp.objs.size ≤ m := by rw [em]; exact Nat.le_succ _
  obtain ⟨h1, eh⟩ : ∃ h1, h1 = (hp.push (PySem.W.kdv_tup us)).push (PySem.HandSPX.excO C hp.objs.size) := ⟨_, rfl⟩
  have old : ∀ b o, hp.get? b = some o → h1.get? b = some o := fun b o z => by rw [eh]; exact Heap.get?_push_of_some _ (Heap.get?_push_of_some _ z)
  have new : h1.get? m = some (PySem.HandSPX.excO C hp.objs.size) := by rw [eh, em]; heap_get
  have hq := q1 m (I1.hok.fresh le)
  have I2 : Inv X pins σ (upd H1 m (exo m C none)) ⟨h1, g, dr, tk, os⟩ := I1.laid (t' := tk) (a := m) (o := exo m C none) (h' := h1) old le (exo_ok new)
  have r2 : Vals (V.ref m :: (vs ++ dvs)) (Value.ref m :: (us ++ ds)) := .cons rfl (r1.append hd)
  have ln : (Value.ref m :: us ++ ds).length = ps.length := by
    have z := r2.length
    rw [F1.len _ _ _ _ hq] at z
    exact z.symm
  subst em eh
  refine wpAny_call (PySem.HandSPX.call_own FF.bf (mro_has cs tl) (I1.kIn _ _ hC) (PySem.W.looks_findIn I1.kIn iC) (fun self => PySem.W.bind_fn I1.kIn self tI) (by rw [← Paired.length r1, sizeLine_eq]; omega) ?_)
  refine codeAny_mono (F1.run _ X.stack _ _ ⟨Value.ref (hp.objs.size + 1) :: us, []⟩ (Value.ref (hp.objs.size + 1) :: (us ++ ds)) _ _ (fun _ _ _ => False) (hr.make C us []) (I2.env0.make C us []) (hb _ (Value.ref (hp.objs.size + 1) :: us) I2.kIn ln) r2 hq) fun r s2 z => ?_
  match r, z with
  | .error er, z => exact hx pins σ _ _ er s2 I2 z
  | .ok .next, z => exact z.elim
  | .ok .brk, z => exact z.elim
  | .ok .cont, z => exact z.elim
  | .ok (.ret u), z =>
    obtain ⟨v, H2, os2, bare2, un2, hok2, rv, rfl, d, fs, ea, ed, hd1, q2⟩ := z
    obtain ⟨h2, g2, d2, t2, os3⟩ := s2
    exact ⟨rv, mk_end (raises_own T.exC T.tyC) I1 le old un2 hok2 os2 bare2 ea ed hd1 q2⟩
end
end Xle
set_option Elab.async false
set_option linter.all false
set_option maxRecDepth 100000
set_option maxHeartbeats 4000000
set_option pp.maxSteps 400
set_option pp.deepTerms false
/-! Things of any kind: texts, numbers, truths, None, and lists, tuples, dicts of these, at any depth. -/
namespace Az
open PySem PySem.Spec PyProof.Rows L2
def keyD : Key → PyData
  | .inl i => .int i
  | .inr x => .str x
mutual
inductive Dz (K : PySem.W.Frag) (H : Hp) : V → PyData → Prop
  | non : Dz K H .non .none
  | bl (b : Bool) : Dz K H (.bl b) (.bool b)
  | int (i : Int) : Dz K H (.int i) (.int i)
  | str (x : Str) : Dz K H (.str x) (.str x)
  | lst {a : Addr} {xs : List V} {ds : List PyData} : H a = some (.lst xs) → a ≠ sysModules → DzAll K H xs ds → Dz K H (.ref a) (.list ds)
  | tup {a : Addr} {xs : List V} {ds : List PyData} : H a = some (.tup xs) → DzAll K H xs ds → Dz K H (.ref a) (.tuple ds)
  | dct {a : Addr} {kvs : List (Key × V)} {ds : List (PyData × PyData)} : H a = some (.dK kvs) → DzKv K H kvs ds → Dz K H (.ref a) (.dict ds)
inductive DzAll (K : PySem.W.Frag) (H : Hp) : List V → List PyData → Prop
  | nil : DzAll K H [] []
  | cons {v : V} {vs : List V} {d : PyData} {ds : List PyData} : Dz K H v d → DzAll K H vs ds → DzAll K H (v :: vs) (d :: ds)
inductive DzKv (K : PySem.W.Frag) (H : Hp) : List (Key × V) → List (PyData × PyData) → Prop
  | nil : DzKv K H [] []
  | cons {k : Key} {v : V} {kvs : List (Key × V)} {d : PyData} {ds : List (PyData × PyData)} : Dz K H v d → DzKv K H kvs ds → DzKv K H ((k, v) :: kvs) ((keyD k, d) :: ds)
end
section
variable {K : PySem.W.Frag} {H H' : Hp}
mutual
/-- what is read of a thing stays while its objects do -/
theorem Dz.keep (s : ∀ b o, H b = some o → (∀ x, o ≠ .own x) → H' b = some o) : ∀ {v : V} {d : PyData}, Dz K H v d → Dz K H' v d
  | _, _, .non => .non
  | _, _, .bl b => .bl b
  | _, _, .int i => .int i
  | _, _, .str x => .str x
  | _, _, .lst e n r => .lst (s _ _ e (fun _ z => by cases z)) n (DzAll.keep s r)
  | _, _, .tup e r => .tup (s _ _ e (fun _ z => by cases z)) (DzAll.keep s r)
  | _, _, .dct e r => .dct (s _ _ e (fun _ z => by cases z)) (DzKv.keep s r)
theorem DzAll.keep (s : ∀ b o, H b = some o → (∀ x, o ≠ .own x) → H' b = some o) : ∀ {v : List V} {d : List PyData}, DzAll K H v d → DzAll K H' v d
  | _, _, .nil => .nil
  | _, _, .cons h r => .cons (Dz.keep s h) (DzAll.keep s r)
theorem DzKv.keep (s : ∀ b o, H b = some o → (∀ x, o ≠ .own x) → H' b = some o) : ∀ {v : List (Key × V)} {d : List (PyData × PyData)}, DzKv K H v d → DzKv K H' v d
  | _, _, .nil => .nil
  | _, _, .cons h r => .cons (Dz.keep s h) (DzKv.keep s r)
end
theorem Dz.same {v : V} {d : PyData} (h : Dz K H v d) (s : L2.Same H H') : Dz K H' v d := h.keep fun b o e _ => s b o e
theorem DzAll.same {v : List V} {d : List PyData} (h : DzAll K H v d) (s : L2.Same H H') : DzAll K H' v d := h.keep fun b o e _ => s b o e
/-- the kind of a thing -/
def kindD : PyData → String
  | .none => "NoneType"
  | .bool _ => "bool"
  | .int _ => "int"
  | .str _ => "str"
  | .list _ => "list"
  | .tuple _ => "tuple"
  | .dict _ => "dict"
theorem Dz.ty {v : V} {d : PyData} (h : Dz K H v d) : TyX K H v (.type (kindD d)) := by
  cases h with
  | non => exact .base .non
  | bl b => exact .base (.bl b)
  | int i => exact .base (.int i)
  | str x => exact .base (.str x)
  | lst e _ _ => exact .base (.lst e)
  | tup e _ => exact .base (.tup e)
  | dct e _ => exact .base (.dK e)
end
section
variable {X : Cx} {pins : List (Addr × Obj)} {σ : L2.St} {H : Hp} {s : Shared}
theorem pairs_keys {P : Program} {w : World} : ∀ {es : List DictEntry} {vs : List (Key × Value)}, PySem.Pairs (mixKind P w) es vs → ∃ as, ReadsAll s.heap (es.map (·.key)) (vs.map fun p => keyD p.1) as ∧ as = []
  | _, _, .nil => ⟨[], .nil, rfl⟩
  | e :: es, (k, u) :: vs, .cons h1 h2 r => by
    obtain ⟨as, q, rfl⟩ := pairs_keys r
    rcases keyIs_shape (show keyIs k e.key = true from h1) with ⟨i, t, rfl, ek⟩ | ⟨x, t, rfl, ek⟩
    · refine ⟨[] ++ [], .cons ?_ q, rfl⟩
      show Reads s.heap e.key (.int i) []
      rw [ek]
      exact .int i t
    · refine ⟨[] ++ [], .cons ?_ q, rfl⟩
      show Reads s.heap e.key (.str x) []
      rw [ek]
      exact .str x t
theorem pairs_vals {P : Program} {w : World} : ∀ {es : List DictEntry} {vs : List (Key × Value)}, PySem.Pairs (mixKind P w) es vs → es.map (·.val) = vs.map (·.2)
  | _, _, .nil => rfl
  | e :: es, (k, u) :: vs, .cons h1 h2 r => by
    rw [List.map_cons, List.map_cons, pairs_vals r, h2]
mutual
theorem Dz.reads (I : Inv X pins σ H s) : ∀ (d : PyData) (v : V) (u : Value), Dz X.K H v d → RelV v u → ∃ as, Reads s.heap u d as ∧ sysModules ∉ as
  | .none, _, _, h, r => by
    cases h
    cases r
    exact ⟨[], .none, by simp⟩
  | .bool b, _, _, h, r => by
    cases h
    cases r
    exact ⟨[], .bool b, by simp⟩
  | .int i, _, _, h, r => by
    cases h
    obtain ⟨t, rfl⟩ := r
    exact ⟨[], .int i t, by simp⟩
  | .str x, _, _, h, r => by
    cases h
    obtain ⟨t, rfl⟩ := r
    exact ⟨[], .str x t, by simp⟩
  | .list ds, _, _, h, r => by
    cases h with
    | @lst a xs _ e ne ha =>
      cases r
      have ok : ObjOk X.prog X.w H s.heap a (.lst xs) := I.hok a _ e
      obtain ⟨_, its, n, rv, eh⟩ := ok
      obtain ⟨as, q, na⟩ := DzAll.reads I ds xs its ha rv
      refine ⟨a :: as, .list eh rfl rfl (by simpa using q), fun m => ?_⟩
      rcases List.mem_cons.mp m with z | z
      · exact ne z.symm
      · exact na z
  | .tuple ds, _, _, h, r => by
    cases h with
    | @tup a xs _ e ha =>
      cases r
      have ok : ObjOk X.prog X.w H s.heap a (.tup xs) := I.hok a _ e
      obtain ⟨_, its, rv, o, eh, ec, n, ed⟩ := ok
      obtain ⟨as, q, na⟩ := DzAll.reads I ds xs its ha rv
      exact ⟨as, .tuple eh ec ed (by simpa using q), na⟩
  | .dict ds, _, _, h, r => by
    cases h with
    | @dct a kvs _ e ha =>
      cases r
      obtain ⟨_, ne, vs, rel, o, es, ep, eh, ex, ed, _, pr, _⟩ := dk_of I.hok e
      obtain ⟨as, q1, rfl⟩ := pairs_keys (s := s) pr
      obtain ⟨bs, q2, nb⟩ := DzKv.reads I ds kvs vs ha rel
      have hk : (vs.map fun p => keyD p.1) = ds.map (·.1) := DzKv.keys ha rel
      rw [hk] at q1
      refine ⟨a :: [] ++ bs, .dict eh ex.1 ed q1 (by rw [pairs_vals pr]; exact q2), fun m => ?_⟩
      rcases List.mem_cons.mp m with z | z
      · rw [← z] at ne
        simp at ne
      · exact nb z
theorem DzAll.reads (I : Inv X pins σ H s) : ∀ (ds : List PyData) (vs : List V) (us : List Value), DzAll X.K H vs ds → Vals vs us → ∃ as, ReadsAll s.heap us ds as ∧ sysModules ∉ as
  | [], _, _, h, r => by
    cases h
    cases r
    exact ⟨[], .nil, by simp⟩
  | d :: ds, _, _, h, r => by
    cases h with
    | cons h1 h2 =>
      cases r with
      | cons r1 r2 =>
        obtain ⟨as, q1, n1⟩ := Dz.reads I d _ _ h1 r1
        obtain ⟨bs, q2, n2⟩ := DzAll.reads I ds _ _ h2 r2
        exact ⟨as ++ bs, .cons q1 q2, fun m => (List.mem_append.mp m).elim n1 n2⟩
theorem DzKv.reads (I : Inv X pins σ H s) : ∀ (ds : List (PyData × PyData)) (kvs : List (Key × V)) (vs : List (Key × Value)), DzKv X.K H kvs ds → KV kvs vs → ∃ as, ReadsAll s.heap (vs.map (·.2)) (ds.map (·.2)) as ∧ sysModules ∉ as
  | [], _, _, h, r => by
    cases h
    cases r
    exact ⟨[], .nil, by simp⟩
  | (_, d) :: ds, _, _, h, r => by
    cases h with
    | cons h1 h2 =>
      cases r with
      | cons r1 r2 =>
        obtain ⟨as, q1, n1⟩ := Dz.reads I d _ _ h1 r1.2
        obtain ⟨bs, q2, n2⟩ := DzKv.reads I ds _ _ h2 r2
        exact ⟨as ++ bs, .cons q1 q2, fun m => (List.mem_append.mp m).elim n1 n2⟩
theorem DzKv.keys {K : PySem.W.Frag} : ∀ {ds : List (PyData × PyData)} {kvs : List (Key × V)} {vs : List (Key × Value)}, DzKv K H kvs ds → KV kvs vs → (vs.map fun p => keyD p.1) = ds.map (·.1)
  | [], _, _, h, r => by
    cases h
    cases r
    rfl
  | (_, d) :: ds, _, _, h, r => by
    cases h with
    | cons h1 h2 =>
      cases r with
      | cons r1 r2 =>
        rw [List.map_cons, List.map_cons, DzKv.keys h2 r2, ← r1.1]
end
/-- repr of a thing -/
def rReprZ (K : PySem.W.Frag) : List V → Hp → VK → Prop := fun xs H Q => ∃ (v : V) (d : PyData), xs = [v] ∧ Dz K H v d ∧ d.showable = true ∧ d.depth ≤ 60 ∧ d.shown.length ≤ sizeLine ∧ Q (.str d.shown) H
theorem cr_reprZ {k : Nat} (quiet : X.A.guards = some []) (room : Room k X.A) : CallR X (.builtin "repr") (rReprZ X.K) := by
  intro pins s σ H xs us Q I r h
  obtain ⟨v, d, rfl, hd, hs, hp, hz, q⟩ := h
  obtain ⟨u, rfl, rx⟩ := vals1 r
  have hu := room.units
  cases hd with
  | non =>
    cases rx
    exact PySem.P.repr_of_none ⟨.str _, H, I.tok _, ⟨_, rfl⟩, q⟩
  | bl b =>
    cases rx
    exact PySem.P.repr_of_bool ⟨.str _, H, I.tok _, ⟨_, rfl⟩, q⟩
  | int i =>
    obtain ⟨t, rfl⟩ := rx
    exact PySem.P.repr_of_int (by simpa [PyData.showable] using hs) ⟨.str _, H, I.tok _, ⟨_, rfl⟩, q⟩
  | str x =>
    obtain ⟨t, rfl⟩ := rx
    exact PySem.P.repr_of_str ⟨.str _, H, I.tok _, ⟨_, rfl⟩, q⟩ hz
  | lst e n ha =>
    obtain ⟨as, rd, na⟩ := Dz.reads I _ _ u (.lst e n ha) rx
    cases rx
    exact repr_of_reads' rd hs (fun _ => na) quiet (by omega) (fun _ _ z => z) (fun h' u tk kept => ⟨.str _, H, I.kept kept, ⟨u, rfl⟩, q⟩) hz
  | tup e ha =>
    obtain ⟨as, rd, na⟩ := Dz.reads I _ _ u (.tup e ha) rx
    cases rx
    exact repr_of_reads' rd hs (fun _ => na) quiet (by omega) (fun _ _ z => z) (fun h' u tk kept => ⟨.str _, H, I.kept kept, ⟨u, rfl⟩, q⟩) hz
  | dct e ha =>
    obtain ⟨as, rd, na⟩ := Dz.reads I _ _ u (.dct e ha) rx
    cases rx
    exact repr_of_reads' rd hs (fun _ => na) quiet (by omega) (fun _ _ z => z) (fun h' u tk kept => ⟨.str _, H, I.kept kept, ⟨u, rfl⟩, q⟩) hz
/-- a list of written items: new, and no table of modules -/
def tLstZ (t : TA) : TE := fun σ H Q => t σ H fun xs H1 => xs.length ≤ sizeLine ∧ ∀ p, H1 p = none → p ≠ sysModules → Q (.ref p) (upd H1 p (.lst xs))
theorem pe_lstZ {es : List Expr} {t : TA} {pos : Pos} (h : PA X es t) : PE X (.List es pos) (tLstZ t) := by
  refine ⟨fun pins s σ H Q I hq => wpAny_List_spliced (thn (h.run pos pins s σ H _ I hq) fun us s1 z => ?_)⟩
  obtain ⟨xs, H1, I1, r, z, q⟩ := z
  refine ⟨by rw [← r.length]; exact z, ?_⟩
  have new : H1 s1.heap.objs.size = none := I1.hok.fresh (Nat.le_refl _)
  refine ⟨.ref s1.heap.objs.size, upd H1 s1.heap.objs.size (.lst xs), I1.laid (t' := s1.toks) (fun b u e => Heap.get?_push_of_some _ e) (Nat.le_refl _) ?_, rfl, q _ new (Nat.ne_of_gt I1.big)⟩
  exact ⟨z, us, 0, r, Heap.get?_push_size _ rfl⟩
end
end Az
namespace Az
open PySem PySem.Spec PyProof.Rows L2
/-- a thing that is shown in n signs at most, at most k deep -/
structure Nice (d : PyData) (k n : Nat) : Prop where
  sh : d.showable = true
  dp : d.depth ≤ k
  sz : d.shown.length ≤ n
theorem Nice.mono {d : PyData} {k k' n n' : Nat} (h : Nice d k n) (hk : k ≤ k') (hn : n ≤ n') : Nice d k' n' := ⟨h.sh, Nat.le_trans h.dp hk, Nat.le_trans h.sz hn⟩
theorem nice_int {i : Int} {n : Nat} (h : i.natAbs.log2 < 1920) (hn : (Str.ofString (toString i)).length ≤ n) : Nice (.int i) 0 n :=
  ⟨by simpa [PyData.showable] using h, by simp [PyData.depth], by simpa [PyData.shown] using hn⟩
theorem nice_none : Nice .none 0 4 := ⟨by simp [PyData.showable], by simp [PyData.depth], by simp only [PyData.shown]; decide +kernel⟩
theorem nice_bool (b : Bool) : Nice (.bool b) 0 5 := ⟨by simp [PyData.showable], by simp [PyData.depth], by simp only [PyData.shown]; cases b <;> decide +kernel⟩
theorem nice_str {x : Str} {n : Nat} (h : (reprText x).length ≤ n) : Nice (.str x) 0 n := ⟨by simp [PyData.showable], by simp [PyData.depth], by simpa [PyData.shown] using h⟩
theorem list_le : ∀ ts : List Str, (listText ts).length ≤ piled ts + 2
  | [] => by decide +kernel
  | t :: ts => by
    have e : (textFrom 0 "[" (t :: ts)).length = 1 + t.length + piled ts := by
      show (textFrom 1 (("[" : Str) ++ ((if 0 > 0 then ", " else "" : String) : Str) ++ t) ts).length = _
      rw [textFrom_length_pos ts 1 _ (by decide), strLen_append, strLen_append]
      rfl
    unfold listText
    rw [strLen_append, e, piled_cons]
    show 1 + t.length + piled ts + 1 ≤ _
    omega
theorem dict_le (ps : List Str) : (dictText ps).length ≤ piled ps + 2 := by
  unfold dictText
  rw [strLen_append, strLen_append]
  show 1 + (Str.join ", " ps).length + 1 ≤ _
  cases ps with
  | nil => decide
  | cons p r =>
    have := join_length_add (p :: r) (by simp)
    omega
theorem nice_tup1 {d : PyData} {k n : Nat} (h : Nice d k n) : Nice (.tuple [d]) (k + 1) (n + 4) := by
  refine ⟨by simp [PyData.showable, PyData.showableAll, h.sh], ?_, ?_⟩
  · simp only [PyData.depth, PyData.depthAll]
    have := h.dp
    omega
  · simp only [PyData.shown, PyData.shownAll]
    have a := fmt_text [d.shown]
    simp only [piled_cons, piled_nil] at a
    have := h.sz
    omega
theorem nice_lst1 {d : PyData} {k n : Nat} (h : Nice d k n) : Nice (.list [d]) (k + 1) (n + 4) := by
  refine ⟨by simp [PyData.showable, PyData.showableAll, h.sh], ?_, ?_⟩
  · simp only [PyData.depth, PyData.depthAll]
    have := h.dp
    omega
  · simp only [PyData.shown, PyData.shownAll]
    have a := list_le [d.shown]
    simp only [piled_cons, piled_nil] at a
    have := h.sz
    omega
theorem nice_dct1 {d : PyData} {k n m : Nat} {x : Str} (hx : (reprText x).length ≤ m) (h : Nice d k n) : Nice (.dict [(.str x, d)]) (k + 1) (n + m + 6) := by
  refine ⟨by simp [PyData.showable, PyData.showableKv, h.sh], ?_, ?_⟩
  · simp only [PyData.depth, PyData.depthKv]
    have := h.dp
    omega
  · simp only [PyData.shown, PyData.shownKv]
    have a := dict_le [reprText x ++ ": " ++ d.shown]
    simp only [piled_cons, piled_nil, strLen_append] at a
    have c : ((": " : Str)).length = 2 := by decide +kernel
    have := h.sz
    omega
theorem nice_tup0 : Nice (.tuple []) 1 2 := ⟨by simp [PyData.showable, PyData.showableAll], by simp [PyData.depth, PyData.depthAll], by simp only [PyData.shown, PyData.shownAll]; decide +kernel⟩
theorem nice_lst0 : Nice (.list []) 1 2 := ⟨by simp [PyData.showable, PyData.showableAll], by simp [PyData.depth, PyData.depthAll], by simp only [PyData.shown, PyData.shownAll]; decide +kernel⟩
theorem nice_dct0 : Nice (.dict []) 1 2 := ⟨by simp [PyData.showable, PyData.showableKv], by simp [PyData.depth, PyData.depthKv], by simp only [PyData.shown, PyData.shownKv]; decide +kernel⟩
end Az
set_option Elab.async false
set_option linter.all false
set_option maxRecDepth 100000
set_option maxHeartbeats 4000000
set_option pp.maxSteps 400
set_option pp.deepTerms false
namespace Az
open PySem PySem.Spec PyProof.Rows L2
/-! ### texts of signs that have a number of eight places -/
def Asc (x : Str) : Prop := ∀ c ∈ x.cps.toList, c < 16 ^ 8
theorem asc_str (s : String) : Asc (Str.ofString s) := fun c hc => by
  rw [Str.ofString_eq_toList] at hc
  simp only [List.mem_map] at hc
  obtain ⟨k, _, rfl⟩ := hc
  exact Nat.lt_of_lt_of_le (UInt32.toNat_lt k.val) (by decide)
theorem Asc.app {x y : Str} (h1 : Asc x) (h2 : Asc y) : Asc (x ++ y) := fun c hc => by
  rw [Str.cps_append, Array.toList_append, List.mem_append] at hc
  exact hc.elim (h1 c) (h2 c)
theorem asc_hex (l : List Char) (n : Nat) : ∀ c ∈ List.replicate n 48 ++ l.map Char.toNat, c < 16 ^ 8 := fun c hc => by
  rcases List.mem_append.mp hc with h | h
  · rw [(List.mem_replicate.mp h).2]
    decide
  · obtain ⟨k, _, rfl⟩ := List.mem_map.mp h
    exact Nat.lt_of_lt_of_le (UInt32.toNat_lt k.val) (by decide)
theorem asc_char {q c : Nat} (hc : c < 16 ^ 8) : ∀ d ∈ Builtin.Str.reprChar q c, d < 16 ^ 8 := fun d hd => by
  unfold Builtin.Str.reprChar at hd
  dsimp only at hd
  have two : ∀ a : Nat, a < 16 ^ 8 → d ∈ [92, a] → d < 16 ^ 8 := fun a ha h => by
    simp only [List.mem_cons, List.not_mem_nil, or_false] at h
    rcases h with h | h
    · rw [h]; decide
    · rw [h]; exact ha
  have app : ∀ (a : Nat) (l : List Nat), a < 16 ^ 8 → (∀ c ∈ l, c < 16 ^ 8) → d ∈ [92, a] ++ l → d < 16 ^ 8 := fun a l ha hl h => (List.mem_append.mp h).elim (two a ha) (hl d)
  split at hd
  · exact two c hc hd
  · split at hd
    · exact two 110 (by decide) hd
    · split at hd
      · exact two 114 (by decide) hd
      · split at hd
        · exact two 116 (by decide) hd
        · split at hd
          · simp only [List.mem_cons, List.not_mem_nil, or_false] at hd
            rw [hd]
            exact hc
          · split at hd
            · exact app 120 _ (by decide) (asc_hex _ _) hd
            · split at hd
              · exact app 117 _ (by decide) (asc_hex _ _) hd
              · exact app 85 _ (by decide) (asc_hex _ _) hd
theorem asc_fold {q : Nat} : ∀ (l : List Nat) (acc : Array Nat), (∀ c ∈ l, c < 16 ^ 8) → (∀ c ∈ acc.toList, c < 16 ^ 8) → ∀ c ∈ (l.foldl (fun out c => out ++ (Builtin.Str.reprChar q c).toArray) acc).toList, c < 16 ^ 8
  | [], acc, _, h => h
  | k :: r, acc, hl, ha => by
    rw [List.foldl_cons]
    refine asc_fold r _ (fun c hc => hl c (List.mem_cons_of_mem _ hc)) fun c hc => ?_
    rw [Array.toList_append, List.mem_append] at hc
    exact hc.elim (ha c) fun h => asc_char (hl k List.mem_cons_self) c (by simpa using h)
theorem asc_quote (x : Str) : reprQuote x < 16 ^ 8 := by
  unfold reprQuote
  split <;> decide
theorem asc_repr {x : Str} (h : Asc x) : Asc (reprText x) := fun c hc => by
  unfold reprText at hc
  rw [Array.toList_push, List.mem_append, ← Array.foldl_toList] at hc
  rcases hc with hc | hc
  · refine asc_fold x.cps.toList #[reprQuote x] h (fun d hd => ?_) c hc
    have z : d = reprQuote x := by simpa using hd
    rw [z]
    exact asc_quote x
  · have z : c = reprQuote x := by simpa using hc
    rw [z]
    exact asc_quote x
theorem asc_join : ∀ ts : List Str, (∀ t ∈ ts, Asc t) → Asc (Str.join ", " ts)
  | [], _ => fun c hc => by
    have z : c ∈ (Str.empty).cps.toList := hc
    simp [Str.empty] at z
  | [x], h => h x List.mem_cons_self
  | x :: y :: r, h => ((h x List.mem_cons_self).app (asc_str ", ")).app (asc_join (y :: r) fun t ht => h t (List.mem_cons_of_mem _ ht))
theorem asc_from : ∀ (ts : List Str) (k : Nat) (acc : Str), Asc acc → (∀ t ∈ ts, Asc t) → Asc (textFrom k acc ts)
  | [], _, _, h, _ => h
  | t :: ts, k, acc, h, ht => by
    unfold textFrom
    exact asc_from ts (k + 1) _ ((h.app (asc_str _)).app (ht t List.mem_cons_self)) fun u hu => ht u (List.mem_cons_of_mem _ hu)
mutual
/-- all texts within a thing -/
def ascD : PyData → Prop
  | .none | .bool _ | .int _ => True
  | .str x => Asc x
  | .list xs | .tuple xs => ascAll xs
  | .dict kvs => ascKv kvs
def ascAll : List PyData → Prop
  | [] => True
  | x :: xs => ascD x ∧ ascAll xs
def ascKv : List (PyData × PyData) → Prop
  | [] => True
  | (k, v) :: r => ascD k ∧ ascD v ∧ ascKv r
end
mutual
theorem asc_shown : ∀ d : PyData, ascD d → Asc d.shown
  | .none, _ => asc_str "None"
  | .bool b, _ => by
    simp only [PyData.shown]
    cases b
    · exact asc_str "False"
    · exact asc_str "True"
  | .int i, _ => asc_str (toString i)
  | .str x, h => asc_repr (by simpa [ascD] using h)
  | .list xs, h => by
    simp only [PyData.shown]
    exact (asc_from _ _ _ (asc_str "[") (asc_shownAll xs (by simpa [ascD] using h))).app (asc_str "]")
  | .tuple xs, h => by
    simp only [PyData.shown]
    exact ((asc_str "(").app (asc_join _ (asc_shownAll xs (by simpa [ascD] using h)))).app (asc_str _)
  | .dict kvs, h => by
    simp only [PyData.shown]
    exact ((asc_str "{").app (asc_join _ (asc_shownKv kvs (by simpa [ascD] using h)))).app (asc_str "}")
theorem asc_shownAll : ∀ xs : List PyData, ascAll xs → ∀ t ∈ PyData.shownAll xs, Asc t
  | [], _, t, ht => by
    simp [PyData.shownAll] at ht
  | x :: xs, h, t, ht => by
    have h' : ascD x ∧ ascAll xs := by simpa [ascAll] using h
    simp only [PyData.shownAll, List.mem_cons] at ht
    rcases ht with e | e
    · rw [e]
      exact asc_shown x h'.1
    · exact asc_shownAll xs h'.2 t e
theorem asc_shownKv : ∀ xs : List (PyData × PyData), ascKv xs → ∀ t ∈ PyData.shownKv xs, Asc t
  | [], _, t, ht => by
    simp [PyData.shownKv] at ht
  | (k, v) :: xs, h, t, ht => by
    have h' : ascD k ∧ ascD v ∧ ascKv xs := by simpa [ascKv] using h
    simp only [PyData.shownKv, List.mem_cons] at ht
    rcases ht with e | e
    · rw [e]
      exact ((asc_shown k h'.1).app (asc_str ": ")).app (asc_shown v h'.2.1)
    · exact asc_shownKv xs h'.2.2 t e
end
/-- str of a thing -/
def strD : PyData → Str
  | .str x => x
  | d => d.shown
theorem strD_asc {d : PyData} (h : ascD d) : Asc (strD d) := by
  cases d with
  | str x => simpa [strD, ascD] using h
  | _ => exact asc_shown _ h
theorem len_repr (x : Str) : x.length ≤ (reprText x).length := by
  have grow : ∀ (q : Nat) (l : List Nat) (acc : Array Nat), acc.size + l.length ≤ (l.foldl (fun out c => out ++ (Builtin.Str.reprChar q c).toArray) acc).size := fun q l => by
    induction l with
    | nil => intro acc; simp
    | cons k r ih =>
      intro acc
      have h := ih (acc ++ (Builtin.Str.reprChar q k).toArray)
      have one : 1 ≤ (Builtin.Str.reprChar q k).length := by
        unfold Builtin.Str.reprChar
        dsimp only
        repeat' split
        all_goals simp
        all_goals omega
      rw [List.foldl_cons]
      simp only [Array.size_append, List.size_toArray] at h
      simp only [List.length_cons]
      omega
  have h := grow (reprQuote x) x.cps.toList #[reprQuote x]
  unfold reprText
  show x.length ≤ ((x.cps.foldl (fun out c => out ++ (Builtin.Str.reprChar (reprQuote x) c).toArray) #[reprQuote x]).push (reprQuote x)).size
  rw [Array.size_push, ← Array.foldl_toList]
  have e : x.cps.toList.length = x.length := by simp [Str.length]
  omega
theorem strD_len {d : PyData} : (strD d).length ≤ d.shown.length := by
  cases d with
  | str x =>
    simp only [strD, PyData.shown]
    exact len_repr x
  | _ => exact Nat.le_refl _
section
variable {X : Cx}
def rStrZ (K : PySem.W.Frag) : List V → Hp → VK → Prop := fun xs H Q => ∃ (v : V) (d : PyData), xs = [v] ∧ Dz K H v d ∧ d.showable = true ∧ d.depth ≤ 60 ∧ d.shown.length ≤ sizeLine ∧ Q (.str (strD d)) H
theorem cr_strZ {k : Nat} (quiet : X.A.guards = some []) (room : Room k X.A) : CallR X (.type "str") (rStrZ X.K) := by
  intro pins s σ H xs us Q I r h
  obtain ⟨v, d, rfl, hd, hs, hp, hz, q⟩ := h
  obtain ⟨u, rfl, rx⟩ := vals1 r
  have hu := room.un
  cases hd with
  | non =>
    cases rx
    exact PySem.P.str_of_none ⟨.str _, H, I.tok _, ⟨_, rfl⟩, q⟩
  | bl b =>
    cases rx
    exact PySem.P.str_of_bool ⟨.str _, H, I.tok _, ⟨_, rfl⟩, q⟩
  | int i =>
    obtain ⟨t, rfl⟩ := rx
    exact PySem.P.str_of_int (by simpa [PyData.showable] using hs) ⟨.str _, H, I.tok _, ⟨_, rfl⟩, q⟩
  | str x =>
    obtain ⟨t, rfl⟩ := rx
    exact PySem.P.str_of_str ⟨.str _, H, I, ⟨_, rfl⟩, q⟩
  | lst e n ha =>
    obtain ⟨as, rd, na⟩ := Dz.reads I _ _ u (.lst e n ha) rx
    cases rx
    exact str_of_reads rd hs (fun _ => na) quiet (by omega) (fun _ _ z => z) (fun h' u tk kept => ⟨.str _, H, I.kept kept, ⟨u, rfl⟩, q⟩) hz
  | tup e ha =>
    obtain ⟨as, rd, na⟩ := Dz.reads I _ _ u (.tup e ha) rx
    cases rx
    exact str_of_reads rd hs (fun _ => na) quiet (by omega) (fun _ _ z => z) (fun h' u tk kept => ⟨.str _, H, I.kept kept, ⟨u, rfl⟩, q⟩) hz
  | dct e ha =>
    obtain ⟨as, rd, na⟩ := Dz.reads I _ _ u (.dct e ha) rx
    cases rx
    exact str_of_reads rd hs (fun _ => na) quiet (by omega) (fun _ _ z => z) (fun h' u tk kept => ⟨.str _, H, I.kept kept, ⟨u, rfl⟩, q⟩) hz
end
end Az
set_option Elab.async false
set_option linter.all false
set_option maxRecDepth 100000
set_option maxHeartbeats 4000000
set_option pp.maxSteps 400
set_option pp.deepTerms false
/-! Works: names and parts; how many things a thing has; what a work is. -/
namespace W37
open PySem PySem.Spec PyProof.Rows L2
open Az
abbrev Nm := Str × Str
def nD (n : Nm) : PyData := .tuple [.str n.1, .str n.2]
theorem nD_inj {n m : Nm} (h : nD n = nD m) : n = m := by
  obtain ⟨a, b⟩ := n
  obtain ⟨c, d⟩ := m
  unfold nD at h
  injection h with h
  injection h with h1 h2
  injection h2 with h2 _
  injection h1 with h1
  injection h2 with h2
  exact Prod.ext h1 h2
/-- a work -/
inductive W where
  | mk (n : Nm) (ps : List W)
mutual
def W.nms : W → List Nm
  | .mk n ps => n :: nmsL ps
def nmsL : List W → List Nm
  | [] => []
  | w :: r => w.nms ++ nmsL r
end
mutual
def W.dat : W → PyData
  | .mk n ps => .tuple [nD n, .tuple (datL ps)]
def datL : List W → List PyData
  | [] => []
  | w :: r => w.dat :: datL r
end
mutual
def W.dp : W → Nat
  | .mk _ ps => dpL ps + 1
def dpL : List W → Nat
  | [] => 0
  | w :: r => max w.dp (dpL r)
end
theorem nmsL_app : ∀ xs ys : List W, nmsL (xs ++ ys) = nmsL xs ++ nmsL ys
  | [], ys => by simp [nmsL]
  | w :: r, ys => by
    rw [List.cons_append, nmsL, nmsL_app r ys, nmsL, List.append_assoc]
theorem dpL_app : ∀ (xs : List W) (w : W) (k : Nat), dpL xs ≤ k → w.dp ≤ k → dpL (xs ++ [w]) ≤ k
  | [], w, k, _, h => by
    rw [List.nil_append, dpL, dpL]
    omega
  | x :: r, w, k, h, h' => by
    rw [dpL] at h
    rw [List.cons_append, dpL]
    have := dpL_app r w k (by omega) h'
    omega
theorem dpL_mem : ∀ {xs : List W} {w : W}, w ∈ xs → w.dp ≤ dpL xs
  | x :: r, w, h => by
    rw [dpL]
    rcases List.mem_cons.mp h with z | z
    · rw [z]; omega
    · have := dpL_mem z
      omega
theorem datL_map : ∀ ws : List W, datL ws = ws.map W.dat
  | [] => rfl
  | w :: r => by rw [datL, datL_map r, List.map_cons]
/-- a name as it stands -/
def NmV (H : Hp) (v : V) (n : Nm) : Prop := ∃ t, v = .ref t ∧ H t = some (.tup [.str n.1, .str n.2])
inductive NmL (H : Hp) : List V → List Nm → Prop
  | nil : NmL H [] []
  | cons {v : V} {vs : List V} {n : Nm} {ns : List Nm} : NmV H v n → NmL H vs ns → NmL H (v :: vs) (n :: ns)
/-- tuples stand -/
def Tp (H H' : Hp) : Prop := ∀ b xs, H b = some (.tup xs) → H' b = some (.tup xs)
theorem Tp.trans {H H1 H2 : Hp} (p : Tp H H1) (q : Tp H1 H2) : Tp H H2 := fun b xs e => q b xs (p b xs e)
theorem tp_same {H H' : Hp} (s : L2.Same H H') : Tp H H' := fun b ys e => s b _ e
theorem tp_upd {H : Hp} {p : Addr} {x : HO} (e : ∀ xs, H p ≠ some (.tup xs)) : Tp H (upd H p x) := fun b ys eb => by
  rw [upd_ne (fun z => e ys (by rw [← z]; exact eb))]
  exact eb
theorem NmV.tp {H H' : Hp} {v : V} {n : Nm} (h : NmV H v n) (s : Tp H H') : NmV H' v n := by
  obtain ⟨t, e, r⟩ := h
  exact ⟨t, e, s _ _ r⟩
theorem NmL.tp {H H' : Hp} (s : Tp H H') : ∀ {vs : List V} {ns : List Nm}, NmL H vs ns → NmL H' vs ns
  | _, _, .nil => .nil
  | _, _, .cons h r => .cons (h.tp s) (r.tp s)
theorem NmL.len {H : Hp} : ∀ {vs : List V} {ns : List Nm}, NmL H vs ns → vs.length = ns.length
  | _, _, .nil => rfl
  | _, _, .cons _ r => by rw [List.length_cons, List.length_cons, r.len]
theorem NmL.snoc {H : Hp} : ∀ {vs : List V} {ns : List Nm} {v : V} {n : Nm}, NmL H vs ns → NmV H v n → NmL H (vs ++ [v]) (ns ++ [n])
  | _, _, _, _, .nil, h => .cons h .nil
  | _, _, _, _, .cons h r, h' => .cons h (r.snoc h')
theorem NmL.app {H : Hp} : ∀ {vs ws : List V} {ns ms : List Nm}, NmL H vs ns → NmL H ws ms → NmL H (vs ++ ws) (ns ++ ms)
  | _, _, _, _, .nil, h => h
  | _, _, _, _, .cons h r, h' => .cons h (r.app h')
theorem NmL.take {H : Hp} : ∀ {vs : List V} {ns : List Nm} (k : Nat), NmL H vs ns → NmL H (vs.take k) (ns.take k)
  | _, _, 0, h => by rw [List.take_zero, List.take_zero]; exact .nil
  | _, _, _ + 1, .nil => .nil
  | _, _, k + 1, .cons h r => .cons h (r.take k)
theorem NmL.drop {H : Hp} : ∀ {vs : List V} {ns : List Nm} (k : Nat), NmL H vs ns → NmL H (vs.drop k) (ns.drop k)
  | _, _, 0, h => h
  | _, _, _ + 1, .nil => .nil
  | _, _, k + 1, .cons h r => r.drop k
theorem NmL.get {H : Hp} : ∀ {vs : List V} {ns : List Nm} {i : Nat} {v : V}, NmL H vs ns → vs[i]? = some v → ∃ n, ns[i]? = some n ∧ NmV H v n
  | _, _, _, _, .nil, e => by simp at e
  | _, _, 0, _, .cons h r, e => by
    rw [List.getElem?_cons_zero] at e
    cases e
    exact ⟨_, rfl, h⟩
  | _, _, i + 1, _, .cons h r, e => by
    rw [List.getElem?_cons_succ] at e
    obtain ⟨n, e1, q⟩ := r.get e
    exact ⟨n, by rw [List.getElem?_cons_succ]; exact e1, q⟩
theorem NmL.mem {H : Hp} {vs : List V} {ns : List Nm} (h : NmL H vs ns) {v : V} (m : v ∈ vs) : ∃ n ∈ ns, NmV H v n := by
  obtain ⟨i, hi⟩ := List.getElem?_of_mem m
  obtain ⟨n, e, q⟩ := h.get hi
  exact ⟨n, List.mem_of_getElem? e, q⟩
mutual
/-- a work as it stands -/
inductive Wk (H : Hp) : V → W → Prop
  | mk {t p : Addr} {v : V} {n : Nm} {xs : List V} {ps : List W} : H t = some (.tup [v, .ref p]) → NmV H v n → H p = some (.tup xs) → WkL H xs ps → Wk H (.ref t) (.mk n ps)
inductive WkL (H : Hp) : List V → List W → Prop
  | nil : WkL H [] []
  | cons {v : V} {vs : List V} {w : W} {ws : List W} : Wk H v w → WkL H vs ws → WkL H (v :: vs) (w :: ws)
end
mutual
theorem Wk.tp {H H' : Hp} (s : Tp H H') : ∀ {v : V} {w : W}, Wk H v w → Wk H' v w
  | _, _, .mk e1 n e2 r => .mk (s _ _ e1) (n.tp s) (s _ _ e2) (WkL.tp s r)
theorem WkL.tp {H H' : Hp} (s : Tp H H') : ∀ {vs : List V} {ws : List W}, WkL H vs ws → WkL H' vs ws
  | _, _, .nil => .nil
  | _, _, .cons h r => .cons (Wk.tp s h) (WkL.tp s r)
end
theorem WkL.len {H : Hp} : ∀ {vs : List V} {ws : List W}, WkL H vs ws → vs.length = ws.length
  | _, _, .nil => rfl
  | _, _, .cons _ r => by rw [List.length_cons, List.length_cons, r.len]
theorem WkL.snoc {H : Hp} : ∀ {vs : List V} {ws : List W} {v : V} {w : W}, WkL H vs ws → Wk H v w → WkL H (vs ++ [v]) (ws ++ [w])
  | _, _, _, _, .nil, h => .cons h .nil
  | _, _, _, _, .cons h r, h' => .cons h (r.snoc h')
theorem WkL.get {H : Hp} : ∀ {vs : List V} {ws : List W} {i : Nat} {v : V}, WkL H vs ws → vs[i]? = some v → ∃ w, ws[i]? = some w ∧ Wk H v w
  | _, _, _, _, .nil, e => by simp at e
  | _, _, 0, _, .cons h r, e => by
    rw [List.getElem?_cons_zero] at e
    cases e
    exact ⟨_, rfl, h⟩
  | _, _, i + 1, _, .cons h r, e => by
    rw [List.getElem?_cons_succ] at e
    obtain ⟨n, e1, q⟩ := r.get e
    exact ⟨n, by rw [List.getElem?_cons_succ]; exact e1, q⟩
section
variable {K : PySem.W.Frag}
theorem NmV.dz {H : Hp} {v : V} {n : Nm} (h : NmV H v n) : Dz K H v (nD n) := by
  obtain ⟨t, rfl, e⟩ := h
  exact .tup e (.cons (.str _) (.cons (.str _) .nil))
mutual
theorem Wk.dz {H : Hp} : ∀ {v : V} {w : W}, Wk H v w → Dz K H v w.dat
  | _, _, .mk e1 n e2 r => by
    rw [W.dat]
    exact .tup e1 (.cons n.dz (.cons (.tup e2 (WkL.dz r)) .nil))
theorem WkL.dz {H : Hp} : ∀ {vs : List V} {ws : List W}, WkL H vs ws → DzAll K H vs (datL ws)
  | _, _, .nil => by rw [datL]; exact .nil
  | _, _, .cons h r => by rw [datL]; exact .cons (Wk.dz h) (WkL.dz r)
end
end
/-! ## things: how many they have, how deep they are, their texts -/
def Ok7 (x : Str) : Prop := x.length ≤ 200 ∧ ∀ c ∈ x.cps.toList, c < 128
mutual
def wt : PyData → Nat
  | .tuple ds => wts ds + 1
  | _ => 1
def wts : List PyData → Nat
  | [] => 0
  | d :: r => wt d + wts r
end
mutual
def dt : PyData → Nat
  | .tuple ds => dts ds + 1
  | _ => 0
def dts : List PyData → Nat
  | [] => 0
  | d :: r => max (dt d) (dts r)
end
mutual
def gd : PyData → Prop
  | .str x => Ok7 x
  | .tuple ds => gds ds
  | _ => True
def gds : List PyData → Prop
  | [] => True
  | d :: r => gd d ∧ gds r
end
theorem wt_pos : ∀ d : PyData, 1 ≤ wt d
  | .tuple ds => by rw [wt]; omega
  | .none | .bool _ | .int _ | .str _ | .list _ | .dict _ => by simp [wt]
theorem wts_app : ∀ xs ys : List PyData, wts (xs ++ ys) = wts xs + wts ys
  | [], ys => by simp [wts]
  | d :: r, ys => by
    rw [List.cons_append, wts, wts_app r ys, wts]
    omega
theorem len_wts : ∀ ds : List PyData, ds.length ≤ wts ds
  | [] => by simp
  | d :: r => by
    have := len_wts r
    have := wt_pos d
    rw [List.length_cons, wts]
    omega
theorem wts_mem : ∀ {ds : List PyData} {d : PyData}, d ∈ ds → wt d ≤ wts ds
  | d :: r, e, h => by
    rw [wts]
    rcases List.mem_cons.mp h with z | z
    · rw [z]; omega
    · have := wts_mem z
      omega
theorem dts_app : ∀ xs ys : List PyData, dts (xs ++ ys) = max (dts xs) (dts ys)
  | [], ys => by simp [dts]
  | d :: r, ys => by
    rw [List.cons_append, dts, dts_app r ys, dts]
    omega
theorem dts_mem : ∀ {ds : List PyData} {d : PyData}, d ∈ ds → dt d ≤ dts ds
  | d :: r, e, h => by
    rw [dts]
    rcases List.mem_cons.mp h with z | z
    · rw [z]; omega
    · have := dts_mem z
      omega
theorem gds_iff : ∀ {ds : List PyData}, gds ds ↔ ∀ d ∈ ds, gd d
  | [] => by simp [gds]
  | d :: r => by rw [gds, gds_iff (ds := r)]; simp
theorem gds_app {xs ys : List PyData} : gds (xs ++ ys) ↔ gds xs ∧ gds ys := by
  rw [gds_iff, gds_iff, gds_iff]
  constructor
  · intro h
    exact ⟨fun d m => h d (List.mem_append_left _ m), fun d m => h d (List.mem_append_right _ m)⟩
  · rintro ⟨h1, h2⟩ d m
    rcases List.mem_append.mp m with z | z
    · exact h1 d z
    · exact h2 d z
/-! ## what a work is -/
section
variable (nm : PyData → Bool)
def form : Nat → PyData → Bool
  | 0, _ => false
  | k + 1, d => match d with
    | .tuple [n, .tuple ps] => nm n && ps.all (form k)
    | _ => false
def names : Nat → PyData → List PyData
  | 0, _ => []
  | k + 1, d => match d with
    | .tuple [n, .tuple ps] => n :: ps.flatMap (names k)
    | _ => []
/-- a name beside a tuple -/
def nwp (d : PyData) : Bool := match d with
  | .tuple [n, .tuple _] => nm n
  | _ => false
theorem form_nwp {k : Nat} {d : PyData} (h : nwp nm d = false) : form nm k d = false := by
  cases k with
  | zero => rfl
  | succ k =>
    unfold form
    unfold nwp at h
    split
    · rename_i n ps
      simp only at h
      rw [h]
      rfl
    · rfl
theorem nwp_mk {d : PyData} (h : nwp nm d = true) : ∃ n ps, d = .tuple [n, .tuple ps] ∧ nm n = true := by
  unfold nwp at h
  split at h
  · rename_i n ps
    exact ⟨n, ps, rfl, h⟩
  · cases h
def IsW (d : PyData) : Prop := form nm 5 d = true ∧ (names 5 d).Nodup
/-- a stack of things, the first to be taken at the end: how many levels each may have yet, and what was seen -/
def Ans (st : List (PyData × Nat)) (seen : List PyData) : Prop := (∀ p ∈ st, form nm p.2 p.1 = true) ∧ (seen ++ st.flatMap fun p => names p.2 p.1).Nodup
theorem ans_nil {seen : List PyData} (h : seen.Nodup) : Ans nm [] seen := ⟨by simp, by simpa using h⟩
theorem ans_one {d : PyData} : Ans nm [(d, 5)] [] ↔ IsW nm d := by
  unfold Ans IsW
  simp
theorem ans_bad {st : List (PyData × Nat)} {p : PyData × Nat} {seen : List PyData} (h : form nm p.2 p.1 = false) : ¬ Ans nm (st ++ [p]) seen := fun a => by
  have := a.1 p (by simp)
  rw [h] at this
  cases this
theorem ans_zero {st : List (PyData × Nat)} {d : PyData} {seen : List PyData} : ¬ Ans nm (st ++ [(d, 0)]) seen := ans_bad nm rfl
theorem ans_seen {st : List (PyData × Nat)} {n : PyData} {ps : List PyData} {k : Nat} {seen : List PyData} (h : n ∈ seen) : ¬ Ans nm (st ++ [(.tuple [n, .tuple ps], k + 1)]) seen := fun a => by
  have q := a.2
  rw [List.nodup_append] at q
  refine q.2.2 n h n ?_ rfl
  rw [List.mem_flatMap]
  exact ⟨(.tuple [n, .tuple ps], k + 1), by simp, by simp [names]⟩
theorem ans_step {st : List (PyData × Nat)} {n : PyData} {ps : List PyData} {k : Nat} {seen : List PyData} (hn : nm n = true) :
    Ans nm (st ++ [(.tuple [n, .tuple ps], k + 1)]) seen ↔ Ans nm (st ++ ps.map fun q => (q, k)) (seen ++ [n]) := by
  unfold Ans
  constructor
  · rintro ⟨a, b⟩
    constructor
    · intro p hp
      rcases List.mem_append.mp hp with z | z
      · exact a p (List.mem_append_left _ z)
      · obtain ⟨q, hq, rfl⟩ := List.mem_map.mp z
        have := a (.tuple [n, .tuple ps], k + 1) (by simp)
        simp only [form, hn, Bool.true_and, List.all_eq_true] at this
        exact this q hq
    · refine (List.Perm.nodup_iff ?_).mp b
      simp only [List.flatMap_append, List.flatMap_cons, List.flatMap_nil, names, List.append_nil, List.flatMap_map, List.append_assoc]
      refine List.Perm.append_left _ ?_
      show (_ ++ n :: _).Perm ([n] ++ _)
      exact List.perm_middle
  · rintro ⟨a, b⟩
    constructor
    · intro p hp
      rcases List.mem_append.mp hp with z | z
      · exact a p (List.mem_append_left _ z)
      · rw [List.mem_singleton.mp z]
        simp only [form, hn, Bool.true_and, List.all_eq_true]
        intro q hq
        exact a (q, k) (List.mem_append_right _ (List.mem_map.mpr ⟨q, hq, rfl⟩))
    · refine (List.Perm.nodup_iff ?_).mpr b
      simp only [List.flatMap_append, List.flatMap_cons, List.flatMap_nil, names, List.append_nil, List.flatMap_map, List.append_assoc]
      refine List.Perm.append_left _ ?_
      show (_ ++ n :: _).Perm ([n] ++ _)
      exact List.perm_middle
end
end W37
set_option Elab.async false
set_option linter.all false
set_option maxRecDepth 100000
set_option maxHeartbeats 4000000
set_option pp.maxSteps 400
set_option pp.deepTerms false
namespace Xt
open PySem PySem.Spec PyProof.Rows L2
open AutoSeq1 (wpAny_loadPart')
theorem meets_enumerate_newT (l : Addr) (items : Array Value) (n : Nat) (dct : Option Addr) (sl : Array (Option Value)) :
    Meets (Builtin.«enumerate.__new__» ⟨[.type "enumerate", .ref l], []⟩) (fun _ R s => s.heap.get? l = some { cls := .type "tuple", dict := dct, data := .seq items n, slots := sl } ∧
      R (.ok (.ret (.ref (s.heap.push { cls := .type "tuple_iterator", data := .fields #[.ref l, .int 0 0] }).objs.size)))
        { s with heap := (s.heap.push { cls := .type "tuple_iterator", data := .fields #[.ref l, .int 0 0] }).push { cls := .type "enumerate", data := .fields #[.none, .bool false, .ref s.heap.objs.size, rawInt 0, .none, .none] } }) :=
  .of_wp fun prog w A R s h => by
    obtain ⟨hp, g, d, tk, os⟩ := s; obtain ⟨hl, h⟩ := h
    have hsub := sub_enumerate
    have hL : Heap.IsTuple (Shared.heap ⟨hp, g, d, tk, os⟩) l items := ⟨_, hl, rfl, n, rfl⟩
    wp_walk using wpAny_loadPart' hl
    refine wpAny_stack_any fun st => wpAny_pure ?_
    split
    · rename_i c _ _ _ _ _
      cases (c == Value.type "enumerate")
      · wp_walk using wpAny_loadPart' hl, wpAny_pyIter_tuple hL
        exact ⟨_, rfl, h⟩
      · wp_walk using wpAny_loadPart' hl, wpAny_pyIter_tuple hL
        exact ⟨_, rfl, h⟩
    · wp_walk using wpAny_loadPart' hl, wpAny_pyIter_tuple hL
      exact ⟨_, rfl, h⟩
section
variable {prog : Program} {w : World} {A : Around} {E : Value → Shared → Prop} {s : Shared}
theorem call_enumerate_tuple {l : Addr} {items : Array Value} {Q : Value → Shared → Prop} (hL : s.heap.IsTuple l items)
    (h : ∀ h', IsEnum h' (s.heap.objs.size + 1) s.heap.objs.size 0 .none → h'.IsTupleIter s.heap.objs.size l 0 → h'.objs.size = s.heap.objs.size + 2 →
      (∀ b o, s.heap.get? b = some o → h'.get? b = some o) → Q (.ref (s.heap.objs.size + 1)) { s with heap := h' }) :
    wpAny (model prog w) A (call (.type "enumerate") [.ref l]) Q E s := by
  obtain ⟨⟨c, dct, dt, sl⟩, hl, hc, n, hd⟩ := hL
  replace hc : c = .type "tuple" := hc
  replace hd : dt = .seq items n := hd
  subst hc hd
  refine callType_new F.called_enumerate (by decide) (F.typeCall_enumerate_1 _) (F.newCall_enumerate_1 _) (fun obj => F.args_object_init_2 obj _) F.entry_enumerate_new
    (meets_enumerate_newT l items n dct sl) ⟨hl, ?_⟩
  have hz : (s.heap.push { cls := .type "tuple_iterator", data := .fields #[.ref l, .int 0 0] }).objs.size = s.heap.objs.size + 1 := Heap.size_push ..
  show _ ∧ _
  rw [hz]
  have he : IsEnum ((s.heap.push { cls := .type "tuple_iterator", data := .fields #[.ref l, .int 0 0] }).push
      { cls := .type "enumerate", data := .fields #[.none, .bool false, .ref s.heap.objs.size, rawInt 0, .none, .none] }) (s.heap.objs.size + 1) s.heap.objs.size 0 .none := by
    have := Heap.get?_push_size (s.heap.push { cls := .type "tuple_iterator", data := .fields #[.ref l, .int 0 0] })
      (o := { cls := .type "enumerate", data := .fields #[.none, .bool false, .ref s.heap.objs.size, rawInt 0, .none, .none] }) rfl
    rw [hz] at this; exact this
  refine ⟨⟨_, he, rfl⟩, h _ he ⟨_, Heap.get?_push_of_some _ (Heap.get?_push_size _ rfl), rfl, rfl⟩ (by rw [Heap.size_push, hz]) fun b o x => Heap.get?_push_of_some _ (Heap.get?_push_of_some _ x)⟩
end
/-- the tuple at a, each item in a new pair with its number -/
def IteT (K : PySem.W.Frag) (a : Addr) : It :=
  ⟨fun i H => ∃ (xs : List V) (x : V), SqT K H a xs ∧ xs[i]? = some x, fun i H v H' => ∃ T x, v = .ref T ∧ H T = none ∧ H' = upd H T (.tup [.int (i : Nat), x]) ∧ ∀ xs, SqT K H a xs → xs[i]? = some x, fun i H => ∃ xs : List V, SqT K H a xs ∧ xs.length = i⟩
theorem turn_enumT {P : Program} {w : World} {K : PySem.W.Frag} {elts : List Expr} {kk : Nat} {tpos : Pos} (a e it : Addr) (hae : a ≠ e) (hai : a ≠ it) :
    Turn P w K (.Tuple elts kk tpos) (IteT K a) [e, it] e (fun i h => (∃ old, IsEnum h e it ((i : Nat) : Int) old) ∧ h.IsTupleIter it a i ∧ e ≠ it) where
  mem := by simp
  obj := fun i h st b hb => by
    obtain ⟨⟨old, he⟩, ⟨o, ho, hc, hd⟩, _⟩ := st
    have e' : b = e ∨ b = it := by simpa using hb
    rcases e' with z | z
    · rw [z]; exact ⟨_, he, fun v q => nomatch q⟩
    · rw [z]; exact ⟨o, ho, fun v q => by rw [hd] at q; cases q⟩
  keep := fun i h h' st k => let ⟨⟨old, he⟩, hi, hne⟩ := st; ⟨⟨old, k e (by simp) _ he⟩, hi.at fun o q => k it (by simp) o q, hne⟩
  item := by
    intro X hP hw hK hc i pins s σ H E I hf st hg
    subst hP hw hK
    obtain ⟨⟨old, he⟩, hit, hne⟩ := st
    obtain ⟨xs, x, hq, hx⟩ := hg
    obtain ⟨its, rv, p, hz⟩ := I.tuple hq
    obtain ⟨u, hu, ru⟩ := rv.get hx
    have hel : e < s.heap.objs.size := Heap.lt_size he
    have hil : it < s.heap.objs.size := by obtain ⟨_, q, _⟩ := hit; exact Heap.lt_size q
    have hu' : its.toArray[i]? = some u := by simpa using hu
    have hi : i < its.toArray.size := by
      rcases Nat.lt_or_ge i its.toArray.size with h | h
      · exact h
      · rw [Array.getElem?_eq_none h] at hu'; cases hu'
    refine wpAny_pyNext_enum_itemD (Draws.tuple (A := X.A.in1) (I.ok.hd hc) it a hai its.toArray) he ⟨hit, p⟩ hi hne (by simp [Ne.symm hne]; exact ⟨hne, Ne.symm hae⟩) fun y h' tk hy ho hst' hT hsz hk => ?_
    obtain rfl : u = y := by rw [hu'] at hy; cases hy; rfl
    refine ⟨_, rfl, wpAny_letOwnedTupleGo_enum (s := { s with heap := h', toks := tk + 1 }) ho fun h'' he' sb => ?_⟩
    have hT2 : h''.get? s.heap.objs.size = some { cls := .type "tuple", data := .seq #[.int i tk, u] } := (sb.2 _ (Nat.ne_of_gt hel)).trans hT
    have new : ObjOk X.prog X.w (upd H s.heap.objs.size (.tup [.int (i : Nat), x])) h'' s.heap.objs.size (.tup [.int (i : Nat), x]) :=
      ⟨by show 2 ≤ sizeLine; decide, [.int i tk, u], .cons ⟨_, rfl⟩ (.cons ru .nil), ⟨_, hT2, rfl, _, rfl⟩⟩
    have I1 : Inv X pins σ (upd H s.heap.objs.size (.tup [.int (i : Nat), x])) { s with heap := h'', toks := tk + 1 } :=
      I.turnedNew (ch := [e, it]) (fun b ob hb q => (sb.2 b (fun z => hb (by simp [z]))).trans (hk b ob (fun z => hb (by simp [z])) (fun z => hb (by simp [z])) q)) hf (Nat.le_refl _) new
    refine ⟨.ref s.heap.objs.size, _, I1, rfl, ⟨_, x, rfl, I.hok.fresh (Nat.le_refl _), rfl, fun ys hy => by rw [I.tuple_inj hy hq]; exact hx⟩, ⟨⟨u, ?_⟩, hst'.1.at fun o q => (sb.2 it (Ne.symm hne)).trans q, hne⟩, fun b hb => ?_⟩
    · have e1 : ((i + 1 : Nat) : Int) = (i : Int) + 1 := by omega
      rw [e1]; exact he'
    · have hb' : b < s.heap.objs.size := by
        have e' : b = e ∨ b = it := by simpa using hb
        rcases e' with z | z
        · rw [z]; exact hel
        · rw [z]; exact hil
      rw [upd_ne (Nat.ne_of_lt hb')]
      exact (hf b hb).1
  done := by
    intro X hP hw hK hc i pins s σ H E I hf st hg
    subst hP hw hK
    obtain ⟨⟨old, he⟩, hit, hne⟩ := st
    obtain ⟨xs, hq, hx⟩ := hg
    obtain ⟨its, rv, p, hz⟩ := I.tuple hq
    obtain ⟨f0, f1, f2, f3, f4, f5⟩ := hf it (by simp)
    have hl := rv.length
    have en : its.toArray.size = i := by simp; omega
    exact wpAny_pyNext_enum_endD (Draws.tuple (A := X.A.in1) (I.ok.hd hc) it a hai its.toArray) he (by rw [en]; exact ⟨hit, p⟩) fun h' eb => ⟨rfl, I.turned (t' := s.toks) (fun b o hb q => eb b o hb q) f0 f1 f3 f4 f5⟩
  self := fun A i s Q E st h => let ⟨⟨_, he⟩, _⟩ := st; wpAny_pyIter_enum he h
def iEnumT (K : PySem.W.Frag) (ta : TA) : TI := fun σ H R => ta σ H fun vs H1 => ∃ a xs, vs = [.ref a] ∧ SqT K H1 a xs ∧ R (IteT K a) H1
theorem pi_enumT {X : Cx} {e : Expr} {ta : TA} {p pos tpos : Pos} {elts : List Expr} {kk : Nat} (hg : Gl X "enumerate") (hm : X.mg "enumerate" = none) (ha : PA X [e] ta) (hs : starEach [e] X.env = [(false, eval e X.env)] := by rfl) :
    PI X (.Tuple elts kk tpos) (.Call (.Name "enumerate" p) [e] [] pos) (iEnumT X.K ta) := by
  refine ⟨fun pins s σ H R I h => ?_⟩
  refine Call_ (ld_blt I hg hm boot_enumerate (PyProof.Rows.callWith_type1 (thn (ha.run pos pins s σ H _ I h) fun us s1 ⟨vs, H1, I1, r1, q1⟩ => ?_) hs rfl))
  obtain ⟨a, xs, ex, hq, q⟩ := q1
  subst ex
  cases r1 with
  | cons r rr =>
    cases rr
    cases r
    obtain ⟨its, rv, p', hz⟩ := I1.tuple hq
    have hal : a < s1.heap.objs.size := by obtain ⟨_, z, _⟩ := p'; exact Heap.lt_size z
    refine call_enumerate_tuple p' fun h' he hit hsz hk => wpAny_pyIter_enum he ?_
    have I2 : Inv X pins σ H1 { s1 with heap := h' } := I1.kept (t' := s1.toks) hk
    refine ⟨s1.heap.objs.size + 1, [s1.heap.objs.size + 1, s1.heap.objs.size], _, _, H1, rfl, I2, turn_enumT a (s1.heap.objs.size + 1) s1.heap.objs.size (Nat.ne_of_lt (Nat.lt_succ_of_lt hal)) (Nat.ne_of_lt hal), ⟨⟨.none, he⟩, hit, Nat.succ_ne_self _⟩, fun b hb => ?_, q⟩
    have e' : b = s1.heap.objs.size + 1 ∨ b = s1.heap.objs.size := by simpa using hb
    have hle : s1.heap.objs.size ≤ b := by
      rcases e' with z | z
      · rw [z]; exact Nat.le_add_right _ _
      · rw [z]; exact Nat.le_refl _
    exact I1.fpOk hle (I1.hok.fresh hle)
theorem walk_enumT {K : PySem.W.Frag} {a : Addr} {xs : List V} : Walk (IteT K a) xs.length (fun H => SqT K H a xs) (YPair (fun i => some (.int (i : Nat))) (fun i => xs[i]?)) := by
  refine ⟨fun i _ hi q => ⟨xs, xs[i], q, by simp [hi]⟩, fun _ q => ⟨xs, q, rfl⟩, fun i H v H' _ q y => ?_⟩
  obtain ⟨T, x, h1, h2, h3, h4⟩ := y
  exact ⟨T, .int (i : Nat), x, h1, h2, h3, rfl, h4 xs q⟩
end Xt
set_option Elab.async false
set_option linter.all false
set_option maxRecDepth 100000
set_option maxHeartbeats 4000000
set_option pp.maxSteps 400
set_option pp.deepTerms false
/-! zip(a list, a tuple) of one length; a list != [] -/
namespace Xt
open PySem PySem.Spec PyProof.Rows L2
def ItzLT (K : PySem.W.Frag) (a b : Addr) : It :=
  ⟨fun i H => ∃ (xs ys : List V) (x y : V), SqL K H a xs ∧ SqT K H b ys ∧ xs[i]? = some x ∧ ys[i]? = some y,
    fun i H v H' => ∃ T x y, v = .ref T ∧ H T = none ∧ H' = upd H T (.tup [x, y]) ∧ (∀ xs, SqL K H a xs → xs[i]? = some x) ∧ ∀ ys, SqT K H b ys → ys[i]? = some y,
    fun i H => ∃ xs ys : List V, SqL K H a xs ∧ SqT K H b ys ∧ xs.length = i ∧ ys.length = i⟩
theorem turn_zipLT {P : Program} {w : World} {K : PySem.W.Frag} {elts : List Expr} {kk : Nat} {tpos : Pos} {a b z TI TO i1 i2 : Addr} (D : ZipSep2 z TI TO i1 i2 [i1, a] [i2, b]) (n1 : a ≠ i1) (n2 : b ≠ i2) :
    Turn P w K (.Tuple elts kk tpos) (ItzLT K a b) [z, TI, TO, i1, i2] z (fun i h => IsZip h z TI TO .none ∧ IsTupOf2 h TI (.ref i1) (.ref i2) ∧ (∃ x y, IsTupOf2 h TO x y) ∧ h.IsListIter i1 a i ∧ h.IsTupleIter i2 b i) where
  mem := by simp
  obj := fun i h ⟨h1, h2, ⟨x, y, h3⟩, ⟨o1, e1, _, d1⟩, ⟨o2, e2, _, d2⟩⟩ c hc => by
    simp only [List.mem_cons, List.not_mem_nil, or_false] at hc
    rcases hc with rfl | rfl | rfl | rfl | rfl
    · exact ⟨_, h1, fun _ q => nomatch q⟩
    · exact ⟨_, h2, fun _ q => nomatch q⟩
    · exact ⟨_, h3, fun _ q => nomatch q⟩
    · exact ⟨o1, e1, fun _ q => by rw [d1] at q; cases q⟩
    · exact ⟨o2, e2, fun _ q => by rw [d2] at q; cases q⟩
  keep := fun i h h' ⟨h1, h2, ⟨x, y, h3⟩, h4, h5⟩ k => ⟨k z (by simp) _ h1, k TI (by simp) _ h2, ⟨x, y, k TO (by simp) _ h3⟩, h4.at fun o q => k i1 (by simp) o q, h5.at fun o q => k i2 (by simp) o q⟩
  item := by
    intro X hP hw hK hc i pins s σ H E I hf st hg
    subst hP hw hK
    obtain ⟨hz, hTI, ⟨x0, y0, hTO⟩, t1, t2⟩ := st
    obtain ⟨xs, ys, x, y, hqx, hqy, hx, hy⟩ := hg
    obtain ⟨us, r1, p1, _⟩ := I.list hqx
    obtain ⟨ws, r2, p2, _⟩ := I.tuple hqy
    obtain ⟨u, hu, ru⟩ := r1.get hx
    obtain ⟨v, hv, rv⟩ := r2.get hy
    have l1 : i < us.toArray.size := by simpa using (List.getElem?_eq_some_iff.mp hu).1
    have l2 : i < ws.toArray.size := by simpa using (List.getElem?_eq_some_iff.mp hv).1
    have nh := I.ok.hd hc
    have zl : z < s.heap.objs.size := Heap.lt_size hz
    refine wpAny_pyNext_zipD2_item D (Draws.list (A := X.A.in1) nh i1 a n1 us.toArray) (Draws.tuple (A := X.A.in1) nh i2 b n2 ws.toArray) hz hTI hTO ⟨t1, p1.isList⟩ ⟨t2, p2⟩ l1 l2 fun u' v' h' tk eu ev z' TO' s1 s2 hT hsz hk => ?_
    obtain rfl : u = u' := by
      have : us.toArray[i]? = some u := by simpa using hu
      rw [this] at eu; cases eu; rfl
    obtain rfl : v = v' := by
      have : ws.toArray[i]? = some v := by simpa using hv
      rw [this] at ev; cases ev; rfl
    refine ⟨_, rfl, wpAny_letOwnedTupleGo_zip (s := { s with heap := h', toks := tk }) z' fun h'' z'' sb => ?_⟩
    have hT2 : h''.get? s.heap.objs.size = some { cls := .type "tuple", data := .seq #[u, v] } := (sb.2 _ (Nat.ne_of_gt zl)).trans hT
    have I1 : Inv X pins σ (upd H s.heap.objs.size (.tup [x, y])) { s with heap := h'', toks := tk } :=
      I.turnedNew (ch := [z, TI, TO, i1, i2]) (fun c o hb q => (sb.2 c (fun e => hb (by simp [e]))).trans (hk c o (fun e => hb (by simp [e])) (fun e => hb (by simp [e])) (fun e => hb (by simp [e])) (fun e => hb (by simp [e])) q)) hf (Nat.le_refl _)
        ⟨by show 2 ≤ sizeLine; decide, [u, v], .cons ru (.cons rv .nil), ⟨_, hT2, rfl, _, rfl⟩⟩
    refine ⟨.ref s.heap.objs.size, _, I1, rfl, ⟨_, x, y, rfl, I.hok.fresh (Nat.le_refl _), rfl, fun l hl => by rw [I.list_inj hl hqx]; exact hx, fun l hl => by rw [I.tuple_inj hl hqy]; exact hy⟩,
      ⟨z'', (sb.2 _ D.TIz).trans (hk _ _ D.TIz D.TITO D.TIi1 D.TIi2 hTI), ⟨u, v, (sb.2 _ D.TOz).trans TO'⟩, s1.1.at fun o q => (sb.2 _ (Ne.symm D.zi1)).trans q, s2.1.at fun o q => (sb.2 _ (Ne.symm D.zi2)).trans q⟩, fun c hcm => ?_⟩
    have lt : c < s.heap.objs.size := by
      have hcm' := hcm
      simp only [List.mem_cons, List.not_mem_nil, or_false] at hcm'
      rcases hcm' with rfl | rfl | rfl | rfl | rfl
      · exact zl
      · exact Heap.lt_size hTI
      · exact Heap.lt_size hTO
      · exact Heap.lt_size t1.choose_spec.1
      · exact Heap.lt_size t2.choose_spec.1
    rw [upd_ne (Nat.ne_of_lt lt)]
    exact (hf c hcm).1
  done := by
    intro X hP hw hK hc i pins s σ H E I hf st hg
    subst hP hw hK
    obtain ⟨hz, hTI, ⟨x0, y0, hTO⟩, t1, t2⟩ := st
    obtain ⟨xs, ys, hqx, hqy, lx, ly⟩ := hg
    obtain ⟨us, r1, p1, _⟩ := I.list hqx
    obtain ⟨ws, r2, p2, _⟩ := I.tuple hqy
    have e1 : us.toArray.size = i := by rw [List.size_toArray, ← r1.length]; exact lx
    have e2 : ws.toArray.size = i := by rw [List.size_toArray, ← r2.length]; exact ly
    have nh := I.ok.hd hc
    exact wpAny_pyNext_zipD2_end D (Draws.list (A := X.A.in1) nh i1 a n1 us.toArray) (Draws.tuple (A := X.A.in1) nh i2 b n2 ws.toArray) hz hTI hTO ⟨t1, p1.isList⟩ ⟨t2, p2⟩ (by omega) (by omega) (.inl e1.symm) fun h' tk hk =>
      ⟨rfl, I.turnedL (t' := tk) (ch := [z, TI, TO, i1, i2]) (fun c o hb q => hk c o (fun e => hb (by simp [e])) (fun e => hb (by simp [e])) (fun e => hb (by simp [e])) (fun e => hb (by simp [e])) q) hf⟩
  self := fun A i s Q E st h => wpAny_pyIter_zip st.1 h
def iZipLT (K : PySem.W.Frag) (ta : TA) : TI := fun σ H R => ta σ H fun vs H1 => ∃ a b xs ys, vs = [.ref a, .ref b] ∧ SqL K H1 a xs ∧ SqT K H1 b ys ∧ R (ItzLT K a b) H1
theorem pi_zipLT {X : Cx} {e e2 : Expr} {ta : TA} {p pos tpos : Pos} {elts : List Expr} {kk : Nat} (hg : Gl X "zip") (hm : X.mg "zip" = none) (ha : PA X [e, e2] ta)
    (hs : starEach [e, e2] X.env = (false, eval e X.env) :: starEach [e2] X.env := by rfl) (hpl : (backTo pos (starEach [e2] X.env)).any (·.1) = false := by rfl) :
    PI X (.Tuple elts kk tpos) (.Call (.Name "zip" p) [e, e2] [] pos) (iZipLT X.K ta) := by
  refine ⟨fun pins s σ H R I h => ?_⟩
  refine Call_ (ld_blt I hg hm PyProof.Rows.boot_zip (PyProof.Rows.callWith_type1 (thn (ha.run pos pins s σ H _ I h) fun us s1 ⟨vs, H1, I1, r1, q1⟩ => ?go) hs hpl))
  case go =>
    obtain ⟨a, b, xs, ys, rfl, hqx, hqy, q⟩ := q1
    cases r1 with
    | cons r rr =>
      cases rr with
      | cons r' rr =>
        cases rr; cases r; cases r'
        obtain ⟨us, v1, p1, _⟩ := I1.list hqx
        obtain ⟨ws, v2, p2, _⟩ := I1.tuple hqy
        have la : a < s1.heap.objs.size := p1.lt
        have lb : b < s1.heap.objs.size := by obtain ⟨o, ho, _⟩ := id p2; exact Heap.lt_size ho
        refine zip_begins2 (begins_list a us.toArray) (begins_tuple b ws.toArray) p1.isList p2 fun h' hz hTI hTO h1 h2 _ hk => wpAny_pyIter_zip hz ?_
        have I2 : Inv X pins σ H1 { s1 with heap := h' } := I1.kept (t' := s1.toks) hk
        refine ⟨s1.heap.objs.size + 4, [s1.heap.objs.size + 4, s1.heap.objs.size + 2, s1.heap.objs.size + 3, s1.heap.objs.size, s1.heap.objs.size + 1], _, _, H1, rfl, I2,
          turn_zipLT (zip_sep2 (N := s1.heap.objs.size) (fp1 := [a]) (fp2 := [b]) (fun c hc => by rw [List.mem_singleton.mp hc]; exact la) (fun c hc => by rw [List.mem_singleton.mp hc]; exact lb)) (Nat.ne_of_lt la) (Nat.ne_of_lt (Nat.lt_succ_of_lt lb)),
          ⟨hz, hTI, ⟨_, _, hTO⟩, ⟨_, h1, rfl, rfl⟩, ⟨_, h2, rfl, rfl⟩⟩, fun c hc => ?_, q⟩
        have le : s1.heap.objs.size ≤ c := by
          simp only [List.mem_cons, List.not_mem_nil, or_false] at hc
          rcases hc with rfl | rfl | rfl | rfl | rfl
          · exact Nat.le_add_right _ _
          · exact Nat.le_add_right _ _
          · exact Nat.le_add_right _ _
          · exact Nat.le_refl _
          · exact Nat.le_add_right _ _
        exact I1.fpOk le (I1.hok.fresh le)
theorem walk_zipLT {K : PySem.W.Frag} {a b : Addr} {xs ys : List V} (e : xs.length = ys.length) : Walk (ItzLT K a b) xs.length (fun H => SqL K H a xs ∧ SqT K H b ys) (YPair (fun i => xs[i]?) (fun i => ys[i]?)) := by
  refine ⟨fun i H hi q => ⟨xs, ys, xs[i], ys[i]'(by omega), q.1, q.2, List.getElem?_eq_getElem hi, List.getElem?_eq_getElem (by omega)⟩, fun H q => ⟨xs, ys, q.1, q.2, rfl, e.symm⟩, fun i H v H' hi q y => ?_⟩
  obtain ⟨T, x, z, h1, h2, h3, h4, h5⟩ := y
  exact ⟨T, x, z, h1, h2, h3, h4 xs q.1, h5 ys q.2⟩
/-- a list of any things != [] -/
theorem op_neL0 {X : Cx} (hu : X.A.units + 64 < cLine) : OpR X (compareOp .NotEq) (fun x y H Q => ∃ a b xs, x = .ref a ∧ y = .ref b ∧ H a = some (.lst xs) ∧ H b = some (.lst []) ∧ Q (.bl (!xs.isEmpty)) H) := by
  intro pins s σ H x y v u Q I rx ry h
  obtain ⟨a, b, xs, rfl, rfl, ea, eb, q⟩ := h
  cases rx; cases ry
  obtain ⟨its, r1, p1, _⟩ := I.list (SqL.of ea)
  obtain ⟨its2, r2, p2, _⟩ := I.list (SqL.of eb)
  cases r2
  have l := r1.length
  cases xs with
  | nil =>
    cases r1
    exact (PySem.SeqAt.RcNeAt.lists (e := fun _ => true) p1.isList p2.isList rfl (by omega) (fun j h1 _ => absurd h1 (by simp))) _ _ _ _ ⟨.bl false, H, I, rfl, q⟩
  | cons x r =>
    refine (PySem.SeqAt.RcNeAt.lists_lengths p1.isList p2.isList ?_ (by omega)) _ _ _ _ ⟨.bl true, H, I, rfl, q⟩
    rw [List.size_toArray, ← l]
    simp
end Xt
set_option Elab.async false
set_option linter.all false
set_option maxRecDepth 100000
set_option maxHeartbeats 4000000
set_option pp.maxSteps 400
set_option pp.deepTerms false
/-! Tuples cut, put together, turned about, as lists, whatever the cases; a sign many times. -/
namespace Xtu
open PySem PySem.Spec PyProof.Rows L2
theorem same_upd {H : Hp} {p : Addr} {o : HO} (h : H p = none) : Same H (upd H p o) := fun b x e => by
  rw [upd_ne (ne_of_none e h)]
  exact e
section
variable {X : Cx}
def rSlU : V → Option Int → Option Int → Hp → VK → Prop := fun x lo hi H Q => ∃ a xs, x = .ref a ∧ H a = some (.tup xs) ∧ ∀ p H', L2.Same H H' → H' p = some (.tup (cutV xs lo hi)) → Q (.ref p) H'
theorem sl_tupU : SlR X rSlU := by
  intro pins s σ H x v vl vu lo hi sl Q I rx hs pl pu h
  obtain ⟨a, xs, rfl, e, q⟩ := h
  refine sl_tupA pins s σ H _ v vl vu lo hi sl Q I rx hs pl pu ⟨a, xs, rfl, SqT.of e, fun w => q a H (Same.refl H) ?_, fun _ p np => q p _ (same_upd np) upd_same⟩
  rw [e]
  unfold cutV
  rw [w.1, w.2, List.drop_zero, Nat.sub_zero, List.take_length]
def rCatU : R2 := fun x y H Q => ∃ a b xs ys, x = .ref a ∧ y = .ref b ∧ H a = some (.tup xs) ∧ H b = some (.tup ys) ∧ xs.length + ys.length ≤ sizeLine ∧ ∀ p H', L2.Same H H' → H' p = some (.tup (xs ++ ys)) → Q (.ref p) H'
theorem op_catU : OpR X (binaryOp .Add) rCatU := by
  intro pins s σ H x y v u Q I rx ry h
  obtain ⟨a, b, xs, ys, rfl, rfl, ea, eb, hz, q⟩ := h
  refine op_catA pins s σ H _ _ v u Q I rx ry ⟨a, b, xs, ys, rfl, rfl, SqT.of ea, SqT.of eb, hz, fun z => q b H (Same.refl H) ?_, fun _ z => q a H (Same.refl H) ?_, fun _ _ p np => q p _ (same_upd np) upd_same⟩
  · rw [z]; exact eb
  · rw [z, List.append_nil]; exact ea
end
section
variable {prog : Program} {w : World} {A : Around} {E : Value → Shared → Prop} {s : Shared}
theorem turnN {sl : Addr} {u : Tok} {n : Nat} {Q : Int × Int × Nat → Shared → Prop} (hs : s.heap.IsSliceOf sl .none .none (.int (-1) u)) (h : Q ((n : Int) - 1, -1, n) s) : wpAny (model prog w) A (Builtin.Slice.sliceApplied (.ref sl) (pure (n : Int))) Q E s := by
  obtain ⟨os, a1, a2, a3⟩ := id hs
  unfold Builtin.Slice.sliceApplied Builtin.Slice.sliceFields
  refine wpAny_bind (wpAny_bind (wpAny_field a1 a3 (x := .none) rfl (wpAny_bind (wpAny_field a1 a3 (x := .none) rfl (wpAny_bind (wpAny_field a1 a3 (x := .int (-1) u) rfl (wpAny_pure ?_)))))))
  refine wpAny_bind (slicePart_int ?_)
  show wpAny _ _ (if ((-1 : Int) == 0) = true then _ else _) _ _ s
  rw [if_neg (by decide)]
  have pl : Builtin.Slice.slicePlaces ((n : Int) - 1) (-1) (-1) = n := by
    unfold Builtin.Slice.slicePlaces
    have h1 : ¬ ((-1 : Int) > 0) := by decide
    simp only [h1, if_false, show (- -1 : Int) = 1 by decide, Int.ediv_one]
    split <;> omega
  refine wpAny_bind (slicePart_none (wpAny_bind (slicePart_none (wpAny_bind (wpAny_pure ?_)))))
  show wpAny _ _ (pure ((n : Int) - 1, (-1 : Int), Builtin.Slice.slicePlaces ((n : Int) - 1) (-1) (-1))) _ _ s
  rw [pl]
  exact wpAny_pure h
theorem fm_congr {α β : Type} {f g : α → Option β} : ∀ l : List α, (∀ m ∈ l, f m = g m) → l.filterMap f = l.filterMap g
  | [], _ => rfl
  | a :: r, h => by
    rw [List.filterMap_cons, List.filterMap_cons, h a List.mem_cons_self, fm_congr r fun m hm => h m (List.mem_cons_of_mem _ hm)]
theorem turn_all (xs : Array Value) : ((List.range xs.size).filterMap fun (m : Nat) => xs[((xs.size : Int) - 1 + (m : Int) * -1).toNat]?).toArray = xs.toList.reverse.toArray := by
  have e : ((List.range xs.size).filterMap fun (m : Nat) => xs[((xs.size : Int) - 1 + (m : Int) * -1).toNat]?) = ((List.range xs.size).map fun k => xs.size - 1 - k).filterMap (xs[·]?) := by
    rw [List.filterMap_map]
    refine fm_congr _ fun m hm => ?_
    have := List.mem_range.mp hm
    show xs[((xs.size : Int) - 1 + (m : Int) * -1).toNat]? = xs[xs.size - 1 - m]?
    congr 1
    omega
  rw [e, PySem.W.krv_range, List.filterMap_reverse, PySem.W.krv_all]
theorem itemN {t sl : Addr} {items : Array Value} {u : Tok} {Q : Value → Shared → Prop} (ht : IsTup s.heap t items) (hs : s.heap.IsSliceOf sl .none .none (.int (-1) u)) (hz : items.size ≤ sizeLine)
    (h : Q (.ref s.heap.objs.size) { s with heap := s.heap.push { cls := .type "tuple", data := .seq items.toList.reverse.toArray } }) : wpAny (model prog w) A (getItem (.ref t) (.ref sl)) Q E s := by
  have fits : sizeOk (.seq items.toList.reverse.toArray) := by
    show items.toList.reverse.toArray.size ≤ sizeLine
    rw [List.size_toArray, List.length_reverse, Array.length_toList]
    exact hz
  obtain ⟨os, a1, a2, a3⟩ := id hs
  have ty : s.TypeIs (.ref sl) "slice" := ⟨os, a1, a2⟩
  unfold getItem; try with_reducible refine wpAny_holding ?_
  (first | refine wpAny_bind (wpAny_pure ?_) | skip); refine wpAny_bind (wpAny_sequenceKey ht.typeIs (by decide) ?_)
  refine wpAny_bind (wpAny_callSpecial?_slot (name := Str.ofString "__getitem__") ht.typeIs PyProof.Rows.slot_tuple_getitem (wpAny_call_entry PyProof.Rows.slot_tuple_getitem ht.typeIs entry_tuple_getitem ?_ (args_tuple_getitem _ _)))
  show wpAny _ _ (Builtin.Tuple.tupleItemsOf (.ref t) >>= _) _ _ s; refine wpAny_bind (tupleItemsOf_ ht ?_)
  refine wpAny_bind (wpAny_typeOf ty ?_); rw [if_pos (by decide)]
  refine wpAny_bind (turnN hs ?_)
  show wpAny _ _ (if (((items.size : Int) - 1) == 0 && (-1 : Int) == 1 && (items.size == items.size)) = true then _ else _) _ _ s
  rw [if_neg (by simp), turn_all]
  (first
    | exact wpAny_bind (m := Builtin.Tuple.tupleExact _) (wpAny_newObj_type (wpAny_pure ⟨_, rfl, wpAny_pure h⟩) fits)
    | exact wpAny_bind (m := Builtin.Tuple.tupleExact _) (wpAny_newObj_type (wpAny_bind (wpAny_pure (wpAny_pure ⟨_, rfl, wpAny_pure h⟩))) fits)
    | exact wpAny_bind (wpAny_bind (m := Builtin.Tuple.tupleExact _) (wpAny_newObj_type (wpAny_pure (wpAny_pure ⟨_, rfl, wpAny_pure h⟩)) fits)))
end
section
variable {X : Cx}
def tRevN (K : PySem.W.Frag) (te : TE) : TE := fun σ H Q => te σ H fun x H1 => ∃ (a : Addr) (xs : List V), x = .ref a ∧ H1 a = some (.tup xs) ∧ ∀ p H', L2.Same H1 H' → H' p = some (.tup xs.reverse) → Q (.ref p) H'
theorem pe_revN {e : Expr} {te : TE} {k : Nat} {p1 p2 p3 pos : Pos} (he : PE X e te) : PE X (.Subscript e (.Slice none none (some (.UnaryOp .USub (.Constant (.int 1) k p1) p2)) p3) pos) (tRevN X.K te) := by
  refine ⟨fun pins s σ H Q I h => Subscript_ (thn (he.run pins s σ H _ I h) fun v s1 ⟨x, H1, I1, r1, a, xs, ex, hx, q⟩ => ?_)⟩
  subst ex; cases r1
  have hst : PO X (some (.UnaryOp .USub (.Constant (.int 1) k p1) p2)) (tPart (tUn (rU fun i => .int (-i)) (tC (.int 1)))) := po_some (pe_un un_neg pe_int)
  refine wpAny_Slice (thn (po_none.run pins s1 σ H1 (fun o G => o = none ∧ G = H1) I1 ⟨rfl, rfl⟩) fun vl s2 ⟨l, G, I2, pl, el, e2⟩ => ?_)
  subst el e2
  refine thn (po_none.run pins s2 σ G (fun o G2 => o = none ∧ G2 = G) I2 ⟨rfl, rfl⟩) fun vu s3 ⟨u, G2, I3, pu, eu, e3⟩ => ?_
  subst eu e3
  refine thn (hst.run pins s3 σ G2 (fun o G3 => o = some (-1) ∧ G3 = G2) I3 ⟨1, rfl, -1, rfl, rfl, rfl⟩) fun vs s4 ⟨o, G3, I4, ps, eo, e4⟩ => ?_
  subst eo e4
  cases pl; cases pu
  cases ps with
  | int _ tk =>
  have I5 : Inv X pins σ G3 { s4 with heap := s4.heap.push { cls := .type "slice", data := .fields #[.none, .none, .int (-1) tk] } } := I4.kept (t' := s4.toks) fun b ob q => Heap.get?_push_of_some _ q
  obtain ⟨its, r, ht, hz⟩ := I5.tuple (SqT.of hx)
  have hlen := r.length
  show wpAny (model X.prog X.w) X.A (subscriptTail e (.Slice none none (some (.UnaryOp .USub (.Constant (.int 1) k p1) p2)) p3) (.ref a) (.ref s4.heap.objs.size)) (EP X pins σ Q) X.xe { s4 with heap := s4.heap.push { cls := .type "slice", data := .fields #[.none, .none, .int (-1) tk] } }
  refine tail_any (ops := [.ref a, .ref s4.heap.objs.size]) ht.typeIs PyProof.Rows.slot_tuple_getitem.lookup ?_ (by with_unfolding_all rfl)
  refine itemN ht (Heap.IsSliceOf.new _ _ _ _) (by rw [List.size_toArray]; omega) ?_
  have nw := I5.hok.fresh (Nat.le_refl _)
  refine ⟨.ref _, _, I5.laid (t' := s4.toks) (o := .tup xs.reverse) (fun b ob q => Heap.get?_push_of_some _ q) (Nat.le_refl _) ?_, rfl, q _ _ (same_upd nw) upd_same⟩
  exact ⟨by rw [List.length_reverse]; exact hz, _, r.reverse, IsTup.new _ _⟩
/-- a list of a tuple's things, new -/
theorem cr_listT : CallR X (.type "list") (fun xs H Q => ∃ p ys, xs = [.ref p] ∧ SqT X.K H p ys ∧ ∀ l, H l = none → l ≠ sysModules → Q (.ref l) (upd H l (.lst ys))) := by
  intro pins s σ H xs us Q I r h
  obtain ⟨p, ys, rfl, hq, q⟩ := h
  obtain ⟨u, rfl, rx⟩ := vals1 r; cases rx
  obtain ⟨its, r', ⟨o, ho, hc, n, hd⟩, hz⟩ := I.tuple hq
  have hlen := r'.length
  exact call_list_seq p (.inr rfl) ho hc hd (fun h' c' kp e => ⟨.ref s.heap.objs.size, _, I.laid (t' := s.toks) kp (Nat.le_refl _) (show ObjOk X.prog X.w _ h' _ (.lst ys) from ⟨hz, its, c', r', e⟩), rfl, q _ (I.hok.fresh (Nat.le_refl _)) (Nat.ne_of_gt I.big)⟩) (by simp only [List.size_toArray]; omega)
end
section
variable {X : Cx}
/-- "x" * 41 -/
theorem op_x41 : OpR X (binaryOp .Mult) (fun x y H Q => x = .str "x" ∧ y = .int 41 ∧ ∀ z : Str, z.length = 41 → (∀ c ∈ z.cps.toList, c = 120) → Q (.str z) H) := by
  intro pins s σ H x y v u Q I rx ry h
  obtain ⟨rfl, rfl, q⟩ := h
  obtain ⟨t, rfl⟩ := rx
  obtain ⟨t2, rfl⟩ := ry
  refine PySem.P.mul_str (by decide) (fun _ _ => by decide +kernel) (fun _ _ => by decide +kernel) ⟨by decide +kernel, .str ⟨(List.replicate 41 ("x" : Str).cps).foldl (· ++ ·) #[]⟩, H, I.tok _, ⟨_, rfl⟩, q _ (by decide +kernel) (by decide +kernel)⟩
end
end Xtu
set_option Elab.async false
set_option linter.all false
set_option maxRecDepth 100000
set_option maxHeartbeats 4000000
set_option pp.maxSteps 400
set_option pp.deepTerms false
/-! Things of texts, numbers, truths, tuples, lists and dicts: a weight that bounds how long they are shown, how deep and how many they are. -/
namespace W08
open PySem PySem.Spec PyProof.Rows L2 Az
mutual
def sw : PyData → Nat
  | .none => 4
  | .bool _ => 5
  | .int _ => 6
  | .str x => 10 * x.length + 2
  | .tuple ds => sws ds + 4
  | .list ds => sws ds + 4
  | .dict kvs => swk kvs + 4
def sws : List PyData → Nat
  | [] => 0
  | d :: r => sw d + 2 + sws r
def swk : List (PyData × PyData) → Nat
  | [] => 0
  | (k, v) :: r => sw k + sw v + 4 + swk r
end
mutual
def dw : PyData → Nat
  | .tuple ds => dws ds + 1
  | .list ds => dws ds + 1
  | .dict kvs => dwk kvs + 1
  | _ => 0
def dws : List PyData → Nat
  | [] => 0
  | d :: r => max (dw d) (dws r)
def dwk : List (PyData × PyData) → Nat
  | [] => 0
  | (k, v) :: r => max (max (dw k) (dw v)) (dwk r)
end
mutual
/-- small numbers, texts of few signs -/
def ok : PyData → Prop
  | .int i => i = 0 ∨ i = 1
  | .str x => ∀ c ∈ x.cps.toList, c < 128
  | .tuple ds => oks ds
  | .list ds => oks ds
  | .dict kvs => okk kvs
  | _ => True
def oks : List PyData → Prop
  | [] => True
  | d :: r => ok d ∧ oks r
def okk : List (PyData × PyData) → Prop
  | [] => True
  | (k, v) :: r => ok k ∧ ok v ∧ okk r
end
mutual
/-- how many things there are in all -/
def nc : PyData → Nat
  | .tuple ds => ncs ds + 1
  | .list ds => ncs ds + 1
  | .dict kvs => nck kvs + 1
  | _ => 1
def ncs : List PyData → Nat
  | [] => 0
  | d :: r => nc d + ncs r
def nck : List (PyData × PyData) → Nat
  | [] => 0
  | (k, v) :: r => nc k + nc v + nck r
end
theorem nc_pos : ∀ d : PyData, 1 ≤ nc d
  | .none | .bool _ | .int _ | .str _ => Nat.le_refl _
  | .tuple _ | .list _ | .dict _ => by rw [nc]; omega
theorem ncs_app : ∀ xs ys : List PyData, ncs (xs ++ ys) = ncs xs + ncs ys
  | [], ys => by simp [ncs]
  | x :: xs, ys => by
    rw [List.cons_append, ncs, ncs, ncs_app xs ys]
    omega
theorem len_ncs : ∀ ds : List PyData, ds.length ≤ ncs ds
  | [] => by simp [ncs]
  | d :: r => by
    have := len_ncs r
    have := nc_pos d
    rw [List.length_cons, ncs]
    omega
theorem ncs_mem : ∀ {ds : List PyData} {d : PyData}, d ∈ ds → nc d ≤ ncs ds
  | e :: r, d, h => by
    rw [ncs]
    rcases List.mem_cons.mp h with z | z
    · rw [z]; omega
    · have := ncs_mem z
      omega
theorem oks_iff : ∀ {ds : List PyData}, oks ds ↔ ∀ d ∈ ds, ok d
  | [] => by simp [oks]
  | d :: r => by simp [oks, oks_iff (ds := r)]
theorem sws_app : ∀ xs ys : List PyData, sws (xs ++ ys) = sws xs + sws ys
  | [], ys => by simp [sws]
  | x :: xs, ys => by
    rw [List.cons_append, sws, sws, sws_app xs ys]
    omega
theorem dws_app : ∀ xs ys : List PyData, dws (xs ++ ys) = max (dws xs) (dws ys)
  | [], ys => by simp [dws]
  | x :: xs, ys => by
    rw [List.cons_append, dws, dws, dws_app xs ys]
    omega
theorem len_sws : ∀ ds : List PyData, 2 * ds.length ≤ sws ds
  | [] => by simp [sws]
  | d :: r => by
    have := len_sws r
    rw [List.length_cons, sws]
    omega
theorem sws_mem : ∀ {ds : List PyData} {d : PyData}, d ∈ ds → sw d + 2 ≤ sws ds
  | e :: r, d, h => by
    rw [sws]
    rcases List.mem_cons.mp h with z | z
    · rw [z]; omega
    · have := sws_mem z
      omega
theorem dws_mem : ∀ {ds : List PyData} {d : PyData}, d ∈ ds → dw d ≤ dws ds
  | e :: r, d, h => by
    rw [dws]
    rcases List.mem_cons.mp h with z | z
    · rw [z]; omega
    · have := dws_mem z
      omega
theorem repr_le' {x : Str} (h : ∀ c ∈ x.cps.toList, c < 128) : (reprText x).length ≤ 10 * x.length + 2 :=
  PySem.StrLaws.reprText_len x fun c hc => Nat.lt_of_lt_of_le (h c hc) (by decide)
mutual
theorem shown_le : ∀ (d : PyData), ok d → d.showable = true ∧ d.shown.length ≤ sw d ∧ d.depth ≤ dw d
  | .none, _ => ⟨nice_none.sh, nice_none.sz, nice_none.dp⟩
  | .bool b, _ => ⟨(nice_bool b).sh, (nice_bool b).sz, (nice_bool b).dp⟩
  | .int i, h => by
    have n : Nice (.int i) 0 6 := by
      rcases h with h | h
      · subst h; exact nice_int (by decide) (by decide +kernel)
      · subst h; exact nice_int (by decide) (by decide +kernel)
    exact ⟨n.sh, n.sz, n.dp⟩
  | .str x, h => ⟨(nice_str (Nat.le_refl _)).sh, (nice_str (n := 10 * x.length + 2) (repr_le' h)).sz, by simp [PyData.depth]⟩
  | .tuple ds, h => by
    obtain ⟨a, b, c⟩ := shown_les ds h
    refine ⟨by simp [PyData.showable, a], ?_, ?_⟩
    · simp only [PyData.shown, sw]
      have := fmt_text (PyData.shownAll ds)
      omega
    · simp only [PyData.depth, dw]
      omega
  | .list ds, h => by
    obtain ⟨a, b, c⟩ := shown_les ds h
    refine ⟨by simp [PyData.showable, a], ?_, ?_⟩
    · simp only [PyData.shown, sw]
      have := list_le (PyData.shownAll ds)
      omega
    · simp only [PyData.depth, dw]
      omega
  | .dict kvs, h => by
    obtain ⟨a, b, c⟩ := shown_lek kvs h
    refine ⟨by simp [PyData.showable, a], ?_, ?_⟩
    · simp only [PyData.shown, sw]
      have := dict_le (PyData.shownKv kvs)
      omega
    · simp only [PyData.depth, dw]
      omega
theorem shown_les : ∀ (ds : List PyData), oks ds → PyData.showableAll ds = true ∧ piled (PyData.shownAll ds) ≤ sws ds ∧ PyData.depthAll ds ≤ dws ds
  | [], _ => by simp [PyData.showableAll, PyData.shownAll, PyData.depthAll, piled]
  | d :: r, h => by
    obtain ⟨a, b, c⟩ := shown_le d h.1
    obtain ⟨a2, b2, c2⟩ := shown_les r h.2
    refine ⟨by simp [PyData.showableAll, a, a2], ?_, ?_⟩
    · simp only [PyData.shownAll, piled_cons, sws]
      omega
    · simp only [PyData.depthAll, dws]
      omega
theorem shown_lek : ∀ (ds : List (PyData × PyData)), okk ds → PyData.showableKv ds = true ∧ piled (PyData.shownKv ds) ≤ swk ds ∧ PyData.depthKv ds ≤ dwk ds
  | [], _ => by simp [PyData.showableKv, PyData.shownKv, PyData.depthKv, piled]
  | (k, v) :: r, h => by
    obtain ⟨a, b, c⟩ := shown_le k h.1
    obtain ⟨a2, b2, c2⟩ := shown_le v h.2.1
    obtain ⟨a3, b3, c3⟩ := shown_lek r h.2.2
    refine ⟨by simp [PyData.showableKv, a, a2, a3], ?_, ?_⟩
    · have e : ((": " : Str)).length = 2 := by decide +kernel
      simp only [PyData.shownKv, piled_cons, swk, strLen_append]
      omega
    · simp only [PyData.depthKv, dwk]
      omega
end
/-- a thing within bounds -/
structure Bd (d : PyData) (n m k : Nat) : Prop where
  o : ok d
  n : nc d ≤ n
  s : sw d ≤ m
  d : dw d ≤ k
theorem Bd.mono {d : PyData} {n m k n' m' k' : Nat} (h : Bd d n m k) (a : n ≤ n') (b : m ≤ m') (c : k ≤ k') : Bd d n' m' k' := ⟨h.o, Nat.le_trans h.n a, Nat.le_trans h.s b, Nat.le_trans h.d c⟩
theorem Bd.nice {d : PyData} {n m k : Nat} (h : Bd d n m k) : Nice d k m := let ⟨a, b, c⟩ := shown_le d h.o; ⟨a, Nat.le_trans c h.d, Nat.le_trans b h.s⟩
theorem bd_none : Bd .none 1 4 0 := ⟨trivial, Nat.le_refl _, Nat.le_refl _, Nat.le_refl _⟩
theorem bd_bool (b : Bool) : Bd (.bool b) 1 5 0 := ⟨trivial, Nat.le_refl _, Nat.le_refl _, Nat.le_refl _⟩
theorem bd_str {x : Str} (h : ∀ c ∈ x.cps.toList, c < 128) : Bd (.str x) 1 (10 * x.length + 2) 0 := ⟨h, Nat.le_refl _, Nat.le_refl _, Nat.le_refl _⟩
theorem bd_tup {ds : List PyData} {n m k : Nat} (h : oks ds) (a : ncs ds ≤ n) (b : sws ds ≤ m) (c : dws ds ≤ k) : Bd (.tuple ds) (n + 1) (m + 4) (k + 1) := ⟨h, Nat.succ_le_succ a, Nat.add_le_add_right b 4, Nat.succ_le_succ c⟩
theorem bd_lst {ds : List PyData} {n m k : Nat} (h : oks ds) (a : ncs ds ≤ n) (b : sws ds ≤ m) (c : dws ds ≤ k) : Bd (.list ds) (n + 1) (m + 4) (k + 1) := ⟨h, Nat.succ_le_succ a, Nat.add_le_add_right b 4, Nat.succ_le_succ c⟩
theorem bd_tup1 {d : PyData} {n m k : Nat} (h : Bd d n m k) : Bd (.tuple [d]) (n + 1) (m + 6) (k + 1) :=
  ⟨⟨h.o, trivial⟩, by have := h.n; simp only [nc, ncs]; omega, by have := h.s; simp only [sw, sws]; omega, by have := h.d; simp only [dw, dws]; omega⟩
theorem bd_lst1 {d : PyData} {n m k : Nat} (h : Bd d n m k) : Bd (.list [d]) (n + 1) (m + 6) (k + 1) :=
  ⟨⟨h.o, trivial⟩, by have := h.n; simp only [nc, ncs]; omega, by have := h.s; simp only [sw, sws]; omega, by have := h.d; simp only [dw, dws]; omega⟩
theorem bd_dct1 {d : PyData} {n m k : Nat} (h : Bd d n m k) : Bd (.dict [(.str "a", d)]) (n + 2) (m + 20) (k + 1) := by
  have e : ((("a" : Str)).length) = 1 := by decide +kernel
  have o : ok (.str "a") := fun c hc => by
    have : ("a" : Str).cps.toList = [97] := by decide +kernel
    rw [this] at hc
    rw [List.mem_singleton.mp hc]; decide
  exact ⟨⟨o, h.o, trivial⟩, by have := h.n; simp only [nc, nck]; omega, by have := h.s; simp only [sw, swk, e]; omega, by have := h.d; simp only [dw, dwk]; omega⟩
theorem oks_sub {xs ys : List PyData} (h : oks ys) (s : ∀ d ∈ xs, d ∈ ys) : oks xs := oks_iff.mpr fun d hd => oks_iff.mp h d (s d hd)
theorem ncs_take (k : Nat) (ds : List PyData) : ncs (ds.take k) + ncs (ds.drop k) = ncs ds := by rw [← ncs_app, List.take_append_drop]
theorem sws_take (k : Nat) (ds : List PyData) : sws (ds.take k) + sws (ds.drop k) = sws ds := by rw [← sws_app, List.take_append_drop]
theorem dws_take (k : Nat) (ds : List PyData) : max (dws (ds.take k)) (dws (ds.drop k)) = dws ds := by rw [← dws_app, List.take_append_drop]
end W08
set_option Elab.async false
set_option linter.all false
set_option maxRecDepth 100000
set_option maxHeartbeats 4000000
/-! a list that a call does not look at may be left out of its heap -/
namespace Xfr
open PySem PySem.Spec PyProof.Rows L2
def spF (sp : Sp) : Sp := fun vs H Q E => ∃ (L : Addr) (xs : List V), H L = some (.lst xs) ∧ sp vs (del H L) (fun v H' => H' L = none → Q v (upd H' L (.lst xs))) E
theorem frame {P : Program} {w : World} {K : PySem.W.Frag} {mg : Str → Option Value} {base : Heap} {k : Nat} {f : Addr} {fd : FuncData} {ps : List Str} {sp : Sp} (F : FnOk P w K mg base CX0 k f fd ps sp) : FnOk P w K mg base CX0 k f fd ps (spF sp) := by
  refine ⟨fun vs H Q E ⟨L, xs, _, h⟩ => F.len _ _ _ _ h, fun A outer s H args us vs Q E hr e0 hb hv ⟨L, xs, eL, h⟩ => ?_⟩
  have okL := e0.hok L _ eL
  have nL : L ∉ frs outer := fun z => by
    have := e0.frf L z
    rw [eL] at this
    cases this
  have dn : ∀ {b : Addr}, H b = none → del H L b = none := fun {b} e => by
    by_cases c : b = L
    · rw [c]; exact del_same
    · rw [del_ne c]; exact e
  have ds : ∀ {b : Addr} {o : HO}, del H L b = some o → b ≠ L ∧ H b = some o := fun {b o} e => by
    by_cases c : b = L
    · rw [c, del_same] at e
      cases e
    · rw [del_ne c] at e
      exact ⟨c, e⟩
  have dk : ∀ {b : Addr} {o : HO}, H b = some o → (∀ ys, o ≠ .lst ys) → del H L b = some o := fun {b o} e n => by
    rw [del_ne (fun c : b = L => by rw [c, eL] at e; cases e; exact n _ rfl)]
    exact e
  have e1 : Env0 P w K mg base A outer s (del H L) := ⟨e0.frames, e0.mod, fun b o e => ⟨(e0.bs b o e).1, dn (e0.bs b o e).2⟩, e0.bsz, e0.funs, fun b hb => dn (e0.frf b hb), fun a o e =>
    (e0.hok a o (ds e).2).stay (fun b u _ q => q) (fun b q => dk q (fun ys z => by cases z)) (fun b ys q => dk q (fun zs z => by cases z)), e0.bare⟩
  refine codeAny_mono (F.run A outer s (del H L) args us vs _ E hr e1 hb hv h) fun r s' q => ?_
  match r, q with
  | .error e, q => exact False.elim q
  | .ok .next, q => exact False.elim q
  | .ok .brk, q => exact False.elim q
  | .ok .cont, q => exact False.elim q
  | .ok (.ret y), q =>
    obtain ⟨v, H', os, bare, un, hok, rv, q⟩ := q
    obtain ⟨sz, its, n, rx, gL⟩ := okL
    have gL' := un.keep L _ gL del_same nL List.not_mem_nil
    have fL := un.free L _ gL del_same List.not_mem_nil
    refine ⟨v, upd H' L (.lst xs), os, bare, ⟨fun b o e n hb hx => un.keep b o e (dn n) hb hx, fun b o e n hb hx => un.slot b o e (dn n) hb hx, fun b o e n hx => ?_, un.there, fun b ys e => ?_, fun b o u e => ?_, fun b ps e => ?_⟩, fun a o e => ?_, rv, q fL⟩
    · rw [upd_ne (fun c : b = L => by rw [c, eL] at n; cases n)]
      exact un.free b o e (dn n) hx
    · have := un.tups b ys (dk e (fun zs z => by cases z))
      rw [upd_ne (ne_of_none this fL)]
      exact this
    · have := un.frzs b o u (dk e (fun zs z => by cases z))
      rw [upd_ne (ne_of_none this fL)]
      exact this
    · obtain ⟨more, hm⟩ := un.tbls b ps (dk e (fun zs z => by cases z))
      exact ⟨more, by rw [upd_ne (ne_of_none hm fL)]; exact hm⟩
    · by_cases c : a = L
      · subst c
        rw [upd_same] at e
        cases e
        exact ⟨sz, its, n, rx, gL'⟩
      · rw [upd_ne c] at e
        exact (hok a o e).stay (fun b u _ q => q) (fun b q => by rw [upd_ne (ne_of_none q fL)]; exact q) (fun b ys q => by rw [upd_ne (ne_of_none q fL)]; exact q)
end Xfr
set_option Elab.async false
set_option linter.all false
set_option maxRecDepth 100000
set_option maxHeartbeats 4000000
/-! tuple * int from nought on; list * int whose list is no table of modules -/
namespace Xrp
open PySem PySem.Spec PyProof.Rows L2
theorem mul0 (l : Addr) (items : Array Value) (n : Nat) (dd : Option Addr) (sl : Array (Option Value)) (u : Tok) (ne : items.isEmpty = false) :
    Meets (Builtin.«tuple.__mul__» ⟨[.ref l, .int 0 u], []⟩) (fun _ R s =>
      s.heap.get? l = some { cls := .type "tuple", dict := dd, data := .seq items n, slots := sl } ∧
      R (.ok (.ret (Value.ref s.heap.objs.size))) { s with heap := s.heap.push { cls := Value.type "tuple", data := Data.seq #[] }, toks := s.toks }) :=
  .of_wp fun prog w A R s h => by
    obtain ⟨hp, g, d, tk, os⟩ := s
    obtain ⟨hl, h⟩ := h
    have f1 := AutoSeq1.idx_int
    wp_walk using wpAny_loadPart' hl
    exact ⟨_, rfl, h⟩
theorem mul1 (l : Addr) (items : Array Value) (n : Nat) (dd : Option Addr) (sl : Array (Option Value)) (u : Tok) :
    Meets (Builtin.«tuple.__mul__» ⟨[.ref l, .int 1 u], []⟩) (fun _ R s =>
      s.heap.get? l = some { cls := .type "tuple", dict := dd, data := .seq items n, slots := sl } ∧ R (.ok (.ret (.ref l))) s) :=
  .of_wp fun prog w A R s h => by
    obtain ⟨hp, g, d, tk, os⟩ := s
    obtain ⟨hl, h⟩ := h
    have f1 := AutoSeq1.idx_int
    have c1 : (items.isEmpty || ((1 : Int) == 1)) = true := by simp
    wp_walk using wpAny_loadPart' hl
    repeat (first
      | (refine wpAny_ite_true (decide_eq_true c1) ?_; wp_walk using wpAny_loadPart' hl)
      | (refine wpAny_ite_true c1 ?_; wp_walk using wpAny_loadPart' hl))
    exact ⟨_, rfl, h⟩
section
variable {X : Cx}
def rRepU (K : PySem.W.Frag) : R2 := fun x y H Q => ∃ l k xs, x = .ref l ∧ y = .int k ∧ H l = some (.tup xs) ∧ xs ≠ [] ∧ 0 ≤ k ∧ k ≤ 1000 ∧ xs.length ≤ 1000 ∧ ∀ p H', L2.Same H H' → H' p = some (.tup (List.replicate k.toNat xs).flatten) → Q (.ref p) H'
theorem op_repU : OpR X (binaryOp .Mult) (rRepU X.K) := by
  intro pins s σ H x y v u Q I rx ry h
  obtain ⟨l, k, xs, rfl, rfl, hT, hne, h1, h2, hz, q⟩ := h
  rcases Int.lt_or_le k 2 with c | c
  · cases rx
    obtain ⟨t, rfl⟩ := ry
    obtain ⟨its, r, ⟨⟨cls, dd, data, sl⟩, ho, hc, n, hd⟩, hs⟩ := I.tuple (SqT.of hT)
    simp only at hc hd
    subst hc hd
    have hi : its.toArray.isEmpty = false := by
      cases its with
      | nil =>
        cases r
        exact absurd rfl hne
      | cons a b => rfl
    have k01 : k = 0 ∨ k = 1 := by omega
    rcases k01 with rfl | rfl
    · refine wpAny_binaryOp_repeat_ref (T := "tuple") (U := "int") (by decide) ⟨_, ho, rfl⟩
        (fun s' => typeIs_int s' 0 t) noFill_tuple_mul F.fills_int_mul F.slot_int_rmul repeat_tuple
        F.slot_int_index.lookup (call_meets F.slot_int_rmul (typeIs_int s 0 t) F.entry_int_rmul
          (F.args_int_rmul_2 _ _) (int_rmul_tuple 0 t l its.toArray n dd sl) ⟨ho, rfl, ⟨_, ho, rfl⟩, ?_⟩)
      refine call_meets F.slot_tuple_mul ⟨_, ho, rfl⟩ F.entry_tuple_mul (F.args_tuple_mul_2 _ _) (mul0 l its.toArray n dd sl t hi) ⟨ho, ?_⟩
      have nw := I.hok.fresh (Nat.le_refl s.heap.objs.size)
      refine ⟨.ref s.heap.objs.size, _, I.laid (t' := s.toks) (o := .tup []) (fun b ob z => Heap.get?_push_of_some _ z) (Nat.le_refl _) ?_, rfl, q _ _ (fun b o z => by rw [upd_ne (ne_of_none z nw)]; exact z) upd_same⟩
      exact ⟨Nat.zero_le _, [], .nil, IsTup.new _ _⟩
    · refine wpAny_binaryOp_repeat_ref (T := "tuple") (U := "int") (by decide) ⟨_, ho, rfl⟩
        (fun s' => typeIs_int s' 1 t) noFill_tuple_mul F.fills_int_mul F.slot_int_rmul repeat_tuple
        F.slot_int_index.lookup (call_meets F.slot_int_rmul (typeIs_int s 1 t) F.entry_int_rmul
          (F.args_int_rmul_2 _ _) (int_rmul_tuple 1 t l its.toArray n dd sl) ⟨ho, rfl, ⟨_, ho, rfl⟩, ?_⟩)
      refine call_meets F.slot_tuple_mul ⟨_, ho, rfl⟩ F.entry_tuple_mul (F.args_tuple_mul_2 _ _) (mul1 l its.toArray n dd sl t) ⟨ho, ?_⟩
      exact ⟨.ref l, H, I, rfl, q l H (Same.refl H) (by rw [hT]; simp)⟩
  · exact op_repT pins s σ H _ _ v u Q I rx ry ⟨l, k, xs, rfl, rfl, SqT.of hT, hne, c, h2, hz, fun p np => q p _ (fun b o z => by rw [upd_ne (ne_of_none z np)]; exact z) upd_same⟩
def rRepZ : R2 := fun x y H Q => ∃ l k xs, x = .ref l ∧ y = .int k ∧ H l = some (.lst xs) ∧ 0 ≤ k ∧ k ≤ 1000 ∧ xs.length ≤ 1000 ∧ ∀ p, H p = none → p ≠ sysModules → Q (.ref p) (upd H p (.lst (List.replicate k.toNat xs).flatten))
theorem op_repZ : OpR X (binaryOp .Mult) rRepZ := by
  intro pins s σ H x y v u Q I rx ry h
  obtain ⟨l, k, xs, rfl, rfl, hL, h1, h2, hz, q⟩ := h
  have sz : xs.length * k.toNat ≤ sizeLine := Nat.le_trans (Nat.mul_le_mul hz (show k.toNat ≤ 1000 by omega)) (by decide)
  cases rx
  obtain ⟨t, rfl⟩ := ry
  obtain ⟨z, its, n, r, hl, e⟩ := I.lstM hL
  have w1 : its.toArray.size * k.toNat ≤ sizeLine := by rw [List.size_toArray, ← hl]; exact sz
  have w2 : ¬ its.toArray.size * k.toNat > (2 ^ 63 - 1) / 8 := fun y => by
    have : (sizeLine : Nat) ≤ (2 ^ 63 - 1) / 8 := by decide
    omega
  have w3 : ¬ (!Builtin.List.listFitsIndex k) = true := fun y => by
    rw [fitsIndex_both (by omega) (by omega)] at y
    cases y
  have w4 : ¬ Builtin.List.listTooLong (its.toArray.size * k.toNat) = true := fun y => by
    rw [notLongL w1] at y
    cases y
  have w5 : (List.replicate (if its.toArray.isEmpty = true then 0 else k.toNat) its.toArray).foldl (fun a b => a ++ b) #[] = (List.replicate k.toNat its).flatten.toArray := by
    cases its with
    | nil => simp
    | cons a r' =>
      rw [if_neg (by simp)]
      exact size_rep _ _
  refine wpAny_binaryOp_repeat_ref (T := "list") (U := "int") (by decide) ⟨_, e, rfl⟩
    (fun s' => typeIs_int s' k t) noFill_list_mul F.fills_int_mul F.slot_int_rmul repeat_list
    F.slot_int_index.lookup (call_meets F.slot_int_rmul (typeIs_int s k t) F.entry_int_rmul
      (F.args_int_rmul_2 _ _) (int___rmul___int_list k t l its.toArray n) ⟨e, rfl, ⟨_, e, rfl⟩, ?_⟩)
  refine call_meets F.slot_list_mul ⟨_, e, rfl⟩ F.entry_list_mul
    (F.args_list_mul_2 _ _) (AutoListH.list___mul___list_int_3 l its.toArray n k t w3 w2 w4) ⟨e, ?_⟩
  rw [w5]
  refine ⟨.ref _, _, I.lnew (t' := s.toks) (r.rep k.toNat) ?_, rfl, q _ I.fresh (Nat.ne_of_gt I.big)⟩
  rw [PyProof.Rows.lm_len_rep_flat, Nat.mul_comm]
  exact sz
end
end Xrp
set_option Elab.async false
set_option linter.all false
set_option maxRecDepth 100000
set_option maxHeartbeats 4000000
set_option pp.maxSteps 400
set_option pp.deepTerms false
/-! != of two tuples that are equal item by item, own objects among them. -/
namespace GQ
open PySem PySem.SeqAt
section
variable {prog : Program} {w : World} {A : Around} {R : Except Value Flow → Shared → Prop}
theorem tuple_neG (l b : Addr) (xs ys : Array Value) (n m : Nat) (d1 d2 : Option Addr) (sl1 sl2 : Array (Option Value)) (sz : xs.size = ys.size) (J : Nat → Shared → Prop)
    (step : ∀ i (h1 : i < xs.size) (h2 : i < ys.size) s, J i s → wpAny (model prog w) A.in1 (eqBool xs[i] ys[i]) (fun r t => r = true ∧ J (i + 1) t) (fun e t => R (.error e) t) s)
    (last : ∀ s, J xs.size s → R (.ok (.ret (.bool false))) s) {s : Shared} (e1 : s.heap.get? l = some ⟨.type "tuple", d1, .seq xs n, sl1⟩) (e2 : s.heap.get? b = some ⟨.type "tuple", d2, .seq ys m, sl2⟩) (start : J 0 s) :
    wpAny (model prog w) A.in1 (Builtin.«tuple.__ne__» ⟨[.ref l, .ref b], []⟩) (FinOf prog w A R) (fun e t => R (.error e) t) s := by
  have tt := AutoSeq1.sub_tuple_tuple
  have lz : (xs.toList.zip ys.toList).length = xs.size := by simp [sz]
  have start' := start
  obtain ⟨hp, g, d, tk, os⟩ := s
  wp_walk using wpAny_loadPart' e1, wpAny_loadPart' e2, wpAny_forIn_list _ (fun more z t => z.1 = none ∧ ∃ i, more = (xs.toList.zip ys.toList).drop i ∧ i ≤ xs.size ∧ J i t) _
  case turn =>
    rintro ⟨y, x⟩ more z t ⟨zn, i, em, li, hJ⟩
    have lt : i < (xs.toList.zip ys.toList).length := by
      by_cases c : i < (xs.toList.zip ys.toList).length
      · exact c
      · rw [List.drop_of_length_le (by omega)] at em
        cases em
    have g1 : i < xs.size := by omega
    have g2 : i < ys.size := by omega
    rw [List.drop_eq_getElem_cons lt] at em
    injection em with eh et
    obtain rfl : y = xs[i] := by simpa using congrArg Prod.fst eh
    obtain rfl : x = ys[i] := by simpa using congrArg Prod.snd eh
    refine wpAny_bind (wpAny_mono (step i g1 g2 t hJ) (fun r t2 ⟨hr, hJ2⟩ => ?_) fun _ _ z => z)
    subst hr
    wp_walk
    exact ⟨rfl, i + 1, et, g1, hJ2⟩
  case fin =>
    rintro ⟨z1, z2⟩ t ⟨zn, i, em, li, hJ⟩
    simp only at zn
    subst zn
    have ge : xs.size ≤ i := by
      by_cases c : i < (xs.toList.zip ys.toList).length
      · rw [List.drop_eq_getElem_cons c] at em
        cases em
      · omega
    have ie : i = xs.size := Nat.le_antisymm li ge
    subst ie
    have fin := last t hJ
    wp_walk
    simpa [Builtin.Tuple.tupleCompareSizes, sz] using fin
  case h => exact ⟨rfl, 0, rfl, Nat.zero_le _, start'⟩
theorem rcNe_tupG {E : Value → Shared → Prop} {s : Shared} {l b : Addr} {xs ys : Array Value} {Q : Value → Shared → Prop} (sz : xs.size = ys.size) (hu : A.units < cLine) (J : Nat → Shared → Prop) (hl : s.heap.IsTuple l xs) (hb : s.heap.IsTuple b ys)
    (step : ∀ i (h1 : i < xs.size) (h2 : i < ys.size) s, J i s → wpAny (model prog w) A.in1 (eqBool xs[i] ys[i]) (fun r t => r = true ∧ J (i + 1) t) E s) (last : ∀ s, J xs.size s → Q (.bool false) s) (start : J 0 s) :
    wpAny (model prog w) A (richCompare .NotEq (.ref l) (.ref b)) Q E s := by
  obtain ⟨⟨c1, d1, a1, s1⟩, o1, hc1, n1, hd1⟩ := id hl
  obtain ⟨⟨c2, d2, a2, s2⟩, o2, hc2, n2, hd2⟩ := id hb
  simp only at hc1 hd1 hc2 hd2
  subst hc1 hd1 hc2 hd2
  exact wpAny_richCompare_same_room (op := .NotEq) ⟨_, o1, rfl⟩ ⟨_, o2, rfl⟩ F.slot_tuple_ne (call_here F.slot_tuple_ne ⟨_, o1, rfl⟩ F.entry_tuple_ne (F.args_tuple_ne_2 _ _)
    (tuple_neG (R := wants (fun v t => v ≠ .notImplemented ∧ Q v t) E) l b xs ys n1 n2 d1 d2 s1 s2 sz J step (fun t q => ⟨(fun z => nomatch z), last t q⟩) o1 o2 start)) hu
end
end GQ
namespace Xne
open PySem PySem.Spec PyProof.Rows L2
section
variable {X : Cx}
/-- two tuples that are equal item by item are not unlike -/
theorem op_neG {D : Eqv} {n : Nat} (hD : Mon D) (h : EqG X n D) (hr : Room (n + 1) X.A) : OpR X (compareOp .NotEq) (fun x y H Q => DTup X.K D x y H ∧ ∀ H', Ext H H' → Q (.bl false) H') := by
  intro pins s σ H x y v u Q I rx ry hq
  obtain ⟨⟨a, b, xs, ys, rfl, rfl, ha, hb, p⟩, q⟩ := hq
  cases rx
  cases ry
  obtain ⟨its, r, tl, _⟩ := I.tuple ha
  obtain ⟨its2, r2, tl2, _⟩ := I.tuple hb
  show wpAny (model X.prog X.w) X.A (richCompare .NotEq (.ref a) (.ref b)) (EP X pins σ Q) X.xe s
  have sb : Sub X (n + 1) X.A := ⟨hr, rfl⟩
  have sz : its.toArray.size = its2.toArray.size := by
    rw [List.size_toArray, List.size_toArray, ← r.length, ← r2.length]
    exact p.1
  refine GQ.rcNe_tupG sz hr.units0 (fun _ t => LoopI X pins σ H t) tl tl2 (fun i h1 h2 t z => ?_) (fun t z => ?_) ⟨H, I, Ext.rfl'⟩
  · exact turnG hD h sb p r r2 i (by simpa using h1) (by simpa using h2) t z
  · obtain ⟨H', I', e⟩ := z
    exact ⟨.bl false, H', I', rfl, q H' e⟩
end
end Xne
set_option Elab.async false
set_option linter.all false
set_option maxRecDepth 100000
set_option maxHeartbeats 4000000
namespace K39
open PySem PySem.Spec PyProof.Rows L2
/-! ## defs that show things: promises where no showing is under way -/
structure Gn (P : Program) (w : World) (K : PySem.W.Frag) (mg : Str → Option Value) (base : Heap) (k : Nat) (f : Addr) (fd : FuncData) (ps : List Str) (sp : Sp) : Prop where
  many : ∀ vs H Q E, sp vs H Q E → vs.length = ps.length
  go : ∀ (A : Around) (outer : List Env) (s : Shared) (H : Hp) (args : Args) (us : List Value) (vs : List V) (Q : VK) (E : XK), A.guards = some [] → Room k A →
    Env0 P w K mg base A outer s H → BindsTo s fd args (ps.zip us) → Vals vs us → sp vs H Q E → codeAny (model P w) A (.call (.ref f) args) (CR CX0 outer P w H s Q E) s
section
variable {P : Program} {w : World} {K : PySem.W.Frag} {mg : Str → Option Value} {base : Heap}
theorem gn_body {x qual : Str} {st : Stmt} {f : Addr} {fd : FuncData} {N ps : List Str} {k : Nat} {sp : Sp} (F : Fun K x qual st f fd) (S : FnScope N ps (defScope st))
    (many : ∀ vs H Q E, sp vs H Q E → vs.length = ps.length)
    (body : ∀ (cdv : Value) (A : Around) (outer : List Env) (s : Shared) (H : Hp) (vs : List V) (Q : VK) (E : XK), A.guards = some [] →
      Room k (A.deeper (envOfC qual (defScope st) s.heap.objs.size f cdv)) → sp vs H Q E →
      ∃ t, PSs (cxOf CX0 P w K mg base N qual (defScope st) f cdv A outer s H E).nox (defBody st) t ∧ t { nx := fun _ H' => Q .non H', rt := Q } (start N vs) H) :
    Gn P w K mg base (k + 1) f fd ps sp := by
  obtain ⟨oc, od, kV, doc, pm, an, cdv, ct, osl, rfl, lk, hcd⟩ := F.ex
  refine ⟨many, fun A outer s H args us vs Q E hg room en bd rv hsp => ?_⟩
  have kin : K.In s.heap := en.mod.kin.keeps fun b o q => (en.bs b o q).1
  refine Att.call_fn kin (en.mod.nolimit.keeps fun b o q => (en.bs b o q).1) lk hcd room.depth bd ?_ (fun s1 inc => ?_) S.co S.gen S.kind
  · refine List.all_eq_true.mpr fun y hy => ?_
    rcases S.par y.1 (List.of_mem_zip (a := y.1) (b := y.2) hy).1 with q | q
    · rw [q]; rfl
    · rw [q]; rfl
  · obtain ⟨t, ht, hq⟩ := body cdv A outer s H vs Q E hg (room.deeper _) hsp
    have I := inv_start (CX := CX0) (E := E) S room.hd en (many _ _ _ _ hsp) rv inc
    refine wpAny_mono (ht.nox.run [] s1 _ H _ I hq) (fun fl s' hs => ?_) fun _ _ z => z
    cases fl with
    | ret u =>
      obtain ⟨v, _, H', J, r, q⟩ := hs
      exact ⟨v, H', J.os, J.bare, J.base, J.hok, r, q⟩
    | next =>
      obtain ⟨_, H', J, q⟩ := hs
      exact ⟨.non, H', J.os, J.bare, J.base, J.hok, rfl, q⟩
    | brk =>
      obtain ⟨_, _, _, z⟩ := hs
      exact False.elim z
    | cont =>
      obtain ⟨_, _, _, z⟩ := hs
      exact False.elim z
end
section
variable {X : Cx} {k : Nat} {f : Addr} {fd : FuncData} {ps : List Str} {sp : Sp} {x : Str} {p pos : Pos} {e : Expr} {es : List Expr} {t : TA}
theorem pe_gn (F : Gn X.prog X.w X.K X.mg X.base k f fd ps sp) (quiet : X.A.guards = some []) (room : Room k X.A) (gl : Gl X x) (mgf : X.mg x = some (.ref f))
    (kp : PySem.W.keepIn X.K (.ref f) = true) (bd : Binds X.K fd ps []) (ha : PA X (e :: es) t) (hdb : (x == ("__debug__" : Str)) = false := by decide)
    (he : starEach (e :: es) X.env = (false, eval e X.env) :: starEach es X.env := by rfl) (hpl : (backTo pos (starEach es X.env)).any (·.1) = false := by rfl) :
    PE X (.Call (.Name x p) (e :: es) [] pos) (tCall sp [] E0 t) := by
  refine ⟨fun pins s σ H Q I h => wpAny_Call_Name_kw (ld_glob I gl mgf ?_ hdb)⟩
  refine PySem.W.callWith_K (h₀ := X.base) I.ok.mod.kin kp ?_ he hpl
  refine thn (ha.run pos pins s σ H _ I h) fun us s1 z => ?_
  obtain ⟨vs, H1, I1, rv, q⟩ := z
  have q' : sp vs H1 Q E0 := by
    have z := q
    rw [List.append_nil] at z
    exact z
  have many : us.length = ps.length := rv.length.symm.trans (F.many _ _ _ _ q')
  have b1 := bd s1 us I1.kIn (by rw [List.append_nil]; exact many)
  rw [List.append_nil] at b1
  refine ⟨I1.kIn, wpAny_call (codeAny_mono (F.go X.A X.stack s1 H1 ⟨us, []⟩ us vs Q E0 quiet room I1.env0 b1 rv q') fun r s' hr => ?_)⟩
  cases r with
  | error z => exact False.elim hr
  | ok fl =>
    cases fl with
    | ret u => exact I1.after hr
    | next => exact False.elim hr
    | brk => exact False.elim hr
    | cont => exact False.elim hr
/-- repr of data at any depth -/
theorem cr_reprD (quiet : X.A.guards = some []) (room : Room k X.A) : CallR X (.builtin "repr") (fun xs H Q => ∃ (a : Addr) (d : PyData), xs = [.ref a] ∧ Dp X.K H (.ref a) d ∧ d.showable = true ∧ d.hasDict = false ∧
    d.depth ≤ 50 ∧ d.shown.length ≤ sizeLine ∧ Q (.str d.shown) H) := by
  intro pins s σ H xs us Q I r h
  obtain ⟨a, d, rfl, hd, hs, hn, hp, hz, q⟩ := h
  obtain ⟨u, rfl, rx⟩ := vals1 r
  obtain ⟨as, rd⟩ := Dp.reads I d _ u hd rx
  cases rx
  have hu := room.units
  exact repr_of_reads' rd hs (fun z => absurd (hn.symm.trans z) Bool.false_ne_true) quiet (by omega) (fun _ _ z => z) (fun h' u tk kept => ⟨.str d.shown, H, I.kept kept, ⟨u, rfl⟩, q⟩) hz
theorem cr_repr_bl : CallR X (.builtin "repr") (fun xs H Q => ∃ b : Bool, xs = [.bl b] ∧ Q (.str (if b then "True" else "False")) H) := by
  intro pins s σ H xs us Q I r h
  obtain ⟨b, rfl, q⟩ := h
  obtain ⟨u, rfl, rx⟩ := vals1 r
  cases rx
  exact PySem.P.repr_of_bool ⟨.str _, H, I.tok _, ⟨_, rfl⟩, q⟩
end
end K39
set_option Elab.async false
set_option linter.all false
set_option maxRecDepth 100000
set_option maxHeartbeats 4000000
namespace K39
open PySem PySem.Spec PyProof.Rows L2
theorem law_go {P : Program} {w : World} {K : PySem.W.Frag} {mg mb : Str → Option Value} {k : Nat} {fa a : Addr} {fd : FuncData} {x : Str} {sp : Sp} {z : Shared} {vs : List Value} {ns : List Int}
    (kin : K.In z.heap) (nsG : z.heap.Ns mainGlobals mg) (nsB : z.heap.Ns builtinsNs mb) (same : ∀ y : Str, y ≠ "__name__" → mb y = bootBuiltins y) (lim : z.heap.NoLimit) (dig : z.heap.NoDigits) (no : z.gens = #[])
    (at_ : z.heap.get? a = some { cls := .type "list", data := .seq vs.toArray }) (intsA : IntsAre vs ns) (many : ns.length ≤ sizeLine) (room : Room k callerA)
    (F : ∀ base : Heap, K.In base → base.Ns mainGlobals mg → base.NoDigits → Gn P w K mg base k fa fd [x] sp) (bind : ∀ (s : Shared) (u : Value), BindsTo s fd ⟨[u], []⟩ [(x, u)])
    (hsp : ∀ H : Hp, SqL K H a (ns.map V.int) → sp [.ref a] H (fun v _ => v = .bl true) fun _ _ _ => False) :
    codeAny (model P w) callerA (.call (.ref fa) ⟨[.ref a], []⟩) (fun r s' => r = .ok (.ret (.bool true)) ∧ OldK z.heap s'.heap ∧ s'.os = z.os ∧ AllBare s'.gens) z := by
  have rv : Vals (ns.map V.int) vs := vals_ints intsA
  have sz : (ns.map V.int).length ≤ sizeLine := by rw [List.length_map]; exact many
  -- what is tracked: the script, unless it is the module's own
  let u : HO := .frz { cls := .type "list", data := .seq vs.toArray } (.lst (ns.map V.int))
  let H : Hp := fun b => if b = a ∧ K.lookup a = none then some u else none
  have only : ∀ b o, H b = some o → b = a ∧ K.lookup a = none ∧ o = u := fun b o e => by
    by_cases c : b = a ∧ K.lookup a = none
    · have e2 : H b = some u := if_pos c
      rw [e2] at e
      exact ⟨c.1, c.2, (Option.some.inj e).symm⟩
    · have e2 : H b = none := if_neg c
      rw [e2] at e
      cases e
  have sq : SqL K H a (ns.map V.int) := by
    cases hk : K.lookup a with
    | none => exact .inl (.inr ⟨_, if_pos ⟨rfl, hk⟩⟩)
    | some o =>
      have e := kin a o hk
      rw [at_] at e
      cases e
      exact .inr ⟨_, vs.toArray, _, hk, rfl, rfl, rfl, by rw [List.size_toArray, ← rv.length]; exact sz, by simpa using rv⟩
  have hok : HOk P w H z.heap := fun b o e => by
    obtain ⟨rfl, _, rfl⟩ := only b o e
    exact ⟨at_, sz, vs, _, rv, at_⟩
  have dictFree : ∀ {b : Addr} {o : Obj} {es : Array DictEntry} {ep : Nat}, z.heap.get? b = some o → o.data = .dict es ep → H b = none := fun {b o es ep} e d => by
    cases q : H b with
    | none => rfl
    | some v =>
      obtain ⟨rfl, _, _⟩ := only b v q
      rw [at_] at e
      cases e
      cases (show Data.seq vs.toArray _ = Data.dict es ep from d)
  have nsK : ∀ {b : Addr} {m : Str → Option Value}, z.heap.Ns b m → (hidT z.heap H).Ns b m := fun {b m} q => by
    obtain ⟨o, es, ep, e, d, r⟩ := q
    exact ⟨o, es, ep, hidT_get e (dictFree e d), d, r⟩
  have kb : K.In (hidT z.heap H) := fun b o e => by
    refine hidT_get (kin b o e) ?_
    cases q : H b with
    | none => rfl
    | some v =>
      obtain ⟨rfl, n, _⟩ := only b v q
      rw [n] at e
      cases e
  have limB : (hidT z.heap H).NoLimit := by
    obtain ⟨mc, h1, h2⟩ := lim
    exact ⟨mc, nsK h1, h2⟩
  have digB : (hidT z.heap H).NoDigits := by
    obtain ⟨mc, h1, h2⟩ := dig
    exact ⟨mc, nsK h1, h2⟩
  have en : Env0 P w K mg (hidT z.heap H) callerA [] z H :=
    ⟨rfl, ⟨kb, nsK nsG, ⟨mb, nsK nsB, same⟩, limB⟩, fun _ _ e => of_hidT e, Nat.le_of_eq (hidT_size _ _), trivial, (fun b hb => absurd (show b ∈ ([] : List Addr) from hb) List.not_mem_nil), hok, .of_eq no⟩
  refine codeAny_mono ((F _ kb (nsK nsG) digB).go callerA [] z H ⟨[.ref a], []⟩ [.ref a] [.ref a] _ _ rfl room en (bind z (.ref a)) (.cons rfl .nil) (hsp H sq)) fun r s' h => ?_
  match r, h with
  | .error e, h => exact False.elim h
  | .ok .next, h => exact False.elim h
  | .ok .brk, h => exact False.elim h
  | .ok .cont, h => exact False.elim h
  | .ok (.ret y), h =>
    obtain ⟨v, H', os, bare, un, hok', r', q⟩ := h
    obtain rfl : v = .bl true := q
    obtain rfl : y = Value.bool true := r'
    refine ⟨rfl, OldK.of_keep fun b o e => ?_, os, bare⟩
    cases q : H b with
    | none => exact un.keep b o e q (fun y => by cases y) (fun y => by cases y)
    | some v =>
      obtain ⟨rfl, _, rfl⟩ := only b v q
      have e2 := (hok' _ _ (un.frzs _ _ _ q)).1
      rw [at_] at e
      cases e
      exact e2
theorem walk_go {l : PySem.W.OpenLaw} {n k : Nat} {q : Program} {loose : List Str} {XP : (Str → Option Value) → Heap → Prop} {YP : World → Heap → Prop} {d : DefRec} {K : Params → PySem.W.Frag} {sp : PySem.W.Frag → Sp} {x : Str}
    (most : l.most = some n) (small : n ≤ sizeLine) (nodef : d.params.defaults = []) (room : Room k callerA) (hY : ∀ (w : World) (h : Heap), YP w h → (K w.params).In h)
    (F : ∀ (w : World) (mg : Str → Option Value) (fa : Addr) (h : Heap), (K w.params).In h → h.Ns mainGlobals mg → mg d.name = some (.ref fa) →
      ∃ fd : FuncData, (∀ (s : Shared) (u : Value), BindsTo s fd ⟨[u], []⟩ [(x, u)]) ∧ ∀ base : Heap, (K w.params).In base → base.Ns mainGlobals mg → base.NoDigits →
        Gn l.prog w (K w.params) mg base k fa fd [x] (sp (K w.params)))
    (hsp : ∀ (K : PySem.W.Frag) (H : Hp) (a : Addr) (ns : List Int), ns.length ≤ n → SqL K H a (ns.map V.int) → sp K [.ref a] H (fun v _ => v = .bl true) fun _ _ _ => False) :
    PySem.W.WalkO q loose XP YP l.row.toRowW d [] (fun f vs => PySem.call f vs) := by
  refine Att.attach_call most nodef fun w s₀ s₁ mg mb fa o pm cd doc a vs ns G Y _ _ _ hmg hobj hints hlen hg => ?_
  have kin := hY w _ Y
  obtain ⟨fd, hb, hF⟩ := F w mg fa _ kin G.T.g hmg
  exact law_go kin G.T.g G.T.b G.T.builtins G.T.nolimit G.T.nodigits hg hobj hints (Nat.le_trans hlen small) room hF hb fun H hS => hsp _ H a ns hlen hS
end K39
set_option Elab.async false
set_option linter.all false
set_option maxRecDepth 100000
set_option maxHeartbeats 4000000
set_option pp.maxSteps 400
set_option pp.deepTerms false
namespace K39
open PySem PySem.Spec PyProof.Rows L2
open Xk Az W37
def top (i : Nat) : Stmt := PySem.Challenge.pw_takesworks_k39_paths_that_lead_nowhere.main.body.getD i (.Pass ⟨0, 0, 0, 0⟩)
abbrev sIsWhole : Stmt := top 9
abbrev sIsWithin : Stmt := top 10
abbrev sPartAt : Stmt := top 12
abbrev sNoPathInit : Stmt := inClass (top 7) 0
abbrev sHand : Stmt := top 14
abbrev sTake : Stmt := top 15
abbrev sPick : Stmt := top 16
abbrev sSigns : Stmt := top 17
abbrev sText : Stmt := top 18
abbrev sTongue : Stmt := top 19
abbrev sNames : Stmt := top 20
abbrev sTree : Stmt := top 21
abbrev sWork : Stmt := top 22
abbrev sAll : Stmt := top 23
abbrev sWhole : Stmt := top 25
abbrev sLed : Stmt := top 26
abbrev sRefusal : Stmt := top 27
abbrev sAsked : Stmt := top 28
abbrev sWayDown : Stmt := top 29
abbrev sOdd : Stmt := top 30
abbrev sDeep : Stmt := top 31
abbrev sLaw : Stmt := top 32
theorem scIsWhole : FnScope ["thing"] ["thing"] (defScope sIsWhole) := ⟨rfl, rfl, rfl, by decide +kernel, rfl, by decide +kernel, by decide +kernel⟩
theorem scIsWithin : FnScope ["thing", "least", "most"] ["thing", "least", "most"] (defScope sIsWithin) := ⟨rfl, rfl, rfl, by decide +kernel, rfl, by decide +kernel, by decide +kernel⟩
theorem scPartAt : FnScope ["work", "path", "part", "number", "parts"] ["work", "path"] (defScope sPartAt) := ⟨rfl, rfl, rfl, by decide +kernel, rfl, by decide +kernel, by decide +kernel⟩
theorem scNoPathInit : FnScope ["self", "path"] ["self", "path"] (defScope sNoPathInit) := ⟨rfl, rfl, rfl, by decide +kernel, rfl, by decide +kernel, by decide +kernel⟩
theorem scHand : FnScope ["_law_script", "_law_k", "_law_cell", "_law_great"] ["_law_script", "_law_k"] (defScope sHand) := ⟨rfl, rfl, rfl, by decide +kernel, rfl, by decide +kernel, by decide +kernel⟩
theorem scTake : FnScope ["_law_hand_here", "_law_many", "_law_digit", "_law_turn", "_law_one", "_law_two", "_law_mixed", "_law_last"] ["_law_hand_here", "_law_many"] (defScope sTake) := ⟨rfl, rfl, rfl, by decide +kernel, rfl, by decide +kernel, by decide +kernel⟩
theorem scPick : FnScope ["_law_hand_here", "_law_some"] ["_law_hand_here", "_law_some"] (defScope sPick) := ⟨rfl, rfl, rfl, by decide +kernel, rfl, by decide +kernel, by decide +kernel⟩
theorem scSigns : FnScope [] [] (defScope sSigns) := ⟨rfl, rfl, rfl, by decide +kernel, rfl, by decide +kernel, by decide +kernel⟩
theorem scText : FnScope ["_law_hand_here", "_law_most", "_law_text_here", "_law_size", "_law_k", "_law_sign"] ["_law_hand_here", "_law_most"] (defScope sText) := ⟨rfl, rfl, rfl, by decide +kernel, rfl, by decide +kernel, by decide +kernel⟩
theorem scTongue : FnScope ["_law_hand_here", "_law_letters", "_law_k"] ["_law_hand_here"] (defScope sTongue) := ⟨rfl, rfl, rfl, by decide +kernel, rfl, by decide +kernel, by decide +kernel⟩
theorem scNames : FnScope ["_law_hand_here", "_law_many", "_law_stem", "_law_at", "_law_signs_here", "_law_found", "_law_tongues", "_law_k", "_law_sign"] ["_law_hand_here", "_law_many"] (defScope sNames) := ⟨rfl, rfl, rfl, by decide +kernel, rfl, by decide +kernel, by decide +kernel⟩
theorem scTree : FnScope ["_law_hand_here", "_law_deep_here", "_law_left", "_law_name", "_law_parts", "_law_k"] ["_law_hand_here", "_law_deep_here", "_law_left"] (defScope sTree) := ⟨rfl, rfl, rfl, by decide +kernel, rfl, by decide +kernel, by decide +kernel⟩
theorem scWork : FnScope ["_law_hand_here", "_law_many", "_law_names_here", "_law_left", "_law_work_here"] ["_law_hand_here", "_law_many"] (defScope sWork) := ⟨rfl, rfl, rfl, by decide +kernel, rfl, by decide +kernel, by decide +kernel⟩
theorem scAll : FnScope ["_law_work_here", "_law_found", "_law_part"] ["_law_work_here"] (defScope sAll) := ⟨rfl, rfl, rfl, by decide +kernel, rfl, by decide +kernel, by decide +kernel⟩
theorem scWhole : FnScope ["_law_thing"] ["_law_thing"] (defScope sWhole) := ⟨rfl, rfl, rfl, by decide +kernel, rfl, by decide +kernel, by decide +kernel⟩
theorem scLed : FnScope ["_law_work_here", "_law_path", "_law_number"] ["_law_work_here", "_law_path"] (defScope sLed) := ⟨rfl, rfl, rfl, by decide +kernel, rfl, by decide +kernel, by decide +kernel⟩
theorem scRefusal : FnScope ["_law_e", "_law_others"] ["_law_e"] (defScope sRefusal) := ⟨rfl, rfl, rfl, by decide +kernel, rfl, by decide +kernel, by decide +kernel⟩
theorem scAsked : FnScope ["_law_work_here", "_law_path", "_law_caught", "_law_found", "_law_e"] ["_law_work_here", "_law_path"] (defScope sAsked) := ⟨rfl, rfl, rfl, by decide +kernel, rfl, by decide +kernel, by decide +kernel⟩
theorem scWayDown : FnScope ["_law_hand_here", "_law_work_here", "_law_path", "_law_number"] ["_law_hand_here", "_law_work_here"] (defScope sWayDown) := ⟨rfl, rfl, rfl, by decide +kernel, rfl, by decide +kernel, by decide +kernel⟩
theorem scOdd : FnScope ["_law_hand_here", "_law_work_here", "_law_path", "_law_part", "_law_many", "_law_some", "_law_at", "_law_thing"] ["_law_hand_here", "_law_work_here"] (defScope sOdd) := ⟨rfl, rfl, rfl, by decide +kernel, rfl, by decide +kernel, by decide +kernel⟩
theorem scDeep : FnScope ["_law_hand_here", "_law_thing", "_law_turn"] ["_law_hand_here"] (defScope sDeep) := ⟨rfl, rfl, rfl, by decide +kernel, rfl, by decide +kernel, by decide +kernel⟩
theorem scLaw : FnScope ["_law_script", "_law_k", "_law_hand_here", "_law_work_here", "_law_things", "_law_path", "_law_part", "_law_due", "_law_turn"] ["_law_script"] (defScope sLaw) := ⟨rfl, rfl, rfl, by decide +kernel, rfl, by decide +kernel, by decide +kernel⟩
/-! ## objects -/
/-- all that was tracked stands but for the hand -/
def But (h : Addr) (H H' : Hp) : Prop := ∀ b o, b ≠ h → H b = some o → H' b = some o
theorem But.refl (h : Addr) (H : Hp) : But h H H := fun _ _ _ e => e
theorem But.trans {h : Addr} {H H1 H2 : Hp} (p : But h H H1) (q : But h H1 H2) : But h H H2 := fun b o n e => q b o n (p b o n e)
theorem Same.but {H H' : Hp} (s : Same H H') (h : Addr) : But h H H' := fun b o _ e => s b o e
theorem But.seqT {K : PySem.W.Frag} {h : Addr} {H H' : Hp} (s : But h H H') {t : Addr} {xs : List V} (n : t ≠ h) (q : SqT K H t xs) : SqT K H' t xs := by
  rcases q with (q | ⟨o, q⟩) | q
  · exact .inl (.inl (s _ _ n q))
  · exact .inl (.inr ⟨o, s _ _ n q⟩)
  · exact .inr q
theorem But.seqL {K : PySem.W.Frag} {h : Addr} {H H' : Hp} (s : But h H H') {t : Addr} {xs : List V} (n : t ≠ h) (q : SqL K H t xs) : SqL K H' t xs := by
  rcases q with (q | ⟨o, q⟩) | q
  · exact .inl (.inl (s _ _ n q))
  · exact .inl (.inr ⟨o, s _ _ n q⟩)
  · exact .inr q
theorem Same.seqT {K : PySem.W.Frag} {H H' : Hp} (s : Same H H') {t : Addr} {xs : List V} (q : SqT K H t xs) : SqT K H' t xs := by
  rcases q with (q | ⟨o, q⟩) | q
  · exact .inl (.inl (s _ _ q))
  · exact .inl (.inr ⟨o, s _ _ q⟩)
  · exact .inr q
theorem same_upd {H : Hp} {p : Addr} {o : HO} (h : H p = none) : Same H (upd H p o) := fun b x e => by
  rw [upd_ne (ne_of_none e h)]
  exact e
theorem but_upd {H : Hp} {p : Addr} {o : HO} : But p H (upd H p o) := fun b x n e => by
  rw [upd_ne n]
  exact e
/-- the hand: what is left of the cell, what it is mixed of, how often it was asked -/
def Hand (n : Int) (H : Hp) (a : Addr) : Prop := ∃ g m c : Int, H a = some (.lst [.int g, .int m, .int c]) ∧ 0 ≤ g ∧ 0 ≤ m ∧ m < 2305843009213693951 ∧ 0 ≤ c ∧ c ≤ n
theorem Hand.mono {n n' : Int} {H : Hp} {a : Addr} (h : Hand n H a) (l : n ≤ n') : Hand n' H a := by
  obtain ⟨g, m, c, e, h1, h2, h3, h4, h5⟩ := h
  exact ⟨g, m, c, e, h1, h2, h3, h4, Int.le_trans h5 l⟩
theorem Hand.same {n : Int} {H H' : Hp} {a : Addr} (h : Hand n H a) (s : Same H H') : Hand n H' a := by
  obtain ⟨g, m, c, e, r⟩ := h
  exact ⟨g, m, c, s _ _ e, r⟩
theorem Hand.at_ {n : Int} {H : Hp} {a : Addr} (h : Hand n H a) : ∃ xs, H a = some (.lst xs) := by
  obtain ⟨g, m, c, e, r⟩ := h
  exact ⟨_, e⟩
theorem Hand.ne_tup {K : PySem.W.Frag} {n : Int} {H : Hp} {a t : Addr} {xs : List V} (h : Hand n H a) (e : H t = some (.tup xs)) : t ≠ a := by
  obtain ⟨ys, e2⟩ := h.at_
  exact ne_of e e2 (by intro z; cases z)
theorem But.free {h l : Addr} {H H' : Hp} (b : But h H H') (ne : l ≠ h) (e : H' l = none) : H l = none := by
  cases q : H l with
  | none => rfl
  | some o =>
    rw [b l o ne q] at e
    cases e
theorem Hand.fresh {n : Int} {H : Hp} {a l : Addr} (h : Hand n H a) (e : H l = none) : l ≠ a := by
  obtain ⟨xs, q⟩ := h.at_
  exact (ne_of_none q e).symm
theorem Hand.upd {n : Int} {H : Hp} {a p : Addr} {x : HO} (h : Hand n H a) (ne : a ≠ p) : Hand n (L2.upd H p x) a := by
  obtain ⟨g, m, c, e, r⟩ := h
  exact ⟨g, m, c, by rw [upd_ne ne]; exact e, r⟩
theorem off_all {h : Addr} {H : Hp} : L2.Same (del H h) H := fun b o e => by
  by_cases z : b = h
  · rw [z, del_same] at e
    cases e
  · rw [del_ne z] at e
    exact e
theorem off_but {h : Addr} {H H' : Hp} (s : But h H H') : L2.Same (del H h) (del H' h) := fun b o e => by
  by_cases z : b = h
  · rw [z, del_same] at e
    cases e
  · rw [del_ne z] at e
    rw [del_ne z]
    exact s b o z e
theorem off_new {h p : Addr} {H : Hp} {o : HO} (ne : p ≠ h) : del (upd H p o) h p = some o := by rw [del_ne ne, upd_same]
theorem off_at {h p : Addr} {H : Hp} {o : HO} (ne : p ≠ h) (e : H p = some o) : del H h p = some o := by rw [del_ne ne, e]
section
variable {X : Cx}
theorem cr_alt {f : Value} {r1 r2 : List V → Hp → VK → Prop} (h1 : CallR X f r1) (h2 : CallR X f r2) : CallR X f (fun xs H Q => r1 xs H Q ∨ r2 xs H Q) :=
  fun pins s σ H xs us Q I r h => h.elim (h1 pins s σ H xs us Q I r) (h2 pins s σ H xs us Q I r)
end
end K39
set_option Elab.async false
set_option linter.all false
set_option maxRecDepth 100000
set_option maxHeartbeats 4000000
set_option pp.maxSteps 400
set_option pp.deepTerms false
namespace K39
open PySem PySem.Spec PyProof.Rows L2
open Xk Az W37
section
variable {P : Program} {w : World} {K : PySem.W.Frag} {mg : Str → Option Value} {base : Heap}
/-- a def that may be called by its name -/
structure Ca (P : Program) (w : World) (K : PySem.W.Frag) (mg : Str → Option Value) (base : Heap) (k : Nat) (x : Str) (ps : List Str) (sp : Sp) : Prop where
  ex : ∃ (f : Addr) (fd : FuncData), FnOk P w K mg base CX0 k f fd ps sp ∧ mg x = some (.ref f) ∧ PySem.W.keepIn K (.ref f) = true ∧ Binds K fd ps []
/-- a def of the text, as the head finds it -/
structure Df (K : PySem.W.Frag) (mg : Str → Option Value) (x : Str) (ps : List Str) (st : Stmt) (f : Addr) (fd : FuncData) : Prop where
  fn : Fun K x x st f fd
  mgf : mg x = some (.ref f)
  bd : Binds K fd ps []
theorem Df.ca {k : Nat} {x : Str} {ps : List Str} {st : Stmt} {f : Addr} {fd : FuncData} {sp : Sp} (d : Df K mg x ps st f fd)
    (h : FnOk P w K mg base CX0 k f fd ps sp) : Ca P w K mg base k x ps sp := ⟨f, fd, h, d.mgf, d.fn.kp, d.bd⟩
section
variable {X : Cx} {k j : Nat} {x : Str} {ps : List Str} {sp : Sp} {p pos : Pos} {e : Expr} {es : List Expr} {t : TA}
theorem pe_ca (c : Ca X.prog X.w X.K X.mg X.base k x ps sp) (hr : Room j X.A) (hk : k ≤ j) (hg : Gl X x) (ha : PA X (e :: es) t) (hdb : (x == ("__debug__" : Str)) = false := by decide)
    (he : starEach (e :: es) X.env = (false, eval e X.env) :: starEach es X.env := by rfl) (hpl : (backTo pos (starEach es X.env)).any (·.1) = false := by rfl) :
    PE X (.Call (.Name x p) (e :: es) [] pos) (tCall sp [] E0 t) := by
  obtain ⟨f, fd, F, hm, kp, b⟩ := c.ex
  exact pe_call F (hr.mono hk) hg hm kp b .nil pass0 ha hdb he hpl
end
def small : Str := "abcdefghijklmnopqrstuvwxyz"
def signs : Str := "abcdefghijklmnopqrstuvwxyzABCDEFGHIJKLMNOPQRSTUVWXYZ0123456789 '-."
/-- what the top has left, besides the defs -/
structure Txt (mg : Str → Option Value) : Prop where
  isi : mg "isinstance" = none
  int : mg "int" = none
  bool : mg "bool" = none
  str : mg "str" = none
  tuple : mg "tuple" = none
  list : mg "list" = none
  len : mg "len" = none
  range : mg "range" = none
  max : mg "max" = none
  min : mg "min" = none
  abs : mg "abs" = none
  repr : mg "repr" = none
  LookupError : mg "LookupError" = none
  ValueError : mg "ValueError" = none
abbrev far : Int := 1000000
def spHand (K : PySem.W.Frag) : Sp := fun vs H Q _ => ∃ (a : Addr) (k : Int) (ns : List Int), vs = [.ref a, .int k] ∧ 0 ≤ k ∧ SqL K H a (ns.map V.int) ∧
  ∀ p g m, H p = none → 0 ≤ g → 0 ≤ m → m < 2305843009213693951 → Q (.ref p) (upd H p (.lst [.int g, .int m, .int 0]))
def spTake : Sp := fun vs H Q _ => ∃ (h : Addr) (many n : Int), vs = [.ref h, .int many] ∧ 0 < many ∧ many < 10 ^ 30 ∧ Hand n H h ∧ n ≤ far ∧
  ∀ d H', 0 ≤ d → d < many → Hand (n + 1) H' h → But h H H' → Q (.int d) H'
def spPick : Sp := fun vs H Q _ => ∃ (h : Addr) (n : Int) (s : V), vs = [.ref h, s] ∧ Hand n H h ∧ n ≤ far ∧
  ((∃ (l : Addr) (xs : List V), s = .ref l ∧ H l = some (.lst xs) ∧ l ≠ h ∧ xs ≠ [] ∧ xs.length < 1000 ∧ ∀ v H', v ∈ xs → Hand (n + 1) H' h → But h H H' → Q v H') ∨
   (∃ x : Str, s = .str x ∧ 0 < x.length ∧ x.length < 1000 ∧ ∀ c H', c ∈ x.cps.toList → Hand (n + 1) H' h → But h H H' → Q (.str ⟨#[c]⟩) H'))
theorem wide30 {g many : Int} (m1 : 0 < many) (m2 : many < 10 ^ 30) : CDivW g many := by
  have h : (10 : Int) ^ 30 < 2 ^ 110 := by decide
  exact wide_div (b := 110) m1 (by omega) (by decide) (by decide)
theorem lt30 {n : Nat} (h : n < 1000) : (n : Int) < 10 ^ 30 := Int.lt_trans (Int.ofNat_lt.mpr h) (by decide)
theorem ok_hand {f : Addr} {fd : FuncData} (D : Df K mg "_law_hand" ["_law_script", "_law_k"] sHand f fd) (T : Txt mg) : FnOk P w K mg base CX0 1 f fd ["_law_script", "_law_k"] (spHand K) := by
  refine D.fn.ok scHand (fun vs H Q E h => ?_) (fun cdv A outer s H vs Q E hr h => ?_)
  · obtain ⟨a, k, ns, rfl, hk, hS, q⟩ := h
    rfl
  · obtain ⟨a, k, ns, rfl, hk, hS, q⟩ := h
    refine ⟨_, (C8.pss_cut (ps_set (i := 2) scHand.nd rfl (.inl rfl) (pe_ifExp (pt_cmpR op_lt (pv 1) (pe_callB call_len_seq (by rfl) T.len PySem.boot_len (pa_cons (pv 0) pa_nil)) (nomark _)) (pe_callB call_abs (by rfl) T.abs (by decide +kernel) (pa_cons (pe_ix ix_list (pv 0) (pv 1) (fun _ _ => rfl)) pa_nil)) pe_int))
      (C8.pss_cut (ps_set (i := 3) scHand.nd rfl (.inl rfl) (pe_ifExp (pt_cmpR op_ge (pv 2) (pe_op op_pow pe_int pe_int) (nomark _)) (pe_op op_mod (pv 2) (pe_op op_mulW (pe_op op_mulW (pe_op op_pow pe_int pe_int) (pe_op op_pow pe_int pe_int)) (pe_op op_pow pe_int pe_int))) pe_int))
      (pss_one (ps_ret (pe_lst (pa_cons (pv 3) (pa_cons (pe_op op_mod (pe_op op_add (pe_op op_add (pe_op op_mul (pe_op op_mod (pv 2) pe_int) pe_int) (pe_op op_mul pe_int (pv 1))) pe_int) pe_int) (pa_cons pe_int pa_nil)))))))), ?_⟩
    refine ⟨fun σ Hx => Hx = H ∧ ∃ c : Int, σ = [some (.ref a), some (.int k), some (.int c), none] ∧ 0 ≤ c, ?_, ?_⟩
    · refine ⟨_, rfl, _, rfl, a, _, rfl, .inl hS, k, _, rfl, rfl, _, rfl, ?_⟩
      refine ite2 (fun e => ?_) (fun e => ?_)
      · have hlt : k < ((ns.map V.int).length : Int) := of_decide_eq_true e
        rw [List.length_map] at hlt
        obtain ⟨j, rfl⟩ : ∃ j : Nat, k = (j : Int) := ⟨k.toNat, by omega⟩
        have hj : j < ns.length := by omega
        have hat : atI (ns.map V.int) ((j : Nat) : Int) = some (.int ns[j]) := atI_nat (by rw [List.getElem?_map, List.getElem?_eq_getElem hj]; rfl)
        exact ⟨_, rfl, _, rfl, a, _, _, _, rfl, rfl, hS, hat, _, rfl, rfl, _, rfl, by split <;> omega⟩
      · exact ⟨rfl, _, rfl, Int.le_refl _⟩
    rintro σ Hx ⟨rfl, c, rfl, c0⟩
    refine ⟨fun σ Hy => Hy = Hx ∧ ∃ g : Int, σ = [some (.ref a), some (.int k), some (.int c), some (.int g)] ∧ 0 ≤ g, ?_, ?_⟩
    · refine ⟨_, rfl, 10, 18, rfl, rfl, ⟨by decide, by decide, by decide⟩, c, _, rfl, rfl, _, rfl, ?_⟩
      refine ite2 (fun e => ?_) (fun e => ?_)
      · refine ⟨_, rfl, 10, 60, rfl, rfl, ⟨by decide, by decide, by decide⟩, 10, 60, rfl, rfl, ⟨by decide, by decide, by decide⟩, _, _, rfl, rfl, ?_, 10, 60, rfl, rfl, ⟨by decide, by decide, by decide⟩, _, _, rfl, rfl, ?_, c, _, rfl, rfl, ?_, ?_⟩
        · exact wide_mul (a := 300) (b := 300) (by decide +kernel) (by decide +kernel) (by decide) (by decide) (by decide)
        · exact wide_mul (a := 600) (b := 300) (by decide +kernel) (by decide +kernel) (by decide) (by decide) (by decide)
        · show (0 : Int) < 10 ^ (60 : Int).toNat * 10 ^ (60 : Int).toNat * 10 ^ (60 : Int).toNat
          decide +kernel
        · exact ⟨rfl, _, rfl, Int.emod_nonneg _ (by decide +kernel)⟩
      · exact ⟨rfl, _, rfl, Int.le_refl _⟩
    rintro σ Hy ⟨rfl, g, rfl, g0⟩
    refine ⟨_, rfl, _, rfl, c, 2305843009213693951, rfl, rfl, (by show (0 : Int) < 2305843009213693951; decide), _, 1000003, rfl, rfl, .inr (by decide), _, rfl, 7919, k, rfl, rfl, .inl (by decide), _, _, rfl, rfl, _, 11, rfl, rfl, _, 2305843009213693921, rfl, rfl, (by show (0 : Int) < 2305843009213693921; decide), (by show 3 ≤ sizeLine; decide), fun p np => ?_⟩
    exact q p _ _ np g0 (Int.emod_nonneg _ (by decide)) (Int.lt_trans (Int.emod_lt_of_pos _ (by decide)) (by decide))
theorem ok_take {f : Addr} {fd : FuncData} (D : Df K mg "_law_take" ["_law_hand_here", "_law_many"] sTake f fd)  : FnOk P w K mg base CX0 1 f fd ["_law_hand_here", "_law_many"] spTake := by
  refine D.fn.ok scTake (fun vs H Q E h => ?_) (fun cdv A outer s H vs Q E hr h => ?_)
  · obtain ⟨h, many, n, rfl, m1, m2, ⟨g, m, c, hh, g0, k0, k1, c0, c1⟩, hn, q⟩ := h
    rfl
  · obtain ⟨h, many, n, rfl, m1, m2, ⟨g, m, c, hh, g0, k0, k1, c0, c1⟩, hn, q⟩ := h
    refine ⟨_, (pss_cons (ps_if (pt_cmpR op_gt (pe_ix ix_list (pv 0) pe_int (fun _ _ => rfl)) pe_int (nomark _)) (pss_cons (ps_set (i := 2) scTake.nd rfl (.inl rfl) (pe_op op_mod (pe_ix ix_list (pv 0) pe_int (fun _ _ => rfl)) (pv 1)))
      (pss_cons (ps_asg (pe_op op_fdivW (pe_ix ix_list (pv 0) pe_int (fun _ _ => rfl)) (pv 1)) (pg_sub (pv 0) pe_int set_list))
      (pss_one (ps_ret (pv 2))))) pss_nil)
      (pss_cons (ps_set (i := 3) scTake.nd rfl (.inl rfl) (pe_op op_add (pe_ix ix_list (pv 0) pe_int (fun _ _ => rfl)) pe_int))
      (pss_cons (ps_asg (pv 3) (pg_sub (pv 0) pe_int set_list))
      (pss_cons (ps_set (i := 4) scTake.nd rfl (.inl rfl) (pe_op op_add (pe_ix ix_list (pv 0) pe_int (fun _ _ => rfl)) (pe_op op_mul pe_int (pv 3))))
      (pss_cons (ps_set (i := 5) scTake.nd rfl (.inl rfl) (pe_op op_add (pe_op op_add (pe_op op_mod (pe_ix ix_list (pv 0) pe_int (fun _ _ => rfl)) pe_int) (pe_op op_mul pe_int (pv 3))) pe_int))
      (pss_cons (ps_set (i := 6) scTake.nd rfl (.inl rfl) (pe_op op_mod (pe_op op_mul (pv 4) (pv 5)) pe_int))
      (pss_cons (ps_set (i := 7) scTake.nd rfl (.inl rfl) (pe_op op_add (pe_op op_add (pe_op op_mod (pv 6) pe_int) (pe_op op_mul pe_int (pv 3))) pe_int))
      (pss_one (ps_ret (pe_op op_mod (pe_op op_fdiv (pe_op op_mod (pe_op op_mul (pe_op op_add (pv 6) pe_int) (pv 7)) pe_int) pe_int) (pv 1))))))))))), ?_⟩
    have far' : n ≤ 1000000 := hn
    refine ⟨_, rfl, h, _, 0, _, rfl, rfl, SqL.of hh, atI_nat (j := 0) rfl, g, 0, rfl, rfl, _, rfl, ite2 (fun e => ?_) (fun e => ?_)⟩
    · refine ⟨_, rfl, h, _, 0, _, rfl, rfl, SqL.of hh, atI_nat (j := 0) rfl, _, rfl, g, many, rfl, rfl, m1, ?_⟩
      refine ⟨_, rfl, h, _, 0, _, rfl, rfl, SqL.of hh, atI_nat (j := 0) rfl, _, rfl, g, many, rfl, rfl, wide30 m1 m2, _, rfl, h, _, 0, 0, rfl, rfl, hh, rfl, ?_⟩
      refine ⟨_, rfl, ?_⟩
      exact q _ _ (Int.emod_nonneg _ (by omega)) (Int.emod_lt_of_pos _ m1) ⟨g / many, m, c, upd_same, Int.ediv_nonneg g0 (by omega), k0, k1, c0, by omega⟩ but_upd
    · refine ⟨_, rfl, h, _, 2, _, rfl, rfl, SqL.of hh, atI_nat (j := 2) rfl, c, 1, rfl, rfl, _, rfl, _, rfl, h, _, 2, 2, rfl, rfl, hh, rfl, ?_⟩
      have h2 : (upd H h (.lst [.int g, .int m, .int (c + 1)])) h = some (.lst [.int g, .int m, .int (c + 1)]) := upd_same
      have s2 := SqL.of (K := K) h2
      refine ⟨_, rfl, h, _, 1, _, rfl, rfl, s2, atI_nat (j := 1) rfl, _, rfl, 104729, c + 1, rfl, rfl, .inl (by decide), m, _, rfl, rfl, ?_⟩
      refine ⟨_, rfl, h, _, 1, _, rfl, rfl, s2, atI_nat (j := 1) rfl, m, 7919, rfl, rfl, (by show (0 : Int) < 7919; decide), _, rfl, 15485863, c + 1, rfl, rfl, .inl (by decide), _, _, rfl, rfl, _, 17, rfl, rfl, ?_⟩
      have e64 : (2 : Int) ^ 64 = 18446744073709551616 := by decide
      refine ⟨_, rfl, _, rfl, _, _, rfl, rfl, .inl (by rw [e64]; omega), _, 2305843009213693951, rfl, rfl, (by show (0 : Int) < 2305843009213693951; decide), ?_⟩
      generalize (m + 104729 * (c + 1)) * (m % 7919 + 15485863 * (c + 1) + 17) = z
      have z0 : 0 ≤ z % 2305843009213693951 := Int.emod_nonneg _ (by decide)
      have z1 : z % 2305843009213693951 < 2305843009213693951 := Int.emod_lt_of_pos _ (by decide)
      refine ⟨_, rfl, _, 1000003, rfl, rfl, (by show (0 : Int) < 1000003; decide), _, rfl, 6700417, c + 1, rfl, rfl, .inl (by decide), _, _, rfl, rfl, _, 5, rfl, rfl, ?_⟩
      refine ⟨_, rfl, _, 13, rfl, rfl, _, rfl, _, _, rfl, rfl, .inl (by rw [e64]; omega), _, 2305843009213693907, rfl, rfl, (by show (0 : Int) < 2305843009213693907; decide), _, 64, rfl, rfl, ⟨by decide, by decide⟩, _, rfl, _, many, rfl, rfl, m1, ?_⟩
      exact q _ _ (Int.emod_nonneg _ (by omega)) (Int.emod_lt_of_pos _ m1) ⟨g, m, c + 1, h2, g0, k0, k1, by omega, by omega⟩ but_upd
theorem ok_pick {f : Addr} {fd : FuncData} (D : Df K mg "_law_pick" ["_law_hand_here", "_law_some"] sPick f fd) (T : Txt mg) (cT : Ca P w K mg base 1 "_law_take" ["_law_hand_here", "_law_many"] spTake) : FnOk P w K mg base CX0 2 f fd ["_law_hand_here", "_law_some"] spPick := by
  refine D.fn.ok scPick (fun vs H Q E h => ?_) (fun cdv A outer s H vs Q E hr h => ?_)
  · obtain ⟨h, n, s, rfl, hh, hn, q⟩ := h
    rfl
  · obtain ⟨h, n, s, rfl, hh, hn, q⟩ := h
    refine ⟨_, (pss_one (ps_ret (pe_ix ix_seq (pv 1) (pe_ca cT hr (by decide) (by rfl) (pa_cons (pv 0) (pa_cons (pe_callB (cr_alt call_len_seq call_len_str) (by rfl) T.len PySem.boot_len (pa_cons (pv 1) pa_nil)) pa_nil))) (fun _ _ => rfl)))), ?_⟩
    refine ⟨_, rfl, _, rfl, _, rfl, ?_⟩
    rcases q with ⟨l, xs, rfl, hl, nl, ne, few, q⟩ | ⟨x, rfl, pos, few, q⟩
    · have pos : 0 < xs.length := List.length_pos_iff.mpr ne
      refine .inl ⟨l, xs, rfl, .inl (SqL.of hl), h, (xs.length : Int), n, rfl, by omega, lt30 few, hh, hn, fun d H' d0 d1 hh' bt => ?_⟩
      obtain ⟨j, rfl⟩ : ∃ j : Nat, d = (j : Int) := ⟨d.toNat, by omega⟩
      have hj : j < xs.length := by omega
      refine .inl ⟨l, xs, _, xs[j], rfl, rfl, SqL.of (bt _ _ nl hl), atI_nat (List.getElem?_eq_getElem hj), ?_⟩
      exact q _ H' (List.getElem_mem hj) hh' bt
    · have sz : x.length ≤ sizeLine := Nat.le_trans (show x.length ≤ 1000 by omega) (by decide)
      refine .inr ⟨x, rfl, sz, h, (x.length : Int), n, rfl, by omega, lt30 few, hh, hn, fun d H' d0 d1 hh' bt => ?_⟩
      obtain ⟨j, rfl⟩ : ∃ j : Nat, d = (j : Int) := ⟨d.toNat, by omega⟩
      have hj : j < x.cps.toList.length := by
        have : x.length = x.cps.toList.length := by rw [Array.length_toList]; rfl
        omega
      refine .inr (.inr ⟨x, _, x.cps.toList[j], rfl, rfl, sz, atI_nat (List.getElem?_eq_getElem hj), ?_⟩)
      exact q _ H' (List.getElem_mem hj) hh' bt
end
end K39
set_option Elab.async false
set_option linter.all false
set_option maxRecDepth 100000
set_option maxHeartbeats 4000000
set_option pp.maxSteps 400
set_option pp.deepTerms false
namespace K39
open PySem PySem.Spec PyProof.Rows L2
open Xk Az W37
section
variable {P : Program} {w : World} {K : PySem.W.Frag} {mg : Str → Option Value} {base : Heap}
def lawSigns : Str := "abcdefghijklmnopqrstuvwxyzABCDEFGHIJKLMNOPQRSTUVWXYZ0123456789'-."
theorem lawSigns7 : ∀ c ∈ lawSigns.cps.toList, c < 128 := by decide +kernel
theorem small7 : ∀ c ∈ small.cps.toList, c < 128 := by decide +kernel
/-- signs that are few -/
def As (x : Str) : Prop := ∀ c ∈ x.cps.toList, c < 128
theorem As.app {x y : Str} (h1 : As x) (h2 : As y) : As (x ++ y) := fun c hc => by
  rw [Str.cps_append, Array.toList_append, List.mem_append] at hc
  exact hc.elim (h1 c) (h2 c)
theorem as0 : As "" := fun c hc => by
  have e : (("" : Str)).cps.toList = [] := rfl
  rw [e] at hc
  cases hc
theorem as1 {c : Nat} (h : c < 128) : As ⟨#[c]⟩ := fun d hd => by
  have : d = c := by simpa using hd
  rw [this]; exact h
theorem lt30i {i : Int} (h : i < 1000000) : i < 10 ^ 30 := Int.lt_trans h (by decide)
def spSigns : Sp := fun vs H Q _ => vs = [] ∧ Q (.str lawSigns) H
section
variable {X : Cx} {k j : Nat} {x : Str} {ps : List Str} {sp : Sp} {p pos : Pos}
theorem pe_ca0 (c : Ca X.prog X.w X.K X.mg X.base k x ps sp) (hr : Room j X.A) (hk : k ≤ j) (hg : Gl X x) (hdb : (x == ("__debug__" : Str)) = false := by decide) :
    PE X (.Call (.Name x p) [] [] pos) (tCall sp [] E0 tNil) := by
  obtain ⟨f, fd, F, hm, kp, b⟩ := c.ex
  exact pe_call0 F (hr.mono hk) hg hm kp b .nil pass0 hdb
end
def spText : Sp := fun vs H Q _ => ∃ (h : Addr) (n most : Int), vs = [.ref h, .int most] ∧ 1 ≤ most ∧ most ≤ 40 ∧ Hand n H h ∧ n + 200 ≤ far ∧
  ∀ (x : Str) H', 1 ≤ (x.length : Int) → (x.length : Int) ≤ most → As x → Hand (n + 100) H' h → But h H H' → Q (.str x) H'
def spTongue : Sp := fun vs H Q _ => ∃ (h : Addr) (n : Int), vs = [.ref h] ∧ Hand n H h ∧ n + 100 ≤ far ∧
  ∀ (x : Str) H', x.length ≤ 3 → As x → Hand (n + 10) H' h → But h H H' → Q (.str x) H'
theorem len_cps (x : Str) : x.length = x.cps.toList.length := by
  rw [Array.length_toList]
  rfl
theorem at_last {l : List Nat} (h : l ≠ []) : atI l (-1) = l.getLast? := by
  have p : 0 < l.length := List.length_pos_iff.mpr h
  unfold atI ixN
  rw [if_neg (by omega), if_pos (by omega)]
  rw [List.getLast?_eq_getElem?]
  simp only [Option.bind_some]
  congr 1
  omega
theorem ok_signs {f : Addr} {fd : FuncData} (D : Df K mg "_law_signs" [] sSigns f fd)  : FnOk P w K mg base CX0 1 f fd [] spSigns := by
  refine D.fn.ok scSigns (fun vs H Q E h => ?_) (fun cdv A outer s H vs Q E hr h => ?_)
  · obtain ⟨rfl, q⟩ := h
    rfl
  · obtain ⟨rfl, q⟩ := h
    refine ⟨_, (pss_one (ps_ret pe_str)), ?_⟩
    exact q
theorem ok_text {f : Addr} {fd : FuncData} (D : Df K mg "_law_text" ["_law_hand_here", "_law_most"] sText f fd) (T : Txt mg) (cT : Ca P w K mg base 1 "_law_take" ["_law_hand_here", "_law_many"] spTake) (cP : Ca P w K mg base 2 "_law_pick" ["_law_hand_here", "_law_some"] spPick) (cS : Ca P w K mg base 1 "_law_signs" [] spSigns) : FnOk P w K mg base CX0 3 f fd ["_law_hand_here", "_law_most"] spText := by
  refine D.fn.ok scText (fun vs H Q E h => ?_) (fun cdv A outer s H vs Q E hr h => ?_)
  · obtain ⟨h, n, most, rfl, m0, m1, hd, hn, q⟩ := h
    rfl
  · obtain ⟨h, n, most, rfl, m0, m1, hd, hn, q⟩ := h
    refine ⟨_, (pss_cons (ps_par (i := 2) (j := 3) (by rfl) scText.nd rfl rfl (by decide) rfl rfl (pa_cons pe_str (pa_cons (pe_op op_add pe_int (pe_ca cT hr (by decide) (by rfl) (pa_cons (pv 0) (pa_cons (pv 1) pa_nil)))) pa_nil)) (by rfl))
      (pss_cons (ps_for PassesOwn.never rfl (pi_range1 (by rfl) T.range (pa_cons (pv 3) pa_nil)) (pg_name (i := 4) scText.nd rfl (.inl rfl)) (pss_cons (ps_set (i := 5) scText.nd rfl (.inl rfl) (pe_ca cP hr (by decide) (by rfl) (pa_cons (pv 0) (pa_cons (pe_ca0 cS hr (by decide) (by rfl)) pa_nil))))
      (C8.pss_cut (ps_if (PW.pt (pw_and (pt_chain op_lt op_lt pe_int (pv 4) (pe_op op_sub (pv 3) pe_int)) (pw_and (pt_cmpR op_ne (pe_ix ix_str (pv 2) (pe_un un_neg pe_int) (fun _ _ => rfl)) pe_str (nomark _)) (pw_and1 (pt_cmpR op_eq (pe_ca cT hr (by decide) (by rfl) (pa_cons (pv 0) (pa_cons pe_int pa_nil))) pe_int (nomark _)))))) (pss_one (ps_set (i := 5) scText.nd rfl (.inl rfl) pe_str)) pss_nil)
      (pss_one (ps_set (i := 2) scText.nd rfl (.inl rfl) (pe_op op_add_str (pv 2) (pv 5)))))))
      (pss_one (ps_ret (pv 2))))), ?_⟩
    have fr : n + 200 ≤ 1000000 := hn
    have l65 : lawSigns.length = 65 := by decide +kernel
    refine ⟨_, rfl, _, rfl, h, most, n, rfl, by omega, lt30i (by omega), hd, by show n ≤ 1000000; omega, fun d H1 d0 d1 h1 b1 => ?_⟩
    refine ⟨_, _, rfl, rfl, _, _, rfl, ?_⟩
    refine ⟨_, rfl, 1 + d, rfl, by omega, by omega, for_range (lo := 0) (n := (1 + d).toNat) (fun k σ Hi => ∃ (x : Str) (c4 c5 : Option V), σ = [some (.ref h), some (.int most), some (.str x), some (.int (1 + d)), c4, c5] ∧ x.length = k ∧ As x ∧ Hand (n + 1 + 2 * k) Hi h ∧ But h H Hi) ?_ ?_ ?_⟩
    · exact ⟨"", none, none, rfl, rfl, as0, h1.mono (by omega), b1⟩
    · rintro k σ Hi hk ⟨x, c4, c5, rfl, lx, ax, hdi, bi⟩
      have km : (k : Int) < 1 + d := by omega
      have kb : n + 1 + 2 * (k : Int) + 2 ≤ 1000000 := by omega
      refine ⟨_, rfl, rfl, h, n + 1 + 2 * k, _, rfl, hdi, by show n + 1 + 2 * (k : Int) ≤ 1000000; omega, .inr ⟨lawSigns, rfl, by rw [l65]; decide, by rw [l65]; decide, fun c H2 mc h2 b2 => ?_⟩⟩
      have sx : x.length ≤ 100 := by omega
      have fit : x.length + 1 ≤ sizeLine := Nat.le_trans (show x.length + 1 ≤ 200 by omega) (by decide)
      have nx : ∀ (c' : Nat) (Hx : Hp), c' < 128 → But h H Hx → Hand (n + 1 + 2 * ((k + 1 : Nat) : Int)) Hx h → ∀ c4 c5 : Option V, ∃ (x' : Str) (c4' c5' : Option V), [some (V.ref h), some (.int most), some (.str (x ++ ⟨#[c']⟩)), some (.int (1 + d)), c4, c5] = [some (V.ref h), some (.int most), some (.str x'), some (.int (1 + d)), c4', c5'] ∧ x'.length = k + 1 ∧ As x' ∧ Hand (n + 1 + 2 * ((k + 1 : Nat) : Int)) Hx h ∧ But h H Hx := fun c' Hx m1 bx hx c4 c5 => by
        refine ⟨x ++ ⟨#[c']⟩, c4, c5, rfl, ?_, ax.app (as1 m1), hx, bx⟩
        rw [strLen_append, lx]; rfl
      have mc' : c < 128 := lawSigns7 c mc
      have h2' := h2.mono (n' := n + 1 + 2 * (k : Int) + 1) (by omega)
      have b2' := bi.trans b2
      refine ⟨fun σ Hx => ∃ c' : Nat, σ = [some (V.ref h), some (.int most), some (.str x), some (.int (1 + d)), some (.int (0 + (k : Int))), some (.str ⟨#[c']⟩)] ∧ c' < 128 ∧ Hand (n + 1 + 2 * ((k + 1 : Nat) : Int)) Hx h ∧ But h H Hx, ?_, ?_⟩
      · refine ⟨_, rfl, _, _, rfl, rfl, _, rfl, ite2 (fun e1 => ?_) (fun e1 => ?_)⟩
        · refine ⟨_, rfl, _, 1, rfl, rfl, _, _, rfl, rfl, _, rfl, ite2 (fun e2 => ?_) (fun e2 => ?_)⟩
          · have k0 : (0 : Int) < 0 + (k : Int) := of_decide_eq_true e1
            have xn : x.cps.toList ≠ [] := fun z => by
              have : x.length = 0 := by rw [len_cps, z]; rfl
              omega
            obtain ⟨dd, ed⟩ : ∃ d, x.cps.toList.getLast? = some d := by
              cases z : x.cps.toList.getLast? with
              | none => exact absurd (List.getLast?_eq_none_iff.mp z) xn
              | some d => exact ⟨d, rfl⟩
            refine ⟨_, rfl, 1, rfl, x, -1, dd, rfl, rfl, Nat.le_trans (Nat.le_succ _) fit, (at_last xn).trans ed, rfl, _, rfl, ite2 (fun e3 => ?_) (fun e3 => ?_)⟩
            · refine ⟨_, rfl, h, 6, n + 1 + 2 * k + 1, rfl, by decide, by decide, h2', by show n + 1 + 2 * (k : Int) + 1 ≤ 1000000; omega, fun d3 H3 e0 e1 h3 b3 => ⟨rfl, _, rfl, ite2 (fun e4 => ?_) (fun e4 => ?_)⟩⟩
              · exact ⟨32, rfl, by decide, h3.mono (by omega), b2'.trans b3⟩
              · exact ⟨c, rfl, mc', h3.mono (by omega), b2'.trans b3⟩
            · exact ⟨c, rfl, mc', h2'.mono (by omega), b2'⟩
          · exact ⟨c, rfl, mc', h2'.mono (by omega), b2'⟩
        · exact ⟨_, rfl, iteF ⟨c, rfl, mc', h2'.mono (by omega), b2'⟩⟩
      · rintro σ Hx ⟨c', rfl, m1, hx, bx⟩
        exact ⟨_, rfl, _, rfl, x, ⟨#[c']⟩, rfl, rfl, fit, nx c' Hx m1 bx hx _ _⟩
    rintro σ He ⟨x, c4, c5, rfl, lx, ax, hde, be⟩
    have lx' : (x.length : Int) = 1 + d := by
      have : x.length = (1 + d).toNat := lx
      omega
    refine ⟨_, rfl, q x He (by omega) (by omega) ax (hde.mono ?_) be⟩
    show n + 1 + 2 * (((1 + d).toNat : Nat) : Int) ≤ n + 100
    omega
end
end K39
set_option Elab.async false
set_option linter.all false
set_option maxRecDepth 100000
set_option maxHeartbeats 4000000
set_option pp.maxSteps 400
set_option pp.deepTerms false
namespace K39
open PySem PySem.Spec PyProof.Rows L2
open Xk Az W37
section
variable {P : Program} {w : World} {K : PySem.W.Frag} {mg : Str → Option Value} {base : Heap}
theorem join_cps' : ∀ ys : List Str, (Str.join "" ys).cps.toList = (ys.map fun y => y.cps.toList).flatten
  | [] => rfl
  | [x] => by simp [Str.join]
  | x :: z :: r => by
    show (x ++ "" ++ Str.join "" (z :: r)).cps.toList = _
    rw [Str.cps_append, Array.toList_append, Str.cps_append, Array.toList_append, join_cps' (z :: r)]
    have e0 : (("" : Str)).cps.toList = [] := rfl
    rw [e0, List.append_nil]
    rfl
theorem join_cps (ys : List Str) : (Txt.join "" ys).cps.toList = (ys.map fun y => y.cps.toList).flatten := by
  rw [TL.join_eq]
  exact join_cps' ys
theorem join_len (ys : List Str) : (Txt.join "" ys).length = (ys.map (·.length)).sum := by
  rw [len_cps, join_cps, List.length_flatten, List.map_map]
  congr 1
theorem ones_sum : ∀ ys : List Str, (∀ y ∈ ys, y.length = 1) → (ys.map (·.length)).sum = ys.length
  | [], _ => rfl
  | y :: r, h => by
    rw [List.map_cons, List.sum_cons, h y List.mem_cons_self, ones_sum r (fun z hz => h z (List.mem_cons_of_mem _ hz)), List.length_cons]
    omega
section
variable {X : Cx}
theorem vals_map {α : Type} (g : α → V) (R : α → Value → Prop) (hR : ∀ a v, R a v → RelV (g a) v) : ∀ (as : List α) (us : List Value), as.length = us.length → (∀ (i : Nat) (a : α) (u : Value), as[i]? = some a → us[i]? = some u → R a u) → Vals (as.map g) us
  | [], [], _, _ => .nil
  | a :: as, u :: us, hl, h => .cons (hR a u (h 0 a u rfl rfl)) (vals_map g R hR as us (by simpa using hl) fun i b v e1 e2 => h (i + 1) b v (by simpa using e1) (by simpa using e2))
  | [], _ :: _, hl, _ => by simp at hl
  | _ :: _, [], hl, _ => by simp at hl
def sg1 (c : Nat) : V := .str ⟨#[c]⟩
theorem cr_listS (hc : X.calm = true) : CallR X (.type "list") (fun xs H Q => ∃ x : Str, xs = [.str x] ∧ x.length ≤ sizeLine ∧ ∀ l, H l = none → Q (.ref l) (upd H l (.lst (x.cps.toList.map sg1)))) := by
  intro pins s σ H xs us Q I r h
  obtain ⟨x, rfl, hz, q⟩ := h
  obtain ⟨u, rfl, rx⟩ := vals1 r
  obtain ⟨t, rfl⟩ := rx
  refine call_list_str (I.ok.hd hc) x t (fun h' tk acc c kp e it => ?_) hz
  have v : Vals (x.cps.toList.map sg1) acc.toList := by
    refine vals_map sg1 (fun c u => ∃ t, u = Value.str ⟨#[c]⟩ t) (fun a v ⟨t, e⟩ => ⟨t, e⟩) _ _ (by rw [Array.length_toList, Array.length_toList, it.1]) fun i a u e1 e2 => ?_
    obtain ⟨c', t', q1, q2⟩ := it.2 i u (by rw [← Array.getElem?_toList]; exact e2)
    rw [← Array.getElem?_toList, e1] at q1
    exact ⟨t', by rw [Option.some.inj q1]; exact q2⟩
  have hl : (x.cps.toList.map sg1).length ≤ sizeLine := by rw [List.length_map, Array.length_toList]; exact hz
  exact ⟨.ref s.heap.objs.size, _, I.laid (t' := tk) kp (Nat.le_refl _) (show ObjOk X.prog X.w _ h' _ (.lst (x.cps.toList.map sg1)) from ⟨hl, acc.toList, c, v, by simpa using e⟩), rfl, q _ (I.hok.fresh (Nat.le_refl _))⟩
end
theorem ins_cps {st : Str} {k c : Nat} (h : k ≤ st.cps.toList.length) : (cutS st none (some (k : Int)) ++ ⟨#[c]⟩ ++ cutS st (some (k : Int)) none).cps.toList = st.cps.toList.take k ++ c :: st.cps.toList.drop k := by
  rw [len_cps st |>.symm] at h
  rw [Str.cps_append, Array.toList_append, Str.cps_append, Array.toList_append]
  have e1 : HT.sIx st.length 0 (some (k : Int)) = k := by rw [HT.sIx_nat]; omega
  have e2 : HT.sIx st.length st.length (some (k : Int)) = k := by rw [HT.sIx_nat]; omega
  have e3 : HT.sIx st.length 0 none = 0 := rfl
  have e4 : HT.sIx st.length st.length none = st.length := rfl
  unfold cutS
  rw [e1, e2, e3, e4]
  simp only [List.drop_zero, Nat.sub_zero, List.append_assoc, List.singleton_append]
  congr 2
  rw [List.take_of_length_le (by rw [List.length_drop, ← len_cps]; omega)]
theorem ins_len {st : Str} {k c : Nat} (h : k ≤ st.cps.toList.length) : (cutS st none (some (k : Int))).length + (cutS st (some (k : Int)) none).length ≤ st.length ∧ (cutS st none (some (k : Int))).length ≤ st.length ∧ (cutS st none (some (k : Int)) ++ ⟨#[c]⟩ ++ cutS st (some (k : Int)) none).length = st.length + 1 := by
  have e := congrArg List.length (ins_cps (c := c) h)
  have l1 : (cutS st none (some (k : Int)) ++ ⟨#[c]⟩ ++ cutS st (some (k : Int)) none).length = st.length + 1 := by
    rw [len_cps, e, List.length_append, List.length_cons, List.length_take, List.length_drop, len_cps st]
    omega
  rw [strLen_append, strLen_append] at l1
  have o1 : (⟨#[c]⟩ : Str).length = 1 := rfl
  rw [strLen_append, strLen_append]
  omega
theorem erase_map {α β : Type} (f : α → β) : ∀ (l : List α) (j : Nat), (l.map f).eraseIdx j = (l.eraseIdx j).map f
  | [], _ => rfl
  | _ :: _, 0 => rfl
  | a :: r, j + 1 => by
    show f a :: (r.map f).eraseIdx j = f a :: (r.eraseIdx j).map f
    rw [erase_map f r j]
theorem perm_erase {α : Type} : ∀ (l : List α) (j : Nat) (h : j < l.length), l.Perm (l[j] :: l.eraseIdx j)
  | a :: r, 0, _ => List.Perm.refl _
  | a :: r, j + 1, h => by
    have hj : j < r.length := by simpa using h
    have ih := perm_erase r j hj
    show (a :: r).Perm (r[j] :: a :: r.eraseIdx j)
    exact (List.Perm.cons a ih).trans (List.Perm.swap _ _ _)
def insT (st : Str) (k c : Nat) : Str := cutS st none (some (k : Int)) ++ ⟨#[c]⟩ ++ cutS st (some (k : Int)) none
theorem insT_inj {st : Str} {k c d : Nat} (h : k ≤ st.cps.toList.length) (e : insT st k c = insT st k d) : c = d := by
  have q := congrArg (fun x : Str => x.cps.toList) e
  simp only [insT] at q
  rw [ins_cps h, ins_cps h] at q
  have := List.append_cancel_left q
  injection this
theorem insT_as {st : Str} {k c : Nat} (h : k ≤ st.cps.toList.length) (a : As st) (hc : c < 128) : As (insT st k c) := fun d hd => by
  unfold insT at hd
  rw [ins_cps h] at hd
  rcases List.mem_append.mp hd with z | z
  · exact a d (List.mem_of_mem_take z)
  · rcases List.mem_cons.mp z with z | z
    · rw [z]; exact hc
    · exact a d (List.mem_of_mem_drop z)
/-- a name whose texts are short -/
def Gn' (m : Nm) : Prop := m.1.length ≤ 3 ∧ As m.1 ∧ m.2.length ≤ 41 ∧ As m.2
def spNames : Sp := fun vs H Q _ => ∃ (h : Addr) (n many : Int), vs = [.ref h, .int many] ∧ 0 ≤ many ∧ many ≤ 60 ∧ Hand n H h ∧ n + 2000 ≤ far ∧
  ∀ (L : Addr) (xs : List V) (ns : List Nm) H', H' L = some (.lst xs) → L ≠ h → H L = none → NmL H' xs ns → (ns.length : Int) = many → (ns.map (·.2)).Nodup → (∀ m ∈ ns, Gn' m) → Hand (n + 400) H' h → But h H H' → Q (.ref L) H'
theorem ok_tongue {f : Addr} {fd : FuncData} (D : Df K mg "_law_tongue" ["_law_hand_here"] sTongue f fd) (T : Txt mg) (cT : Ca P w K mg base 1 "_law_take" ["_law_hand_here", "_law_many"] spTake) (cP : Ca P w K mg base 2 "_law_pick" ["_law_hand_here", "_law_some"] spPick) : FnOk P w K mg base CX0 3 f fd ["_law_hand_here"] spTongue := by
  refine D.fn.ok scTongue (fun vs H Q E h => ?_) (fun cdv A outer s H vs Q E hr h => ?_)
  · obtain ⟨h, n, rfl, hd, hn, q⟩ := h
    rfl
  · obtain ⟨h, n, rfl, hd, hn, q⟩ := h
    refine ⟨_, (pss_cons (ps_set (i := 1) scTongue.nd rfl (.inr rfl) pe_str)
      (pss_one (ps_ret (pe_m1 F.slot_str_join F.type_str_join mt_join pe_str (pe_lc (own := [("_law_k", 2)]) (g := gName 2) (tt := tYes) (by rfl) scTongue.nd (pi_range1 (by rfl) T.range (pa_cons (pe_op op_add pe_int (pe_ca cT hr (by decide) (by rfl) (pa_cons (pv 0) (pa_cons pe_int pa_nil)))) pa_nil)) (blkOk_by (own := [("_law_k", 2)]) (N := ["_law_hand_here", "_law_letters", "_law_k"]) (sc := defScope sTongue) (by decide +kernel)) (fun _ _ _ _ _ => pg_name (i := 2) scTongue.nd rfl (.inl rfl)) (fun _ _ _ _ _ => pts_nil) (fun _ _ _ _ _ => pe_ca cP hr (by decide) (by rfl) (pa_cons (pv 0) (pa_cons (pv 1) pa_nil)))))))), ?_⟩
    have fr : n + 100 ≤ 1000000 := hn
    have lf : small.length = 26 := by decide +kernel
    refine ⟨⟨_, rfl⟩, ?_⟩
    refine ⟨_, rfl, h, 2, n, rfl, by decide, by decide, hd, by show n ≤ 1000000; omega, fun d H1 d0 d1 h1 b1 => ?_⟩
    refine ⟨2, d, rfl, rfl, _, rfl, by omega, by omega, fun L nL => ?_⟩
    have s1 := same_upd nL (o := .lst [])
    have Lh := h1.fresh nL
    refine lc_range (lo := 0) (fun i Hi => ∃ ys : List Str, Hi L = some (.lst (ys.map V.str)) ∧ ys.length = i ∧ (∀ y ∈ ys, ∃ c ∈ small.cps.toList, y = ⟨#[c]⟩) ∧ Hand (n + 1 + i) Hi h ∧ But h H1 Hi) ?_ ?_ ?_
    · exact ⟨[], upd_same, rfl, by simp, (h1.same s1).mono (by omega), Same.but s1 h⟩
    · rintro i Hi hi ⟨ys, eL, ly, cy, hdi, bi⟩
      have hi' : i < (2 + d).toNat := hi
      refine ⟨rfl, ?_⟩
      unfold tYes
      refine iteT ?_
      refine ⟨_, rfl, _, rfl, h, n + 1 + i, _, rfl, hdi, by show n + 1 + (i : Int) ≤ 1000000; omega, .inr ⟨small, rfl, by rw [lf]; decide, by rw [lf]; decide, fun c H2 mc h2 b2 => ?_⟩⟩
      refine ⟨_, b2 _ _ Lh eL, ?_, ys ++ [⟨#[c]⟩], ?_, by rw [List.length_append, ly]; rfl, ?_, ?_, ?_⟩
      · rw [List.length_map, ly]
        exact Nat.lt_of_le_of_lt (show i ≤ 100 by omega) (by decide)
      · rw [upd_same, List.map_append]
        rfl
      · intro y hy
        rcases List.mem_append.mp hy with z | z
        · exact cy y z
        · exact ⟨c, mc, List.mem_singleton.mp z⟩
      · exact (h2.upd (Ne.symm Lh)).mono (by omega)
      · intro b x nb e
        rw [upd_ne (ne_of_none e nL)]
        exact b2 b x nb (bi b x nb e)
    · rintro He ⟨ys, eL, ly, cy, hde, be⟩
      have le : (ys.map (·.length)).sum = ys.length := ones_sum ys (fun y hy => by obtain ⟨c, _, e⟩ := cy y hy; rw [e]; rfl)
      have ly' : (ys.length : Int) = 2 + d := by
        have : ys.length = (2 + d).toNat := ly
        omega
      refine ⟨_, L, ys, rfl, rfl, .inl (SqL.of eL), ?_, ?_⟩
      · rw [le]
        have e0 : (("" : Str)).length = 0 := rfl
        rw [e0]
        omega
      · have jl : (Txt.join "" ys).length = ys.length := by rw [join_len, le]
        refine q _ _ (by rw [jl]; omega) ?_ (hde.mono ?_) (b1.trans be)
        · intro c hc
          rw [join_cps] at hc
          obtain ⟨l, ml, hcl⟩ := List.mem_flatten.mp hc
          obtain ⟨y, my, rfl⟩ := List.mem_map.mp ml
          obtain ⟨c', mc', e⟩ := cy y my
          rw [e] at hcl
          have : c = c' := by simpa using hcl
          rw [this]
          exact small7 _ mc'
        · show n + 1 + (((2 + d).toNat : Nat) : Int) ≤ n + 10
          omega
theorem ok_names {f : Addr} {fd : FuncData} (D : Df K mg "_law_names" ["_law_hand_here", "_law_many"] sNames f fd) (T : Txt mg) (cT : Ca P w K mg base 1 "_law_take" ["_law_hand_here", "_law_many"] spTake) (cP : Ca P w K mg base 2 "_law_pick" ["_law_hand_here", "_law_some"] spPick) (cS : Ca P w K mg base 1 "_law_signs" [] spSigns) (cX : Ca P w K mg base 3 "_law_text" ["_law_hand_here", "_law_most"] spText) (cG : Ca P w K mg base 3 "_law_tongue" ["_law_hand_here"] spTongue) : FnOk P w K mg base CX0 4 f fd ["_law_hand_here", "_law_many"] spNames := by
  refine D.fn.ok scNames (fun vs H Q E h => ?_) (fun cdv A outer s H vs Q E hr h => ?_)
  · obtain ⟨h, n, many, rfl, m0, m60, hd, hn, q⟩ := h
    rfl
  · obtain ⟨h, n, many, rfl, m0, m60, hd, hn, q⟩ := h
    refine ⟨_, (pss_cons (ps_set (i := 2) scNames.nd rfl (.inl rfl) (pe_ca cX hr (by decide) (by rfl) (pa_cons (pv 0) (pa_cons (pe_ix ix_list (pe_lst (pa_cons pe_int (pa_cons pe_int pa_nil))) (pe_callTy call_int1 (by rfl) T.int (by decide +kernel) (pa_cons (pe_cmpR op_eq (pe_ca cT hr (by decide) (by rfl) (pa_cons (pv 0) (pa_cons pe_int pa_nil))) pe_int (nomark _)) pa_nil)) (fun _ _ => rfl)) pa_nil))))
      (pss_cons (ps_par3 (i := 3) (j := 4) (l := 5) (by rfl) scNames.nd rfl rfl rfl (by decide) (by decide) (by decide) rfl rfl rfl (pa_cons (pe_ca cT hr (by decide) (by rfl) (pa_cons (pv 0) (pa_cons (pe_op op_add (pe_callB call_len_str (by rfl) T.len PySem.boot_len (pa_cons (pv 2) pa_nil)) pe_int) pa_nil))) (pa_cons (pe_callTy (cr_listS (by rfl)) (by rfl) T.list (by decide +kernel) (pa_cons (pe_ca0 cS hr (by decide) (by rfl)) pa_nil)) (pa_cons (pe_lst pa_nil) pa_nil))) (by rfl))
      (pss_cons (ps_set (i := 6) scNames.nd rfl (.inl rfl) (pe_lst (pa_cons (pe_ca cG hr (by decide) (by rfl) (pa_cons (pv 0) pa_nil)) (pa_cons (pe_ca cG hr (by decide) (by rfl) (pa_cons (pv 0) pa_nil)) pa_nil))))
      (pss_cons (ps_for PassesOwn.never rfl (pi_range1 (by rfl) T.range (pa_cons (pv 1) pa_nil)) (pg_name (i := 7) scNames.nd rfl (.inl rfl)) (pss_cons (ps_set (i := 8) scNames.nd rfl (.inl rfl) (pe_bm PySem.F.plainAttrs_list PySem.F.slot_list_pop PySem.F.type_list_pop mt_popAt (pv 4) (pa_cons (pe_ca cT hr (by decide) (by rfl) (pa_cons (pv 0) (pa_cons (pe_callB call_len_seq (by rfl) T.len PySem.boot_len (pa_cons (pv 4) pa_nil)) pa_nil))) pa_nil)))
      (pss_one (ps_expr (pe_bm PySem.F.plainAttrs_list PySem.F.slot_list_append PySem.F.type_list_append mt_append (pv 5) (pa_cons (pe_tup (pa_cons (pe_ca cP hr (by decide) (by rfl) (pa_cons (pv 0) (pa_cons (pv 6) pa_nil))) (pa_cons (pe_op op_add_str (pe_op op_add_str (pe_slice sl_str (pv 2) po_none (po_some (pv 3))) (pv 8)) (pe_slice sl_str (pv 2) (po_some (pv 3)) po_none)) pa_nil))) pa_nil))))))
      (pss_one (ps_ret (pv 5))))))), ?_⟩
    have fr : n + 2000 ≤ 1000000 := hn
    have l65 : lawSigns.length = 65 := by decide +kernel
    -- stem
    refine ⟨_, rfl, (by show 2 ≤ sizeLine; decide), fun l1 nl1 => ?_⟩
    have s1 := same_upd nl1 (o := .lst [.int 12, .int 39])
    have e1 : (upd H l1 (.lst [.int 12, .int 39])) l1 = some (.lst [.int 12, .int 39]) := upd_same
    generalize upd H l1 (.lst [.int 12, .int 39]) = H1 at s1 e1 ⊢
    have l1h := hd.fresh nl1
    refine ⟨_, rfl, h, 8, n, rfl, by decide, by decide, hd.same s1, by show n ≤ 1000000; omega, fun d H2 d0 d1 h2 b2 => ?_⟩
    have pk : ∀ b : Bool, ∃ m : Int, atI [V.int 12, .int 39] (if b = true then 1 else 0) = some (.int m) ∧ 1 ≤ m ∧ m ≤ 40 := fun b => by
      cases b
      · exact ⟨12, rfl, by decide, by decide⟩
      · exact ⟨39, rfl, by decide, by decide⟩
    obtain ⟨m, em, m0, m1⟩ := pk (decide (V.int d = V.int 7))
    refine ⟨rfl, .inr ⟨_, rfl, l1, _, _, _, rfl, rfl, SqL.of (b2 _ _ l1h e1), em, ?_⟩⟩
    refine ⟨h, n + 1, m, rfl, m0, m1, h2, by show n + 1 + 200 ≤ 1000000; omega, fun st H3 st0 st1 as h3 b3 => ?_⟩
    have bb : But h H H3 := (Same.but s1 h).trans (b2.trans b3)
    clear b2 b3 s1 e1 h2
    have lsz : st.length ≤ sizeLine := Nat.le_trans (show st.length ≤ 100 by omega) (by decide)
    -- at, signs, found
    refine ⟨_, rfl, _, rfl, st, rfl, lsz, _, 1, rfl, rfl, h, (st.length : Int) + 1, n + 101, rfl, by omega, lt30i (by omega), h3.mono (by omega), by show n + 101 ≤ 1000000; omega, fun at' H4 a0 a1 h4 b4 => ?_⟩
    obtain ⟨k0, rfl⟩ : ∃ k0 : Nat, at' = (k0 : Int) := ⟨at'.toNat, by omega⟩
    refine ⟨rfl, lawSigns, rfl, by rw [l65]; decide, fun S nS => ?_⟩
    have sS := same_upd nS (o := .lst (lawSigns.cps.toList.map sg1))
    have eS : (upd H4 S (.lst (lawSigns.cps.toList.map sg1))) S = some (.lst (lawSigns.cps.toList.map sg1)) := upd_same
    have Sh := h4.fresh nS
    generalize upd H4 S (.lst (lawSigns.cps.toList.map sg1)) = H5 at sS eS ⊢
    refine ⟨(by show 0 ≤ sizeLine; decide), fun F nF => ?_⟩
    have sF := same_upd nF (o := .lst [])
    have eF : (upd H5 F (.lst [])) F = some (.lst []) := upd_same
    have Fh := (h4.same sS).fresh nF
    have SF : S ≠ F := ne_of_none eS nF
    generalize upd H5 F (.lst []) = H6 at sF eF ⊢
    refine ⟨_, _, _, rfl, ?_⟩
    have HF : H F = none := bb.free Fh (b4.free Fh (by
      cases z : H4 F with
      | none => rfl
      | some o => have := sS _ _ z; rw [nF] at this; cases this))
    have HS : H S = none := bb.free Sh (b4.free Sh nS)
    have b7 : But h H H6 := bb.trans (b4.trans (Same.but (sS.trans sF) h))
    have h7 := (h4.same sS).same sF
    have eS7 := sF _ _ eS
    have eF7 := eF
    clear h4 h3 b4 bb sS sF
    -- tongues
    refine ⟨_, rfl, h, n + 102, rfl, h7.mono (by omega), by show n + 102 + 100 ≤ 1000000; omega, fun t1 H8 lt1 at1 h8 b8 => ?_⟩
    refine ⟨_, rfl, h, n + 112, rfl, h8.mono (by omega), by show n + 112 + 100 ≤ 1000000; omega, fun t2 H9 lt2 at2 h9 b9 => ?_⟩
    refine ⟨(by show 2 ≤ sizeLine; decide), fun T' nT => ?_⟩
    have sT := same_upd nT (o := .lst [.str t1, .str t2])
    have eT : (upd H9 T' (.lst [.str t1, .str t2])) T' = some (.lst [.str t1, .str t2]) := upd_same
    have Th := h9.fresh nT
    have eS9 := b9 _ _ Sh (b8 _ _ Sh eS7)
    have eF9 := b9 _ _ Fh (b8 _ _ Fh eF7)
    have ST : S ≠ T' := ne_of_none eS9 nT
    have FT : F ≠ T' := ne_of_none eF9 nT
    generalize upd H9 T' (.lst [.str t1, .str t2]) = HA at sT eT ⊢
    have bA : But h H HA := b7.trans (b8.trans (b9.trans (Same.but sT h)))
    have hA := h9.same sT
    have eSA := sT _ _ eS9
    have eFA := sT _ _ eF9
    clear sT b9 b8 b7 h9 h8 h7 eS9 eF9 eS7 eF7
    have kst : k0 ≤ st.cps.toList.length := by rw [← len_cps]; omega
    refine ⟨_, rfl, many, rfl, by omega, by omega, for_range (lo := 0) (n := many.toNat) (fun k σ Hi => ∃ (sg cs : List Nat) (xs : List V) (ns : List Nm) (c7 c8 : Option V), σ = [some (.ref h), some (.int many), some (.str st), some (.int (k0 : Int)), some (.ref S), some (.ref F), some (.ref T'), c7, c8] ∧
      Hi S = some (.lst (sg.map sg1)) ∧ sg.length + k = 65 ∧ (cs ++ sg).Nodup ∧ (∀ c ∈ sg, c < 128) ∧ Hi T' = some (.lst [.str t1, .str t2]) ∧ Hi F = some (.lst xs) ∧ NmL Hi xs ns ∧ ns.map (·.2) = cs.map (insT st k0) ∧ ns.length = k ∧ (∀ m ∈ ns, Gn' m) ∧ Hand (n + 122 + 3 * k) Hi h ∧ But h H Hi) ?_ ?_ ?_⟩
    · exact ⟨_, [], [], [], none, none, rfl, eSA, (by decide +kernel), (by decide +kernel), lawSigns7, eT, eFA, .nil, rfl, rfl, by simp, hA.mono (by omega), bA⟩
    · rintro k σ Hi hk ⟨sg, cs, xs, ns, c7, c8, rfl, eSi, lsg, nd, csg, eTi, eFi, nml, esn, lns, gns, hdi, bi⟩
      have hk' : k < many.toNat := hk
      have nkb : n + 122 + 3 * (k : Int) + 10 ≤ 1000000 := by omega
      have sgl : 0 < sg.length := by omega
      refine ⟨_, rfl, .inl ⟨rfl, _, SqL.of eSi⟩, _, rfl, _, rfl, S, _, rfl, .inl (SqL.of eSi), h, ((sg.map sg1).length : Int), n + 122 + 3 * k, rfl, by rw [List.length_map]; omega, by rw [List.length_map]; exact lt30i (by omega), hdi, by show n + 122 + 3 * (k : Int) ≤ 1000000; omega, fun j Hb j0 j1 hb bb => ?_⟩
      rw [List.length_map] at j1
      obtain ⟨jn, rfl⟩ : ∃ jn : Nat, j = (jn : Int) := ⟨j.toNat, by omega⟩
      have jl : jn < sg.length := by omega
      have eSb := bb _ _ Sh eSi
      refine ⟨S, _, (jn : Int), jn, sg1 sg[jn], rfl, rfl, eSb, by omega, by omega, by rw [List.length_map, seqIndex_of (by omega) (by omega)]; rfl, by rw [List.getElem?_map, List.getElem?_eq_getElem jl]; rfl, ?_⟩
      have er : (sg.map sg1).eraseIdx jn = (sg.eraseIdx jn).map sg1 := erase_map sg1 sg jn
      rw [er]
      have mj := csg _ (List.getElem_mem jl)
      have nd' : (cs ++ sg[jn] :: sg.eraseIdx jn).Nodup := (List.Perm.nodup_iff (List.Perm.append_left _ (perm_erase sg jn jl))).mp nd
      generalize sg[jn] = cj at mj nd' ⊢
      have eSc : (upd Hb S (.lst ((sg.eraseIdx jn).map sg1))) S = some (.lst ((sg.eraseIdx jn).map sg1)) := upd_same
      have eTc : (upd Hb S (.lst ((sg.eraseIdx jn).map sg1))) T' = some (.lst [.str t1, .str t2]) := by rw [upd_ne (Ne.symm ST)]; exact bb _ _ Th eTi
      have eFc : (upd Hb S (.lst ((sg.eraseIdx jn).map sg1))) F = some (.lst xs) := by rw [upd_ne (Ne.symm SF)]; exact bb _ _ Fh eFi
      have hc := hb.upd (Ne.symm Sh) (x := .lst ((sg.eraseIdx jn).map sg1))
      have tpb : ∀ {Hx Hy : Hp} {m : Int}, Hand m Hx h → But h Hx Hy → Tp Hx Hy := fun {Hx Hy m} hx b c ys e => b c _ (hx.ne_tup (K := K) e) e
      have pc : Tp Hi (upd Hb S (.lst ((sg.eraseIdx jn).map sg1))) := (tpb hdi bb).trans (tp_upd (fun ys z => by rw [eSb] at z; cases z))
      have bc : But h H (upd Hb S (.lst ((sg.eraseIdx jn).map sg1))) := fun b x nb e => by
        rw [upd_ne (ne_of_none e HS)]
        exact bb b x nb (bi b x nb e)
      have lsg' : (sg.eraseIdx jn).length + (k + 1) = 65 := by
        rw [List.length_eraseIdx_of_lt jl]
        omega
      have csg' : ∀ c ∈ sg.eraseIdx jn, c < 128 := fun c hc => csg c (List.mem_of_mem_eraseIdx hc)
      generalize upd Hb S (.lst ((sg.eraseIdx jn).map sg1)) = Hc at eSc eTc eFc hc pc bc ⊢
      generalize sg.eraseIdx jn = sg' at eSc lsg' csg' nd' ⊢
      clear eSb hb bb er j0 j1
      have tne : [V.str t1, V.str t2] ≠ [] := by simp
      refine ⟨_, rfl, .inl ⟨rfl, _, SqL.of eFc⟩, _, rfl, _, rfl, h, n + 122 + 3 * k + 1, _, rfl, hc, by show n + 122 + 3 * (k : Int) + 1 ≤ 1000000; omega, .inl ⟨T', _, rfl, eTc, Th, tne, by show 2 < 1000; decide, fun v1 Ha mv1 ha ba => ?_⟩⟩
      obtain ⟨tt, rfl, ltt, att⟩ : ∃ tt : Str, v1 = .str tt ∧ tt.length ≤ 3 ∧ As tt := by
        simp only [List.mem_cons, List.not_mem_nil, or_false] at mv1
        rcases mv1 with e | e
        · exact ⟨t1, e, lt1, at1⟩
        · exact ⟨t2, e, lt2, at2⟩
      have il := ins_len (c := cj) kst
      have z1 : (⟨#[cj]⟩ : Str).length = 1 := rfl
      have fit1 : (cutS st none (some (k0 : Int))).length + (⟨#[cj]⟩ : Str).length ≤ sizeLine := by rw [z1]; exact Nat.le_trans (show _ ≤ 100 by omega) (by decide)
      have fit2 : (cutS st none (some (k0 : Int)) ++ ⟨#[cj]⟩).length + (cutS st (some (k0 : Int)) none).length ≤ sizeLine := by rw [strLen_append, z1]; exact Nat.le_trans (show _ ≤ 100 by omega) (by decide)
      refine ⟨_, rfl, _, rfl, (k0 : Int), rfl, st, rfl, lsz, _, rfl, _, _, rfl, rfl, fit1, _, rfl, _, rfl, (k0 : Int), rfl, st, rfl, lsz, _, _, rfl, rfl, fit2, (by show 2 ≤ sizeLine; decide), fun t nt => ?_⟩
      have st2 := same_upd nt (o := .tup [.str tt, .str (insT st k0 cj)])
      have et : (upd Ha t (.tup [.str tt, .str (insT st k0 cj)])) t = some (.tup [.str tt, .str (insT st k0 cj)]) := upd_same
      have eFa := st2 _ _ (ba _ _ Fh eFc)
      have eSa := st2 _ _ (ba _ _ Sh eSc)
      have eTa := st2 _ _ (ba _ _ Th eTc)
      have ha' := ha.same st2
      have ba' : But h H (upd Ha t (.tup [.str tt, .str (insT st k0 cj)])) := bc.trans (ba.trans (Same.but st2 h))
      have pa : Tp Hi (upd Ha t (.tup [.str tt, .str (insT st k0 cj)])) := pc.trans ((tpb hc ba).trans (tp_same st2))
      refine ⟨F, _, _, rfl, rfl, eFa, ?_, ?_⟩
      · rw [nml.len, lns]
        exact Nat.lt_of_le_of_lt (show k ≤ 100 by omega) (by decide)
      have TF : T' ≠ F := Ne.symm FT
      refine ⟨sg', cs ++ [cj], _, ns ++ [(tt, insT st k0 cj)], _, _, rfl, by rw [upd_ne SF]; exact eSa, lsg', by rw [List.append_assoc]; exact nd', csg', by rw [upd_ne TF]; exact eTa, upd_same, ?_, by rw [List.map_append, List.map_append, esn]; rfl, by rw [List.length_append, lns]; rfl, fun m hm => ?_, (ha'.upd (Ne.symm Fh)).mono (by omega), fun b x nb e => ?_⟩
      · have pf : Tp (upd Ha t (.tup [.str tt, .str (insT st k0 cj)])) (upd (upd Ha t (.tup [.str tt, .str (insT st k0 cj)])) F (.lst (xs ++ [.ref t]))) := tp_upd (fun ys z => by rw [eFa] at z; cases z)
        exact (nml.tp (pa.trans pf)).snoc ⟨t, rfl, pf _ _ et⟩
      · rcases List.mem_append.mp hm with z | z
        · exact gns m z
        · rw [List.mem_singleton.mp z]
          refine ⟨ltt, att, ?_, insT_as kst as mj⟩
          show (insT st k0 cj).length ≤ 41
          have := il.2.2
          unfold insT
          omega
      · rw [upd_ne (ne_of_none e HF)]
        exact ba' b x nb e
    rintro σ He ⟨sg, cs, xs, ns, c7, c8, rfl, eS, lsg, nd, csg, eT', eF, nml, esn, lns, gns, hde, be⟩
    have lns' : (ns.length : Int) = many := by
      have : ns.length = many.toNat := lns
      omega
    refine ⟨_, rfl, q F xs ns He eF Fh HF nml lns' ?_ gns (hde.mono ?_) be⟩
    · rw [esn]
      exact List.pairwise_map.mpr ((List.nodup_append.mp nd).1.imp fun ne e => ne (insT_inj kst e))
    · show n + 122 + 3 * ((many.toNat : Nat) : Int) ≤ n + 400
      omega
end
end K39
set_option Elab.async false
set_option linter.all false
set_option maxRecDepth 100000
set_option maxHeartbeats 4000000
set_option pp.maxSteps 400
set_option pp.deepTerms false
namespace K39
open PySem PySem.Spec PyProof.Rows L2
open Xk Az W37
section
variable {P : Program} {w : World} {K : PySem.W.Frag} {mg : Str → Option Value} {base : Heap}
/-- all stands but the hand and a list -/
def B2 (h L : Addr) (H H' : Hp) : Prop := ∀ b o, b ≠ h → b ≠ L → H b = some o → H' b = some o
theorem ne_of_none' {H : Hp} {a b : Addr} {o : HO} (h : H a = some o) (h' : H b = none) : b ≠ a := Ne.symm (ne_of_none h h')
theorem drop_take_app {α : Type} (a b : Nat) (l : List α) (h : a ≤ b) : (l.take b).drop a ++ l.drop b = l.drop a := by
  have e := List.take_append_drop b l
  conv => rhs; rw [← e]
  by_cases hb : b ≤ l.length
  · rw [List.drop_append_of_le_length (by rw [List.length_take]; omega)]
  · rw [List.drop_of_length_le (l := l) (i := b) (by omega), List.append_nil, List.append_nil]
def spTree : Nat → Sp
  | 0 => fun _ _ _ _ => False
  | k + 1 => fun vs H Q _ => ∃ (h : Addr) (n : Int) (L : Addr) (xs : List V) (ns : List Nm), vs = [.ref h, .int ((k + 1 : Nat) : Int), .ref L] ∧ H L = some (.lst xs) ∧ L ≠ h ∧ NmL H xs ns ∧ ns ≠ [] ∧ ns.length ≤ 60 ∧ Hand n H h ∧ n + (ns.length : Int) ≤ far ∧
    ∀ v w m H', m < ns.length → H' L = some (.lst (xs.take m)) → Wk H' v w → w.nms = (ns.drop m).reverse → w.dp ≤ k + 1 → Hand (n + (ns.length - m : Nat)) H' h → B2 h L H H' → Q v H'
theorem ok_tree {f : Addr} {fd : FuncData} {k : Nat} (D : Df K mg "_law_tree" ["_law_hand_here", "_law_deep_here", "_law_left"] sTree f fd) (T : Txt mg) (cP : Ca P w K mg base 2 "_law_pick" ["_law_hand_here", "_law_some"] spPick) (cTr : Ca P w K mg base (k + 3) "_law_tree" ["_law_hand_here", "_law_deep_here", "_law_left"] (spTree k)) : FnOk P w K mg base CX0 (k + 4) f fd ["_law_hand_here", "_law_deep_here", "_law_left"] (spTree (k + 1)) := by
  refine D.fn.ok scTree (fun vs H Q E h => ?_) (fun cdv A outer s H vs Q E hr h => ?_)
  · obtain ⟨h, n, L, xs, ns, rfl, eL, nLh, nml, nne, n60, hh, hn, q⟩ := h
    rfl
  · obtain ⟨h, n, L, xs, ns, rfl, eL, nLh, nml, nne, n60, hh, hn, q⟩ := h
    refine ⟨_, (pss_cons (ps_par (i := 3) (j := 4) (by rfl) scTree.nd rfl rfl (by decide) rfl rfl (pa_cons (pe_bm0 PySem.F.plainAttrs_list PySem.F.slot_list_pop PySem.F.type_list_pop mt_pop (pv 2)) (pa_cons (pe_lst pa_nil) pa_nil)) (by rfl))
      (C8.pss_cut (ps_if (pt_cmpR op_gt (pv 1) pe_int (nomark _)) (pss_one (ps_for PassesOwn.never rfl (pi_range1 (by rfl) T.range (pa_cons (pe_ca cP hr (by omega) (by rfl) (pa_cons (pv 0) (pa_cons (pe_lst (pa_cons pe_int (pa_cons pe_int (pa_cons pe_int (pa_cons pe_int (pa_cons pe_int (pa_cons pe_int pa_nil))))))) pa_nil))) pa_nil)) (pg_name (i := 5) scTree.nd rfl (.inl rfl)) (pss_one (ps_if (pt_cmpR (Xt.op_neL0 hr.units) (pv 2) (pe_lst pa_nil) (nomark _)) (pss_one (ps_expr (pe_bm PySem.F.plainAttrs_list PySem.F.slot_list_append PySem.F.type_list_append mt_append (pv 4) (pa_cons (pe_ca cTr hr (by omega) (by rfl) (pa_cons (pv 0) (pa_cons (pe_op op_sub (pv 1) pe_int) (pa_cons (pv 2) pa_nil)))) pa_nil)))) pss_nil)))) pss_nil)
      (pss_one (ps_ret (pe_tup (pa_cons (pv 3) (pa_cons (pe_callTy call_tuple_of (by rfl) T.tuple (by decide +kernel) (pa_cons (pv 4) pa_nil)) pa_nil))))))), ?_⟩
    have fr : n + (ns.length : Int) ≤ 1000000 := hn
    have lx := nml.len
    have npos : 0 < ns.length := List.length_pos_iff.mpr nne
    obtain ⟨m0, em0⟩ : ∃ m0, ns.length = m0 + 1 := ⟨ns.length - 1, by omega⟩
    have hm : m0 < xs.length := by omega
    obtain ⟨nm, enm, nv⟩ := nml.get (List.getElem?_eq_getElem hm)
    have HL0 : ∀ {b : Addr}, H b = none → b ≠ L := fun {b} e z => by rw [z, eL] at e; cases e
    refine ⟨_, rfl, .inl ⟨rfl, _, SqL.of eL⟩, L, xs, xs[m0], rfl, rfl, eL, by rw [show xs.length - 1 = m0 by omega]; exact List.getElem?_eq_getElem hm, ?_⟩
    have edl : xs.dropLast = xs.take m0 := by rw [List.dropLast_eq_take]; congr 1; omega
    rw [edl]
    have eL1 : (upd H L (.lst (xs.take m0))) L = some (.lst (xs.take m0)) := upd_same
    have h1 := hh.upd (Ne.symm nLh) (x := .lst (xs.take m0))
    have b1 : B2 h L H (upd H L (.lst (xs.take m0))) := fun b o _ nb e => by rw [upd_ne nb]; exact e
    generalize upd H L (.lst (xs.take m0)) = H1 at eL1 h1 b1 ⊢
    refine ⟨(by show 0 ≤ sizeLine; decide), fun P' nP => ⟨_, _, rfl, ?_⟩⟩
    have sP := same_upd nP (o := .lst [])
    have eP : (upd H1 P' (.lst [])) P' = some (.lst []) := upd_same
    have PL : P' ≠ L := ne_of_none' eL1 nP
    have Ph := h1.fresh nP
    generalize upd H1 P' (.lst []) = H2 at sP eP ⊢
    have HP : H P' = none := by
      cases z : H P' with
      | none => rfl
      | some o => have := b1 _ _ Ph PL z; rw [nP] at this; cases this
    have b2 : B2 h L H H2 := fun b o e1 e2 e => sP _ _ (b1 b o e1 e2 e)
    have eL2 := sP _ _ eL1
    have h2 := h1.same sP
    have nmv : NmV H xs[m0] nm := nv
    have tpB : ∀ {Hx : Hp}, B2 h L H Hx → Tp H Hx := fun {Hx} b c ys e => b c _ (hh.ne_tup (K := K) e) (fun z => by rw [z, eL] at e; cases e) e
    clear sP b1 h1 eL1 nP
    refine ⟨fun σ Hx => ∃ (ys : List V) (ws : List W) (m : Nat) (c5 : Option V), σ = [some (.ref h), some (.int ((k + 1 : Nat) : Int)), some (.ref L), some xs[m0], some (.ref P'), c5] ∧ Hx P' = some (.lst ys) ∧ WkL Hx ys ws ∧ m ≤ m0 ∧ ys.length ≤ 60 ∧ Hx L = some (.lst (xs.take m)) ∧ nm :: nmsL ws = (ns.drop m).reverse ∧ dpL ws ≤ k ∧ Hand (n + (ns.length - m : Nat)) Hx h ∧ B2 h L H Hx, ?_, ?_⟩
    · have dr0 : (ns.drop m0).reverse = [nm] := by
        have hl : m0 < ns.length := by omega
        rw [List.drop_eq_getElem_cons hl, List.drop_of_length_le (by omega)]
        rw [List.getElem?_eq_getElem hl] at enm
        cases enm
        rfl
      refine ⟨_, rfl, _, 1, rfl, rfl, _, rfl, ite2 (fun e => ?_) (fun e => ?_)⟩
      · have k1 : 1 ≤ k := by
          have : ((k + 1 : Nat) : Int) > 1 := of_decide_eq_true e
          omega
        obtain ⟨j, rfl⟩ : ∃ j, k = j + 1 := ⟨k - 1, by omega⟩
        refine ⟨_, rfl, (by show 6 ≤ sizeLine; decide), fun p np => ?_⟩
        have sp := same_upd np (o := .lst [.int 0, .int 1, .int 2, .int 3, .int 4, .int 2])
        have hp := h2.same sp
        refine ⟨h, n, _, rfl, hp, by show n ≤ 1000000; omega, .inl ⟨p, _, rfl, upd_same, h2.fresh np, by simp, by show 6 < 1000; decide, fun v H3 mv h3 b3 => ?_⟩⟩
        obtain ⟨r, rfl, r0, r1⟩ : ∃ r : Int, v = .int r ∧ 0 ≤ r ∧ r ≤ 4 := by
          simp only [List.mem_cons, List.not_mem_nil, or_false] at mv
          rcases mv with e | e | e | e | e | e <;> exact ⟨_, e, by decide, by decide⟩
        have b3' : B2 h L H H3 := fun b o e1 e2 e => b3 b o e1 (sp _ _ (b2 b o e1 e2 e))
        have eP3 := b3 _ _ Ph (sp _ _ eP)
        have eL3 := b3 _ _ nLh (sp _ _ eL2)
        clear sp hp b3 mv
        refine ⟨r, rfl, by omega, by omega, for_range (lo := 0) (n := r.toNat) (fun i σ Hx => ∃ (ys : List V) (ws : List W) (m : Nat) (c5 : Option V), σ = [some (.ref h), some (.int ((j + 1 + 1 : Nat) : Int)), some (.ref L), some xs[m0], some (.ref P'), c5] ∧ Hx P' = some (.lst ys) ∧ WkL Hx ys ws ∧ m ≤ m0 ∧ ys.length ≤ i ∧ Hx L = some (.lst (xs.take m)) ∧ nm :: nmsL ws = (ns.drop m).reverse ∧ dpL ws ≤ j + 1 ∧ Hand (n + (ns.length - m : Nat)) Hx h ∧ B2 h L H Hx) ?_ ?_ ?_⟩
        · exact ⟨[], [], m0, none, rfl, eP3, .nil, Nat.le_refl _, Nat.le_refl _, eL3, by rw [dr0]; rfl, by simp [dpL], h3.mono (by omega), b3'⟩
        · rintro i σ Hx hi ⟨ys, ws, m, c5, rfl, ePx, wl, mm, ly, eLx, enw, dl, hx, bx⟩
          have i4 : i < r.toNat := hi
          refine ⟨_, rfl, (by show 0 ≤ sizeLine; decide), fun z nz => ?_⟩
          have sz := same_upd nz (o := .lst [])
          refine ⟨L, z, _, rfl, rfl, sz _ _ eLx, upd_same, _, rfl, ?_⟩
          have zL : z ≠ L := ne_of_none' eLx nz
          have zP : z ≠ P' := ne_of_none' ePx nz
          generalize upd Hx z (.lst []) = Hy at sz ⊢
          have bxy : B2 h L H Hy := fun b o e1 e2 e => sz _ _ (bx b o e1 e2 e)
          cases em : (xs.take m).isEmpty
          · refine iteT ?_
            have mpos : 0 < m := by
              rcases Nat.eq_zero_or_pos m with z0 | z0
              · rw [z0] at em; cases em
              · exact z0
            have ltk : (ns.take m).length = m := by rw [List.length_take]; omega
            refine ⟨_, rfl, .inl ⟨rfl, _, SqL.of (sz _ _ ePx)⟩, _, rfl, _, rfl, _, 1, rfl, rfl, _, rfl, ?_⟩
            refine ⟨h, n + (ns.length - m : Nat), L, xs.take m, ns.take m, (by show [V.ref h, V.int (((j + 1 + 1 : Nat) : Int) - 1), .ref L] = [V.ref h, .int ((j + 1 : Nat) : Int), .ref L]; rw [show ((j + 1 + 1 : Nat) : Int) - 1 = ((j + 1 : Nat) : Int) by omega]), sz _ _ eLx, nLh, (nml.take m).tp (tpB bxy), (fun z0 => by rw [z0] at ltk; simp at ltk; omega), by omega, hx.same sz, ?_, fun v w m' Hz hm' eLz wk enm' dw hz bz => ?_⟩
            · show n + ((ns.length - m : Nat) : Int) + ((ns.take m).length : Int) ≤ 1000000
              omega
            · have ePz := bz _ _ Ph PL (sz _ _ ePx)
              have bz' : B2 h L H Hz := fun b o e1 e2 e => bz b o e1 e2 (bxy b o e1 e2 e)
              refine ⟨P', ys, v, rfl, rfl, ePz, Nat.lt_of_le_of_lt (show ys.length ≤ 100 by omega) (by decide), ?_⟩
              have up : Tp Hz (upd Hz P' (.lst (ys ++ [v]))) := tp_upd (fun us z => by rw [ePz] at z; cases z)
              have bP : B2 h L H (upd Hz P' (.lst (ys ++ [v]))) := fun b o e1 e2 e => by
                rw [upd_ne (ne_of_none e HP)]
                exact bz' b o e1 e2 e
              have txz : Tp Hx Hz := fun c us e => bz c _ (hx.ne_tup (K := K) e) (fun z => by rw [z, eLx] at e; cases e) (sz _ _ e)
              rw [ltk] at hm'
              refine ⟨ys ++ [v], ws ++ [w], m', _, rfl, upd_same, (wl.tp (txz.trans up)).snoc (wk.tp up), by omega, ?_, ?_, ?_, dpL_app ws w (j + 1) dl (Nat.le_trans dw (Nat.le_refl _)), (hz.upd (Ne.symm Ph)).mono ?_, bP⟩
              · rw [List.length_append]; exact Nat.add_le_add_right ly 1
              · rw [upd_ne (Ne.symm PL), eLz, List.take_take, Nat.min_eq_left (by omega)]
              · rw [nmsL_app, nmsL, nmsL, List.append_nil, ← List.cons_append, enw, enm', ← List.reverse_append, drop_take_app m' m ns (by omega)]
              · rw [ltk]
                omega
          · refine iteF ⟨ys, ws, m, _, rfl, sz _ _ ePx, wl.tp (tp_same sz), mm, Nat.le_succ_of_le ly, sz _ _ eLx, enw, dl, hx.same sz, bxy⟩
        · rintro σ Hx ⟨ys, ws, m, c5, rfl, r1, r2, r3, r4, r5⟩
          exact ⟨ys, ws, m, c5, rfl, r1, r2, r3, Nat.le_trans r4 (by omega), r5⟩
      · exact ⟨[], [], m0, none, rfl, eP, .nil, Nat.le_refl _, by simp, eL2, by rw [dr0]; rfl, by simp [dpL], h2.mono (by omega), b2⟩
    rintro σ Hx ⟨ys, ws, m, c5, rfl, ePx, wl, mm, ly, eLx, enw, dl, hx, bx⟩
    refine ⟨_, rfl, _, rfl, P', _, rfl, .inl ⟨SqL.of ePx, fun p np => ?_⟩⟩
    have s1 := same_upd np (o := .tup ys)
    have e1 : (upd Hx p (.tup ys)) p = some (.tup ys) := upd_same
    generalize upd Hx p (.tup ys) = Hy at s1 e1 ⊢
    refine ⟨(by show 2 ≤ sizeLine; decide), fun t nt => ?_⟩
    have s2 := same_upd nt (o := .tup [xs[m0], .ref p])
    have e2 : (upd Hy t (.tup [xs[m0], .ref p])) t = some (.tup [xs[m0], .ref p]) := upd_same
    generalize upd Hy t (.tup [xs[m0], .ref p]) = Hz at s2 e2 ⊢
    have tz : Tp Hx Hz := (tp_same s1).trans (tp_same s2)
    refine q _ (.mk nm ws) m Hz (by omega) (s2 _ _ (s1 _ _ eLx)) (.mk e2 (nmv.tp ((tpB bx).trans tz)) (s2 _ _ e1) (wl.tp tz)) ?_ ?_ ((hx.same s1).same s2) (fun b o e1 e2 e => s2 _ _ (s1 _ _ (bx b o e1 e2 e)))
    · rw [W.nms]; exact enw
    · rw [W.dp]; omega
theorem tree_fn {f : Addr} {fd : FuncData} (D : Df K mg "_law_tree" ["_law_hand_here", "_law_deep_here", "_law_left"] sTree f fd) (T : Txt mg) (cP : Ca P w K mg base 2 "_law_pick" ["_law_hand_here", "_law_some"] spPick) :
    ∀ k, FnOk P w K mg base CX0 (k + 3) f fd ["_law_hand_here", "_law_deep_here", "_law_left"] (spTree k)
  | 0 => ⟨fun _ _ _ _ h => h.elim, fun _ _ _ _ _ _ _ _ _ _ _ _ _ h => h.elim⟩
  | k + 1 => ok_tree D T cP (D.ca (tree_fn D T cP k))
end
end K39
set_option Elab.async false
set_option linter.all false
set_option maxRecDepth 100000
set_option maxHeartbeats 4000000
set_option pp.maxSteps 400
set_option pp.deepTerms false
namespace K39
open PySem PySem.Spec PyProof.Rows L2
open Xk Az W37
section
variable {P : Program} {w : World} {K : PySem.W.Frag} {mg : Str → Option Value} {base : Heap}
theorem _root_.W37.W.dp_pos : ∀ w : W, 1 ≤ w.dp
  | .mk _ _ => by rw [W.dp]; omega
theorem nmsL_take : ∀ (i : Nat) (ps : List W), (nmsL (ps.take i)).length ≤ (nmsL ps).length
  | 0, ps => by rw [List.take_zero, nmsL]; simp
  | _ + 1, [] => by simp [nmsL]
  | i + 1, w :: r => by
    rw [List.take_succ_cons, nmsL, nmsL, List.length_append, List.length_append]
    have := nmsL_take i r
    omega
theorem nmsL_mem : ∀ {ps : List W} {w : W}, w ∈ ps → w.nms.length ≤ (nmsL ps).length
  | x :: r, w, h => by
    rw [nmsL, List.length_append]
    rcases List.mem_cons.mp h with z | z
    · rw [z]; omega
    · have := nmsL_mem z
      omega
theorem cutV_take (xs : List V) (k : Nat) : cutV xs none (some (k : Int)) = xs.take k := by
  unfold cutV
  have e1 : HT.sIx xs.length 0 none = 0 := rfl
  have e2 : HT.sIx xs.length xs.length (some (k : Int)) = min k xs.length := by rw [HT.sIx_nat]
  rw [e1, e2, List.drop_zero, Nat.sub_zero]
  by_cases h : k ≤ xs.length
  · rw [Nat.min_eq_left h]
  · rw [Nat.min_eq_right (by omega), List.take_of_length_le (Nat.le_refl _), List.take_of_length_le (by omega)]
theorem cutV_drop (xs : List V) (k : Nat) (h : k ≤ xs.length) : cutV xs (some (k : Int)) none = xs.drop k := by
  unfold cutV
  have e1 : HT.sIx xs.length 0 (some (k : Int)) = min k xs.length := by rw [HT.sIx_nat]
  have e2 : HT.sIx xs.length xs.length none = xs.length := rfl
  rw [e1, e2, Nat.min_eq_left h, List.take_of_length_le (by rw [List.length_drop]; omega)]
/-- what is found in another list, each at most once -/
theorem sub_names (ns : List Nm) (k m : Nat) : List.Sublist ((((ns.take k).drop m).reverse ++ ns.drop k).map fun x => x) ((ns.take k).reverse ++ ns.drop k) := by
  rw [List.map_id']
  exact List.Sublist.append_right (List.Sublist.reverse (List.drop_sublist m _)) _
theorem rev_nodup {ns : List Nm} {k : Nat} {ys : List Nm} (h : (ns.map (·.2)).Nodup) (s : List.Sublist ys ((ns.take k).reverse ++ ns.drop k)) : (ys.map (·.2)).Nodup := by
  refine (List.Sublist.map _ s).nodup ?_
  have p : ((ns.take k).reverse ++ ns.drop k).Perm ns := by
    conv => rhs; rw [← List.take_append_drop k ns]
    exact List.Perm.append_right _ (List.reverse_perm _)
  exact (List.Perm.nodup_iff (p.map _)).mpr h
def spAll : Nat → Sp
  | 0 => fun _ _ _ _ => False
  | k + 1 => fun vs H Q _ => ∃ (v : V) (w : W), vs = [v] ∧ Wk H v w ∧ w.dp ≤ k + 1 ∧ w.nms.length ≤ 1000 ∧ ∀ L xs H', H' L = some (.lst xs) → NmL H' xs w.nms → H L = none → L2.Same H H' → Q (.ref L) H'
theorem ok_all {f : Addr} {fd : FuncData} {k : Nat} (D : Df K mg "_law_all" ["_law_work_here"] sAll f fd) (T : Txt mg) (cAl : Ca P w K mg base (k + 1) "_law_all" ["_law_work_here"] (spAll k)) : FnOk P w K mg base CX0 (k + 2) f fd ["_law_work_here"] (spAll (k + 1)) := by
  refine D.fn.ok scAll (fun vs H Q E h => ?_) (fun cdv A outer s H vs Q E hr h => ?_)
  · obtain ⟨v, w, rfl, wk, hd, hl, q⟩ := h
    rfl
  · obtain ⟨v, w, rfl, wk, hd, hl, q⟩ := h
    refine ⟨_, (pss_cons (ps_set (i := 1) scAll.nd rfl (.inl rfl) (pe_lst (pa_cons (pe_ix ix_tup (pv 0) pe_int (fun _ _ => rfl)) pa_nil)))
      (pss_cons (ps_for PassesOwn.never rfl (pi_tup (pe_ix ix_tup (pv 0) pe_int (fun _ _ => rfl))) (pg_name (i := 2) scAll.nd rfl (.inl rfl)) (pss_one (ps_expr (pe_bm PySem.F.plainAttrs_list PySem.F.slot_list_extend PySem.F.type_list_extend mt_extend (pv 1) (pa_cons (pe_ca cAl hr (by omega) (by rfl) (pa_cons (pv 2) pa_nil)) pa_nil)))))
      (pss_one (ps_ret (pv 1))))), ?_⟩
    cases wk with
    | @mk t p v0 nm xs ps e1 nv e2 wl =>
    rw [W.dp] at hd
    rw [W.nms, List.length_cons] at hl
    refine ⟨_, rfl, t, _, 0, v0, rfl, rfl, SqT.of e1, rfl, (by show 1 ≤ sizeLine; decide), fun F nF => ?_⟩
    have sF := same_upd nF (o := .lst [v0])
    have eF : (upd H F (.lst [v0])) F = some (.lst [v0]) := upd_same
    generalize upd H F (.lst [v0]) = H1 at sF eF ⊢
    refine ⟨_, rfl, t, _, 1, .ref p, rfl, rfl, SqT.of (sF _ _ e1), rfl, p, rfl, ⟨_, SqT.of (sF _ _ e2)⟩, for_tup (K := K) (a := p) (xs := xs) (fun i σ Hx => ∃ (ys : List V) (c2 : Option V), σ = [some (.ref t), some (.ref F), c2] ∧ Hx F = some (.lst ys) ∧ NmL Hx ys (nm :: nmsL (ps.take i)) ∧ L2.Same H Hx) ?_ ?_ ?_ ?_⟩
    · exact ⟨[v0], none, rfl, eF, .cons (nv.tp (tp_same sF)) (by rw [List.take_zero, nmsL]; exact .nil), sF⟩
    · rintro i σ Hx _ ⟨ys, c2, rfl, eFx, nml, sx⟩
      exact SqT.of (sx _ _ e2)
    · rintro i x σ Hx hx ⟨ys, c2, rfl, eFx, nml, sx⟩
      obtain ⟨w', ew, wk'⟩ := wl.get hx
      have mw := List.mem_of_getElem? ew
      have dw := dpL_mem mw
      have le := nml.len
      have nle : (nm :: nmsL (ps.take i)).length ≤ 1001 := by
        have := nmsL_take i ps
        rw [List.length_cons]; omega
      have nlw := nmsL_mem mw
      have dpos := W.dp_pos w'
      obtain ⟨j, rfl⟩ : ∃ j, k = j + 1 := ⟨k - 1, by omega⟩
      refine ⟨_, rfl, .inl ⟨rfl, _, SqL.of eFx⟩, _, rfl, x, w', rfl, wk'.tp (tp_same sx), by omega, by omega, fun L2' xs2 Hy eL2 nm2 nL2 sy => ?_⟩
      have eFy := sy _ _ eFx
      refine ⟨F, L2', ys, xs2, rfl, rfl, eFy, eL2, ?_, ?_⟩
      · rw [nml.len, nm2.len]
        exact Nat.le_trans (show _ ≤ 3000 by omega) (by decide)
      have up : Tp Hy (upd Hy F (.lst (ys ++ xs2))) := tp_upd (fun us z => by rw [eFy] at z; cases z)
      refine ⟨ys ++ xs2, _, rfl, upd_same, ?_, fun b o e => ?_⟩
      · have : nm :: nmsL (ps.take (i + 1)) = (nm :: nmsL (ps.take i)) ++ w'.nms := by
          rw [List.take_succ, ew, nmsL_app]
          simp [nmsL]
        rw [this]
        exact (nml.tp ((tp_same sy).trans up)).app (nm2.tp up)
      · rw [upd_ne (ne_of_none e nF)]
        exact sy _ _ (sx _ _ e)
    · rintro σ Hx ⟨ys, c2, rfl, eFx, nml, sx⟩
      refine ⟨_, rfl, q F ys Hx eFx ?_ nF sx⟩
      rw [W.nms]
      have l := wl.len
      rw [List.take_of_length_le (by omega)] at nml
      exact nml
theorem all_fn {f : Addr} {fd : FuncData} (D : Df K mg "_law_all" ["_law_work_here"] sAll f fd) (T : Txt mg) : ∀ k, FnOk P w K mg base CX0 (k + 1) f fd ["_law_work_here"] (spAll k)
  | 0 => ⟨fun _ _ _ _ h => h.elim, fun _ _ _ _ _ _ _ _ _ _ _ _ _ h => h.elim⟩
  | k + 1 => ok_all D T (D.ca (all_fn D T k))
theorem fn_all {k N : Nat} {f : Addr} {fd : FuncData} {ps : List Str} {sp : Nat → Sp} (F : ∀ n, n ≤ N → FnOk P w K mg base CX0 k f fd ps (sp n)) : FnOk P w K mg base CX0 k f fd ps (fun vs H Q E => ∃ n, n ≤ N ∧ sp n vs H Q E) :=
  ⟨fun vs H Q E ⟨n, h, q⟩ => (F n h).len vs H Q E q, fun A outer s H args us vs Q E hr e0 hb hv ⟨n, h, q⟩ => (F n h).run A outer s H args us vs Q E hr e0 hb hv q⟩
def spWork : Sp := fun vs H Q _ => ∃ (h : Addr) (n many : Int), vs = [.ref h, .int many] ∧ 1 ≤ many ∧ many ≤ 50 ∧ Hand n H h ∧ n + 3000 ≤ far ∧
  ∀ (t A O : Addr) (v : V) (w : W) (xa xo : List V) (no : List Nm) H', H' t = some (.tup [v, .ref A, .ref O]) → Wk H' v w → w.dp ≤ 5 → H' A = some (.lst xa) → A ≠ h → H A = none → NmL H' xa w.nms → H' O = some (.lst xo) → O ≠ h → H O = none → NmL H' xo no → no.length = 3 →
    ((w.nms ++ no).map (·.2)).Nodup → (∀ m ∈ w.nms ++ no, Gn' m) → (w.nms.length : Int) ≤ many → Hand (n + 600) H' h → But h H H' → Q (.ref t) H'
theorem ok_work {f : Addr} {fd : FuncData} (D : Df K mg "_law_work" ["_law_hand_here", "_law_many"] sWork f fd) (T : Txt mg) (cT : Ca P w K mg base 1 "_law_take" ["_law_hand_here", "_law_many"] spTake) (cN : Ca P w K mg base 4 "_law_names" ["_law_hand_here", "_law_many"] spNames) (cTA : Ca P w K mg base 8 "_law_tree" ["_law_hand_here", "_law_deep_here", "_law_left"] (fun vs H Q E => ∃ n, n ≤ 5 ∧ spTree n vs H Q E)) (cAA : Ca P w K mg base 6 "_law_all" ["_law_work_here"] (spAll 5)) : FnOk P w K mg base CX0 9 f fd ["_law_hand_here", "_law_many"] spWork := by
  refine D.fn.ok scWork (fun vs H Q E h => ?_) (fun cdv A outer s H vs Q E hr h => ?_)
  · obtain ⟨h, n, many, rfl, m0, m1, hh, hn, q⟩ := h
    rfl
  · obtain ⟨h, n, many, rfl, m0, m1, hh, hn, q⟩ := h
    refine ⟨_, (pss_cons (ps_set (i := 2) scWork.nd rfl (.inl rfl) (pe_ca cN hr (by decide) (by rfl) (pa_cons (pv 0) (pa_cons (pe_op op_add (pv 1) pe_int) pa_nil))))
      (pss_cons (ps_set (i := 3) scWork.nd rfl (.inl rfl) (pe_slice sl_list (pv 2) po_none (po_some (pv 1))))
      (pss_cons (ps_set (i := 4) scWork.nd rfl (.inl rfl) (pe_ca cTA hr (by decide) (by rfl) (pa_cons (pv 0) (pa_cons (pe_op op_add pe_int (pe_ca cT hr (by decide) (by rfl) (pa_cons (pv 0) (pa_cons pe_int pa_nil)))) (pa_cons (pv 3) pa_nil)))))
      (pss_one (ps_ret (pe_tup (pa_cons (pv 4) (pa_cons (pe_ca cAA hr (by decide) (by rfl) (pa_cons (pv 4) pa_nil)) (pa_cons (pe_slice sl_list (pv 2) (po_some (pv 1)) po_none) pa_nil))))))))), ?_⟩
    have fr : n + 3000 ≤ 1000000 := hn
    obtain ⟨mn, rfl⟩ : ∃ mn : Nat, many = (mn : Int) := ⟨many.toNat, by omega⟩
    refine ⟨_, rfl, _, rfl, _, 3, rfl, rfl, h, n, _, rfl, by omega, by omega, hh, by show n + 2000 ≤ 1000000; omega, fun L xs ns H1 eL nLh nL nml lns nd gn h1 b1 => ?_⟩
    refine ⟨_, rfl, _, rfl, _, rfl, L, xs, rfl, SqL.of eL, fun F nF => ?_⟩
    have lx := nml.len
    have ct : cutV xs none (some (mn : Int)) = xs.take mn := cutV_take xs mn
    rw [ct]
    have sF := same_upd nF (o := .lst (xs.take mn))
    have eF : (upd H1 F (.lst (xs.take mn))) F = some (.lst (xs.take mn)) := upd_same
    have Fh := h1.fresh nF
    generalize upd H1 F (.lst (xs.take mn)) = H2 at sF eF ⊢
    have h2 := h1.same sF
    have b2 : But h H H2 := b1.trans (Same.but sF h)
    have eL2 := sF _ _ eL
    have LF : L ≠ F := ne_of_none eL nF
    have HF : H F = none := b1.free Fh nF
    refine ⟨_, rfl, _, rfl, h, 5, n + 400, rfl, by decide, by decide, h2, by show n + 400 ≤ 1000000; omega, fun d H3 d0 d1 h3 b3 => ?_⟩
    have eF3 := b3 _ _ Fh eF
    have eL3 := b3 _ _ nLh eL2
    have b03 := b2.trans b3
    have tpB : ∀ {Hx Hy : Hp} {m : Int}, Hand m Hx h → But h Hx Hy → Tp Hx Hy := fun {Hx Hy m} hx b c ys e => b c _ (hx.ne_tup (K := K) e) e
    have nm3 := nml.tp ((tp_same sF).trans (tpB h2 b3))
    obtain ⟨k, rfl⟩ : ∃ k : Nat, d = (k : Int) := ⟨d.toNat, by omega⟩
    have ltm : (ns.take mn).length = mn := by rw [List.length_take]; omega
    refine ⟨1, (k : Int), rfl, rfl, _, rfl, k + 1, by omega, h, n + 401, F, xs.take mn, ns.take mn, (by show [V.ref h, V.int (1 + (k : Int)), .ref F] = [V.ref h, .int ((k + 1 : Nat) : Int), .ref F]; rw [show 1 + (k : Int) = ((k + 1 : Nat) : Int) by omega]), eF3, Fh, nm3.take mn, (fun z => by rw [z] at ltm; simp at ltm; omega), by omega, h3.mono (by omega), ?_, fun v w m H4 mlt eF4 wk enm dw h4 b4 => ?_⟩
    · show n + 401 + ((ns.take mn).length : Int) ≤ 1000000
      omega
    rw [ltm] at mlt
    have b04 : But h H H4 := fun b o e1 e => b4 b o e1 (ne_of_none e HF) (b03 b o e1 e)
    have t34 : Tp H3 H4 := fun c us e => b4 c _ (h3.ne_tup (K := K) e) (fun z => by rw [z, eF3] at e; cases e) e
    have eL4 := b4 _ _ nLh LF eL3
    have nm4 := nm3.tp t34
    have lw : w.nms.length ≤ mn := by
      rw [enm, List.length_reverse, List.length_drop, ltm]; omega
    refine ⟨_, rfl, _, rfl, v, w, rfl, wk, (by show w.dp ≤ 5; omega), by omega, fun A xa H5 eA nmA nA s5 => ?_⟩
    refine ⟨_, rfl, _, rfl, _, rfl, L, xs, rfl, SqL.of (s5 _ _ eL4), fun O nO => ?_⟩
    have cd : cutV xs (some (mn : Int)) none = xs.drop mn := cutV_drop xs mn (by omega)
    rw [cd]
    have sO := same_upd nO (o := .lst (xs.drop mn))
    have eO : (upd H5 O (.lst (xs.drop mn))) O = some (.lst (xs.drop mn)) := upd_same
    have Ah := h4.fresh nA
    have Oh := (h4.same s5).fresh nO
    generalize upd H5 O (.lst (xs.drop mn)) = H6 at sO eO ⊢
    refine ⟨(by show 3 ≤ sizeLine; decide), fun t nt => ?_⟩
    have s7 := same_upd nt (o := .tup [v, .ref A, .ref O])
    have e7 : (upd H6 t (.tup [v, .ref A, .ref O])) t = some (.tup [v, .ref A, .ref O]) := upd_same
    generalize upd H6 t (.tup [v, .ref A, .ref O]) = H7 at s7 e7 ⊢
    have s57 := sO.trans s7
    have s47 := s5.trans s57
    have HA : H A = none := b04.free Ah nA
    have HO : H O = none := b04.free Oh (by
      cases z : H4 O with
      | none => rfl
      | some o => have := s5 _ _ z; rw [nO] at this; cases this)
    refine q t A O v w xa (xs.drop mn) (ns.drop mn) H7 e7 (wk.tp (tp_same s47)) (by omega) (s57 _ _ eA) Ah HA (nmA.tp (tp_same s57)) (s7 _ _ eO) Oh HO ((nm4.drop mn).tp (tp_same s47)) (by rw [List.length_drop]; omega) ?_ ?_ (by omega) ((h4.same s47).mono ?_) (b04.trans (Same.but s47 h))
    · rw [enm]
      have sb := sub_names ns mn m
      rw [List.map_id'] at sb
      exact rev_nodup nd sb
    · intro x hx
      refine gn x ?_
      rw [enm] at hx
      rcases List.mem_append.mp hx with z | z
      · exact List.mem_of_mem_take (List.mem_of_mem_drop (List.mem_reverse.mp z))
      · exact List.mem_of_mem_drop z
    · rw [ltm]
      omega
end
end K39
set_option Elab.async false
set_option linter.all false
set_option maxRecDepth 100000
set_option maxHeartbeats 4000000
set_option pp.maxSteps 400
set_option pp.deepTerms false
namespace K39
open PySem PySem.Spec PyProof.Rows L2
open Xk Az W37
section
variable {P : Program} {w : World} {K : PySem.W.Frag} {mg : Str → Option Value} {base : Heap}
def isStr : PyData → Bool
  | .str _ => true
  | _ => false
def isTup : PyData → Bool
  | .tuple _ => true
  | _ => false
theorem z_str : ∀ d : PyData, PySem.W.kitOne K (.type (kindD d)) (.type "str") = some (isStr d)
  | .none => kit_ty (a := "NoneType") (b := "str") (r := false) (by decide +kernel)
  | .bool _ => kit_ty (a := "bool") (b := "str") (r := false) (by decide +kernel)
  | .int _ => kit_ty (a := "int") (b := "str") (r := false) (by decide +kernel)
  | .str _ => kit_ty (a := "str") (b := "str") (r := true) (by decide +kernel)
  | .list _ => kit_ty (a := "list") (b := "str") (r := false) (by decide +kernel)
  | .tuple _ => kit_ty (a := "tuple") (b := "str") (r := false) (by decide +kernel)
  | .dict _ => kit_ty (a := "dict") (b := "str") (r := false) (by decide +kernel)
theorem z_tup : ∀ d : PyData, PySem.W.kitOne K (.type (kindD d)) (.type "tuple") = some (isTup d)
  | .none => kit_ty (a := "NoneType") (b := "tuple") (r := false) (by decide +kernel)
  | .bool _ => kit_ty (a := "bool") (b := "tuple") (r := false) (by decide +kernel)
  | .int _ => kit_ty (a := "int") (b := "tuple") (r := false) (by decide +kernel)
  | .str _ => kit_ty (a := "str") (b := "tuple") (r := false) (by decide +kernel)
  | .list _ => kit_ty (a := "list") (b := "tuple") (r := false) (by decide +kernel)
  | .tuple _ => kit_ty (a := "tuple") (b := "tuple") (r := true) (by decide +kernel)
  | .dict _ => kit_ty (a := "dict") (b := "tuple") (r := false) (by decide +kernel)
theorem dz_len {H : Hp} : ∀ {xs : List V} {ds : List PyData}, DzAll K H xs ds → xs.length = ds.length
  | _, _, .nil => rfl
  | _, _, .cons _ r => by rw [List.length_cons, List.length_cons, dz_len r]
theorem dz_get {H : Hp} : ∀ {xs : List V} {ds : List PyData} {i : Nat} {x : V}, DzAll K H xs ds → xs[i]? = some x → ∃ d, ds[i]? = some d ∧ Dz K H x d
  | _, _, 0, _, .cons h r, e => by
    rw [List.getElem?_cons_zero] at e
    cases e
    exact ⟨_, rfl, h⟩
  | _, _, i + 1, _, .cons h r, e => by
    rw [List.getElem?_cons_succ] at e
    obtain ⟨n, e1, q⟩ := dz_get r e
    exact ⟨n, by rw [List.getElem?_cons_succ]; exact e1, q⟩
def isI : V → Bool
  | .int _ => true
  | _ => false
def wiV (v : V) (a b : Int) : Bool := match v with
  | .int i => decide (a ≤ i) && decide (i ≤ b)
  | _ => false
/-- the part to which numbers lead -/
def led : W → List PyData → Option W
  | w, [] => some w
  | .mk n ps, .int i :: r => if 0 ≤ i then match ps[i.toNat]? with
    | some u => led u r
    | none => none
    else none
  | _, _ :: _ => none
def ledD (w : W) : PyData → Option W
  | .tuple ds => led w ds
  | _ => none
theorem led_app : ∀ (w : W) (xs ys : List PyData), led w (xs ++ ys) = (led w xs).bind fun u => led u ys
  | w, [], ys => by cases w; rfl
  | .mk n ps, .int i :: r, ys => by
    rw [List.cons_append, led, led]
    by_cases h : 0 ≤ i
    · rw [if_pos h, if_pos h]
      cases e : ps[i.toNat]? with
      | none => rfl
      | some u => exact led_app u r ys
    · rw [if_neg h, if_neg h]; rfl
  | .mk n ps, .none :: r, ys | .mk n ps, .bool _ :: r, ys | .mk n ps, .str _ :: r, ys | .mk n ps, .list _ :: r, ys | .mk n ps, .tuple _ :: r, ys | .mk n ps, .dict _ :: r, ys => rfl
theorem wk_pair {H : Hp} {v : V} {w : W} (h : Wk H v w) : ∃ (t p : Addr) (vn : V) (zs : List V) (n : Nm) (ps : List W), v = .ref t ∧ w = .mk n ps ∧ H t = some (.tup [vn, .ref p]) ∧ H p = some (.tup zs) ∧ WkL H zs ps ∧ NmV H vn n := by
  cases h with
  | mk e1 hn e2 r => exact ⟨_, _, _, _, _, _, rfl, rfl, e1, e2, r, hn⟩
/-- what stands there, or None -/
def WO (H : Hp) (v : V) : Option W → Prop
  | none => v = .non
  | some u => Wk H v u
def spWhole (K : PySem.W.Frag) : Sp := fun vs H Q _ => ∃ (v : V) (d : PyData), vs = [v] ∧ Dz K H v d ∧ Q (.bl (isI v)) H
def spWithin (K : PySem.W.Frag) : Sp := fun vs H Q _ => ∃ (v : V) (d : PyData) (a b : Int), vs = [v, .int a, .int b] ∧ Dz K H v d ∧ Q (.bl (wiV v a b)) H
def spLed (K : PySem.W.Frag) : Sp := fun vs H Q _ => ∃ (v p : V) (w : W) (d : PyData), vs = [v, p] ∧ Wk H v w ∧ Dz K H p d ∧ (∀ ds, d = .tuple ds → ds.length ≤ 1000) ∧ ∀ v', WO H v' (ledD w d) → Q v' H
theorem ok_whole {f : Addr} {fd : FuncData} (D : Df K mg "is_whole" ["thing"] sIsWhole f fd) (T : Txt mg) : FnOk P w K mg base CX0 1 f fd ["thing"] (spWhole K) := by
  refine D.fn.ok scIsWhole (fun vs H Q E h => ?_) (fun cdv A outer s H vs Q E hr h => ?_)
  · obtain ⟨v, d, rfl, h, q⟩ := h
    rfl
  · obtain ⟨v, d, rfl, h, q⟩ := h
    refine ⟨_, (pss_one (ps_ret (pe_and (pe_callB call_isi (by rfl) T.isi (by decide +kernel) (pa_cons (pv 0) (pa_cons (pe_bltn (v := .ty "int") (by rfl) T.int (by decide +kernel) rfl) pa_nil))) (pe_one (pe_not (pe_callB call_isi (by rfl) T.isi (by decide +kernel) (pa_cons (pv 0) (pa_cons (pe_bltn (v := .ty "bool") (by rfl) T.bool (by decide +kernel) rfl) pa_nil)))))))), ?_⟩
    cases h with
    | int i =>
      refine ⟨_, rfl, _, _, _, _, true, rfl, .ty _, (.base (.int i)), kit_ty (by decide +kernel), true, rfl, iteT ?_⟩
      exact ⟨_, rfl, _, _, _, _, false, rfl, .ty _, (.base (.int i)), kit_ty (by decide +kernel), false, rfl, q⟩
    | bl b =>
      refine ⟨_, rfl, _, _, _, _, true, rfl, .ty _, (.base (.bl b)), kit_ty (by decide +kernel), true, rfl, iteT ?_⟩
      exact ⟨_, rfl, _, _, _, _, true, rfl, .ty _, (.base (.bl b)), kit_ty (by decide +kernel), true, rfl, q⟩
    | non => exact ⟨_, rfl, _, _, _, _, false, rfl, .ty _, (.base .non : TyX K H .non (.type "NoneType")), kit_ty (by decide +kernel), false, rfl, iteF q⟩
    | str x => exact ⟨_, rfl, _, _, _, _, false, rfl, .ty _, (.base (.str x) : TyX K H (.str x) (.type "str")), kit_ty (by decide +kernel), false, rfl, iteF q⟩
    | lst e _ _ => exact ⟨_, rfl, _, _, _, _, false, rfl, .ty _, (.base (.lst e)), kit_ty (by decide +kernel), false, rfl, iteF q⟩
    | tup e _ => exact ⟨_, rfl, _, _, _, _, false, rfl, .ty _, (.base (.tup e)), kit_ty (by decide +kernel), false, rfl, iteF q⟩
    | dct e _ => exact ⟨_, rfl, _, _, _, _, false, rfl, .ty _, (.base (.dK e)), kit_ty (by decide +kernel), false, rfl, iteF q⟩
theorem ok_within {f : Addr} {fd : FuncData} (D : Df K mg "is_within" ["thing", "least", "most"] sIsWithin f fd) (cW : Ca P w K mg base 1 "is_whole" ["thing"] (spWhole K)) : FnOk P w K mg base CX0 2 f fd ["thing", "least", "most"] (spWithin K) := by
  refine D.fn.ok scIsWithin (fun vs H Q E h => ?_) (fun cdv A outer s H vs Q E hr h => ?_)
  · obtain ⟨v, d, a, b, rfl, h, q⟩ := h
    rfl
  · obtain ⟨v, d, a, b, rfl, h, q⟩ := h
    refine ⟨_, (pss_one (ps_ret (pe_and (pe_ca cW hr (by decide) (by rfl) (pa_cons (pv 0) pa_nil)) (pe_one (pe_chain op_le op_le (pv 1) (pv 0) (pv 2)))))), ?_⟩
    refine ⟨_, rfl, v, d, rfl, h, _, rfl, ?_⟩
    cases v with
    | int i =>
      refine iteT ⟨_, rfl, _, rfl, a, i, rfl, rfl, _, rfl, ?_⟩
      have q' : Q (.bl (decide (a ≤ i) && decide (i ≤ b))) H := q
      cases e : decide (a ≤ i) with
      | true =>
        rw [e, Bool.true_and] at q'
        exact iteT ⟨_, rfl, i, b, rfl, rfl, q'⟩
      | false =>
        rw [e, Bool.false_and] at q'
        exact iteF q'
    | _ => exact iteF q
theorem ok_lwhole {f : Addr} {fd : FuncData} (D : Df K mg "_law_whole" ["_law_thing"] sWhole f fd) (T : Txt mg) : FnOk P w K mg base CX0 1 f fd ["_law_thing"] (spWhole K) := by
  refine D.fn.ok scWhole (fun vs H Q E h => ?_) (fun cdv A outer s H vs Q E hr h => ?_)
  · obtain ⟨v, d, rfl, h, q⟩ := h
    rfl
  · obtain ⟨v, d, rfl, h, q⟩ := h
    refine ⟨_, (pss_one (ps_ret (pe_and (pe_callB call_isi (by rfl) T.isi (by decide +kernel) (pa_cons (pv 0) (pa_cons (pe_bltn (v := .ty "int") (by rfl) T.int (by decide +kernel) rfl) pa_nil))) (pe_one (pe_not (pe_callB call_isi (by rfl) T.isi (by decide +kernel) (pa_cons (pv 0) (pa_cons (pe_bltn (v := .ty "bool") (by rfl) T.bool (by decide +kernel) rfl) pa_nil)))))))), ?_⟩
    cases h with
    | int i =>
      refine ⟨_, rfl, _, _, _, _, true, rfl, .ty _, (.base (.int i)), kit_ty (by decide +kernel), true, rfl, iteT ?_⟩
      exact ⟨_, rfl, _, _, _, _, false, rfl, .ty _, (.base (.int i)), kit_ty (by decide +kernel), false, rfl, q⟩
    | bl b =>
      refine ⟨_, rfl, _, _, _, _, true, rfl, .ty _, (.base (.bl b)), kit_ty (by decide +kernel), true, rfl, iteT ?_⟩
      exact ⟨_, rfl, _, _, _, _, true, rfl, .ty _, (.base (.bl b)), kit_ty (by decide +kernel), true, rfl, q⟩
    | non => exact ⟨_, rfl, _, _, _, _, false, rfl, .ty _, (.base .non : TyX K H .non (.type "NoneType")), kit_ty (by decide +kernel), false, rfl, iteF q⟩
    | str x => exact ⟨_, rfl, _, _, _, _, false, rfl, .ty _, (.base (.str x) : TyX K H (.str x) (.type "str")), kit_ty (by decide +kernel), false, rfl, iteF q⟩
    | lst e _ _ => exact ⟨_, rfl, _, _, _, _, false, rfl, .ty _, (.base (.lst e)), kit_ty (by decide +kernel), false, rfl, iteF q⟩
    | tup e _ => exact ⟨_, rfl, _, _, _, _, false, rfl, .ty _, (.base (.tup e)), kit_ty (by decide +kernel), false, rfl, iteF q⟩
    | dct e _ => exact ⟨_, rfl, _, _, _, _, false, rfl, .ty _, (.base (.dK e)), kit_ty (by decide +kernel), false, rfl, iteF q⟩
theorem ok_led {f : Addr} {fd : FuncData} (D : Df K mg "_law_led" ["_law_work_here", "_law_path"] sLed f fd) (T : Txt mg) (cLW : Ca P w K mg base 1 "_law_whole" ["_law_thing"] (spWhole K)) : FnOk P w K mg base CX0 2 f fd ["_law_work_here", "_law_path"] (spLed K) := by
  refine D.fn.ok scLed (fun vs H Q E h => ?_) (fun cdv A outer s H vs Q E hr h => ?_)
  · obtain ⟨v, p, w, d, rfl, wk, hz, l1000, q⟩ := h
    rfl
  · obtain ⟨v, p, w, d, rfl, wk, hz, l1000, q⟩ := h
    refine ⟨_, (pss_cons (ps_if (pt_not (pt_val (pe_callB call_isi (by rfl) T.isi (by decide +kernel) (pa_cons (pv 1) (pa_cons (pe_bltn (v := .ty "tuple") (by rfl) T.tuple (by decide +kernel) rfl) pa_nil))))) (pss_one (ps_ret pe_non)) pss_nil)
      (pss_cons (ps_for PassesOwn.never rfl (pi_tup (pv 1)) (pg_name (i := 2) scLed.nd rfl (.inl rfl)) (pss_cons (ps_if (PW.pt (pw_or (pt_not (pt_val (pe_ca cLW hr (by decide) (by rfl) (pa_cons (pv 2) pa_nil)))) (pw_or1 (pt_not (pt_chain op_le op_lt pe_int (pv 2) (pe_callB call_len_seq (by rfl) T.len PySem.boot_len (pa_cons (pe_ix ix_tup (pv 0) pe_int (fun _ _ => rfl)) pa_nil))))))) (pss_one (ps_ret pe_non)) pss_nil)
      (pss_one (ps_set (i := 0) scLed.nd rfl (.inl rfl) (pe_ix ix_tup (pe_ix ix_tup (pv 0) pe_int (fun _ _ => rfl)) (pv 2) (fun _ _ => rfl))))))
      (pss_one (ps_ret (pv 0))))), ?_⟩
    refine ⟨_, rfl, _, _, _, _, isTup d, rfl, .ty _, hz.ty, z_tup d, _, rfl, ?_⟩
    cases hz with
    | @tup t xs ds et ra =>
      refine iteF ?_
      have lx := dz_len ra
      have l1 := l1000 _ rfl
      refine ⟨_, rfl, t, rfl, ⟨_, SqT.of et⟩, ?_⟩
      refine for_tup (K := K) (a := t) (xs := xs) (fun i σ Hi => Hi = H ∧ ∃ (v2 : V) (w2 : W) (c2 : Option V), σ = [some v2, some (.ref t), c2] ∧ Wk H v2 w2 ∧ led w (ds.take i) = some w2) ?_ (fun i σ Hi _ z => by rw [z.1]; exact SqT.of et) ?_ ?_
      · exact ⟨rfl, v, w, none, rfl, wk, by rw [List.take_zero]; cases w; rfl⟩
      · rintro i y σ Hi hy ⟨rfl, v2, w2, c2, rfl, wk2, ld⟩
        obtain ⟨e, ee, dz⟩ := dz_get ra hy
        have hi : i < ds.length := (List.getElem?_eq_some_iff.mp ee).1
        have tk : ds.take (i + 1) = ds.take i ++ [e] := by rw [List.take_add_one, ee]; rfl
        have sp : ds = ds.take (i + 1) ++ ds.drop (i + 1) := (List.take_append_drop (i + 1) ds).symm
        obtain ⟨t2, p2, vn, zs, n2, ps2, rfl, rfl, e1, e2, wl, nv⟩ := wk_pair wk2
        have zl := wl.len
        -- where it leads nowhere, the whole does
        have no : led (.mk n2 ps2) [e] = none → Q .non Hi := fun h => q _ (by
          show WO Hi .non (led w ds)
          rw [sp, led_app, tk, led_app, ld]
          show WO Hi .non ((led (.mk n2 ps2) [e]).bind _)
          rw [h]
          rfl)
        refine ⟨_, rfl, y, e, rfl, dz, _, rfl, ?_⟩
        cases y with
        | int j =>
          have de : e = .int j := by cases dz; rfl
          subst de
          refine iteF ⟨_, rfl, 0, j, rfl, rfl, _, rfl, ?_⟩
          by_cases j0 : 0 ≤ j
          · rw [decide_eq_true j0]
            refine iteT ⟨_, rfl, t2, _, 1, .ref p2, rfl, rfl, SqT.of e1, rfl, p2, _, rfl, .inr (SqT.of e2), j, _, rfl, rfl, _, rfl, ?_⟩
            by_cases jl : j < (zs.length : Int)
            · rw [decide_eq_true jl]
              obtain ⟨jn, rfl⟩ : ∃ jn : Nat, j = (jn : Int) := ⟨j.toNat, by omega⟩
              have hj : jn < zs.length := by omega
              obtain ⟨u, eu, wu⟩ := wl.get (List.getElem?_eq_getElem hj)
              refine iteF ⟨_, rfl, t2, _, 1, .ref p2, rfl, rfl, SqT.of e1, rfl, _, rfl, p2, _, (jn : Int), zs[jn], rfl, rfl, SqT.of e2, atI_nat (List.getElem?_eq_getElem hj), ?_⟩
              refine ⟨rfl, _, u, _, rfl, wu, ?_⟩
              rw [tk, led_app, ld]
              show led (.mk n2 ps2) [.int (jn : Int)] = some u
              rw [led, if_pos j0, Int.toNat_natCast, eu]
              cases u; rfl
            · rw [decide_eq_false jl]
              refine iteT (no ?_)
              rw [led, if_pos j0, List.getElem?_eq_none (by omega)]
          · rw [decide_eq_false j0]
            refine ⟨_, rfl, iteT (no ?_)⟩
            rw [led, if_neg j0]
        | _ =>
          refine iteT (no ?_)
          cases dz <;> rfl
      · rintro σ Hi ⟨rfl, v2, w2, c2, rfl, wk2, ld⟩
        rw [List.take_of_length_le (by omega)] at ld
        refine ⟨_, rfl, q _ ?_⟩
        show WO Hi v2 (led w ds)
        rw [ld]
        exact wk2
    | _ => exact iteT (q _ rfl)
end
end K39
set_option Elab.async false
set_option linter.all false
set_option maxRecDepth 100000
set_option maxHeartbeats 4000000
set_option pp.maxSteps 400
set_option pp.deepTerms false
namespace K39
open PySem PySem.Spec PyProof.Rows L2
open Xk Az W37
section
variable {P : Program} {w : World} {K : PySem.W.Frag} {mg : Str → Option Value} {base : Heap}
structure Ex where
  NotSuch : Addr
  Lost : Addr
  Taken : Addr
  NoNumber : Addr
  Struck : Addr
  NoKey : Addr
  NoPath : Addr
abbrev tlL : List Value := [.type "LookupError", .type "Exception", .type "BaseException", .type "object"]
/-- where the refusals stand -/
structure Txe (K : PySem.W.Frag) (mg : Str → Option Value) (e : Ex) : Prop where
  mNotSuch : mg "NotSuch" = some (.ref e.NotSuch)
  mLost : mg "Lost" = some (.ref e.Lost)
  mTaken : mg "Taken" = some (.ref e.Taken)
  mNoNumber : mg "NoNumber" = some (.ref e.NoNumber)
  mStruck : mg "Struck" = some (.ref e.Struck)
  mNoKey : mg "NoKey" = some (.ref e.NoKey)
  mNoPath : mg "NoPath" = some (.ref e.NoPath)
  oex : Xle.OfC K "LookupError.__new__" tlL e.NoPath
  xc : XcC K e.NoPath
  ba : Xle.BaC K "LookupError.__init__" e.Lost
  fp : PySem.W.findIn K (.ref e.NoPath) "path" = some none
  exm : PySem.W.exmAny K (.ref e.NoPath) [.ref e.NotSuch, .ref e.Lost, .ref e.Taken] = some true
  kit1 : PySem.W.kitAny K (.ref e.NoPath) [.ref e.NoNumber, .ref e.Struck, .ref e.NoKey] = some false
  kit2 : PySem.W.kitAny K (.ref e.NoPath) [.ref e.NotSuch, .ref e.Taken] = some false
  kit3 : PySem.W.kitOne K (.ref e.NoPath) (.ref e.NoPath) = some true
  kit4 : PySem.W.kitOne K (.ref e.NoPath) (.type "LookupError") = some true
  kit5 : PySem.W.kitOne K (.ref e.NoPath) (.type "ValueError") = some false
def spNP (e : Ex) : Sp := fun vs H Q _ => ∃ (a : Addr) (p : V), vs = [.ref a, p] ∧ H a = some (exo a e.NoPath none) ∧
  ∀ dx, H dx = none → dx ≠ a → Q .non (upd (upd H dx (exd dx [("path", p)])) a (exo a e.NoPath (some dx)))
def Rz (e : Ex) (H : Hp) (p : V) (E : XK) : Prop := ∀ (dx : Addr) (H' : Hp), L2.Same H H' → H' dx = some (.xd [("path", p)]) → E (.ref e.NoPath) (some dx) H'
theorem ok_np {f : Addr} {fd : FuncData} {e : Ex} (F : Fun K "__init__" "NoPath.__init__" sNoPathInit f fd) (TE : Txe K mg e) : FnOk P w K mg base CX0 1 f fd ["self", "path"] (spNP e) := by
  refine F.ok scNoPathInit (fun vs H Q E h => ?_) (fun cdv A outer s H vs Q E hr h => ?_)
  · obtain ⟨a, p, rfl, ha, q⟩ := h
    rfl
  · obtain ⟨a, p, rfl, ha, q⟩ := h
    refine ⟨_, (pss_cons (ps_expr (Xle.pe_fam Xle.fam_lookup TE.ba (by rfl) TE.mLost (pa_cons (pv 0) (pa_cons pe_str pa_nil))))
      (pss_one (Xle.ps_os1 Xle.fam_lookup (pv 0) (pv 1)))), ?_⟩
    refine ⟨_, rfl, a, e.NoPath, [.str "the path leads nowhere"], rfl, by decide, TE.oex, ha, ?_⟩
    exact ⟨_, rfl, _, rfl, a, e.NoPath, rfl, TE.oex, TE.fp, ha, fun dx nd ne => q dx nd ne⟩
structure Np (P : Program) (w : World) (K : PySem.W.Frag) (mg : Str → Option Value) (base : Heap) (e : Ex) (f : Addr) (fd : FuncData) : Prop where
  ok : FnOk P w K mg base CX0 1 f fd ["self", "path"] (spNP e)
  at_ : PySem.W.findIn K (.ref e.NoPath) "__init__" = some (some (.ref f))
  ty : PySem.W.typeIn K (.ref f) = some (.type "function")
  bd : Binds K fd ["self", "path"] []
theorem raised {e : Ex} {H : Hp} {p : V} {E : XK} (q : Rz e H p E) : ∀ a, H a = none → spNP e [.ref a, p] (upd H a (exo a e.NoPath none))
    (fun z H2 => z = .non ∧ ∃ (p : Addr) (fs : List (Str × V)), H2 a = some (exo a e.NoPath (some p)) ∧ H2 p = some (exd p fs) ∧ H p = none ∧ E (.ref e.NoPath) (some p) (upd (del H2 a) p (.xd fs))) E0 := fun a na => by
  refine ⟨a, p, rfl, upd_same, fun dx nd ne => ⟨rfl, dx, _, upd_same, by rw [upd_ne ne]; exact upd_same, ?_, ?_⟩⟩
  · rw [upd_ne ne] at nd
    exact nd
  · rw [upd_ne ne] at nd
    have mx : upd (del (upd (upd (upd H a (exo a e.NoPath none)) dx (exd dx [("path", p)])) a (exo a e.NoPath (some dx))) a) dx (.xd [("path", p)]) = upd H dx (.xd [("path", p)]) := by
      funext b
      by_cases hd : b = dx
      · rw [hd, upd_same, upd_same]
      · rw [upd_ne hd, upd_ne hd]
        by_cases ha : b = a
        · rw [ha, del_same, na]
        · rw [del_ne ha, upd_ne ha, upd_ne hd, upd_ne ha]
    rw [mx]
    exact q dx _ (same_upd nd) upd_same
def spPart (K : PySem.W.Frag) (e : Ex) : Sp := fun vs H Q E => ∃ (v p : V) (w : W) (d : PyData), vs = [v, p] ∧ Wk H v w ∧ Dz K H p d ∧ (∀ ds, d = .tuple ds → ds.length ≤ 1000) ∧
  (∀ u v', ledD w d = some u → Wk H v' u → Q v' H) ∧ (ledD w d = none → Rz e H p E)
theorem ok_part {f : Addr} {fd : FuncData} {e : Ex} {fN : Addr} {fdN : FuncData} (D : Df K mg "part_at" ["work", "path"] sPartAt f fd) (T : Txt mg) (TE : Txe K mg e) (N : Np P w K mg base e fN fdN) (cWi : Ca P w K mg base 2 "is_within" ["thing", "least", "most"] (spWithin K)) : FnOk P w K mg base (L2.CX P w) 3 f fd ["work", "path"] (spPart K e) := by
  refine D.fn.okX scPartAt (fun vs H Q E h => ?_) (fun cdv A outer s H vs Q E hr h => ?_)
  · obtain ⟨v, p, w, d, rfl, wk, hz, l1000, q1, q2⟩ := h
    rfl
  · obtain ⟨v, p, w, d, rfl, wk, hz, l1000, q1, q2⟩ := h
    refine ⟨_, (pss_cons (ps_if (pt_not (pt_val (pe_callB call_isi (by rfl) T.isi (by decide +kernel) (pa_cons (pv 1) (pa_cons (pe_bltn (v := .ty "tuple") (by rfl) T.tuple (by decide +kernel) rfl) pa_nil))))) (pss_one (ps_raise rfl (takes_of rfl rfl rfl rfl) (Xle.pmk_of Xle.fam_lookup TE.oex N.at_ N.ty N.ok (hr.mono (by decide)) N.bd .nil pass0 (by rfl) TE.mNoPath (pa_cons (pv 1) pa_nil)))) pss_nil)
      (pss_cons (ps_set (i := 2) scPartAt.nd rfl (.inl rfl) (pv 0))
      (pss_cons (ps_for (passes_of rfl) rfl (pi_tup (pv 1)) (pg_name (i := 3) scPartAt.nd rfl (.inl rfl)) (pss_cons (ps_set (i := 4) scPartAt.nd rfl (.inl rfl) (pe_ix ix_tup (pv 2) pe_int (fun _ _ => rfl)))
      (pss_cons (ps_if (pt_not (pt_val (pe_ca cWi hr (by decide) (by rfl) (pa_cons (pv 3) (pa_cons pe_int (pa_cons (pe_op op_sub (pe_callB call_len_seq (by rfl) T.len PySem.boot_len (pa_cons (pv 4) pa_nil)) pe_int) pa_nil)))))) (pss_one (ps_raise rfl (takes_of rfl rfl rfl rfl) (Xle.pmk_of Xle.fam_lookup TE.oex N.at_ N.ty N.ok (hr.mono (by decide)) N.bd .nil pass0 (by rfl) TE.mNoPath (pa_cons (pv 1) pa_nil)))) pss_nil)
      (pss_one (ps_set (i := 2) scPartAt.nd rfl (.inl rfl) (pe_ix ix_tup (pv 4) (pv 3) (fun _ _ => rfl)))))))
      (pss_one (ps_ret (pv 2)))))), ?_⟩
    refine ⟨_, rfl, _, _, _, _, isTup d, rfl, .ty _, hz.ty, z_tup d, _, rfl, ?_⟩
    cases hz with
    | @tup t xs ds et ra =>
      refine iteF ?_
      have lx := dz_len ra
      have l1 := l1000 _ rfl
      refine ⟨_, rfl, ?_⟩
      refine ⟨_, rfl, t, rfl, ⟨_, SqT.of et⟩, ?_⟩
      refine for_tup (K := K) (a := t) (xs := xs) (fun i σ Hi => Hi = H ∧ ∃ (v2 : V) (w2 : W) (c3 c4 : Option V), σ = [some v, some (.ref t), some v2, c3, c4] ∧ Wk H v2 w2 ∧ led w (ds.take i) = some w2) ?_ (fun i σ Hi _ z => by rw [z.1]; exact SqT.of et) ?_ ?_
      · exact ⟨rfl, v, w, none, none, rfl, wk, by rw [List.take_zero]; cases w; rfl⟩
      · rintro i y σ Hi hy ⟨rfl, v2, w2, c3, c4, rfl, wk2, ld⟩
        obtain ⟨e, ee, dz⟩ := dz_get ra hy
        have hi : i < ds.length := (List.getElem?_eq_some_iff.mp ee).1
        have tk : ds.take (i + 1) = ds.take i ++ [e] := by rw [List.take_add_one, ee]; rfl
        have sp : ds = ds.take (i + 1) ++ ds.drop (i + 1) := (List.take_append_drop (i + 1) ds).symm
        obtain ⟨t2, p2, vn, zs, n2, ps2, rfl, rfl, e1, e2, wl, nv⟩ := wk_pair wk2
        have zl := wl.len
        -- where it leads nowhere, the whole does
        have no : led (.mk n2 ps2) [e] = none → led w ds = none := fun h => by
          rw [sp, led_app, tk, led_app, ld]
          show ((led (.mk n2 ps2) [e]).bind _) = none
          rw [h]
          rfl
        refine ⟨_, rfl, t2, _, 1, .ref p2, rfl, rfl, SqT.of e1, rfl, ?_⟩
        refine ⟨_, rfl, _, rfl, p2, _, rfl, .inr (SqT.of e2), _, _, rfl, rfl, ?_⟩
        refine ⟨y, e, 0, _, rfl, dz, _, rfl, ?_⟩
        have bad : led (.mk n2 ps2) [e] = none → ∀ b : Bool, b = false → _ := fun h b hb => True.intro
        cases y with
        | int j =>
          have de : e = .int j := by cases dz; rfl
          subst de
          by_cases j0 : 0 ≤ j
          · by_cases jl : j < (zs.length : Int)
            · have wt : wiV (.int j) 0 ((zs.length : Int) - 1) = true := by
                show (decide (0 ≤ j) && decide (j ≤ (zs.length : Int) - 1)) = true
                rw [decide_eq_true j0, decide_eq_true (by omega)]; rfl
              rw [wt]
              obtain ⟨jn, rfl⟩ : ∃ jn : Nat, j = (jn : Int) := ⟨j.toNat, by omega⟩
              have hj : jn < zs.length := by omega
              obtain ⟨u, eu, wu⟩ := wl.get (List.getElem?_eq_getElem hj)
              refine iteF ⟨_, rfl, _, rfl, p2, _, (jn : Int), zs[jn], rfl, rfl, SqT.of e2, atI_nat (List.getElem?_eq_getElem hj), ?_⟩
              refine ⟨rfl, _, u, _, _, rfl, wu, ?_⟩
              rw [tk, led_app, ld]
              show led (.mk n2 ps2) [.int (jn : Int)] = some u
              rw [led, if_pos j0, Int.toNat_natCast, eu]
              cases u; rfl
            · have wf : wiV (.int j) 0 ((zs.length : Int) - 1) = false := by
                show (decide (0 ≤ j) && decide (j ≤ (zs.length : Int) - 1)) = false
                rw [decide_eq_false (p := j ≤ (zs.length : Int) - 1) (by omega), Bool.and_false]
              rw [wf]
              refine iteT ⟨_, rfl, (by show 1 ≤ 1000; decide), raised (q2 ?_)⟩
              refine no ?_
              rw [led, if_pos j0, List.getElem?_eq_none (by omega)]
          · have wf : wiV (.int j) 0 ((zs.length : Int) - 1) = false := by
              show (decide (0 ≤ j) && decide (j ≤ (zs.length : Int) - 1)) = false
              rw [decide_eq_false j0, Bool.false_and]
            rw [wf]
            refine iteT ⟨_, rfl, (by show 1 ≤ 1000; decide), raised (q2 ?_)⟩
            refine no ?_
            rw [led, if_neg j0]
        | _ =>
          refine iteT ⟨_, rfl, (by show 1 ≤ 1000; decide), raised (q2 (no ?_))⟩
          cases dz <;> rfl
      · rintro σ Hi ⟨rfl, v2, w2, c3, c4, rfl, wk2, ld⟩
        rw [List.take_of_length_le (by omega)] at ld
        exact ⟨_, rfl, q1 _ _ ld wk2⟩
    | _ => exact iteT ⟨_, rfl, (by show 1 ≤ 1000; decide), raised (q2 rfl)⟩
end
end K39
set_option Elab.async false
set_option linter.all false
set_option maxRecDepth 100000
set_option maxHeartbeats 4000000
set_option pp.maxSteps 400
set_option pp.deepTerms false
namespace K39
open PySem PySem.Spec PyProof.Rows L2
open Xk Az W37
section
variable {P : Program} {w : World} {K : PySem.W.Frag} {mg : Str → Option Value} {base : Heap}
def spRef (e : Ex) : Sp := fun vs H Q _ => ∃ (a : Addr) (fs : List (Str × V)), vs = [.ref a] ∧ Kept H a e.NoPath fs ∧ ∀ H', L2.Same H H' → Q (.bl true) H'
/-- what is due -/
def AnsV (H : Hp) (r : V) (w : W) (d : PyData) : Prop := (∃ u, ledD w d = some u ∧ r = .str u.dat.shown) ∨ (ledD w d = none ∧ ∃ t, r = .ref t ∧ H t = some (.tup [.bl true, .str d.shown]))
theorem op_alt {X : Cx} {f : Value → Value → Sem Value} {r1 r2 : R2} (h1 : OpR X f r1) (h2 : OpR X f r2) : OpR X f (fun x y H Q => r1 x y H Q ∨ r2 x y H Q) :=
  fun pins s σ H x y v u Q I rx ry h => h.elim (h1 pins s σ H x y v u Q I rx ry) (h2 pins s σ H x y v u Q I rx ry)
def spAsk (K : PySem.W.Frag) : Sp := fun vs H Q _ => ∃ (v p : V) (w : W) (d : PyData), vs = [v, p] ∧ Wk H v w ∧ Dz K H p d ∧ (∀ ds, d = .tuple ds → ds.length ≤ 1000) ∧ Nice d 60 2000000 ∧ (∀ u, ledD w d = some u → Nice u.dat 60 2000000) ∧
  ∀ r H', L2.Same H H' → AnsV H' r w d → Q r H'
theorem ok_ref {f : Addr} {fd : FuncData} {e : Ex} (D : Df K mg "_law_refusal" ["_law_e"] sRefusal f fd) (T : Txt mg) (TE : Txe K mg e) : FnOk P w K mg base CX0 1 f fd ["_law_e"] (spRef e) := by
  refine D.fn.ok scRefusal (fun vs H Q E h => ?_) (fun cdv A outer s H vs Q E hr h => ?_)
  · obtain ⟨a, fs, rfl, k, q⟩ := h
    rfl
  · obtain ⟨a, fs, rfl, k, q⟩ := h
    refine ⟨_, (pss_cons (ps_set (i := 1) scRefusal.nd rfl (.inl rfl) (pe_or (pe_callB (call_isKT TE.xc) (by rfl) T.isi (by decide +kernel) (pa_cons (pv 0) (pa_cons (pe_tup (pa_cons (pe_glob (v := .ref e.NoNumber) (by rfl) TE.mNoNumber rfl) (pa_cons (pe_glob (v := .ref e.Struck) (by rfl) TE.mStruck rfl) (pa_cons (pe_glob (v := .ref e.NoKey) (by rfl) TE.mNoKey rfl) pa_nil)))) pa_nil))) (pe_one (pe_callB (call_isKT TE.xc) (by rfl) T.isi (by decide +kernel) (pa_cons (pv 0) (pa_cons (pe_tup (pa_cons (pe_glob (v := .ref e.NotSuch) (by rfl) TE.mNotSuch rfl) (pa_cons (pe_glob (v := .ref e.Taken) (by rfl) TE.mTaken rfl) pa_nil))) pa_nil))))))
      (pss_one (ps_ret (pe_and (pe_callB (call_isK TE.xc) (by rfl) T.isi (by decide +kernel) (pa_cons (pv 0) (pa_cons (pe_glob (v := .ref e.NoPath) (by rfl) TE.mNoPath rfl) pa_nil))) (pe_and (pe_callB (call_isK TE.xc) (by rfl) T.isi (by decide +kernel) (pa_cons (pv 0) (pa_cons (pe_bltn (v := .ty "LookupError") (by rfl) T.LookupError (by decide +kernel) rfl) pa_nil))) (pe_and (pe_not (pe_callB (call_isK TE.xc) (by rfl) T.isi (by decide +kernel) (pa_cons (pv 0) (pa_cons (pe_bltn (v := .ty "ValueError") (by rfl) T.ValueError (by decide +kernel) rfl) pa_nil)))) (pe_one (pe_not (pv 1))))))))), ?_⟩
    refine ⟨_, rfl, (by show 3 ≤ sizeLine; decide), fun t nt => ⟨a, t, fs, _, _, false, rfl, k.same (same_upd nt), upd_same, (.cons (.own _) (.cons (.own _) (.cons (.own _) .nil))), TE.kit1, false, rfl, iteF ?_⟩⟩
    refine ⟨_, rfl, (by show 2 ≤ sizeLine; decide), fun u nu => ⟨a, u, fs, _, _, false, rfl, (k.same (same_upd nt)).same (same_upd nu), upd_same, (.cons (.own _) (.cons (.own _) .nil)), TE.kit2, ?_⟩⟩
    have k2 := (k.same (same_upd nt (o := .tup [.ref e.NoNumber, .ref e.Struck, .ref e.NoKey]))).same (same_upd nu (o := .tup [.ref e.NotSuch, .ref e.Taken]))
    refine ⟨_, rfl, a, fs, _, _, true, rfl, k2, .own _, TE.kit3, true, rfl, iteT ?_⟩
    refine ⟨_, rfl, a, fs, _, _, true, rfl, k2, .ty _, TE.kit4, true, rfl, iteT ?_⟩
    refine ⟨_, rfl, a, fs, _, _, false, rfl, k2, .ty _, TE.kit5, false, rfl, true, rfl, iteT ?_⟩
    exact ⟨_, rfl, false, rfl, q _ ((same_upd nt).trans (same_upd nu))⟩
end
end K39
set_option Elab.async false
set_option linter.all false
set_option maxRecDepth 100000
set_option maxHeartbeats 4000000
set_option pp.maxSteps 400
set_option pp.deepTerms false
namespace K39
open PySem PySem.Spec PyProof.Rows L2
open Xk Az W37
section
variable {P : Program} {w : World} {K : PySem.W.Frag} {mg : Str → Option Value} {base : Heap}
theorem ok_asked {f : Addr} {fd : FuncData} {e : Ex} {fP : Addr} {fdP : FuncData} (D : Df K mg "_law_asked" ["_law_work_here", "_law_path"] sAsked f fd) (T : Txt mg) (TE : Txe K mg e) (DP : Df K mg "part_at" ["work", "path"] sPartAt fP fdP) (FP : FnOk P w K mg base (L2.CX P w) 3 fP fdP ["work", "path"] (spPart K e)) (cRf : Ca P w K mg base 1 "_law_refusal" ["_law_e"] (spRef e)) : Gn P w K mg base 4 f fd ["_law_work_here", "_law_path"] (spAsk K) := by
  refine gn_body D.fn scAsked (fun vs H Q E h => ?_) (fun cdv A outer s H vs Q E hg hr h => ?_)
  · obtain ⟨v, p, w, d, rfl, wk, hz, l1000, nd, nu, q⟩ := h
    rfl
  · obtain ⟨v, p, w, d, rfl, wk, hz, l1000, nd, nu, q⟩ := h
    refine ⟨_, (pss_cons (ps_asg (pe_tup (pa_cons pe_non (pa_cons pe_non pa_nil))) (pg_tup (by rfl) (pgs_cons (pg_name (i := 2) scAsked.nd rfl (.inl rfl)) (pgs_cons (pg_name (i := 3) scAsked.nd rfl (.inl rfl)) pgs_nil))))
      (pss_cons (ps_try_keep (i := 4) (C1 := e.NotSuch) (C2 := e.Lost) (C3 := e.Taken) rfl rfl rfl scAsked.nd rfl rfl ⟨by rfl, by decide, TE.mNotSuch⟩ ⟨by rfl, by decide, TE.mLost⟩ ⟨by rfl, by decide, TE.mTaken⟩ takes0 (fun W pn xe tk _ =>
        (pss_one (ps_set (i := 3) scAsked.nd rfl (.inl rfl) (pe_callS FP (hr.mono (by decide)) (by rfl) DP.mgf DP.fn.kp DP.bd (fun σ => passAt tk σ) (pa_cons (pv 0) (pa_cons (pv 1) pa_nil)))))) (fun a pn => pss_one (ps_set (i := 2) scAsked.nd rfl (.inl rfl) (pv 4))))
      (pss_cons (ps_if (pt_cmpR op_isN (pv 2) pe_non (nomark _)) (pss_one (ps_ret (pe_callB (cr_reprZ hg hr) (by rfl) T.repr (by decide +kernel) (pa_cons (pv 3) pa_nil)))) pss_nil)
      (pss_one (ps_ret (pe_tup (pa_cons (pe_ca cRf hr (by decide) (by rfl) (pa_cons (pv 2) pa_nil)) (pa_cons (pe_ifExp (pt_val (pe_callB (call_isK TE.xc) (by rfl) T.isi (by decide +kernel) (pa_cons (pv 2) (pa_cons (pe_glob (v := .ref e.NoPath) (by rfl) TE.mNoPath rfl) pa_nil)))) (pe_callB (cr_reprZ hg hr) (by rfl) T.repr (by decide +kernel) (pa_cons (pe_kf TE.xc TE.fp (pv 2)) pa_nil)) pe_str) pa_nil)))))))), ?_⟩
    refine ⟨(by show 2 ≤ sizeLine; decide), fun t0 n0 => ⟨t0, _, rfl, SqT.of upd_same, rfl, _, _, rfl, _, _, rfl, rfl, ?_⟩⟩
    have s0 := same_upd n0 (o := .tup [.non, .non])
    generalize L2.upd H t0 (.tup [.non, .non]) = H0 at s0 ⊢
    refine ⟨_, rfl, _, rfl, v, p, w, d, rfl, wk.tp (tp_same s0), hz.same s0, l1000, fun u v' ld wu => ?_, fun no dx H2 s2 ed => ⟨true, TE.exm, fun _ y ny => ?_, fun z => nomatch z⟩⟩
    · refine ⟨_, rfl, rfl, _, rfl, iteT ?_⟩
      have nn := nu u ld
      refine ⟨_, rfl, v', u.dat, rfl, wu.dz, nn.sh, nn.dp, Nat.le_trans nn.sz (by decide), q _ _ s0 (.inl ⟨u, ld, rfl⟩)⟩
    · have sy := same_upd ny (o := ExK (.ref e.NoPath) (some dx) y)
      have kp : Kept (L2.upd H2 y (ExK (.ref e.NoPath) (some dx) y)) y e.NoPath [("path", p)] := ⟨dx, upd_same, sy _ _ ed⟩
      have s02 := (s0.trans s2).trans sy
      generalize L2.upd H2 y (ExK (.ref e.NoPath) (some dx) y) = H3 at kp s02 ⊢
      refine ⟨_, rfl, ?_⟩
      refine ⟨_, rfl, rfl, _, rfl, iteF ?_⟩
      refine ⟨_, rfl, y, _, rfl, kp, fun H4 s4 => ?_⟩
      have kp4 := kp.same s4
      have l1 : ([(("path" : Str), p)] : List (Str × V)).lookup ("path" : Str) = some p := List.lookup_cons_self
      have hz4 := hz.same (s02.trans s4)
      refine ⟨_, rfl, y, _, _, _, true, rfl, kp4, .own _, TE.kit3, true, rfl, iteT ?_⟩
      refine ⟨_, rfl, y, _, p, rfl, kp4, l1, p, d, rfl, hz4, nd.sh, nd.dp, Nat.le_trans nd.sz (by decide), (by show 2 ≤ sizeLine; decide), fun t nt => ?_⟩
      exact q _ _ ((s02.trans s4).trans (same_upd nt)) (.inr ⟨no, t, rfl, upd_same⟩)
end
end K39
set_option Elab.async false
set_option linter.all false
set_option maxRecDepth 100000
set_option maxHeartbeats 4000000
set_option pp.maxSteps 400
set_option pp.deepTerms false
namespace K39
open PySem PySem.Spec PyProof.Rows L2
open Xk Az W37 Xtu
section
variable {P : Program} {w : World} {K : PySem.W.Frag} {mg : Str → Option Value} {base : Heap}
section
variable {X : Cx}
theorem op_neT0 (hu : X.A.units + 64 < cLine) : OpR X (compareOp .NotEq) (fun x y H Q => ∃ a b xs, x = .ref a ∧ y = .ref b ∧ H a = some (.tup xs) ∧ H b = some (.tup []) ∧ Q (.bl (!xs.isEmpty)) H) := by
  intro pins s σ H x y v u Q I rx ry h
  obtain ⟨a, b, xs, rfl, rfl, ea, eb, q⟩ := h
  cases rx; cases ry
  obtain ⟨its, r1, ⟨o1, g1, c1, n1, d1⟩, _⟩ := I.tuple (SqT.of ea)
  obtain ⟨its2, r2, ⟨o2, g2, c2, n2, d2⟩, _⟩ := I.tuple (SqT.of eb)
  cases r2
  have l := r1.length
  have k : (!((List.range (min its.toArray.size ([] : List Value).toArray.size)).all (fun _ => true) && its.toArray.size == ([] : List Value).toArray.size)) = !xs.isEmpty := by
    cases xs with
    | nil =>
      cases r1
      rfl
    | cons z zs =>
      cases r1 with
      | cons _ _ => simp
  have w := PySem.SeqAt.RcNeAt.tuples (A := X.A) (s := s) (l := a) (b := b) (items := its.toArray) (items2 := ([] : List Value).toArray) (e := fun _ => true) ⟨o1, g1, c1, n1, d1⟩ ⟨o2, g2, c2, n2, d2⟩ (Nat.lt_of_le_of_lt (Nat.le_add_right _ 64) hu) (fun j h1 h2 => absurd h2 (by simp))
  rw [k] at w
  exact w X.prog X.w _ _ ⟨.bl _, H, I, rfl, q⟩
end
theorem nice_all {k n : Nat} : ∀ ds : List PyData, (∀ d ∈ ds, Nice d k n) → PyData.showableAll ds = true ∧ PyData.depthAll ds ≤ k ∧ piled (PyData.shownAll ds) ≤ ds.length * (n + 2)
  | [], _ => ⟨by simp [PyData.showableAll], by simp [PyData.depthAll], by simp [PyData.shownAll, piled_nil]⟩
  | d :: r, h => by
    obtain ⟨h1, h2, h3⟩ := nice_all r fun x hx => h x (List.mem_cons_of_mem _ hx)
    have hd := h d List.mem_cons_self
    refine ⟨by simp [PyData.showableAll, hd.sh, h1], ?_, ?_⟩
    · simp only [PyData.depthAll]
      have := hd.dp
      omega
    · simp only [PyData.shownAll, piled_cons, List.length_cons, Nat.succ_mul]
      have := hd.sz
      omega
theorem nice_tups {k n : Nat} (ds : List PyData) (h : ∀ d ∈ ds, Nice d k n) : Nice (.tuple ds) (k + 1) (ds.length * (n + 2) + 4) := by
  obtain ⟨h1, h2, h3⟩ := nice_all ds h
  refine ⟨by simp [PyData.showable, h1], ?_, ?_⟩
  · simp only [PyData.depth]
    omega
  · simp only [PyData.shown]
    have a := fmt_text (PyData.shownAll ds)
    omega
theorem lg {i : Int} (h0 : -(10 ^ 31) < i) (h1 : i < 10 ^ 31) : i.natAbs.log2 < 1920 := by
  have h2 : i.natAbs < 2 ^ 110 := by
    have : (10 : Int) ^ 31 < 2 ^ 110 := by decide
    omega
  exact Nat.lt_of_lt_of_le (PySem.Flt.log2_lt_of (by decide) h2) (by decide)
theorem tx_le {i : Int} (h0 : 0 ≤ i) (h1 : i < 10 ^ 31) : (Str.ofString (toString i)).length ≤ 40 := by
  have b : (10 : Int) ^ 31 < 10 ^ 39 := by decide
  exact Nat.le_trans (toString_length_le (v := i) h0 (k := 39) (by decide) (by omega)) (by decide)
theorem nice_lsts {k n : Nat} (ds : List PyData) (h : ∀ d ∈ ds, Nice d k n) : Nice (.list ds) (k + 1) (ds.length * (n + 2) + 4) := by
  obtain ⟨h1, h2, h3⟩ := nice_all ds h
  refine ⟨by simp [PyData.showable, h1], ?_, ?_⟩
  · simp only [PyData.depth]
    omega
  · simp only [PyData.shown]
    have a := list_le (PyData.shownAll ds)
    omega
theorem cut_mem {xs : List V} {lo hi : Option Int} {z : V} (h : z ∈ cutV xs lo hi) : z ∈ xs := List.mem_of_mem_drop (List.mem_of_mem_take h)
theorem nms_pos (w : W) : 0 < w.nms.length := by
  cases w
  rw [W.nms, List.length_cons]
  omega
theorem len_nmsL : ∀ ps : List W, ps.length ≤ (nmsL ps).length
  | [] => by simp
  | w :: r => by
    rw [nmsL, List.length_cons, List.length_append]
    have := nms_pos w
    have := len_nmsL r
    omega
/-- a thing that is small enough to be shown -/
def Gp (K : PySem.W.Frag) (k n : Nat) (H : Hp) (v : V) : Prop := ∃ d, Dz K H v d ∧ Nice d k n ∧ ∀ ds, d = .tuple ds → ds.length ≤ 1000
theorem Gp.mono {k n k' n' : Nat} {H : Hp} {v : V} (g : Gp K k n H v) (hk : k ≤ k') (hn : n ≤ n') : Gp K k' n' H v := by
  obtain ⟨d, a, b, c⟩ := g
  exact ⟨d, a, b.mono hk hn, c⟩
theorem Gp.same {k n : Nat} {H H' : Hp} {v : V} (g : Gp K k n H v) (s : L2.Same H H') : Gp K k n H' v := by
  obtain ⟨d, a, b, c⟩ := g
  exact ⟨d, a.same s, b, c⟩
abbrev G0 (K : PySem.W.Frag) := Gp K 14 20000
abbrev G1 (K : PySem.W.Frag) := Gp K 15 200000
abbrev G2 (K : PySem.W.Frag) := Gp K 16 2000000
theorem gp_all {k n : Nat} {H : Hp} : ∀ {xs : List V}, (∀ x ∈ xs, Gp K k n H x) → ∃ ds, DzAll K H xs ds ∧ (∀ d ∈ ds, Nice d k n) ∧ ds.length = xs.length
  | [], _ => ⟨[], .nil, fun d h => (by cases h), rfl⟩
  | x :: r, h => by
    obtain ⟨d, a, b, _⟩ := h x List.mem_cons_self
    obtain ⟨ds, a2, b2, c2⟩ := gp_all (xs := r) fun y hy => h y (List.mem_cons_of_mem _ hy)
    refine ⟨d :: ds, .cons a a2, fun e he => ?_, by rw [List.length_cons, List.length_cons, c2]⟩
    rcases List.mem_cons.mp he with z | z
    · rw [z]; exact b
    · exact b2 e z
theorem gp_tup {k n m : Nat} {H : Hp} {t : Addr} {xs : List V} (e : H t = some (.tup xs)) (h : ∀ x ∈ xs, Gp K k n H x) (l : xs.length ≤ m) (hm : m ≤ 1000) : Gp K (k + 1) (m * (n + 2) + 4) H (.ref t) := by
  obtain ⟨ds, a, b, c⟩ := gp_all h
  refine ⟨.tuple ds, .tup e a, (nice_tups ds b).mono (Nat.le_refl _) ?_, fun es he => by cases he; omega⟩
  have : ds.length * (n + 2) ≤ m * (n + 2) := Nat.mul_le_mul_right _ (by omega)
  omega
theorem gp_lst {k n m : Nat} {H : Hp} {t : Addr} {xs : List V} (e : H t = some (.lst xs)) (ne : t ≠ sysModules) (h : ∀ x ∈ xs, Gp K k n H x) (l : xs.length ≤ m) : Gp K (k + 1) (m * (n + 2) + 4) H (.ref t) := by
  obtain ⟨ds, a, b, c⟩ := gp_all h
  refine ⟨.list ds, .lst e ne a, (nice_lsts ds b).mono (Nat.le_refl _) ?_, fun es he => by cases he⟩
  have : ds.length * (n + 2) ≤ m * (n + 2) := Nat.mul_le_mul_right _ (by omega)
  omega
theorem gp_none {H : Hp} : G0 K H .non := ⟨_, .non, nice_none.mono (by decide) (by decide), fun ds e => by cases e⟩
theorem gp_bool {H : Hp} (b : Bool) : G0 K H (.bl b) := ⟨_, .bl b, (nice_bool b).mono (by decide) (by decide), fun ds e => by cases e⟩
theorem gp_neg {H : Hp} : G0 K H (.int (-1)) := ⟨_, .int _, (nice_int (n := 30) (by decide +kernel) (by decide +kernel)).mono (by decide) (by decide), fun ds e => by cases e⟩
theorem gp_int {H : Hp} {i : Int} (h0 : 0 ≤ i) (h1 : i < 10 ^ 31) : G0 K H (.int i) :=
  ⟨_, .int _, (nice_int (lg (Int.lt_of_lt_of_le (by decide) h0) h1) (tx_le h0 h1)).mono (by decide) (by decide), fun ds e => by cases e⟩
theorem gp_str {H : Hp} {x : Str} (l : x.length ≤ 100) (h : ∀ c ∈ x.cps.toList, c < 128) : G0 K H (.str x) :=
  ⟨_, .str x, (nice_str (Nat.le_trans (W08.repr_le' h) (show 10 * x.length + 2 ≤ 1002 by omega))).mono (by decide) (by decide), fun ds e => by cases e⟩
theorem gp_s0 {H : Hp} : G0 K H (.str "0") := gp_str (by decide +kernel) (by decide +kernel)
theorem gp_nil {H : Hp} {t : Addr} (e : H t = some (.tup [])) : G0 K H (.ref t) := (gp_tup (k := 0) (n := 0) (m := 0) e (fun x h => by cases h) (Nat.le_refl _) (by decide)).mono (by decide) (by decide)
theorem gp_ints {H : Hp} {ns : List Int} (ni : ∀ i ∈ ns, 0 ≤ i ∧ i < 1000) : ∀ x ∈ ns.map V.int, G0 K H x := fun x hx => by
  obtain ⟨i, hi, rfl⟩ := List.mem_map.mp hx
  obtain ⟨a, b⟩ := ni i hi
  exact gp_int a (Int.lt_trans b (by decide))
theorem gp_t7 {H : Hp} {t : Addr} {xs : List V} (e : H t = some (.tup xs)) (h : ∀ x ∈ xs, G0 K H x) (l : xs.length ≤ 7) : G1 K H (.ref t) := (gp_tup e h l (by decide)).mono (by decide) (by decide)
theorem gp_u7 {H : Hp} {t : Addr} {xs : List V} (e : H t = some (.tup xs)) (h : ∀ x ∈ xs, G1 K H x) (l : xs.length ≤ 7) : G2 K H (.ref t) := (gp_tup e h l (by decide)).mono (by decide) (by decide)
theorem up1 {H : Hp} {v : V} (g : G0 K H v) : G1 K H v := g.mono (by decide) (by decide)
theorem up2 {H : Hp} {v : V} (g : G1 K H v) : G2 K H v := g.mono (by decide) (by decide)
theorem gp_pth {H : Hp} {t : Addr} {ns : List Int} (e : H t = some (.tup (ns.map V.int))) (ni : ∀ i ∈ ns, 0 ≤ i ∧ i < 1000) (l : ns.length ≤ 7) : G1 K H (.ref t) := gp_t7 e (gp_ints ni) (by rw [List.length_map]; exact l)
theorem gp_app {H : Hp} {t : Addr} {ns : List Int} {x : V} (e : H t = some (.tup (ns.map V.int ++ [x]))) (ni : ∀ i ∈ ns, 0 ≤ i ∧ i < 1000) (l : ns.length ≤ 6) (g : G0 K H x) : G2 K H (.ref t) := up2 (gp_t7 e (fun y hy => by
  rcases List.mem_append.mp hy with z | z
  · exact gp_ints ni y z
  · rw [List.mem_singleton.mp z]; exact g) (by rw [List.length_append, List.length_map]; show ns.length + 1 ≤ 7; omega))
theorem gp_plst {H : Hp} {t : Addr} {ns : List Int} (e : H t = some (.lst (ns.map V.int))) (ne : t ≠ sysModules) (ni : ∀ i ∈ ns, 0 ≤ i ∧ i < 1000) (l : ns.length ≤ 7) : G2 K H (.ref t) := up2 ((gp_lst (m := 7) e ne (gp_ints ni) (by rw [List.length_map]; exact l)).mono (by decide) (by decide))
theorem gp_one {H : Hp} {t : Addr} {x : V} (e : H t = some (.tup [x])) (g : G1 K H x) : G2 K H (.ref t) := gp_u7 e (fun y hy => by rw [List.mem_singleton.mp hy]; exact g) (by show 1 ≤ 7; decide)
theorem gp_cut {H : Hp} {t : Addr} {ns : List Int} (e : H t = some (.tup ([.bl true] ++ cutV (ns.map V.int) (some 1) none))) (ni : ∀ i ∈ ns, 0 ≤ i ∧ i < 1000) (l : ns.length ≤ 6) : G2 K H (.ref t) := up2 (gp_t7 e (fun y hy => by
  rcases List.mem_append.mp hy with z | z
  · rw [List.mem_singleton.mp z]; exact gp_bool _
  · exact gp_ints ni y (cut_mem z)) (by rw [List.length_append]; have := cutV_length (ns.map V.int) (some 1) none; rw [List.length_map] at this; show 1 + _ ≤ 7; omega))
theorem offT {n : Int} {H : Hp} {h t : Addr} {xs : List V} (hh : Hand n H h) (e : H t = some (.tup xs)) : del H h t = some (.tup xs) := by
  obtain ⟨ys, q⟩ := hh.at_
  exact off_at (fun z => by rw [z, q] at e; cases e) e
/-- works are small -/
theorem sw_nD {m : Nm} (g : Gn' m) : W08.sw (nD m) ≤ 460 ∧ W08.ok (nD m) ∧ W08.dw (nD m) = 1 := by
  obtain ⟨a, b, c, d⟩ := g
  refine ⟨?_, ⟨b, d, trivial⟩, rfl⟩
  simp only [nD, W08.sw, W08.sws]
  omega
mutual
theorem sw_W : ∀ (w : W), (∀ m ∈ w.nms, Gn' m) → W08.sw w.dat + 8 ≤ 480 * w.nms.length ∧ W08.ok w.dat ∧ W08.dw w.dat ≤ 2 * w.dp
  | .mk n ps, h => by
    rw [W.nms] at h
    obtain ⟨a, b, c⟩ := sw_nD (h n List.mem_cons_self)
    obtain ⟨x, y, z⟩ := sw_WL ps fun m hm => h m (List.mem_cons_of_mem _ hm)
    rw [W.dat, W.nms, W.dp]
    refine ⟨?_, ⟨b, y, trivial⟩, ?_⟩
    · simp only [W08.sw, W08.sws, List.length_cons]
      omega
    · simp only [W08.dw, W08.dws]
      omega
theorem sw_WL : ∀ (ps : List W), (∀ m ∈ nmsL ps, Gn' m) → W08.sws (datL ps) ≤ 480 * (nmsL ps).length ∧ W08.oks (datL ps) ∧ W08.dws (datL ps) ≤ 2 * dpL ps
  | [], _ => by simp [datL, W08.sws, W08.oks, W08.dws, nmsL, dpL]
  | w :: r, h => by
    rw [nmsL] at h
    obtain ⟨a, b, c⟩ := sw_W w fun m hm => h m (List.mem_append_left _ hm)
    obtain ⟨x, y, z⟩ := sw_WL r fun m hm => h m (List.mem_append_right _ hm)
    rw [datL, nmsL, dpL]
    have := nms_pos w
    refine ⟨?_, ⟨b, y⟩, ?_⟩
    · simp only [W08.sws, List.length_append]
      omega
    · simp only [W08.dws]
      omega
end
def spWd : Sp := fun vs H Q _ => ∃ (h : Addr) (n : Int) (v : V) (w : W), vs = [.ref h, v] ∧ Wk H v w ∧ w.dp ≤ 5 ∧ w.nms.length ≤ 50 ∧ Hand n H h ∧ n + 50 ≤ far ∧
  ∀ t (ns : List Int) u H', H' t = some (.tup (ns.map V.int)) → ns.length ≤ 5 → (∀ i ∈ ns, 0 ≤ i ∧ i < 1000) → led w (ns.map PyData.int) = some u → Hand (n + 20) H' h → But h H H' → Q (.ref t) H'
theorem ok_wd {f : Addr} {fd : FuncData} (D : Df K mg "_law_way_down" ["_law_hand_here", "_law_work_here"] sWayDown f fd) (T : Txt mg) (cT : Ca P w K mg base 1 "_law_take" ["_law_hand_here", "_law_many"] spTake) : FnOk P w K mg base CX0 2 f fd ["_law_hand_here", "_law_work_here"] spWd := by
  refine D.fn.ok scWayDown (fun vs H Q E h => ?_) (fun cdv A outer s H vs Q E hr h => ?_)
  · obtain ⟨h, n, v, w, rfl, wk, hdp, hm, hd, hn, q⟩ := h
    rfl
  · obtain ⟨h, n, v, w, rfl, wk, hdp, hm, hd, hn, q⟩ := h
    refine ⟨_, (pss_cons (ps_set (i := 2) scWayDown.nd rfl (.inl rfl) (pe_tup pa_nil))
      (pss_cons (ps_while PassesOwn.never (PW.pt (pw_and (pt_cmpR (op_neT0 hr.units) (pe_ix ix_tup (pv 1) pe_int (fun _ _ => rfl)) (pe_tup pa_nil) (nomark _)) (pw_and1 (pt_cmpR op_gt (pe_ca cT hr (by decide) (by rfl) (pa_cons (pv 0) (pa_cons pe_int pa_nil))) pe_int (nomark _))))) (pss_cons (ps_set (i := 3) scWayDown.nd rfl (.inl rfl) (pe_ca cT hr (by decide) (by rfl) (pa_cons (pv 0) (pa_cons (pe_callB call_len_seq (by rfl) T.len PySem.boot_len (pa_cons (pe_ix ix_tup (pv 1) pe_int (fun _ _ => rfl)) pa_nil)) pa_nil))))
      (pss_one (ps_par (i := 2) (j := 1) (by rfl) scWayDown.nd rfl rfl (by decide) rfl rfl (pa_cons (pe_op op_catU (pv 2) (pe_tup (pa_cons (pv 3) pa_nil))) (pa_cons (pe_ix ix_tup (pe_ix ix_tup (pv 1) pe_int (fun _ _ => rfl)) (pv 3) (fun _ _ => rfl)) pa_nil)) (by rfl)))))
      (pss_one (ps_ret (pv 2))))), ?_⟩
    have fr : n + 50 ≤ 1000000 := hn
    refine ⟨(by show 0 ≤ sizeLine; decide), fun t0 n0 => ?_⟩
    have s0 := same_upd n0 (o := .tup [])
    have e0 : (upd H t0 (.tup [])) t0 = some (.tup []) := upd_same
    generalize upd H t0 (.tup []) = H0 at s0 e0 ⊢
    refine ⟨fun m σ Hx => ∃ (v2 : V) (w2 : W) (t : Addr) (ns : List Int) (c3 : Option V), σ = [some (.ref h), some v2, some (.ref t), c3] ∧ Wk Hx v2 w2 ∧ Hx t = some (.tup (ns.map V.int)) ∧ led w (ns.map PyData.int) = some w2 ∧ ns.length + w2.dp ≤ 5 ∧ w2.nms.length ≤ 50 ∧ (∀ i ∈ ns, 0 ≤ i ∧ i < 1000) ∧ Hand (n + 2 * ns.length) Hx h ∧ But h H Hx ∧ w2.dp = m, ⟨_, v, w, t0, [], none, rfl, wk.tp (tp_same s0), e0, by cases w; rfl, by simp only [List.length_nil]; omega, hm, (fun i hi => by cases hi), (by show Hand (n + 2 * 0) H0 h; rw [show n + 2 * 0 = n by omega]; exact hd.same s0), Same.but s0 h, rfl⟩, ?_⟩
    rintro m σ Hx ⟨v2, w2, t, ns, c3, rfl, wk2, et, ld, dp, nm, ni, hx, bx, em⟩
    obtain ⟨t2, p2, vn, zs, n2, ps2, rfl, rfl, e1, e2, wl, nv⟩ := wk_pair wk2
    have fin : ∀ (Hy : Hp), But h Hx Hy → Hand (n + 2 * ns.length + 1) Hy h → Q (.ref t) Hy := fun Hy b1 h1 => q t ns _ Hy (b1 _ _ (hx.ne_tup (K := K) et) et) (by have := W.dp_pos (.mk n2 ps2); omega) ni ld (h1.mono (by have := W.dp_pos (.mk n2 ps2); omega)) (bx.trans b1)
    have d2 := W.dp_pos (.mk n2 ps2)
    refine ⟨_, rfl, t2, _, 1, .ref p2, rfl, rfl, SqT.of e1, rfl, (by show 0 ≤ sizeLine; decide), fun z nz => ?_⟩
    have sz := same_upd nz (o := .tup [])
    refine ⟨p2, z, zs, rfl, rfl, sz _ _ e2, upd_same, _, rfl, ite2 (fun e => ?_) (fun e => ?_)⟩
    · have zpos : 0 < zs.length := by
        cases zs with
        | nil => cases e
        | cons _ _ => simp
      refine ⟨_, rfl, h, 5, n + 2 * ns.length, rfl, by decide, by decide, hx.same sz, by show n + 2 * (ns.length : Int) ≤ 1000000; omega, fun d1 H1 d0 d1' h1 b1 => ⟨d1, 0, rfl, rfl, _, rfl, ite2 (fun e2' => ?_) (fun e2' => ?_)⟩⟩
      · refine ⟨fun σ' H' => ∃ m', m' < m ∧ _, fun σ' H' z => z, ?_⟩
        have b1' : But h Hx H1 := (Same.but sz h).trans b1
        have up : ∀ {b : Addr} {xs : List V}, Hx b = some (.tup xs) → H1 b = some (.tup xs) := fun {b xs} e => b1' _ _ (hx.ne_tup (K := K) e) e
        have ln := wl.len
        have l50 : ps2.length ≤ 50 := by
          rw [W.nms] at nm
          have : ps2.length ≤ (nmsL ps2).length := len_nmsL ps2
          rw [List.length_cons] at nm
          omega
        refine ⟨_, rfl, _, rfl, t2, _, 1, .ref p2, rfl, rfl, SqT.of (up e1), rfl, p2, _, rfl, .inr (SqT.of (up e2)), h, (zs.length : Int), n + 2 * ns.length + 1, rfl, by omega, lt30i (by omega), h1, by show n + 2 * (ns.length : Int) + 1 ≤ 1000000; omega, fun c H2 c0 c1 h2 b2 => ?_⟩
        have b2' := b1'.trans b2
        have up2 : ∀ {b : Addr} {xs : List V}, Hx b = some (.tup xs) → H2 b = some (.tup xs) := fun {b xs} e => b2' _ _ (hx.ne_tup (K := K) e) e
        obtain ⟨j, rfl⟩ : ∃ j : Nat, c = (j : Int) := ⟨c.toNat, by omega⟩
        have hj : j < zs.length := by omega
        obtain ⟨u, eu, wu⟩ := wl.get (List.getElem?_eq_getElem hj)
        refine ⟨_, rfl, _, rfl, (by show 1 ≤ sizeLine; decide), fun p3 n3 => ?_⟩
        have s3 := same_upd n3 (o := .tup [.int (j : Int)])
        refine ⟨t, p3, _, _, rfl, rfl, s3 _ _ (up2 et), upd_same, (by rw [List.length_map]; exact Nat.le_trans (show ns.length + 1 ≤ 10 by omega) (by decide)), fun p4 H4 s4 e4 => ?_⟩
        refine ⟨_, rfl, t2, _, 1, .ref p2, rfl, rfl, SqT.of (s4 _ _ (s3 _ _ (up2 e1))), rfl, _, rfl, p2, _, (j : Int), zs[j], rfl, rfl, SqT.of (s4 _ _ (s3 _ _ (up2 e2))), atI_nat (List.getElem?_eq_getElem hj), ?_⟩
        have s34 := s3.trans s4
        have b4 : But h Hx H4 := b2'.trans (Same.but s34 h)
        have mu := List.mem_of_getElem? eu
        have ud := dpL_mem mu
        have dpe : (W.mk n2 ps2).dp = dpL ps2 + 1 := by rw [W.dp]
        have nme : (W.mk n2 ps2).nms.length = (nmsL ps2).length + 1 := by rw [W.nms, List.length_cons]
        have un := nmsL_mem mu
        refine ⟨_, _, rfl, u.dp, by omega, zs[j], u, p4, ns ++ [(j : Int)], some (.int (j : Int)), rfl, wu.tp (fun b ys e => b4 _ _ (hx.ne_tup (K := K) e) e), by rw [e4, List.map_append]; rfl, ?_, by rw [List.length_append]; show ns.length + 1 + u.dp ≤ 5; omega, by omega, ?_, ?_, bx.trans b4, rfl⟩
        · rw [List.map_append, led_app, ld]
          show led (.mk n2 ps2) [.int (j : Int)] = some u
          rw [led, if_pos (by omega), Int.toNat_natCast, eu]
          cases u; rfl
        · intro i hi
          rcases List.mem_append.mp hi with z | z
          · exact ni i z
          · rw [List.mem_singleton.mp z]
            omega
        · have : ((ns ++ [(j : Int)]).length : Int) = ns.length + 1 := by rw [List.length_append]; rfl
          rw [this]
          exact (h2.same s34).mono (by omega)
      · exact ⟨_, rfl, fin _ ((Same.but sz h).trans b1) h1⟩
    · exact ⟨_, rfl, fin _ (Same.but sz h) ((hx.same sz).mono (by omega))⟩
end
end K39
set_option Elab.async false
set_option linter.all false
set_option maxRecDepth 100000
set_option maxHeartbeats 4000000
set_option pp.maxSteps 400
set_option pp.deepTerms false
namespace K39
open PySem PySem.Spec PyProof.Rows L2
open Xk Az W37 Xtu
section
variable {P : Program} {w : World} {K : PySem.W.Frag} {mg : Str → Option Value} {base : Heap}
def spOdd (K : PySem.W.Frag) : Sp := fun vs H Q _ => ∃ (h : Addr) (n : Int) (v : V) (w : W), vs = [.ref h, v] ∧ Wk H v w ∧ w.dp ≤ 5 ∧ w.nms.length ≤ 20 ∧ (∀ m ∈ w.nms, Gn' m) ∧ Hand n H h ∧ n + 100 ≤ far ∧
  ∀ v' H', G2 K (del H' h) v' → Hand (n + 30) H' h → But h H H' → Q v' H'
theorem nmsL_has : ∀ {ps : List W} {w : W} {m : Nm}, w ∈ ps → m ∈ w.nms → m ∈ nmsL ps
  | x :: r, w, m, h, hm => by
    rw [nmsL]
    rcases List.mem_cons.mp h with z | z
    · rw [← z]; exact List.mem_append_left _ hm
    · exact List.mem_append_right _ (nmsL_has z hm)
theorem led_sub : ∀ (w u : W) (ds : List PyData), led w ds = some u → u.nms.length ≤ w.nms.length ∧ u.dp ≤ w.dp ∧ ∀ m ∈ u.nms, m ∈ w.nms
  | .mk n ps, u, [], e => by
    cases e
    exact ⟨Nat.le_refl _, Nat.le_refl _, fun m h => h⟩
  | .mk n ps, u, .int i :: r, e => by
    rw [led] at e
    by_cases h : 0 ≤ i
    · rw [if_pos h] at e
      cases q : ps[i.toNat]? with
      | none => rw [q] at e; cases e
      | some x =>
        rw [q] at e
        obtain ⟨a, b, c⟩ := led_sub x u r e
        have mx := List.mem_of_getElem? q
        have d := dpL_mem mx
        have k := nmsL_mem mx
        refine ⟨by rw [W.nms, List.length_cons]; omega, by rw [W.dp]; omega, fun m hm => ?_⟩
        rw [W.nms]
        exact List.mem_cons_of_mem _ (nmsL_has mx (c m hm))
    · rw [if_neg h] at e
      cases e
  | .mk n ps, u, .none :: r, e => by cases e
  | .mk n ps, u, .bool _ :: r, e => by cases e
  | .mk n ps, u, .str _ :: r, e => by cases e
  | .mk n ps, u, .list _ :: r, e => by cases e
  | .mk n ps, u, .tuple _ :: r, e => by cases e
  | .mk n ps, u, .dict _ :: r, e => by cases e
theorem gp_pre {H : Hp} {i : Int} (h0 : 0 ≤ i) (h1 : i < 1000) : G0 K H (.int (i - 1)) := by
  by_cases h : i = 0
  · rw [h]; exact gp_neg
  · exact gp_int (by omega) (by omega)
theorem gp_dig {H : Hp} {i : Int} (h0 : 0 ≤ i) (h1 : i < 1000) : G0 K H (.str (Str.ofString (toString i))) := ⟨_, .str _, (nice_str (Nat.le_trans (PySem.StrLaws.reprText_len _ (asc_str _)) (show 10 * (Str.ofString (toString i)).length + 2 ≤ 402 by have := tx_le h0 (show i < 10 ^ 31 by omega); omega))).mono (by decide) (by decide), fun ds e => by cases e⟩
theorem rep_mem {n : Nat} {x z : V} (h : z ∈ (List.replicate n [x]).flatten) : z = x := by
  obtain ⟨l, hl, hz⟩ := List.mem_flatten.mp h
  rw [(List.mem_replicate.mp hl).2] at hz
  exact List.mem_singleton.mp hz
theorem cut_two {ns : List Int} {j : Nat} {u : V} (hj : j < ns.length) (l : ns.length ≤ 5) : (cutV (ns.map V.int) none (some (j : Int))).length + ([u] : List V).length + (cutV (ns.map V.int) (some ((j : Int) + 1)) none).length ≤ 7 := by
  rw [cutV_take, show ((j : Int) + 1) = ((j + 1 : Nat) : Int) by omega, cutV_drop _ _ (by rw [List.length_map]; omega), List.length_take, List.length_drop, List.length_map]
  show min j ns.length + 1 + _ ≤ 7
  omega
theorem dzAll_ints {H : Hp} : ∀ ns : List Int, DzAll K H (ns.map V.int) (ns.map PyData.int)
  | [] => .nil
  | i :: r => .cons (.int i) (dzAll_ints r)
theorem gp_work {H : Hp} {v : V} {w : W} (wk : Wk H v w) (hd : w.dp ≤ 5) (hm : w.nms.length ≤ 20) (g : ∀ m ∈ w.nms, Gn' m) : G0 K H v := by
  obtain ⟨a, b, c⟩ := sw_W w g
  obtain ⟨s1, s2, s3⟩ := W08.shown_le w.dat b
  refine ⟨w.dat, wk.dz, ⟨s1, by omega, by omega⟩, fun ds e => ?_⟩
  cases w
  rw [W.dat] at e
  cases e
  show 2 ≤ 1000
  decide
theorem gp_name {H : Hp} {v : V} {m : Nm} (h : NmV H v m) (g : Gn' m) : G0 K H v := by
  obtain ⟨a, b, c⟩ := sw_nD g
  obtain ⟨s1, s2, s3⟩ := W08.shown_le (nD m) b
  exact ⟨nD m, h.dz, ⟨s1, by omega, by omega⟩, fun ds e => by cases e; show 2 ≤ 1000; decide⟩
theorem ok_odd {f : Addr} {fd : FuncData} (D : Df K mg "_law_odd" ["_law_hand_here", "_law_work_here"] sOdd f fd) (T : Txt mg) (cT : Ca P w K mg base 1 "_law_take" ["_law_hand_here", "_law_many"] spTake) (cP : Ca P w K mg base 2 "_law_pick" ["_law_hand_here", "_law_some"] spPick) (cWd : Ca P w K mg base 2 "_law_way_down" ["_law_hand_here", "_law_work_here"] spWd) (cLd : Ca P w K mg base 2 "_law_led" ["_law_work_here", "_law_path"] (spLed K)) : FnOk P w K mg base CX0 3 f fd ["_law_hand_here", "_law_work_here"] (spOdd K) := by
  refine D.fn.ok scOdd (fun vs H Q E h => ?_) (fun cdv A outer s H vs Q E hr h => ?_)
  · obtain ⟨h, n, v, w, rfl, wk, hdp, hnm, gn, hd, hn, q⟩ := h
    rfl
  · obtain ⟨h, n, v, w, rfl, wk, hdp, hnm, gn, hd, hn, q⟩ := h
    refine ⟨_, (pss_cons (ps_set (i := 2) scOdd.nd rfl (.inl rfl) (pe_ca cWd hr (by decide) (by rfl) (pa_cons (pv 0) (pa_cons (pv 1) pa_nil))))
      (pss_cons (ps_set (i := 3) scOdd.nd rfl (.inl rfl) (pe_ca cLd hr (by decide) (by rfl) (pa_cons (pv 1) (pa_cons (pv 2) pa_nil))))
      (pss_cons (ps_set (i := 4) scOdd.nd rfl (.inl rfl) (pe_callB call_len_seq (by rfl) T.len PySem.boot_len (pa_cons (pe_ix ix_tup (pv 3) pe_int (fun _ _ => rfl)) pa_nil)))
      (pss_cons (ps_set (i := 5) scOdd.nd rfl (.inl rfl) (pe_lst (pa_cons (pe_op op_catU (pv 2) (pe_tup (pa_cons (pv 4) pa_nil))) (pa_cons (pe_op op_catU (pv 2) (pe_tup (pa_cons (pe_op op_add (pv 4) pe_int) pa_nil))) (pa_cons (pe_op op_catU (pv 2) (pe_tup (pa_cons (pe_un un_neg pe_int) pa_nil))) (pa_cons (pe_op op_catU (pv 2) (pe_tup (pa_cons pe_int pa_nil))) (pa_cons (pe_op op_catU (pv 2) (pe_tup (pa_cons pe_non pa_nil))) (pa_cons (pe_op op_catU (pv 2) (pe_tup (pa_cons pe_bl pa_nil))) (pa_cons (pe_callTy cr_listT (by rfl) T.list (by decide +kernel) (pa_cons (pv 2) pa_nil)) pa_nil)))))))))
      (pss_cons (ps_set (i := 5) scOdd.nd rfl (.inl rfl) (pe_op op_cat (pv 5) (pe_lst (pa_cons (pe_op op_catU (pv 2) (pe_tup (pa_cons (pe_tup pa_nil) pa_nil))) (pa_cons (pe_op op_catU (pv 2) (pe_tup (pa_cons pe_str pa_nil))) (pa_cons (pe_tup (pa_cons (pv 2) pa_nil)) (pa_cons (pe_op op_catU (pv 2) (pe_tup (pa_cons (pe_op op_pow pe_int pe_int) pa_nil))) (pa_cons (pe_ix ix_tup (pv 3) pe_int (fun _ _ => rfl)) (pa_cons (pv 3) (pa_cons (pe_op op_catU (pe_tup (pa_cons pe_bl pa_nil)) (pe_slice sl_tupU (pv 2) (po_some pe_int) po_none)) pa_nil))))))))))
      (C8.pss_cut (ps_if (pt_cmpR (op_neT0 hr.units) (pv 2) (pe_tup pa_nil) (nomark _)) (pss_cons (ps_set (i := 6) scOdd.nd rfl (.inl rfl) (pe_ca cT hr (by decide) (by rfl) (pa_cons (pv 0) (pa_cons (pe_callB call_len_seq (by rfl) T.len PySem.boot_len (pa_cons (pv 2) pa_nil)) pa_nil))))
      (pss_cons (ps_set (i := 7) scOdd.nd rfl (.inl rfl) (pe_ca cP hr (by decide) (by rfl) (pa_cons (pv 0) (pa_cons (pe_lst (pa_cons (pe_op op_add (pe_ix ix_tup (pv 2) (pv 6) (fun _ _ => rfl)) pe_int) (pa_cons (pe_un un_neg pe_int) (pa_cons pe_non (pa_cons pe_bl (pa_cons (pe_callTy call_str_int (by rfl) T.str (by decide +kernel) (pa_cons (pe_ix ix_tup (pv 2) (pv 6) (fun _ _ => rfl)) pa_nil)) (pa_cons (pe_tup (pa_cons (pe_ix ix_tup (pv 2) (pv 6) (fun _ _ => rfl)) pa_nil)) (pa_cons (pe_op op_sub (pe_ix ix_tup (pv 2) (pv 6) (fun _ _ => rfl)) pe_int) (pa_cons pe_int pa_nil))))))))) pa_nil))))
      (pss_one (ps_set (i := 5) scOdd.nd rfl (.inl rfl) (pe_op op_cat (pv 5) (pe_op op_rep (pe_lst (pa_cons (pe_op op_catU (pe_op op_catU (pe_slice sl_tupU (pv 2) po_none (po_some (pv 6))) (pe_tup (pa_cons (pv 7) pa_nil))) (pe_slice sl_tupU (pv 2) (po_some (pe_op op_add (pv 6) pe_int)) po_none)) pa_nil)) pe_int)))))) pss_nil)
      (pss_one (ps_ret (pe_ca cP hr (by decide) (by rfl) (pa_cons (pv 0) (pa_cons (pv 5) pa_nil))))))))))), ?_⟩
    have fr : n + 100 ≤ 1000000 := hn
    refine ⟨_, rfl, _, rfl, h, n, v, w, rfl, wk, hdp, by omega, hd, by show n + 50 ≤ 1000000; omega, fun t ns u H1 et ln ni ld h1 b1 => ?_⟩
    have tpB : ∀ {Hx Hy : Hp} {m : Int}, Hand m Hx h → But h Hx Hy → Tp Hx Hy := fun {Hx Hy m} hx b c ys e => b c _ (hx.ne_tup (K := K) e) e
    have wk1 : Wk H1 v w := wk.tp (tpB hd b1)
    have zt : Dz K H1 (.ref t) (.tuple (ns.map PyData.int)) := .tup et (dzAll_ints ns)
    refine ⟨_, rfl, _, rfl, v, .ref t, w, _, rfl, wk1, zt, (fun ds e => by cases e; rw [List.length_map]; omega), fun vp wo => ?_⟩
    have wo' : Wk H1 vp u := by
      have wo : WO H1 vp (led w (ns.map PyData.int)) := wo
      rw [ld] at wo
      exact wo
    obtain ⟨us1, us2, us3⟩ := led_sub w u _ ld
    obtain ⟨tp, pp, vn, zs, n2, ps2, rfl, rfl, e1, e2, wl, nv⟩ := wk_pair wo'
    have zl := wl.len
    have z20 : zs.length ≤ 20 := by
      rw [W.nms, List.length_cons] at us1
      have := len_nmsL ps2
      omega
    refine ⟨_, rfl, tp, _, 1, .ref pp, rfl, rfl, SqT.of e1, rfl, pp, _, rfl, .inr (SqT.of e2), ?_⟩
    have fits : ∀ {ys zs : List V}, ys.length ≤ 10 → zs.length ≤ 10 → ys.length + zs.length ≤ sizeLine := fun {ys zs} h1 h2 => Nat.le_trans (show ys.length + zs.length ≤ 20 by omega) (by decide)
    refine ⟨_, rfl, _, rfl, (by show 1 ≤ sizeLine; decide), fun ap1 an2 => ?_⟩
    have as3 := same_upd an2 (o := .tup [.int (zs.length : Int)])
    have ae4 : (upd H1 ap1 (.tup [.int (zs.length : Int)])) ap1 = some (.tup [.int (zs.length : Int)]) := upd_same
    generalize upd H1 ap1 (.tup [.int (zs.length : Int)]) = aG5 at as3 ae4 ⊢
    refine ⟨t, ap1, _, _, rfl, rfl, (as3 _ _ et), ae4, fits (by simp; omega) (by simp), fun ap6 aG7 as8 ae9 => ?_⟩
    refine ⟨_, rfl, _, rfl, _, 5, rfl, rfl, (by show 1 ≤ sizeLine; decide), fun ap10 an11 => ?_⟩
    have as12 := same_upd an11 (o := .tup [.int ((zs.length : Int) + 5)])
    have ae13 : (upd aG7 ap10 (.tup [.int ((zs.length : Int) + 5)])) ap10 = some (.tup [.int ((zs.length : Int) + 5)]) := upd_same
    generalize upd aG7 ap10 (.tup [.int ((zs.length : Int) + 5)]) = aG14 at as12 ae13 ⊢
    refine ⟨t, ap10, _, _, rfl, rfl, (as12 _ _ (as8 _ _ (as3 _ _ et))), ae13, fits (by simp; omega) (by simp), fun ap15 aG16 as17 ae18 => ?_⟩
    refine ⟨_, rfl, 1, rfl, (by show 1 ≤ sizeLine; decide), fun ap19 an20 => ?_⟩
    have as21 := same_upd an20 (o := .tup [.int (-1)])
    have ae22 : (upd aG16 ap19 (.tup [.int (-1)])) ap19 = some (.tup [.int (-1)]) := upd_same
    generalize upd aG16 ap19 (.tup [.int (-1)]) = aG23 at as21 ae22 ⊢
    refine ⟨t, ap19, _, _, rfl, rfl, (as21 _ _ (as17 _ _ (as12 _ _ (as8 _ _ (as3 _ _ et))))), ae22, fits (by simp; omega) (by simp), fun ap24 aG25 as26 ae27 => ?_⟩
    refine ⟨_, rfl, (by show 1 ≤ sizeLine; decide), fun ap28 an29 => ?_⟩
    have as30 := same_upd an29 (o := .tup [.int 0])
    have ae31 : (upd aG25 ap28 (.tup [.int 0])) ap28 = some (.tup [.int 0]) := upd_same
    generalize upd aG25 ap28 (.tup [.int 0]) = aG32 at as30 ae31 ⊢
    refine ⟨t, ap28, _, _, rfl, rfl, (as30 _ _ (as26 _ _ (as21 _ _ (as17 _ _ (as12 _ _ (as8 _ _ (as3 _ _ et))))))), ae31, fits (by simp; omega) (by simp), fun ap33 aG34 as35 ae36 => ?_⟩
    refine ⟨_, rfl, (by show 1 ≤ sizeLine; decide), fun ap37 an38 => ?_⟩
    have as39 := same_upd an38 (o := .tup [.non])
    have ae40 : (upd aG34 ap37 (.tup [.non])) ap37 = some (.tup [.non]) := upd_same
    generalize upd aG34 ap37 (.tup [.non]) = aG41 at as39 ae40 ⊢
    refine ⟨t, ap37, _, _, rfl, rfl, (as39 _ _ (as35 _ _ (as30 _ _ (as26 _ _ (as21 _ _ (as17 _ _ (as12 _ _ (as8 _ _ (as3 _ _ et))))))))), ae40, fits (by simp; omega) (by simp), fun ap42 aG43 as44 ae45 => ?_⟩
    refine ⟨_, rfl, (by show 1 ≤ sizeLine; decide), fun ap46 an47 => ?_⟩
    have as48 := same_upd an47 (o := .tup [.bl false])
    have ae49 : (upd aG43 ap46 (.tup [.bl false])) ap46 = some (.tup [.bl false]) := upd_same
    generalize upd aG43 ap46 (.tup [.bl false]) = aG50 at as48 ae49 ⊢
    refine ⟨t, ap46, _, _, rfl, rfl, (as48 _ _ (as44 _ _ (as39 _ _ (as35 _ _ (as30 _ _ (as26 _ _ (as21 _ _ (as17 _ _ (as12 _ _ (as8 _ _ (as3 _ _ et))))))))))), ae49, fits (by simp; omega) (by simp), fun ap51 aG52 as53 ae54 => ?_⟩
    refine ⟨_, rfl, t, _, rfl, SqT.of (as53 _ _ (as48 _ _ (as44 _ _ (as39 _ _ (as35 _ _ (as30 _ _ (as26 _ _ (as21 _ _ (as17 _ _ (as12 _ _ (as8 _ _ (as3 _ _ et)))))))))))), fun ap55 an56 ane60 => ?_⟩
    have aa61 := ((((((((((((h1.same as3).same as8).same as12).same as17).same as21).same as26).same as30).same as35).same as39).same as44).same as48).same as53).fresh an56
    have as57 := same_upd an56 (o := .lst (ns.map V.int))
    have ae58 : (upd aG52 ap55 (.lst (ns.map V.int))) ap55 = some (.lst (ns.map V.int)) := upd_same
    generalize upd aG52 ap55 (.lst (ns.map V.int)) = aG59 at as57 ae58 ⊢
    refine ⟨(by show 7 ≤ sizeLine; decide), fun ap62 an63 => ?_⟩
    have as64 := same_upd an63 (o := .lst [.ref ap6, .ref ap15, .ref ap24, .ref ap33, .ref ap42, .ref ap51, .ref ap55])
    have ae65 : (upd aG59 ap62 (.lst [.ref ap6, .ref ap15, .ref ap24, .ref ap33, .ref ap42, .ref ap51, .ref ap55])) ap62 = some (.lst [.ref ap6, .ref ap15, .ref ap24, .ref ap33, .ref ap42, .ref ap51, .ref ap55]) := upd_same
    generalize upd aG59 ap62 (.lst [.ref ap6, .ref ap15, .ref ap24, .ref ap33, .ref ap42, .ref ap51, .ref ap55]) = aG66 at as64 ae65 ⊢
    refine ⟨_, rfl, _, rfl, (by show 0 ≤ sizeLine; decide), fun ap67 an68 => ?_⟩
    have as69 := same_upd an68 (o := .tup [])
    have ae70 : (upd aG66 ap67 (.tup [])) ap67 = some (.tup []) := upd_same
    generalize upd aG66 ap67 (.tup []) = aG71 at as69 ae70 ⊢
    refine ⟨(by show 1 ≤ sizeLine; decide), fun ap72 an73 => ?_⟩
    have as74 := same_upd an73 (o := .tup [.ref ap67])
    have ae75 : (upd aG71 ap72 (.tup [.ref ap67])) ap72 = some (.tup [.ref ap67]) := upd_same
    generalize upd aG71 ap72 (.tup [.ref ap67]) = aG76 at as74 ae75 ⊢
    refine ⟨t, ap72, _, _, rfl, rfl, (as74 _ _ (as69 _ _ (as64 _ _ (as57 _ _ (as53 _ _ (as48 _ _ (as44 _ _ (as39 _ _ (as35 _ _ (as30 _ _ (as26 _ _ (as21 _ _ (as17 _ _ (as12 _ _ (as8 _ _ (as3 _ _ et)))))))))))))))), ae75, fits (by simp; omega) (by simp), fun ap77 aG78 as79 ae80 => ?_⟩
    refine ⟨_, rfl, (by show 1 ≤ sizeLine; decide), fun ap81 an82 => ?_⟩
    have as83 := same_upd an82 (o := .tup [.str "0"])
    have ae84 : (upd aG78 ap81 (.tup [.str "0"])) ap81 = some (.tup [.str "0"]) := upd_same
    generalize upd aG78 ap81 (.tup [.str "0"]) = aG85 at as83 ae84 ⊢
    refine ⟨t, ap81, _, _, rfl, rfl, (as83 _ _ (as79 _ _ (as74 _ _ (as69 _ _ (as64 _ _ (as57 _ _ (as53 _ _ (as48 _ _ (as44 _ _ (as39 _ _ (as35 _ _ (as30 _ _ (as26 _ _ (as21 _ _ (as17 _ _ (as12 _ _ (as8 _ _ (as3 _ _ et)))))))))))))))))), ae84, fits (by simp; omega) (by simp), fun ap86 aG87 as88 ae89 => ?_⟩
    refine ⟨_, rfl, (by show 1 ≤ sizeLine; decide), fun ap90 an91 => ?_⟩
    have as92 := same_upd an91 (o := .tup [.ref t])
    have ae93 : (upd aG87 ap90 (.tup [.ref t])) ap90 = some (.tup [.ref t]) := upd_same
    generalize upd aG87 ap90 (.tup [.ref t]) = aG94 at as92 ae93 ⊢
    refine ⟨_, rfl, 10, 29, rfl, rfl, ⟨by decide, by decide, by decide⟩, (by show 1 ≤ sizeLine; decide), fun ap95 an96 => ?_⟩
    have as97 := same_upd an96 (o := .tup [.int (10 ^ (29 : Int).toNat)])
    have ae98 : (upd aG94 ap95 (.tup [.int (10 ^ (29 : Int).toNat)])) ap95 = some (.tup [.int (10 ^ (29 : Int).toNat)]) := upd_same
    generalize upd aG94 ap95 (.tup [.int (10 ^ (29 : Int).toNat)]) = aG99 at as97 ae98 ⊢
    refine ⟨t, ap95, _, _, rfl, rfl, (as97 _ _ (as92 _ _ (as88 _ _ (as83 _ _ (as79 _ _ (as74 _ _ (as69 _ _ (as64 _ _ (as57 _ _ (as53 _ _ (as48 _ _ (as44 _ _ (as39 _ _ (as35 _ _ (as30 _ _ (as26 _ _ (as21 _ _ (as17 _ _ (as12 _ _ (as8 _ _ (as3 _ _ et))))))))))))))))))))), ae98, fits (by simp; omega) (by simp), fun ap100 aG101 as102 ae103 => ?_⟩
    refine ⟨_, rfl, tp, _, 0, vn, rfl, rfl, SqT.of (as102 _ _ (as97 _ _ (as92 _ _ (as88 _ _ (as83 _ _ (as79 _ _ (as74 _ _ (as69 _ _ (as64 _ _ (as57 _ _ (as53 _ _ (as48 _ _ (as44 _ _ (as39 _ _ (as35 _ _ (as30 _ _ (as26 _ _ (as21 _ _ (as17 _ _ (as12 _ _ (as8 _ _ (as3 _ _ e1)))))))))))))))))))))), rfl, _, rfl, (by show 1 ≤ sizeLine; decide), fun ap104 an105 => ?_⟩
    have as106 := same_upd an105 (o := .tup [.bl true])
    have ae107 : (upd aG101 ap104 (.tup [.bl true])) ap104 = some (.tup [.bl true]) := upd_same
    generalize upd aG101 ap104 (.tup [.bl true]) = aG108 at as106 ae107 ⊢
    refine ⟨_, rfl, 1, rfl, t, _, rfl, (as106 _ _ (as102 _ _ (as97 _ _ (as92 _ _ (as88 _ _ (as83 _ _ (as79 _ _ (as74 _ _ (as69 _ _ (as64 _ _ (as57 _ _ (as53 _ _ (as48 _ _ (as44 _ _ (as39 _ _ (as35 _ _ (as30 _ _ (as26 _ _ (as21 _ _ (as17 _ _ (as12 _ _ (as8 _ _ (as3 _ _ et))))))))))))))))))))))), fun ap109 aG110 as111 ae112 => ?_⟩
    refine ⟨ap104, ap109, _, _, rfl, rfl, (as111 _ _ ae107), ae112, fits (by simp) (by have := cutV_length (ns.map V.int) (some 1) none; rw [List.length_map] at this; omega), fun ap113 aG114 as115 ae116 => ?_⟩
    refine ⟨(by show 7 ≤ sizeLine; decide), fun ap117 an118 => ?_⟩
    have as119 := same_upd an118 (o := .lst [.ref ap77, .ref ap86, .ref ap90, .ref ap100, vn, .ref tp, .ref ap113])
    have ae120 : (upd aG114 ap117 (.lst [.ref ap77, .ref ap86, .ref ap90, .ref ap100, vn, .ref tp, .ref ap113])) ap117 = some (.lst [.ref ap77, .ref ap86, .ref ap90, .ref ap100, vn, .ref tp, .ref ap113]) := upd_same
    generalize upd aG114 ap117 (.lst [.ref ap77, .ref ap86, .ref ap90, .ref ap100, vn, .ref tp, .ref ap113]) = aG121 at as119 ae120 ⊢
    refine ⟨ap62, ap117, _, _, rfl, rfl, (as119 _ _ (as115 _ _ (as111 _ _ (as106 _ _ (as102 _ _ (as97 _ _ (as92 _ _ (as88 _ _ (as83 _ _ (as79 _ _ (as74 _ _ (as69 _ _ ae65)))))))))))), ae120, (by show 7 + 7 ≤ sizeLine; decide), fun ap122 an123 => ?_⟩
    have as124 := same_upd an123 (o := .lst ([.ref ap6, .ref ap15, .ref ap24, .ref ap33, .ref ap42, .ref ap51, .ref ap55] ++ [.ref ap77, .ref ap86, .ref ap90, .ref ap100, vn, .ref tp, .ref ap113]))
    have ae125 : (upd aG121 ap122 (.lst ([.ref ap6, .ref ap15, .ref ap24, .ref ap33, .ref ap42, .ref ap51, .ref ap55] ++ [.ref ap77, .ref ap86, .ref ap90, .ref ap100, vn, .ref tp, .ref ap113]))) ap122 = some (.lst ([.ref ap6, .ref ap15, .ref ap24, .ref ap33, .ref ap42, .ref ap51, .ref ap55] ++ [.ref ap77, .ref ap86, .ref ap90, .ref ap100, vn, .ref tp, .ref ap113])) := upd_same
    generalize upd aG121 ap122 (.lst ([.ref ap6, .ref ap15, .ref ap24, .ref ap33, .ref ap42, .ref ap51, .ref ap55] ++ [.ref ap77, .ref ap86, .ref ap90, .ref ap100, vn, .ref tp, .ref ap113])) = aG126 at as124 ae125 ⊢
    have sA := ((((((((((((((((((((((((((as3.trans as8).trans as12).trans as17).trans as21).trans as26).trans as30).trans as35).trans as39).trans as44).trans as48).trans as53).trans as57).trans as64).trans as69).trans as74).trans as79).trans as83).trans as88).trans as92).trans as97).trans as102).trans as106).trans as111).trans as115).trans as119).trans as124)
    have hE := (((((((((((((((((((((((((((h1.same as3).same as8).same as12).same as17).same as21).same as26).same as30).same as35).same as39).same as44).same as48).same as53).same as57).same as64).same as69).same as74).same as79).same as83).same as88).same as92).same as97).same as102).same as106).same as111).same as115).same as119).same as124)
    have bE : But h H1 aG126 := Same.but sA h
    have tE := (as124 _ _ (as119 _ _ (as115 _ _ (as111 _ _ (as106 _ _ (as102 _ _ (as97 _ _ (as92 _ _ (as88 _ _ (as83 _ _ (as79 _ _ (as74 _ _ (as69 _ _ (as64 _ _ (as57 _ _ (as53 _ _ (as48 _ _ (as44 _ _ (as39 _ _ (as35 _ _ (as30 _ _ (as26 _ _ (as21 _ _ (as17 _ _ (as12 _ _ (as8 _ _ (as3 _ _ et)))))))))))))))))))))))))))
    have LH := ((((((((((((((((((((((((((h1.same as3).same as8).same as12).same as17).same as21).same as26).same as30).same as35).same as39).same as44).same as48).same as53).same as57).same as64).same as69).same as74).same as79).same as83).same as88).same as92).same as97).same as102).same as106).same as111).same as115).same as119).fresh an123
    have f_ap1 := (as124 _ _ (as119 _ _ (as115 _ _ (as111 _ _ (as106 _ _ (as102 _ _ (as97 _ _ (as92 _ _ (as88 _ _ (as83 _ _ (as79 _ _ (as74 _ _ (as69 _ _ (as64 _ _ (as57 _ _ (as53 _ _ (as48 _ _ (as44 _ _ (as39 _ _ (as35 _ _ (as30 _ _ (as26 _ _ (as21 _ _ (as17 _ _ (as12 _ _ (as8 _ _ ae4))))))))))))))))))))))))))
    have f_ap6 := (as124 _ _ (as119 _ _ (as115 _ _ (as111 _ _ (as106 _ _ (as102 _ _ (as97 _ _ (as92 _ _ (as88 _ _ (as83 _ _ (as79 _ _ (as74 _ _ (as69 _ _ (as64 _ _ (as57 _ _ (as53 _ _ (as48 _ _ (as44 _ _ (as39 _ _ (as35 _ _ (as30 _ _ (as26 _ _ (as21 _ _ (as17 _ _ (as12 _ _ ae9)))))))))))))))))))))))))
    have f_ap10 := (as124 _ _ (as119 _ _ (as115 _ _ (as111 _ _ (as106 _ _ (as102 _ _ (as97 _ _ (as92 _ _ (as88 _ _ (as83 _ _ (as79 _ _ (as74 _ _ (as69 _ _ (as64 _ _ (as57 _ _ (as53 _ _ (as48 _ _ (as44 _ _ (as39 _ _ (as35 _ _ (as30 _ _ (as26 _ _ (as21 _ _ (as17 _ _ ae13))))))))))))))))))))))))
    have f_ap15 := (as124 _ _ (as119 _ _ (as115 _ _ (as111 _ _ (as106 _ _ (as102 _ _ (as97 _ _ (as92 _ _ (as88 _ _ (as83 _ _ (as79 _ _ (as74 _ _ (as69 _ _ (as64 _ _ (as57 _ _ (as53 _ _ (as48 _ _ (as44 _ _ (as39 _ _ (as35 _ _ (as30 _ _ (as26 _ _ (as21 _ _ ae18)))))))))))))))))))))))
    have f_ap19 := (as124 _ _ (as119 _ _ (as115 _ _ (as111 _ _ (as106 _ _ (as102 _ _ (as97 _ _ (as92 _ _ (as88 _ _ (as83 _ _ (as79 _ _ (as74 _ _ (as69 _ _ (as64 _ _ (as57 _ _ (as53 _ _ (as48 _ _ (as44 _ _ (as39 _ _ (as35 _ _ (as30 _ _ (as26 _ _ ae22))))))))))))))))))))))
    have f_ap24 := (as124 _ _ (as119 _ _ (as115 _ _ (as111 _ _ (as106 _ _ (as102 _ _ (as97 _ _ (as92 _ _ (as88 _ _ (as83 _ _ (as79 _ _ (as74 _ _ (as69 _ _ (as64 _ _ (as57 _ _ (as53 _ _ (as48 _ _ (as44 _ _ (as39 _ _ (as35 _ _ (as30 _ _ ae27)))))))))))))))))))))
    have f_ap28 := (as124 _ _ (as119 _ _ (as115 _ _ (as111 _ _ (as106 _ _ (as102 _ _ (as97 _ _ (as92 _ _ (as88 _ _ (as83 _ _ (as79 _ _ (as74 _ _ (as69 _ _ (as64 _ _ (as57 _ _ (as53 _ _ (as48 _ _ (as44 _ _ (as39 _ _ (as35 _ _ ae31))))))))))))))))))))
    have f_ap33 := (as124 _ _ (as119 _ _ (as115 _ _ (as111 _ _ (as106 _ _ (as102 _ _ (as97 _ _ (as92 _ _ (as88 _ _ (as83 _ _ (as79 _ _ (as74 _ _ (as69 _ _ (as64 _ _ (as57 _ _ (as53 _ _ (as48 _ _ (as44 _ _ (as39 _ _ ae36)))))))))))))))))))
    have f_ap37 := (as124 _ _ (as119 _ _ (as115 _ _ (as111 _ _ (as106 _ _ (as102 _ _ (as97 _ _ (as92 _ _ (as88 _ _ (as83 _ _ (as79 _ _ (as74 _ _ (as69 _ _ (as64 _ _ (as57 _ _ (as53 _ _ (as48 _ _ (as44 _ _ ae40))))))))))))))))))
    have f_ap42 := (as124 _ _ (as119 _ _ (as115 _ _ (as111 _ _ (as106 _ _ (as102 _ _ (as97 _ _ (as92 _ _ (as88 _ _ (as83 _ _ (as79 _ _ (as74 _ _ (as69 _ _ (as64 _ _ (as57 _ _ (as53 _ _ (as48 _ _ ae45)))))))))))))))))
    have f_ap46 := (as124 _ _ (as119 _ _ (as115 _ _ (as111 _ _ (as106 _ _ (as102 _ _ (as97 _ _ (as92 _ _ (as88 _ _ (as83 _ _ (as79 _ _ (as74 _ _ (as69 _ _ (as64 _ _ (as57 _ _ (as53 _ _ ae49))))))))))))))))
    have f_ap51 := (as124 _ _ (as119 _ _ (as115 _ _ (as111 _ _ (as106 _ _ (as102 _ _ (as97 _ _ (as92 _ _ (as88 _ _ (as83 _ _ (as79 _ _ (as74 _ _ (as69 _ _ (as64 _ _ (as57 _ _ ae54)))))))))))))))
    have f_ap55 := (as124 _ _ (as119 _ _ (as115 _ _ (as111 _ _ (as106 _ _ (as102 _ _ (as97 _ _ (as92 _ _ (as88 _ _ (as83 _ _ (as79 _ _ (as74 _ _ (as69 _ _ (as64 _ _ ae58))))))))))))))
    have f_ap62 := (as124 _ _ (as119 _ _ (as115 _ _ (as111 _ _ (as106 _ _ (as102 _ _ (as97 _ _ (as92 _ _ (as88 _ _ (as83 _ _ (as79 _ _ (as74 _ _ (as69 _ _ ae65)))))))))))))
    have f_ap67 := (as124 _ _ (as119 _ _ (as115 _ _ (as111 _ _ (as106 _ _ (as102 _ _ (as97 _ _ (as92 _ _ (as88 _ _ (as83 _ _ (as79 _ _ (as74 _ _ ae70))))))))))))
    have f_ap72 := (as124 _ _ (as119 _ _ (as115 _ _ (as111 _ _ (as106 _ _ (as102 _ _ (as97 _ _ (as92 _ _ (as88 _ _ (as83 _ _ (as79 _ _ ae75)))))))))))
    have f_ap77 := (as124 _ _ (as119 _ _ (as115 _ _ (as111 _ _ (as106 _ _ (as102 _ _ (as97 _ _ (as92 _ _ (as88 _ _ (as83 _ _ ae80))))))))))
    have f_ap81 := (as124 _ _ (as119 _ _ (as115 _ _ (as111 _ _ (as106 _ _ (as102 _ _ (as97 _ _ (as92 _ _ (as88 _ _ ae84)))))))))
    have f_ap86 := (as124 _ _ (as119 _ _ (as115 _ _ (as111 _ _ (as106 _ _ (as102 _ _ (as97 _ _ (as92 _ _ ae89))))))))
    have f_ap90 := (as124 _ _ (as119 _ _ (as115 _ _ (as111 _ _ (as106 _ _ (as102 _ _ (as97 _ _ ae93)))))))
    have f_ap95 := (as124 _ _ (as119 _ _ (as115 _ _ (as111 _ _ (as106 _ _ (as102 _ _ ae98))))))
    have f_ap100 := (as124 _ _ (as119 _ _ (as115 _ _ (as111 _ _ (as106 _ _ ae103)))))
    have f_ap104 := (as124 _ _ (as119 _ _ (as115 _ _ (as111 _ _ ae107))))
    have f_ap109 := (as124 _ _ (as119 _ _ (as115 _ _ ae112)))
    have f_ap113 := (as124 _ _ (as119 _ _ ae116))
    have f_ap117 := (as124 _ _ ae120)
    have f_ap122 := ae125
    have gW0 : ∀ {Hx : Hp}, But h H1 Hx → G0 K (del Hx h) (.ref tp) := fun {Hx} b => gp_work (wo'.tp fun c ys e => off_at (h1.ne_tup (K := K) e) (b c _ (h1.ne_tup (K := K) e) e)) (by omega) (by omega) fun m hm => gn m (us3 m hm)
    have gN0 : ∀ {Hx : Hp}, But h H1 Hx → G0 K (del Hx h) vn := fun {Hx} b => gp_name (nv.tp fun c ys e => off_at (h1.ne_tup (K := K) e) (b c _ (h1.ne_tup (K := K) e) e)) (gn n2 (us3 n2 (by rw [W.nms]; exact List.mem_cons_self)))
    have gW : G2 K (del aG126 h) (.ref tp) := up2 (up1 (gW0 bE))
    have gN : G2 K (del aG126 h) vn := up2 (up1 (gN0 bE))
    have q0 : G2 K (del aG126 h) (.ref ap6) := gp_app (offT hE f_ap6) ni (by omega) (gp_int (by first | omega | decide) (by first | omega | decide))
    have q1 : G2 K (del aG126 h) (.ref ap15) := gp_app (offT hE f_ap15) ni (by omega) (gp_int (by first | omega | decide) (by first | omega | decide))
    have q2 : G2 K (del aG126 h) (.ref ap24) := gp_app (offT hE f_ap24) ni (by omega) (gp_neg)
    have q3 : G2 K (del aG126 h) (.ref ap33) := gp_app (offT hE f_ap33) ni (by omega) (gp_int (by decide) (by decide))
    have q4 : G2 K (del aG126 h) (.ref ap42) := gp_app (offT hE f_ap42) ni (by omega) (gp_none)
    have q5 : G2 K (del aG126 h) (.ref ap51) := gp_app (offT hE f_ap51) ni (by omega) (gp_bool _)
    have q6 : G2 K (del aG126 h) (.ref ap55) := gp_plst (off_at aa61 f_ap55) ane60 ni (by omega)
    have q7 : G2 K (del aG126 h) (.ref ap77) := gp_app (offT hE f_ap77) ni (by omega) (gp_nil (offT hE f_ap67))
    have q8 : G2 K (del aG126 h) (.ref ap86) := gp_app (offT hE f_ap86) ni (by omega) (gp_s0)
    have q9 : G2 K (del aG126 h) (.ref ap90) := gp_one (offT hE f_ap90) (gp_pth (offT hE tE) ni (by omega))
    have q10 : G2 K (del aG126 h) (.ref ap100) := gp_app (offT hE f_ap100) ni (by omega) (gp_int (by first | omega | decide) (by first | omega | decide))
    have q11 : G2 K (del aG126 h) (vn) := gN
    have q12 : G2 K (del aG126 h) (.ref tp) := gW
    have q13 : G2 K (del aG126 h) (.ref ap113) := gp_cut (offT hE f_ap113) ni (by omega)
    have all0 : ∀ z ∈ ([.ref ap6, .ref ap15, .ref ap24, .ref ap33, .ref ap42, .ref ap51, .ref ap55] ++ [.ref ap77, .ref ap86, .ref ap90, .ref ap100, vn, .ref tp, .ref ap113] : List V), G2 K (del aG126 h) z := by
      intro z hz
      simp only [List.cons_append, List.nil_append, List.mem_cons, List.not_mem_nil, or_false] at hz
      rcases hz with e | e | e | e | e | e | e | e | e | e | e | e | e | e
      · rw [e]; exact q0
      · rw [e]; exact q1
      · rw [e]; exact q2
      · rw [e]; exact q3
      · rw [e]; exact q4
      · rw [e]; exact q5
      · rw [e]; exact q6
      · rw [e]; exact q7
      · rw [e]; exact q8
      · rw [e]; exact q9
      · rw [e]; exact q10
      · rw [e]; exact q11
      · rw [e]; exact q12
      · rw [e]; exact q13
    refine ⟨fun σ Hx => ∃ (L : Addr) (ys : List V) (c6 c7 : Option V) (m : Int), σ = [some (.ref h), some v, some (.ref t), some (.ref tp), some (.int (zs.length : Int)), some (.ref L), c6, c7] ∧ Hx L = some (.lst ys) ∧ L ≠ h ∧ ys ≠ [] ∧ ys.length ≤ 30 ∧ (∀ z ∈ ys, G2 K (del Hx h) z) ∧ Hand m Hx h ∧ m ≤ n + 25 ∧ But h aG126 Hx, ?_, ?_⟩
    · have base0 : ∀ (Hy : Hp), L2.Same aG126 Hy → Hand (n + 20) Hy h → ∃ (L : Addr) (ys : List V) (c6 c7 : Option V) (m : Int), [some (V.ref h), some v, some (.ref t), some (.ref tp), some (.int (zs.length : Int)), some (.ref ap122), none, none] = [some (.ref h), some v, some (.ref t), some (.ref tp), some (.int (zs.length : Int)), some (.ref L), c6, c7] ∧ Hy L = some (.lst ys) ∧ L ≠ h ∧ ys ≠ [] ∧ ys.length ≤ 30 ∧ (∀ z ∈ ys, G2 K (del Hy h) z) ∧ Hand m Hy h ∧ m ≤ n + 25 ∧ But h aG126 Hy := fun Hy s hh =>
        ⟨_, _, none, none, n + 20, rfl, s _ _ f_ap122, LH, by simp, by simp, fun z hz => (all0 z hz).same (off_but (Same.but s h)), hh, by omega, Same.but s h⟩
      refine ⟨_, rfl, (by show 0 ≤ sizeLine; decide), fun z nz => ?_⟩
      have sz := same_upd nz (o := .tup [])
      refine ⟨t, z, _, rfl, rfl, sz _ _ tE, upd_same, _, rfl, ite2 (fun e => ?_) (fun e => ?_)⟩
      · have npos : 0 < ns.length := by
          cases ns with
          | nil => cases e
          | cons _ _ => simp
        refine ⟨_, rfl, _, rfl, t, _, rfl, .inr (SqT.of (sz _ _ tE)), h, _, n + 20, rfl, by rw [List.length_map]; omega, lt30i (by rw [List.length_map]; omega), hE.same sz, by show n + 20 ≤ 1000000; omega, fun c H3 c0 c1 h3 b3 => ?_⟩
        have bE3 : But h aG126 H3 := (Same.but sz h).trans b3
        rw [List.length_map] at c1
        obtain ⟨j, rfl⟩ : ∃ j : Nat, c = (j : Int) := ⟨c.toNat, by omega⟩
        have hj : j < ns.length := by omega
        have atJ : atI (ns.map V.int) ((j : Nat) : Int) = some (.int ns[j]) := atI_nat (by rw [List.getElem?_map, List.getElem?_eq_getElem hj]; rfl)
        obtain ⟨nj0, nj1⟩ := ni ns[j] (List.getElem_mem hj)
        have t3 := bE3 _ _ (hE.ne_tup (K := K) tE) tE
        have lgJ : ns[j].natAbs.log2 < 1920 := lg (by omega) (by omega)
        have S3 := bE3 _ _ LH f_ap122
        have Sh := LH
        have l5 : ns.length ≤ 5 := ln
        refine ⟨_, rfl, _, rfl, _, rfl, t, _, (j : Int), .int ns[j], rfl, rfl, SqT.of t3, atJ, _, 1, rfl, rfl, 1, rfl, _, rfl, _, rfl, t, _, (j : Int), .int ns[j], rfl, rfl, SqT.of t3, atJ, _, rfl, lgJ, _, rfl, _, rfl, t, _, (j : Int), .int ns[j], rfl, rfl, SqT.of t3, atJ, (by show 1 ≤ sizeLine; decide), fun bp1 bn2 => ?_⟩
        have bs3 := same_upd bn2 (o := .tup [.int ns[j]])
        have be4 : (upd H3 bp1 (.tup [.int ns[j]])) bp1 = some (.tup [.int ns[j]]) := upd_same
        generalize upd H3 bp1 (.tup [.int ns[j]]) = bG5 at bs3 be4 ⊢
        refine ⟨_, rfl, _, rfl, t, _, (j : Int), .int ns[j], rfl, rfl, SqT.of (bs3 _ _ t3), atJ, _, 1, rfl, rfl, (by show 8 ≤ sizeLine; decide), fun bp6 bn7 => ?_⟩
        have bs8 := same_upd bn7 (o := .lst [.int (ns[j] + 1), .int (-1), .non, .bl true, .str (Str.ofString (toString ns[j])), .ref bp1, .int (ns[j] - 1), .int 9])
        have be9 : (upd bG5 bp6 (.lst [.int (ns[j] + 1), .int (-1), .non, .bl true, .str (Str.ofString (toString ns[j])), .ref bp1, .int (ns[j] - 1), .int 9])) bp6 = some (.lst [.int (ns[j] + 1), .int (-1), .non, .bl true, .str (Str.ofString (toString ns[j])), .ref bp1, .int (ns[j] - 1), .int 9]) := upd_same
        generalize upd bG5 bp6 (.lst [.int (ns[j] + 1), .int (-1), .non, .bl true, .str (Str.ofString (toString ns[j])), .ref bp1, .int (ns[j] - 1), .int 9]) = bG10 at bs8 be9 ⊢
        have bD := (bs3.trans bs8)
        have hD := ((h3.same bs3).same bs8)
        have lDh := (h3.same bs3).fresh bn7
        have fx := (bs8 _ _ be4)
        have fl := be9
        have tD := (bs8 _ _ (bs3 _ _ t3))
        refine ⟨h, n + 20 + 1, _, rfl, hD, by show n + 20 + 1 ≤ 1000000; omega, .inl ⟨bp6, _, rfl, fl, lDh, by simp, by show 8 < 1000; decide, fun u3 H4 mv h4 b4 => ?_⟩⟩
        have bE4 : But h H3 H4 := (Same.but bD h).trans b4
        have t4 := b4 _ _ (hD.ne_tup (K := K) tD) tD
        have fx4 := b4 _ _ (hD.ne_tup (K := K) fx) fx
        have S4 := bE4 _ _ Sh S3
        have gu : G1 K (del H4 h) u3 := by
          simp only [List.mem_cons, List.not_mem_nil, or_false] at mv
          rcases mv with e | e | e | e | e | e | e | e
          · rw [e]; exact up1 (gp_int (by omega) (by omega))
          · rw [e]; exact up1 gp_neg
          · rw [e]; exact up1 gp_none
          · rw [e]; exact up1 (gp_bool _)
          · rw [e]; exact up1 (gp_dig nj0 nj1)
          · rw [e]; exact gp_t7 (offT h4 fx4) (fun y hy => by rw [List.mem_singleton.mp hy]; exact gp_int nj0 (by omega)) (by show 1 ≤ 7; decide)
          · rw [e]; exact up1 (gp_pre nj0 nj1)
          · rw [e]; exact up1 (gp_int (by decide) (by decide))
        refine ⟨_, rfl, _, rfl, _, rfl, (j : Int), rfl, t, _, rfl, t4, fun cp1 cG2 cs3 ce4 => ?_⟩
        refine ⟨_, rfl, (by show 1 ≤ sizeLine; decide), fun cp5 cn6 => ?_⟩
        have cs7 := same_upd cn6 (o := .tup [u3])
        have ce8 : (upd cG2 cp5 (.tup [u3])) cp5 = some (.tup [u3]) := upd_same
        generalize upd cG2 cp5 (.tup [u3]) = cG9 at cs7 ce8 ⊢
        refine ⟨cp1, cp5, _, _, rfl, rfl, (cs7 _ _ ce4), ce8, fits (by have := cutV_length (ns.map V.int) none (some (j : Int)); rw [List.length_map] at this; omega) (by simp), fun cp10 cG11 cs12 ce13 => ?_⟩
        refine ⟨_, rfl, _, rfl, (j : Int), 1, rfl, rfl, _, rfl, t, _, rfl, (cs12 _ _ (cs7 _ _ (cs3 _ _ t4))), fun cp14 cG15 cs16 ce17 => ?_⟩
        refine ⟨cp10, cp14, _, _, rfl, rfl, (cs16 _ _ ce13), ce17, fits (by rw [List.length_append]; have := cutV_length (ns.map V.int) none (some (j : Int)); rw [List.length_map] at this; show _ + 1 ≤ 10; omega) (by have := cutV_length (ns.map V.int) (some ((j : Int) + 1)) none; rw [List.length_map] at this; omega), fun cp18 cG19 cs20 ce21 => ?_⟩
        refine ⟨(by show 1 ≤ sizeLine; decide), fun cp22 cn23 => ?_⟩
        have cs24 := same_upd cn23 (o := .lst [.ref cp18])
        have ce25 : (upd cG19 cp22 (.lst [.ref cp18])) cp22 = some (.lst [.ref cp18]) := upd_same
        generalize upd cG19 cp22 (.lst [.ref cp18]) = cG26 at cs24 ce25 ⊢
        refine ⟨cp22, 8, _, rfl, rfl, ce25, by decide, by decide, (by show 1 * 8 ≤ sizeLine; decide), fun cp27 cn28 => ?_⟩
        have cs29 := same_upd cn28 (o := .lst (List.replicate (8 : Int).toNat [.ref cp18]).flatten)
        have ce30 : (upd cG26 cp27 (.lst (List.replicate (8 : Int).toNat [.ref cp18]).flatten)) cp27 = some (.lst (List.replicate (8 : Int).toNat [.ref cp18]).flatten) := upd_same
        generalize upd cG26 cp27 (.lst (List.replicate (8 : Int).toNat [.ref cp18]).flatten) = cG31 at cs29 ce30 ⊢
        refine ⟨ap122, cp27, _, _, rfl, rfl, (cs29 _ _ (cs24 _ _ (cs20 _ _ (cs16 _ _ (cs12 _ _ (cs7 _ _ (cs3 _ _ S4))))))), ce30, (by show 14 + 8 ≤ sizeLine; decide), fun cp32 cn33 => ?_⟩
        have cs34 := same_upd cn33 (o := .lst (([.ref ap6, .ref ap15, .ref ap24, .ref ap33, .ref ap42, .ref ap51, .ref ap55] ++ [.ref ap77, .ref ap86, .ref ap90, .ref ap100, vn, .ref tp, .ref ap113] : List V) ++ (List.replicate (8 : Int).toNat [.ref cp18]).flatten))
        have ce35 : (upd cG31 cp32 (.lst (([.ref ap6, .ref ap15, .ref ap24, .ref ap33, .ref ap42, .ref ap51, .ref ap55] ++ [.ref ap77, .ref ap86, .ref ap90, .ref ap100, vn, .ref tp, .ref ap113] : List V) ++ (List.replicate (8 : Int).toNat [.ref cp18]).flatten))) cp32 = some (.lst (([.ref ap6, .ref ap15, .ref ap24, .ref ap33, .ref ap42, .ref ap51, .ref ap55] ++ [.ref ap77, .ref ap86, .ref ap90, .ref ap100, vn, .ref tp, .ref ap113] : List V) ++ (List.replicate (8 : Int).toNat [.ref cp18]).flatten)) := upd_same
        generalize upd cG31 cp32 (.lst (([.ref ap6, .ref ap15, .ref ap24, .ref ap33, .ref ap42, .ref ap51, .ref ap55] ++ [.ref ap77, .ref ap86, .ref ap90, .ref ap100, vn, .ref tp, .ref ap113] : List V) ++ (List.replicate (8 : Int).toNat [.ref cp18]).flatten)) = cG36 at cs34 ce35 ⊢
        have bK := (((((((cs3.trans cs7).trans cs12).trans cs16).trans cs20).trans cs24).trans cs29).trans cs34)
        have hK := ((((((((h4.same cs3).same cs7).same cs12).same cs16).same cs20).same cs24).same cs29).same cs34)
        have b34 : But h H3 cG36 := bE4.trans (Same.but bK h)
        have fc := (cs34 _ _ (cs29 _ _ (cs24 _ _ ce21)))
        have gc : G2 K (del cG36 h) (.ref cp18) := gp_u7 (offT hK fc) (fun y hy => by
          rcases List.mem_append.mp hy with z | z
          · rcases List.mem_append.mp z with z | z
            · exact up1 (gp_ints ni y (cut_mem z))
            · rw [List.mem_singleton.mp z]; exact gu.same (off_but (Same.but bK h))
          · exact up1 (gp_ints ni y (cut_mem z))) (by
          rw [List.length_append, List.length_append]
          exact cut_two hj l5)
        refine ⟨_, _, _, _, n + 20 + 2, rfl, ce35, (((((((h4.same cs3).same cs7).same cs12).same cs16).same cs20).same cs24).same cs29).fresh cn33, by simp, by simp, fun z hz => ?_, hK.mono (by omega), by omega, bE3.trans b34⟩
        rcases List.mem_append.mp hz with z1 | z1
        · exact (all0 z z1).same (off_but (bE3.trans b34))
        · rw [rep_mem z1]; exact gc
      · exact base0 _ sz (hE.same sz)
    rintro σ Hx ⟨L, ys, c6, c7, m, rfl, eL, Lh, yne, y30, gy, hx, mm, bx⟩
    have hm0 : m + 1 ≤ n + 30 := by omega
    refine ⟨_, rfl, _, rfl, h, m, _, rfl, hx, by show m ≤ 1000000; omega, .inl ⟨L, ys, rfl, eL, Lh, yne, by omega, fun v' H' mv h' b' => ?_⟩⟩
    exact q v' H' ((gy v' mv).same (off_but b')) (h'.mono hm0) (b1.trans (bE.trans (bx.trans b')))
end
end K39
set_option Elab.async false
set_option linter.all false
set_option maxRecDepth 100000
set_option maxHeartbeats 4000000
set_option pp.maxSteps 400
set_option pp.deepTerms false
namespace K39
open PySem PySem.Spec PyProof.Rows L2
open Xk Az W37 Xtu
section
variable {P : Program} {w : World} {K : PySem.W.Frag} {mg : Str → Option Value} {base : Heap}
def spDeep (K : PySem.W.Frag) : Sp := fun vs H Q _ => ∃ (h : Addr) (n : Int), vs = [.ref h] ∧ Hand n H h ∧ n + 100 ≤ far ∧
  ∀ v H', Gp K 40 2000000 (del H' h) v → Hand (n + 60) H' h → But h H H' → Q v H'
theorem ok_deep {f : Addr} {fd : FuncData} (D : Df K mg "_law_deep" ["_law_hand_here"] sDeep f fd) (T : Txt mg) (cT : Ca P w K mg base 1 "_law_take" ["_law_hand_here", "_law_many"] spTake) : FnOk P w K mg base CX0 2 f fd ["_law_hand_here"] (spDeep K) := by
  refine D.fn.ok scDeep (fun vs H Q E h => ?_) (fun cdv A outer s H vs Q E hr h => ?_)
  · obtain ⟨h, n, rfl, hd, hn, q⟩ := h
    rfl
  · obtain ⟨h, n, rfl, hd, hn, q⟩ := h
    refine ⟨_, (pss_cons (ps_set (i := 1) scDeep.nd rfl (.inl rfl) pe_int)
      (pss_cons (ps_for PassesOwn.never rfl (pi_range1 (by rfl) T.range (pa_cons (pe_ca cT hr (by decide) (by rfl) (pa_cons (pv 0) (pa_cons pe_int pa_nil))) pa_nil)) (pg_name (i := 2) scDeep.nd rfl (.inl rfl)) (pss_one (ps_set (i := 1) scDeep.nd rfl (.inl rfl) (pe_ix ix_list (pe_lst (pa_cons (pe_tup (pa_cons (pv 1) pa_nil)) (pa_cons (pe_lstZ (pa_cons (pv 1) pa_nil)) (pa_cons (pe_disp (pps_cons pe_str (pv 1) pps_nil) rfl rfl (by simp) (by decide)) pa_nil)))) (pe_ca cT hr (by decide) (by rfl) (pa_cons (pv 0) (pa_cons pe_int pa_nil))) (fun _ _ => rfl)))))
      (pss_one (ps_ret (pv 1))))), ?_⟩
    have fr : n + 100 ≤ 1000000 := hn
    refine ⟨_, rfl, h, 29, n, rfl, by decide, by decide, hd, by show n ≤ 1000000; omega, fun r H2 r0 r1 h2 b2 => ?_⟩
    refine ⟨_, rfl, by omega, by omega, for_range (lo := 0) (n := r.toNat) (fun k σ Hi => ∃ (v : V) (c2 : Option V), σ = [some (.ref h), some v, c2] ∧ Gp K (2 + k) (30 + 20 * k) (del Hi h) v ∧ Hand (n + 1 + k) Hi h ∧ But h H Hi) ?_ ?_ ?_⟩
    · exact ⟨_, none, rfl, ⟨_, .int 0, (nice_int (n := 30) (by decide +kernel) (by decide +kernel)).mono (by decide) (by decide), fun ds e => by cases e⟩, h2.mono (by omega), b2⟩
    · rintro k σ Hi hk ⟨v, c2, rfl, gv, hdi, bi⟩
      have k28 : k < 29 := by omega
      refine ⟨_, rfl, (by show 1 ≤ sizeLine; decide), fun p1 n1 => ?_⟩
      have q1 := same_upd n1 (o := .tup [v])
      refine ⟨_, rfl, (by show 1 ≤ sizeLine; decide), fun p2 n2 ne2 => ?_⟩
      have q2 := same_upd n2 (o := .lst [v])
      intro p4 n4
      have a2 := (hdi.same q1).fresh n2
      have a4 := ((hdi.same q1).same q2).fresh n4
      refine ⟨_, rfl, upd_same, [(Sum.inr "a", v)], rfl, (by show 1 ≤ 15; decide), (by show 3 ≤ sizeLine; decide), fun l2 nl2 => ?_⟩
      have q4 : L2.Same (upd (upd Hi p1 (.tup [v])) p2 (.lst [v])) (upd (upd (upd (upd Hi p1 (.tup [v])) p2 (.lst [v])) p4 (.dK [])) p4 (.dK (mergeK [] [(Sum.inr "a", v)]))) := by
        rw [upd_upd]
        exact same_upd n4
      have q5 := same_upd nl2 (o := .lst [.ref p1, .ref p2, .ref p4])
      have hd5 := (((hdi.same q1).same q2).same q4).same q5
      refine ⟨_, rfl, h, 3, n + 1 + k, rfl, by decide, by decide, hd5, by show n + 1 + (k : Int) ≤ 1000000; omega, fun a H5 a0 a1' h5 b5 => ?_⟩
      have l2A := (((hdi.same q1).same q2).same q4).fresh nl2
      have al := ((q1.trans q2).trans q4).trans q5
      have bt : But h Hi H5 := (Same.but al h).trans b5
      have g1a := ((q2.trans q4).trans q5) _ _ (upd_same (H := Hi) (a := p1) (o := .tup [v]))
      have g1 : H5 p1 = some (.tup [v]) := b5 _ _ (hd5.ne_tup (K := K) g1a) g1a
      have g2 : H5 p2 = some (.lst [v]) := b5 _ _ a2 ((q4.trans q5) _ _ upd_same)
      have g4 : H5 p4 = some (.dK [(Sum.inr "a", v)]) := b5 _ _ a4 (q5 _ _ upd_same)
      have g5 : H5 l2 = some (.lst [.ref p1, .ref p2, .ref p4]) := b5 _ _ l2A upd_same
      obtain ⟨d, dz, nc, _⟩ := gv.same (off_but bt)
      have nx : ∀ (x : Addr) (d' : PyData), Dz K (del H5 h) (.ref x) d' → Nice d' (2 + (k + 1)) (30 + 20 * (k + 1)) → (∀ ds, d' = .tuple ds → ds.length ≤ 1000) → ∃ (v2 : V) (c2 : Option V), [some (V.ref h), some (V.ref x), some (.int (0 + (k : Int)))] = [some (V.ref h), some v2, c2] ∧
          Gp K (2 + (k + 1)) (30 + 20 * (k + 1)) (del H5 h) v2 ∧ Hand (n + 1 + ((k + 1 : Nat) : Int)) H5 h ∧ But h H H5 :=
        fun x d' w1 w2 w3 => ⟨_, _, rfl, ⟨d', w1, w2, w3⟩, h5.mono (by omega), bi.trans bt⟩
      have hl : (reprText ("a" : Str)).length ≤ 6 := by decide +kernel
      obtain ⟨j, rfl⟩ : ∃ j : Nat, a = (j : Int) := ⟨a.toNat, by omega⟩
      have hj : j < 3 := by omega
      match j, hj with
      | 0, _ => exact ⟨l2, _, _, _, rfl, rfl, SqL.of g5, atI_nat (j := 0) rfl, nx p1 (.tuple [d]) (.tup (offT h5 g1) (.cons dz .nil)) ((nice_tup1 nc).mono (by omega) (by omega)) (fun ds e => by cases e; show 1 ≤ 1000; decide)⟩
      | 1, _ => exact ⟨l2, _, _, _, rfl, rfl, SqL.of g5, atI_nat (j := 1) rfl, nx p2 (.list [d]) (.lst (off_at a2 g2) ne2 (.cons dz .nil)) ((nice_lst1 nc).mono (by omega) (by omega)) (fun ds e => by cases e)⟩
      | 2, _ => exact ⟨l2, _, _, _, rfl, rfl, SqL.of g5, atI_nat (j := 2) rfl, nx p4 (.dict [(.str "a", d)]) (.dct (off_at a4 g4) (.cons (k := Sum.inr "a") dz .nil)) ((nice_dct1 hl nc).mono (by omega) (by omega)) (fun ds e => by cases e)⟩
    rintro σ He ⟨v, c2, rfl, gv, hde, be⟩
    have rr : r.toNat ≤ 29 := by omega
    refine ⟨_, rfl, q v He (gv.mono (by omega) (by omega)) (hde.mono ?_) be⟩
    omega
end
end K39
set_option Elab.async false
set_option linter.all false
set_option maxRecDepth 100000
set_option maxHeartbeats 4000000
set_option pp.maxSteps 400
set_option pp.deepTerms false
namespace K39
open PySem PySem.Spec PyProof.Rows L2
open Xk Az W37 Xtu
section
variable {P : Program} {w : World} {K : PySem.W.Frag} {mg : Str → Option Value} {base : Heap}
theorem sameD {H : Hp} {D : Addr} {x : HO} (f : H D = none) : L2.Same H (del (upd H D x) D) := fun b o e => by
  rw [del_ne (ne_of_none e f), upd_ne (ne_of_none e f)]
  exact e
def spLaw (K : PySem.W.Frag) : Sp := fun vs H Q _ => ∃ (a : Addr) (ns : List Int), vs = [.ref a] ∧ SqL K H a (ns.map V.int) ∧ ns.length ≤ 63 ∧ ∀ H', Q (.bl true) H'
theorem ok_law {f : Addr} {fd : FuncData} {fA : Addr} {fdA : FuncData} (D : Df K mg "law" ["_law_script"] sLaw f fd) (T : Txt mg) (cH : Ca P w K mg base 1 "_law_hand" ["_law_script", "_law_k"] (spHand K)) (cT : Ca P w K mg base 1 "_law_take" ["_law_hand_here", "_law_many"] spTake) (cWo : Ca P w K mg base 9 "_law_work" ["_law_hand_here", "_law_many"] spWork) (cOd : Ca P w K mg base 3 "_law_odd" ["_law_hand_here", "_law_work_here"] (Xfr.spF (spOdd K))) (cDe : Ca P w K mg base 2 "_law_deep" ["_law_hand_here"] (spDeep K)) (cLd : Ca P w K mg base 2 "_law_led" ["_law_work_here", "_law_path"] (spLed K)) (DA : Df K mg "_law_asked" ["_law_work_here", "_law_path"] sAsked fA fdA) (GA : Gn P w K mg base 4 fA fdA ["_law_work_here", "_law_path"] (spAsk K)) : Gn P w K mg base 10 f fd ["_law_script"] (spLaw K) := by
  refine gn_body D.fn scLaw (fun vs H Q E h => ?_) (fun cdv A outer s H vs Q E hg hr h => ?_)
  · obtain ⟨a, ns, rfl, hS, hlen, q⟩ := h
    rfl
  · obtain ⟨a, ns, rfl, hS, hlen, q⟩ := h
    refine ⟨_, (pss_cons (ps_for PassesOwn.never rfl (pi_range1 (by rfl) T.range (pa_cons (pe_callB (call_max2 (by rfl)) (by rfl) T.max (by decide +kernel) (pa_cons pe_int (pa_cons (pe_callB (call_min2 (by rfl)) (by rfl) T.min (by decide +kernel) (pa_cons (pe_callB call_len_seq (by rfl) T.len PySem.boot_len (pa_cons (pv 0) pa_nil)) (pa_cons pe_int pa_nil))) pa_nil))) pa_nil)) (pg_name (i := 1) scLaw.nd rfl (.inl rfl)) (pss_cons (ps_set (i := 2) scLaw.nd rfl (.inr rfl) (pe_ca cH hr (by decide) (by rfl) (pa_cons (pv 0) (pa_cons (pv 1) pa_nil))))
      (pss_cons (ps_set (i := 3) scLaw.nd rfl (.inr rfl) (pe_ix ix_tup (pe_ca cWo hr (by decide) (by rfl) (pa_cons (pv 2) (pa_cons (pe_op op_add pe_int (pe_ca cT hr (by decide) (by rfl) (pa_cons (pv 2) (pa_cons pe_int pa_nil)))) pa_nil))) pe_int (fun _ _ => rfl)))
      (C8.pss_cut (ps_set (i := 4) scLaw.nd rfl (.inl rfl) (pe_lst (pa_cons pe_non (pa_cons pe_bl (pa_cons pe_int (pa_cons pe_str (pa_cons pe_str (pa_cons (pe_lstZ pa_nil) (pa_cons pe_dnewK (pa_cons (pe_tup (pa_cons pe_int pa_nil)) (pa_cons (pe_tup (pa_cons (pe_tup pa_nil) pa_nil)) (pa_cons (pe_tup (pa_cons pe_bl pa_nil)) (pa_cons (pe_tup (pa_cons (pe_un un_neg pe_int) pa_nil)) (pa_cons (pe_op Xrp.op_repU (pe_tup (pa_cons pe_int pa_nil)) pe_int) pa_nil))))))))))))))
      (C8.pss_cut (ps_set (i := 4) scLaw.nd rfl (.inl rfl) (pe_op op_cat (pv 4) (pe_lst (pa_cons (pe_ca cDe hr (by decide) (by rfl) (pa_cons (pv 2) pa_nil)) (pa_cons (pe_ca cDe hr (by decide) (by rfl) (pa_cons (pv 2) pa_nil)) pa_nil)))))
      (pss_one (ps_for PassesOwn.never rfl (pi_list (pe_op op_cat (pv 4) (pe_lc (own := [("_law_turn", 8)]) (g := gName 8) (tt := tYes) (te := tCall (Xfr.spF (spOdd K)) [] E0 (tCons (tVar 2) (tCons (tVar 3) tNil))) (by rfl) scLaw.nd (pi_range1 (by rfl) T.range (pa_cons pe_int pa_nil)) (blkOk_by (own := [("_law_turn", 8)]) (N := ["_law_script", "_law_k", "_law_hand_here", "_law_work_here", "_law_things", "_law_path", "_law_part", "_law_due", "_law_turn"]) (sc := defScope sLaw) (by decide +kernel)) (fun _ _ _ _ _ => pg_name (i := 8) scLaw.nd rfl (.inl rfl)) (fun _ _ _ _ _ => pts_nil) (fun _ _ _ _ _ => pe_ca cOd hr (by decide) (by rfl) (pa_cons (pv 2) (pa_cons (pv 3) pa_nil)))))) (pg_name (i := 5) scLaw.nd rfl (.inl rfl)) (pss_cons (ps_set (i := 6) scLaw.nd rfl (.inl rfl) (pe_ca cLd hr (by decide) (by rfl) (pa_cons (pv 3) (pa_cons (pv 5) pa_nil))))
      (C8.pss_cut (ps_set (i := 7) scLaw.nd rfl (.inl rfl) (pe_ifExp (pt_cmpR op_notN (pv 6) pe_non (nomark _)) (pe_callB (cr_reprZ hg hr) (by rfl) T.repr (by decide +kernel) (pa_cons (pv 6) pa_nil)) (pe_tup (pa_cons pe_bl (pa_cons (pe_callB (cr_reprZ hg hr) (by rfl) T.repr (by decide +kernel) (pa_cons (pv 5) pa_nil)) pa_nil)))))
      (pss_one (ps_if (pt_cmpR (op_alt op_ne (Xne.op_neG mon_flat eqG_flat (hr.mono (by decide)))) ((pe_gn GA hg (hr.mono (by decide)) (by rfl) DA.mgf DA.fn.kp DA.bd (pa_cons (pv 3) (pa_cons (pv 5) pa_nil)))) (pv 7) (nomark _)) (pss_one (ps_ret pe_bl)) pss_nil)))))))))))
      (pss_one (ps_ret pe_bl))), ?_⟩
    refine ⟨_, rfl, a, _, rfl, .inl hS, _, 5, rfl, 1, _, rfl, _, rfl, ?_, ?_, for_range (lo := 0) (fun k σ Hi => ∃ c1 c2 c3 c4 c5 c6 c7 c8 : Option V, σ = [some (.ref a), c1, c2, c3, c4, c5, c6, c7, c8] ∧ L2.Same H Hi) ?_ ?_ ?_⟩
    · rw [List.length_map]; split <;> (try split) <;> omega
    · rw [List.length_map]; split <;> (try split) <;> omega
    · exact ⟨_, _, _, _, _, _, _, _, rfl, Same.refl H⟩
    · rintro kk σ Hi hk ⟨c1, c2, c3, c4, c5, c6, c7, c8, rfl, sm⟩
      refine ⟨_, rfl, _, rfl, a, 0 + (kk : Int), ns, rfl, by omega, sm.seq hS, fun h g m nh g0 m0 m1 => ?_⟩
      have sh := same_upd nh (o := .lst [.int g, .int m, .int 0])
      have hh0 : Hand 0 (upd Hi h (.lst [.int g, .int m, .int 0])) h := ⟨g, m, 0, upd_same, g0, m0, m1, Int.le_refl _, Int.le_refl _⟩
      have back : ∀ {Hz : Hp}, But h (upd Hi h (.lst [.int g, .int m, .int 0])) Hz → L2.Same H Hz := fun {Hz} b y o e => by
        have e2 := sm _ _ e
        exact b y o (ne_of_none e2 nh) (sh _ _ e2)
      generalize upd Hi h (.lst [.int g, .int m, .int 0]) = H0 at hh0 back ⊢
      clear sh
      refine ⟨_, rfl, _, rfl, h, 20, 0, rfl, by decide, by decide, hh0, by decide, fun e H3 ee0 ee1 h3 b3 => ?_⟩
      refine ⟨1, e, rfl, rfl, h, 1, 1 + e, rfl, by omega, by omega, h3, by decide, fun t A O v w xa xo no H4 et wk dw eA Ah nA nmA eO Oh nO nmO lno nd gn lw h4 b4 => ⟨t, _, 0, v, rfl, rfl, SqT.of et, rfl, ?_⟩⟩
      have b04 := b3.trans b4
      clear b3 nA nO
      have gnA : ∀ m ∈ w.nms, Gn' m := fun m hm => gn m (List.mem_append_left _ hm)
      have up : ∀ {H : Hp} {v : V} {k n : Nat}, Gp K k n H v → (hk : k ≤ 40 := by decide) → (hn : n ≤ 2000000 := by decide) → Gp K 40 2000000 H v := fun g hk hn => g.mono hk hn
      refine ⟨fun σ Hx => ∃ (L : Addr) (zs : List V), σ = [some (.ref a), some (.int (0 + (kk : Int))), some (.ref h), some v, some (.ref L), c5, c6, c7, c8] ∧ Hx L = some (.lst zs) ∧ L ≠ h ∧ zs.length ≤ 20 ∧ (∀ z ∈ zs, Gp K 40 2000000 (del Hx h) z) ∧ Hand 601 Hx h ∧ But h H4 Hx, ?_, ?_⟩
      · refine ⟨(by show 0 ≤ sizeLine; decide), fun dp1 dn2 dne6 => ?_⟩
        have da7 := h4.fresh dn2
        have ds3 := same_upd dn2 (o := .lst [])
        have de4 : (upd H4 dp1 (.lst [])) dp1 = some (.lst []) := upd_same
        generalize upd H4 dp1 (.lst []) = dG5 at ds3 de4 ⊢
        intro dp8 dn9
        have da13 := (h4.same ds3).fresh dn9
        have ds10 := same_upd dn9 (o := .dK [])
        have de11 : (upd dG5 dp8 (.dK [])) dp8 = some (.dK []) := upd_same
        generalize upd dG5 dp8 (.dK []) = dG12 at ds10 de11 ⊢
        refine ⟨(by show 1 ≤ sizeLine; decide), fun dp14 dn15 => ?_⟩
        have ds16 := same_upd dn15 (o := .tup [.int 0])
        have de17 : (upd dG12 dp14 (.tup [.int 0])) dp14 = some (.tup [.int 0]) := upd_same
        generalize upd dG12 dp14 (.tup [.int 0]) = dG18 at ds16 de17 ⊢
        refine ⟨(by show 0 ≤ sizeLine; decide), fun dp19 dn20 => ?_⟩
        have ds21 := same_upd dn20 (o := .tup [])
        have de22 : (upd dG18 dp19 (.tup [])) dp19 = some (.tup []) := upd_same
        generalize upd dG18 dp19 (.tup []) = dG23 at ds21 de22 ⊢
        refine ⟨(by show 1 ≤ sizeLine; decide), fun dp24 dn25 => ?_⟩
        have ds26 := same_upd dn25 (o := .tup [.ref dp19])
        have de27 : (upd dG23 dp24 (.tup [.ref dp19])) dp24 = some (.tup [.ref dp19]) := upd_same
        generalize upd dG23 dp24 (.tup [.ref dp19]) = dG28 at ds26 de27 ⊢
        refine ⟨(by show 1 ≤ sizeLine; decide), fun dp29 dn30 => ?_⟩
        have ds31 := same_upd dn30 (o := .tup [.bl false])
        have de32 : (upd dG28 dp29 (.tup [.bl false])) dp29 = some (.tup [.bl false]) := upd_same
        generalize upd dG28 dp29 (.tup [.bl false]) = dG33 at ds31 de32 ⊢
        refine ⟨1, rfl, (by show 1 ≤ sizeLine; decide), fun dp34 dn35 => ?_⟩
        have ds36 := same_upd dn35 (o := .tup [.int (-1)])
        have de37 : (upd dG33 dp34 (.tup [.int (-1)])) dp34 = some (.tup [.int (-1)]) := upd_same
        generalize upd dG33 dp34 (.tup [.int (-1)]) = dG38 at ds36 de37 ⊢
        refine ⟨(by show 1 ≤ sizeLine; decide), fun dp39 dn40 => ?_⟩
        have ds41 := same_upd dn40 (o := .tup [.int 0])
        have de42 : (upd dG38 dp39 (.tup [.int 0])) dp39 = some (.tup [.int 0]) := upd_same
        generalize upd dG38 dp39 (.tup [.int 0]) = dG43 at ds41 de42 ⊢
        refine ⟨dp39, 6, _, rfl, rfl, de42, by simp, by decide, by decide, by simp, fun dp44 dG45 ds46 de47 => ?_⟩
        refine ⟨(by show 12 ≤ sizeLine; decide), fun dp48 dn49 => ?_⟩
        have ds50 := same_upd dn49 (o := .lst [.non, .bl true, .int 0, .str "", .str "0", .ref dp1, .ref dp8, .ref dp14, .ref dp24, .ref dp29, .ref dp34, .ref dp44])
        have de51 : (upd dG45 dp48 (.lst [.non, .bl true, .int 0, .str "", .str "0", .ref dp1, .ref dp8, .ref dp14, .ref dp24, .ref dp29, .ref dp34, .ref dp44])) dp48 = some (.lst [.non, .bl true, .int 0, .str "", .str "0", .ref dp1, .ref dp8, .ref dp14, .ref dp24, .ref dp29, .ref dp34, .ref dp44]) := upd_same
        generalize upd dG45 dp48 (.lst [.non, .bl true, .int 0, .str "", .str "0", .ref dp1, .ref dp8, .ref dp14, .ref dp24, .ref dp29, .ref dp34, .ref dp44]) = dG52 at ds50 de51 ⊢
        have sT := (((((((((ds3.trans ds10).trans ds16).trans ds21).trans ds26).trans ds31).trans ds36).trans ds41).trans ds46).trans ds50)
        have hT := ((((((((((h4.same ds3).same ds10).same ds16).same ds21).same ds26).same ds31).same ds36).same ds41).same ds46).same ds50)
        have f_dp1 := (ds50 _ _ (ds46 _ _ (ds41 _ _ (ds36 _ _ (ds31 _ _ (ds26 _ _ (ds21 _ _ (ds16 _ _ (ds10 _ _ de4)))))))))
        have f_dp8 := (ds50 _ _ (ds46 _ _ (ds41 _ _ (ds36 _ _ (ds31 _ _ (ds26 _ _ (ds21 _ _ (ds16 _ _ de11))))))))
        have f_dp14 := (ds50 _ _ (ds46 _ _ (ds41 _ _ (ds36 _ _ (ds31 _ _ (ds26 _ _ (ds21 _ _ de17)))))))
        have f_dp19 := (ds50 _ _ (ds46 _ _ (ds41 _ _ (ds36 _ _ (ds31 _ _ (ds26 _ _ de22))))))
        have f_dp24 := (ds50 _ _ (ds46 _ _ (ds41 _ _ (ds36 _ _ (ds31 _ _ de27)))))
        have f_dp29 := (ds50 _ _ (ds46 _ _ (ds41 _ _ (ds36 _ _ de32))))
        have f_dp34 := (ds50 _ _ (ds46 _ _ (ds41 _ _ de37)))
        have f_dp39 := (ds50 _ _ (ds46 _ _ de42))
        have f_dp44 := (ds50 _ _ de47)
        have f_dp48 := de51
        have Lh := (((((((((h4.same ds3).same ds10).same ds16).same ds21).same ds26).same ds31).same ds36).same ds41).same ds46).fresh dn49
        have q0 : Gp K 40 2000000 (del dG52 h) (.non) := up gp_none
        have q1 : Gp K 40 2000000 (del dG52 h) (.bl true) := up (gp_bool _)
        have q2 : Gp K 40 2000000 (del dG52 h) (.int 0) := up (gp_int (by decide) (by decide))
        have q3 : Gp K 40 2000000 (del dG52 h) (.str "") := up (gp_str (by decide +kernel) (by decide +kernel))
        have q4 : Gp K 40 2000000 (del dG52 h) (.str "0") := up gp_s0
        have q5 : Gp K 40 2000000 (del dG52 h) (.ref dp1) := ⟨_, .lst (off_at da7 f_dp1) dne6 .nil, nice_lst0.mono (by decide) (by decide), fun ds e => by cases e⟩
        have q6 : Gp K 40 2000000 (del dG52 h) (.ref dp8) := ⟨_, .dct (off_at da13 f_dp8) .nil, nice_dct0.mono (by decide) (by decide), fun ds e => by cases e⟩
        have q7 : Gp K 40 2000000 (del dG52 h) (.ref dp14) := up (gp_t7 (offT hT f_dp14) (fun y hy => by rw [List.mem_singleton.mp hy]; exact gp_int (by decide) (by decide)) (by show 1 ≤ 7; decide))
        have q8 : Gp K 40 2000000 (del dG52 h) (.ref dp24) := up (gp_t7 (offT hT f_dp24) (fun y hy => by rw [List.mem_singleton.mp hy]; exact gp_nil (offT hT f_dp19)) (by show 1 ≤ 7; decide))
        have q9 : Gp K 40 2000000 (del dG52 h) (.ref dp29) := up (gp_t7 (offT hT f_dp29) (fun y hy => by rw [List.mem_singleton.mp hy]; exact gp_bool _) (by show 1 ≤ 7; decide))
        have q10 : Gp K 40 2000000 (del dG52 h) (.ref dp34) := up (gp_t7 (offT hT f_dp34) (fun y hy => by rw [List.mem_singleton.mp hy]; exact gp_neg) (by show 1 ≤ 7; decide))
        have q11 : Gp K 40 2000000 (del dG52 h) (.ref dp44) := up (gp_t7 (offT hT f_dp44) (fun y hy => by rw [rep_mem hy]; exact gp_int (by decide) (by decide)) (by show 6 ≤ 7; decide))
        refine ⟨dp48, _, rfl, f_dp48, Lh, by simp, fun z hz => ?_, hT, Same.but sT h⟩
        simp only [List.mem_cons, List.not_mem_nil, or_false] at hz
        rcases hz with e | e | e | e | e | e | e | e | e | e | e | e
        · rw [e]; exact q0
        · rw [e]; exact q1
        · rw [e]; exact q2
        · rw [e]; exact q3
        · rw [e]; exact q4
        · rw [e]; exact q5
        · rw [e]; exact q6
        · rw [e]; exact q7
        · rw [e]; exact q8
        · rw [e]; exact q9
        · rw [e]; exact q10
        · rw [e]; exact q11
      rintro σ Hx ⟨L, zs, rfl, eL, Lh, lz, az, hx, bx⟩
      refine ⟨fun σ Hy => ∃ (L : Addr) (zs : List V), σ = [some (.ref a), some (.int (0 + (kk : Int))), some (.ref h), some v, some (.ref L), c5, c6, c7, c8] ∧ Hy L = some (.lst zs) ∧ L ≠ h ∧ zs.length ≤ 30 ∧ (∀ z ∈ zs, Gp K 40 2000000 (del Hy h) z) ∧ Hand 721 Hy h ∧ But h H4 Hy, ?_, ?_⟩
      · refine ⟨_, rfl, _, rfl, h, 601, rfl, hx, by decide, fun u1 H5 g1 h5 b5 => ?_⟩
        refine ⟨_, rfl, h, 601 + 60, rfl, h5, by decide, fun u2 H6 g2 h6 b6 => ?_⟩
        refine ⟨(by show 2 ≤ sizeLine; decide), fun l7 n7 => ?_⟩
        have s7 := same_upd n7 (o := .lst [u1, u2])
        have e7 : (upd H6 l7 (.lst [u1, u2])) l7 = some (.lst [u1, u2]) := upd_same
        generalize upd H6 l7 (.lst [u1, u2]) = H7 at s7 e7 ⊢
        have b57 : But h Hx H7 := b5.trans (b6.trans (Same.but s7 h))
        have h7 := h6.same s7
        refine ⟨L, l7, _, _, rfl, rfl, b57 _ _ Lh eL, e7, Nat.le_trans (show zs.length + 2 ≤ 100 by omega) (by decide), fun l8 n8 => ?_⟩
        have s8 := same_upd n8 (o := .lst (zs ++ [u1, u2]))
        have b58 := b57.trans (Same.but s8 h)
        refine ⟨l8, _, rfl, upd_same, h7.fresh n8, by rw [List.length_append]; show zs.length + 2 ≤ 30; omega, fun z hz => ?_, h7.same s8, bx.trans b58⟩
        rcases List.mem_append.mp hz with y | y
        · exact (az z y).same (off_but b58)
        · simp only [List.mem_cons, List.not_mem_nil, or_false] at y
          rcases y with y | y
          · rw [y]; exact g1.same (off_but (b6.trans (Same.but (s7.trans s8) h)))
          · rw [y]; exact g2.same (off_but (Same.but (s7.trans s8) h))
      rintro σ G1 ⟨L, zs, rfl, eL, Lh, lz, az, hG1, bG1⟩
      refine ⟨_, rfl, 12, rfl, by decide, by decide, fun D nD' => ?_⟩
      have sD := same_upd nD' (o := .lst [])
      have Dh := hG1.fresh nD'
      have H4D : H4 D = none := bG1.free Dh nD'
      refine lc_range (lo := 0) (fun i Hx' => ∃ acc : List V, Hx' D = some (.lst acc) ∧ acc.length = i ∧ (∀ z ∈ acc, G2 K (del (del Hx' D) h) z) ∧ Hand (721 + 30 * i) Hx' h ∧ But h G1 Hx') ⟨[], upd_same, rfl, (fun z hz => by cases hz), (hG1.same sD).mono (by omega), Same.but sD h⟩ ?_ ?_
      · rintro i Gi hi ⟨acc, eD, la, aa, hGi, b12⟩
        have i12 : i < (12 : Int).toNat := hi
        have i12' : i < 12 := i12
        have b4i : But h H4 (del Gi D) := fun b o nb e => by
          rw [del_ne (ne_of_none e H4D)]
          exact (bG1.trans b12) b o nb e
        have hGd : Hand (721 + 30 * i) (del Gi D) h := by
          obtain ⟨g, m, c, e, r⟩ := hGi
          exact ⟨g, m, c, by rw [del_ne (Ne.symm Dh)]; exact e, r⟩
        refine ⟨rfl, ?_⟩
        unfold tYes
        refine iteT ?_
        refine ⟨_, rfl, _, rfl, D, acc, eD, h, 721 + 30 * i, v, w, rfl, wk.tp (fun c ys e => b4i c _ (h4.ne_tup (K := K) e) e), dw, by omega, gnA, hGd, (by show 721 + 30 * (i : Int) + 100 ≤ 1000000; omega), fun v' G4 g' hG4 b34 fD => ?_⟩
        refine ⟨acc, upd_same, Nat.lt_of_le_of_lt (show acc.length ≤ 100 by omega) (by decide), acc ++ [v'], upd_same, by rw [List.length_append, la]; rfl, fun z hz => ?_, ?_, ?_⟩
        · rw [upd_upd]
          have sD4 : L2.Same (del G4 h) (del (del (upd G4 D (.lst (acc ++ [v']))) D) h) := off_but (Same.but (sameD fD) h)
          rcases List.mem_append.mp hz with y | y
          · exact ((aa z y).same (off_but b34)).same sD4
          · rw [List.mem_singleton.mp y]
            exact g'.same sD4
        · rw [upd_upd]
          refine (hG4.upd (Ne.symm Dh)).mono ?_
          omega
        · intro b o nb e
          rw [upd_upd, upd_ne (ne_of_none e nD')]
          refine b34 b o nb ?_
          rw [del_ne (ne_of_none e nD')]
          exact b12 b o nb e
      · rintro Ge ⟨acc, eD, la, aa, hGe, b12⟩
        have la' : acc.length ≤ 20 := by rw [la]; decide
        refine ⟨L, D, zs, acc, rfl, rfl, b12 _ _ Lh eL, eD, Nat.le_trans (show zs.length + acc.length ≤ 100 by omega) (by decide), fun Z nZ => ?_⟩
        have sZ := same_upd nZ (o := .lst (zs ++ acc))
        have eZ : (upd Ge Z (.lst (zs ++ acc))) Z = some (.lst (zs ++ acc)) := upd_same
        generalize upd Ge Z (.lst (zs ++ acc)) = G3 at sZ eZ ⊢
        have allG : ∀ z ∈ zs ++ acc, Gp K 40 2000000 G3 z := fun z hz => by
          rcases List.mem_append.mp hz with y | y
          · exact (((az z y).same (off_but b12)).same off_all).same sZ
          · exact up ((((aa z y).same off_all).same off_all).same sZ)
        have bG3 : But h H0 G3 := b04.trans (bG1.trans (b12.trans (Same.but sZ h)))
        have wk3 : Wk G3 v w := wk.tp fun c ys e => (bG1.trans (b12.trans (Same.but sZ h))) c _ (h4.ne_tup (K := K) e) e
        clear aa az
        refine ⟨Z, rfl, ⟨_, SqL.of eZ⟩, for_list (K := K) (a := Z) (xs := zs ++ acc) (fun i σ Hx => ∃ c5 c6 c7 c8 : Option V, σ = [some (.ref a), some (.int (0 + (kk : Int))), some (.ref h), some v, some (.ref L), c5, c6, c7, c8] ∧ L2.Same G3 Hx) ⟨_, _, _, _, rfl, Same.refl _⟩ (fun i σ Hi _ z => by obtain ⟨_, _, _, _, _, z⟩ := z; exact SqL.of (z _ _ eZ)) ?_ ?_⟩
        · rintro i x σ Hx hx ⟨c5', c6', c7', c8', rfl, sx⟩
          obtain ⟨dx, zx, nx, tx⟩ := allG x (List.mem_of_getElem? hx)
          have wkx := wk3.tp (tp_same sx)
          have zxx := zx.same sx
          have nx6 : Nice dx 60 2000000 := nx.mono (by decide) (Nat.le_refl _)
          have ud : ∀ u, ledD w dx = some u → Nice u.dat 60 2000000 := fun u e => by
            obtain ⟨ds, e2⟩ : ∃ ds, led w ds = some u := by
              cases dx with
              | tuple ds => exact ⟨ds, e⟩
              | _ => cases e
            obtain ⟨us1, us2, us3⟩ := led_sub w u _ e2
            obtain ⟨a1, b1, c1⟩ := sw_W u fun m hm => gnA m (us3 m hm)
            obtain ⟨p1, p2, p3⟩ := W08.shown_le u.dat b1
            exact ⟨p1, by omega, by omega⟩
          refine ⟨_, rfl, _, rfl, v, x, w, dx, rfl, wkx, zxx, tx, fun vp wo => ?_⟩
          -- what is due
          refine ⟨fun σ H5 => ∃ (r : V) (c6 : Option V), σ = [some (.ref a), some (.int (0 + (kk : Int))), some (.ref h), some v, some (.ref L), some x, c6, some r, c8'] ∧ L2.Same Hx H5 ∧ AnsV H5 r w dx, ?_, ?_⟩
          · cases eu : ledD w dx with
            | none =>
              rw [eu] at wo
              obtain rfl : vp = .non := wo
              refine ⟨_, rfl, rfl, _, rfl, iteF ⟨_, rfl, x, dx, rfl, zxx, nx.sh, Nat.le_trans nx.dp (by decide), Nat.le_trans nx.sz (by decide), (by show 2 ≤ sizeLine; decide), fun t5 n5 => ?_⟩⟩
              exact ⟨.ref t5, _, rfl, same_upd n5, .inr ⟨eu, t5, rfl, upd_same⟩⟩
            | some u =>
              rw [eu] at wo
              have wo : Wk Hx vp u := wo
              have nu := ud u eu
              obtain ⟨t9, p9, vn9, zs9, n9, ps9, rfl, rfl, _⟩ := wk_pair wo
              refine ⟨_, rfl, rfl, _, rfl, iteT ⟨_, rfl, _, _, rfl, wo.dz, nu.sh, Nat.le_trans nu.dp (by decide), Nat.le_trans nu.sz (by decide), ?_⟩⟩
              exact ⟨_, _, rfl, Same.refl _, .inl ⟨_, eu, rfl⟩⟩
          rintro σ H5 ⟨r, c6'', rfl, s5, ar⟩
          refine ⟨_, rfl, _, rfl, v, x, w, dx, rfl, wkx.tp (tp_same s5), zxx.same s5, tx, nx6, ud, fun r2 H6 s6 ar2 => ⟨_, rfl, ?_⟩⟩
          rcases ar with ⟨u, eu, rfl⟩ | ⟨no, t1, rfl, e1⟩
          · rcases ar2 with ⟨u2, eu2, rfl⟩ | ⟨no2, _⟩
            · rw [eu] at eu2
              cases eu2
              refine .inl ⟨rfl, _, rfl, ?_⟩
              rw [show (!decide (V.str u.dat.shown = V.str u.dat.shown)) = false by simp]
              exact iteF ⟨_, _, _, _, rfl, sx.trans (s5.trans s6)⟩
            · rw [eu] at no2; cases no2
          · rcases ar2 with ⟨u2, eu2, rfl⟩ | ⟨no2, t2, rfl, e2⟩
            · rw [no] at eu2; cases eu2
            · refine .inr ⟨⟨t2, t1, _, _, rfl, rfl, SqT.of e2, SqT.of (s6 _ _ e1), Prs.cons ⟨rfl, rfl, by simp [eqV]⟩ (Prs.cons ⟨rfl, rfl, by simp [eqV]⟩ Prs.nil)⟩, fun H7 e7 => ⟨_, rfl, iteF ⟨_, _, _, _, rfl, ?_⟩⟩⟩
              exact sx.trans (s5.trans (s6.trans e7))
        · rintro σ Hx ⟨c5', c6', c7', c8', rfl, sx⟩
          exact ⟨_, _, _, _, _, _, _, _, rfl, fun c o e => sx _ _ (back bG3 c o e)⟩
    · rintro σ He _
      exact q _
end
end K39
set_option Elab.async false
set_option linter.all false
set_option maxRecDepth 100000
set_option maxHeartbeats 4000000
set_option pp.maxSteps 400
set_option pp.deepTerms false
namespace K39
open PySem PySem.Spec PyProof.Rows L2
open Xk Az W37 Xtu
theorem kit_self {K : PySem.W.Frag} {C : Addr} : PySem.W.kitOne K (.ref C) (.ref C) = some true := by
  unfold PySem.W.kitOne
  simp
theorem kit_in {K : PySem.W.Frag} {t : Value} {c : Addr} {b : Bool} (ic : PySem.W.isClsIn K c = true) (ty : PySem.W.typeIn K (.ref c) = some (.type "type")) (sb : PySem.W.subIn K t (.ref c) = some b) : PySem.W.kitCls K t (.ref c) = some b := by
  have h : ((PySem.W.clsIn K c).isSome && PySem.W.typeIn K (.ref c) == some (.type "type")) = true := by
    rw [show (PySem.W.clsIn K c).isSome = true from ic, ty]
    rfl
  unfold PySem.W.kitCls
  simp only [h, if_true]
  exact sb
theorem kit_no {K : PySem.W.Frag} {a c : Addr} (ic : PySem.W.isClsIn K c = true) (ty : PySem.W.typeIn K (.ref c) = some (.type "type")) (sb : PySem.W.subIn K (.ref a) (.ref c) = some false) (me : PySem.W.subIn K (.ref a) (.ref a) = some true) :
    PySem.W.kitOne K (.ref a) (.ref c) = some false := by
  have ne : ((Value.ref a == Value.ref c) = true) = False := by
    refine propext ⟨fun z => ?_, False.elim⟩
    have z2 : a = c := Value.ref.inj (beq_iff_eq.mp z)
    rw [← z2, me] at sb
    cases sb
  unfold PySem.W.kitOne
  simp only [ne, if_false]
  exact kit_in ic ty sb
theorem kit_yes {K : PySem.W.Frag} {a c : Addr} (ic : PySem.W.isClsIn K c = true) (ty : PySem.W.typeIn K (.ref c) = some (.type "type")) (sb : PySem.W.subIn K (.ref a) (.ref c) = some true) : PySem.W.kitOne K (.ref a) (.ref c) = some true := by
  unfold PySem.W.kitOne
  split
  · rfl
  · exact kit_in ic ty sb
theorem kit_ve {K : PySem.W.Frag} {a : Addr} (sb : PySem.W.subIn K (.ref a) (.type "ValueError") = some true) : PySem.W.kitOne K (.ref a) (.type "ValueError") = some true := by
  have h : PySem.W.kitMeta "ValueError" = true := by decide +kernel
  unfold PySem.W.kitOne PySem.W.kitCls
  split
  · rfl
  · simp only [h, if_true]
    exact sb
theorem kit_skip {K : PySem.W.Frag} {t c : Value} {r : List Value} {b : Bool} (h : PySem.W.kitOne K t c = some false) (hr : PySem.W.kitAny K t r = some b) : PySem.W.kitAny K t (c :: r) = some b := by
  unfold PySem.W.kitAny
  rw [h]
  exact hr
theorem exm_is {K : PySem.W.Frag} {t : Value} {c : Addr} {b : Bool} (ic : PySem.W.isClsIn K c = true) (ty : PySem.W.typeIn K (.ref c) = some (.type "type")) (be : PySem.W.subIn K (.ref c) (.type "BaseException") = some true) (sb : PySem.W.subIn K t (.ref c) = some b) :
    PySem.W.exmOne K t (.ref c) = some b := by
  unfold PySem.W.exmOne
  rw [be, if_pos (by decide)]
  exact kit_in ic ty sb
theorem exm_3 {K : PySem.W.Frag} {t c1 c2 c3 : Value} {b2 b3 : Bool} (h1 : PySem.W.exmOne K t c1 = some true) (h2 : PySem.W.exmOne K t c2 = some b2) (h3 : PySem.W.exmOne K t c3 = some b3) : PySem.W.exmAny K t [c1, c2, c3] = some true := by
  unfold PySem.W.exmAny PySem.W.exmAny PySem.W.exmAny PySem.W.exmAny
  rw [h1, h2, h3]
  rfl
theorem exm_ft {K : PySem.W.Frag} {t c1 c2 c3 : Value} (h1 : PySem.W.exmOne K t c1 = some false) (h2 : PySem.W.exmOne K t c2 = some true) (h3 : PySem.W.exmOne K t c3 = some false) : PySem.W.exmAny K t [c1, c2, c3] = some true := by
  unfold PySem.W.exmAny PySem.W.exmAny PySem.W.exmAny PySem.W.exmAny
  rw [h1, h2, h3]
  rfl
theorem kit_tyB {K : PySem.W.Frag} {a : Addr} {T : String} {b : Bool} (h : PySem.W.kitMeta T = true) (sb : PySem.W.subIn K (.ref a) (.type T) = some b) : PySem.W.kitOne K (.ref a) (.type T) = some b := by
  unfold PySem.W.kitOne PySem.W.kitCls
  split
  · rename_i z
    exact absurd (beq_iff_eq.mp z) (by simp)
  · simp only [h, if_true]
    exact sb
theorem all_mk {l : PySem.W.OpenLaw} {w : World} {K : PySem.W.Frag} {h : Heap} {mg : Str → Option Value} {fa cNotSuch cLost cTaken cNoNumber cStruck cNoKey cNoPath f0 f1 f2 f3 f4 f5 f6 f7 f8 f9 f10 f11 f12 f13 f14 f15 f16 f17 f18 f19 f20 f21 : Addr}
    {od0 an0 od1 an1 od2 an2 od3 an3 od4 an4 od5 an5 od6 an6 od7 an7 od8 an8 od9 an9 od10 an10 od11 an11 od12 an12 od13 an13 od14 an14 od15 an15 od16 an16 od17 an17 od18 an18 od19 an19 od20 an20 od21 an21 : Option Addr}
    {sl0 sl1 sl2 sl3 sl4 sl5 sl6 sl7 sl8 sl9 sl10 sl11 sl12 sl13 sl14 sl15 sl16 sl17 sl18 sl19 sl20 sl21 : Array (Option Value)}
    {oc0 kV0 dc0 pm0 cd0 ct0 oc1 kV1 dc1 pm1 cd1 ct1 oc2 kV2 dc2 pm2 cd2 ct2 oc3 kV3 dc3 pm3 cd3 ct3 oc4 kV4 dc4 pm4 cd4 ct4 oc5 kV5 dc5 pm5 cd5 ct5 oc6 kV6 dc6 pm6 cd6 ct6 oc7 kV7 dc7 pm7 cd7 ct7 oc8 kV8 dc8 pm8 cd8 ct8 oc9 kV9 dc9 pm9 cd9 ct9 oc10 kV10 dc10 pm10 cd10 ct10 oc11 kV11 dc11 pm11 cd11 ct11 oc12 kV12 dc12 pm12 cd12 ct12 oc13 kV13 dc13 pm13 cd13 ct13 oc14 kV14 dc14 pm14 cd14 ct14 oc15 kV15 dc15 pm15 cd15 ct15 oc16 kV16 dc16 pm16 cd16 ct16 oc17 kV17 dc17 pm17 cd17 ct17 oc18 kV18 dc18 pm18 cd18 ct18 oc19 kV19 dc19 pm19 cd19 ct19 oc20 kV20 dc20 pm20 cd20 ct20 oc21 kV21 dc21 pm21 cd21 ct21 : Value}
    {nmX qX : Str} {NX : Addr} {bsX bmX : List Value} {snX : List Str} {subX : List Value} {abX : Bool} {colX : Option Bool} {ddX : Option Addr} {k0X k1X k2X k3X k5X : Option Value}
     (X : K.In h) (G : h.Ns mainGlobals mg) (hfa : mg "law" = some (.ref fa))
    (a_NotSuch : PySem.W.nsIn K mainGlobals "NotSuch" = some (some (.ref cNotSuch)))
    (a_Lost : PySem.W.nsIn K mainGlobals "Lost" = some (some (.ref cLost)))
    (a_Taken : PySem.W.nsIn K mainGlobals "Taken" = some (some (.ref cTaken)))
    (a_NoNumber : PySem.W.nsIn K mainGlobals "NoNumber" = some (some (.ref cNoNumber)))
    (a_Struck : PySem.W.nsIn K mainGlobals "Struck" = some (some (.ref cStruck)))
    (a_NoKey : PySem.W.nsIn K mainGlobals "NoKey" = some (some (.ref cNoKey)))
    (a_NoPath : PySem.W.nsIn K mainGlobals "NoPath" = some (some (.ref cNoPath)))
    (a0 : PySem.W.nsIn K mainGlobals "is_whole" = some (some (.ref f0)))
    (l0 : K.lookup f0 = some ⟨oc0, od0, .func (PySem.W.fnOf "is_whole" "is_whole" (defArgs sIsWhole) (defBody sIsWhole) (defScope sIsWhole) .none kV0 dc0 pm0 an0 cd0 ct0), sl0⟩)
    (c0 : PySem.W.codeIn K cd0 "is_whole" = true)
    (k0 : PySem.W.keepIn K (.ref f0) = true)
    (a1 : PySem.W.nsIn K mainGlobals "is_within" = some (some (.ref f1)))
    (l1 : K.lookup f1 = some ⟨oc1, od1, .func (PySem.W.fnOf "is_within" "is_within" (defArgs sIsWithin) (defBody sIsWithin) (defScope sIsWithin) .none kV1 dc1 pm1 an1 cd1 ct1), sl1⟩)
    (c1 : PySem.W.codeIn K cd1 "is_within" = true)
    (k1 : PySem.W.keepIn K (.ref f1) = true)
    (a2 : PySem.W.nsIn K mainGlobals "part_at" = some (some (.ref f2)))
    (l2 : K.lookup f2 = some ⟨oc2, od2, .func (PySem.W.fnOf "part_at" "part_at" (defArgs sPartAt) (defBody sPartAt) (defScope sPartAt) .none kV2 dc2 pm2 an2 cd2 ct2), sl2⟩)
    (c2 : PySem.W.codeIn K cd2 "part_at" = true)
    (k2 : PySem.W.keepIn K (.ref f2) = true)
    (a3 : PySem.W.findIn K (.ref cNoPath) "__init__" = some (some (.ref f3)))
    (i3 : PySem.W.isFn K (.ref f3) = true)
    (l3 : K.lookup f3 = some ⟨oc3, od3, .func (PySem.W.fnOf "__init__" "NoPath.__init__" (defArgs sNoPathInit) (defBody sNoPathInit) (defScope sNoPathInit) .none kV3 dc3 pm3 an3 cd3 ct3), sl3⟩)
    (c3 : PySem.W.codeIn K cd3 "NoPath.__init__" = true)
    (k3 : PySem.W.keepIn K (.ref f3) = true)
    (a4 : PySem.W.nsIn K mainGlobals "_law_hand" = some (some (.ref f4)))
    (l4 : K.lookup f4 = some ⟨oc4, od4, .func (PySem.W.fnOf "_law_hand" "_law_hand" (defArgs sHand) (defBody sHand) (defScope sHand) .none kV4 dc4 pm4 an4 cd4 ct4), sl4⟩)
    (c4 : PySem.W.codeIn K cd4 "_law_hand" = true)
    (k4 : PySem.W.keepIn K (.ref f4) = true)
    (a5 : PySem.W.nsIn K mainGlobals "_law_take" = some (some (.ref f5)))
    (l5 : K.lookup f5 = some ⟨oc5, od5, .func (PySem.W.fnOf "_law_take" "_law_take" (defArgs sTake) (defBody sTake) (defScope sTake) .none kV5 dc5 pm5 an5 cd5 ct5), sl5⟩)
    (c5 : PySem.W.codeIn K cd5 "_law_take" = true)
    (k5 : PySem.W.keepIn K (.ref f5) = true)
    (a6 : PySem.W.nsIn K mainGlobals "_law_pick" = some (some (.ref f6)))
    (l6 : K.lookup f6 = some ⟨oc6, od6, .func (PySem.W.fnOf "_law_pick" "_law_pick" (defArgs sPick) (defBody sPick) (defScope sPick) .none kV6 dc6 pm6 an6 cd6 ct6), sl6⟩)
    (c6 : PySem.W.codeIn K cd6 "_law_pick" = true)
    (k6 : PySem.W.keepIn K (.ref f6) = true)
    (a7 : PySem.W.nsIn K mainGlobals "_law_signs" = some (some (.ref f7)))
    (l7 : K.lookup f7 = some ⟨oc7, od7, .func (PySem.W.fnOf "_law_signs" "_law_signs" (defArgs sSigns) (defBody sSigns) (defScope sSigns) .none kV7 dc7 pm7 an7 cd7 ct7), sl7⟩)
    (c7 : PySem.W.codeIn K cd7 "_law_signs" = true)
    (k7 : PySem.W.keepIn K (.ref f7) = true)
    (a8 : PySem.W.nsIn K mainGlobals "_law_text" = some (some (.ref f8)))
    (l8 : K.lookup f8 = some ⟨oc8, od8, .func (PySem.W.fnOf "_law_text" "_law_text" (defArgs sText) (defBody sText) (defScope sText) .none kV8 dc8 pm8 an8 cd8 ct8), sl8⟩)
    (c8 : PySem.W.codeIn K cd8 "_law_text" = true)
    (k8 : PySem.W.keepIn K (.ref f8) = true)
    (a9 : PySem.W.nsIn K mainGlobals "_law_tongue" = some (some (.ref f9)))
    (l9 : K.lookup f9 = some ⟨oc9, od9, .func (PySem.W.fnOf "_law_tongue" "_law_tongue" (defArgs sTongue) (defBody sTongue) (defScope sTongue) .none kV9 dc9 pm9 an9 cd9 ct9), sl9⟩)
    (c9 : PySem.W.codeIn K cd9 "_law_tongue" = true)
    (k9 : PySem.W.keepIn K (.ref f9) = true)
    (a10 : PySem.W.nsIn K mainGlobals "_law_names" = some (some (.ref f10)))
    (l10 : K.lookup f10 = some ⟨oc10, od10, .func (PySem.W.fnOf "_law_names" "_law_names" (defArgs sNames) (defBody sNames) (defScope sNames) .none kV10 dc10 pm10 an10 cd10 ct10), sl10⟩)
    (c10 : PySem.W.codeIn K cd10 "_law_names" = true)
    (k10 : PySem.W.keepIn K (.ref f10) = true)
    (a11 : PySem.W.nsIn K mainGlobals "_law_tree" = some (some (.ref f11)))
    (l11 : K.lookup f11 = some ⟨oc11, od11, .func (PySem.W.fnOf "_law_tree" "_law_tree" (defArgs sTree) (defBody sTree) (defScope sTree) .none kV11 dc11 pm11 an11 cd11 ct11), sl11⟩)
    (c11 : PySem.W.codeIn K cd11 "_law_tree" = true)
    (k11 : PySem.W.keepIn K (.ref f11) = true)
    (a12 : PySem.W.nsIn K mainGlobals "_law_work" = some (some (.ref f12)))
    (l12 : K.lookup f12 = some ⟨oc12, od12, .func (PySem.W.fnOf "_law_work" "_law_work" (defArgs sWork) (defBody sWork) (defScope sWork) .none kV12 dc12 pm12 an12 cd12 ct12), sl12⟩)
    (c12 : PySem.W.codeIn K cd12 "_law_work" = true)
    (k12 : PySem.W.keepIn K (.ref f12) = true)
    (a13 : PySem.W.nsIn K mainGlobals "_law_all" = some (some (.ref f13)))
    (l13 : K.lookup f13 = some ⟨oc13, od13, .func (PySem.W.fnOf "_law_all" "_law_all" (defArgs sAll) (defBody sAll) (defScope sAll) .none kV13 dc13 pm13 an13 cd13 ct13), sl13⟩)
    (c13 : PySem.W.codeIn K cd13 "_law_all" = true)
    (k13 : PySem.W.keepIn K (.ref f13) = true)
    (a14 : PySem.W.nsIn K mainGlobals "_law_whole" = some (some (.ref f14)))
    (l14 : K.lookup f14 = some ⟨oc14, od14, .func (PySem.W.fnOf "_law_whole" "_law_whole" (defArgs sWhole) (defBody sWhole) (defScope sWhole) .none kV14 dc14 pm14 an14 cd14 ct14), sl14⟩)
    (c14 : PySem.W.codeIn K cd14 "_law_whole" = true)
    (k14 : PySem.W.keepIn K (.ref f14) = true)
    (a15 : PySem.W.nsIn K mainGlobals "_law_led" = some (some (.ref f15)))
    (l15 : K.lookup f15 = some ⟨oc15, od15, .func (PySem.W.fnOf "_law_led" "_law_led" (defArgs sLed) (defBody sLed) (defScope sLed) .none kV15 dc15 pm15 an15 cd15 ct15), sl15⟩)
    (c15 : PySem.W.codeIn K cd15 "_law_led" = true)
    (k15 : PySem.W.keepIn K (.ref f15) = true)
    (a16 : PySem.W.nsIn K mainGlobals "_law_refusal" = some (some (.ref f16)))
    (l16 : K.lookup f16 = some ⟨oc16, od16, .func (PySem.W.fnOf "_law_refusal" "_law_refusal" (defArgs sRefusal) (defBody sRefusal) (defScope sRefusal) .none kV16 dc16 pm16 an16 cd16 ct16), sl16⟩)
    (c16 : PySem.W.codeIn K cd16 "_law_refusal" = true)
    (k16 : PySem.W.keepIn K (.ref f16) = true)
    (a17 : PySem.W.nsIn K mainGlobals "_law_asked" = some (some (.ref f17)))
    (l17 : K.lookup f17 = some ⟨oc17, od17, .func (PySem.W.fnOf "_law_asked" "_law_asked" (defArgs sAsked) (defBody sAsked) (defScope sAsked) .none kV17 dc17 pm17 an17 cd17 ct17), sl17⟩)
    (c17 : PySem.W.codeIn K cd17 "_law_asked" = true)
    (k17 : PySem.W.keepIn K (.ref f17) = true)
    (a18 : PySem.W.nsIn K mainGlobals "_law_way_down" = some (some (.ref f18)))
    (l18 : K.lookup f18 = some ⟨oc18, od18, .func (PySem.W.fnOf "_law_way_down" "_law_way_down" (defArgs sWayDown) (defBody sWayDown) (defScope sWayDown) .none kV18 dc18 pm18 an18 cd18 ct18), sl18⟩)
    (c18 : PySem.W.codeIn K cd18 "_law_way_down" = true)
    (k18 : PySem.W.keepIn K (.ref f18) = true)
    (a19 : PySem.W.nsIn K mainGlobals "_law_odd" = some (some (.ref f19)))
    (l19 : K.lookup f19 = some ⟨oc19, od19, .func (PySem.W.fnOf "_law_odd" "_law_odd" (defArgs sOdd) (defBody sOdd) (defScope sOdd) .none kV19 dc19 pm19 an19 cd19 ct19), sl19⟩)
    (c19 : PySem.W.codeIn K cd19 "_law_odd" = true)
    (k19 : PySem.W.keepIn K (.ref f19) = true)
    (a20 : PySem.W.nsIn K mainGlobals "_law_deep" = some (some (.ref f20)))
    (l20 : K.lookup f20 = some ⟨oc20, od20, .func (PySem.W.fnOf "_law_deep" "_law_deep" (defArgs sDeep) (defBody sDeep) (defScope sDeep) .none kV20 dc20 pm20 an20 cd20 ct20), sl20⟩)
    (c20 : PySem.W.codeIn K cd20 "_law_deep" = true)
    (k20 : PySem.W.keepIn K (.ref f20) = true)
    (a21 : PySem.W.nsIn K mainGlobals "law" = some (some (.ref f21)))
    (l21 : K.lookup f21 = some ⟨oc21, od21, .func (PySem.W.fnOf "law" "law" (defArgs sLaw) (defBody sLaw) (defScope sLaw) .none kV21 dc21 pm21 an21 cd21 ct21), sl21⟩)
    (c21 : PySem.W.codeIn K cd21 "law" = true)
    (k21 : PySem.W.keepIn K (.ref f21) = true)
    (ic_NotSuch : PySem.W.isClsIn K cNotSuch = true)
    (ty_NotSuch : PySem.W.typeIn K (.ref cNotSuch) = some (.type "type"))
    (sb_NotSuch : PySem.W.subIn K (.ref cNoPath) (.ref cNotSuch) = some false)
    (ic_Lost : PySem.W.isClsIn K cLost = true)
    (ty_Lost : PySem.W.typeIn K (.ref cLost) = some (.type "type"))
    (sb_Lost : PySem.W.subIn K (.ref cNoPath) (.ref cLost) = some true)
    (ic_Taken : PySem.W.isClsIn K cTaken = true)
    (ty_Taken : PySem.W.typeIn K (.ref cTaken) = some (.type "type"))
    (sb_Taken : PySem.W.subIn K (.ref cNoPath) (.ref cTaken) = some false)
    (ic_NoNumber : PySem.W.isClsIn K cNoNumber = true)
    (ty_NoNumber : PySem.W.typeIn K (.ref cNoNumber) = some (.type "type"))
    (sb_NoNumber : PySem.W.subIn K (.ref cNoPath) (.ref cNoNumber) = some false)
    (ic_Struck : PySem.W.isClsIn K cStruck = true)
    (ty_Struck : PySem.W.typeIn K (.ref cStruck) = some (.type "type"))
    (sb_Struck : PySem.W.subIn K (.ref cNoPath) (.ref cStruck) = some false)
    (ic_NoKey : PySem.W.isClsIn K cNoKey = true)
    (ty_NoKey : PySem.W.typeIn K (.ref cNoKey) = some (.type "type"))
    (sb_NoKey : PySem.W.subIn K (.ref cNoPath) (.ref cNoKey) = some false)
    (ic_NoPath : PySem.W.isClsIn K cNoPath = true)
    (ty_NoPath : PySem.W.typeIn K (.ref cNoPath) = some (.type "type"))
    (sb_NoPath : PySem.W.subIn K (.ref cNoPath) (.ref cNoPath) = some true)
    (be_NotSuch : PySem.W.subIn K (.ref cNotSuch) (.type "BaseException") = some true)
    (be_Lost : PySem.W.subIn K (.ref cLost) (.type "BaseException") = some true)
    (be_Taken : PySem.W.subIn K (.ref cTaken) (.type "BaseException") = some true)
    (sVE : PySem.W.subIn K (.ref cNoPath) (.type "ValueError") = some false)
    (sLE : PySem.W.subIn K (.ref cNoPath) (.type "LookupError") = some true)
    (oX : K.lookup cNoPath = some (excClassObj nmX qX cNoPath NX bsX bmX true snX subX abX colX ddX k0X k1X k2X k3X k5X "LookupError.__new__"))
    (hbX : bmX = Xle.mroL [cLost] tlL)
    (saX : PySem.W.findIn K (.ref cNoPath) "__setattr__" = some (some (.builtin "object.__setattr__")))
    (exX : PySem.W.subIn K (.ref cNoPath) (.type "BaseException") = some true)
    (kX : PySem.W.keepIn K (.ref cNoPath) = true)
    (gaX : PySem.W.findIn K (.ref cNoPath) "__getattribute__" = some (some (.builtin "BaseException.__getattribute__")))
    (ggX : PySem.W.findIn K (.ref cNoPath) "__getattr__" = some none)
    (hdX : PySem.W.hasDictIn K cNoPath = true)
    (haX : PySem.W.findIn K (.ref cNoPath) "__class__" = some (some (.builtin "object.__class__")))
    (hmX : PySem.W.mroIn K cNoPath (.type "object") = some true)
    (fl1 : PySem.W.findIn K (.ref cNoPath) "path" = some none)
    (tyF : PySem.W.typeIn K (.ref f3) = some (.type "function"))
    (rdN : PySem.W.readsIn K cLost (.type "type") = true)
    (spN : PySem.W.specialIn K (.ref cLost) "__getattribute__" = some (some (.builtin "type.__getattribute__")))
    (fiN : PySem.W.findCls K (.ref cLost) (.type "type") "__init__" = some (.val (.builtin "LookupError.__init__")))
    (hn : PySem.W.specialIn K (.builtin "object.__class__") "__get__" = some (some (.builtin "getset_descriptor.__get__")))
    (ht : PySem.W.takesIn K (.builtin "object.__class__") = some true)
    (z_isinstance : PySem.W.nsIn K mainGlobals "isinstance" = some none)
    (z_int : PySem.W.nsIn K mainGlobals "int" = some none)
    (z_bool : PySem.W.nsIn K mainGlobals "bool" = some none)
    (z_str : PySem.W.nsIn K mainGlobals "str" = some none)
    (z_tuple : PySem.W.nsIn K mainGlobals "tuple" = some none)
    (z_list : PySem.W.nsIn K mainGlobals "list" = some none)
    (z_len : PySem.W.nsIn K mainGlobals "len" = some none)
    (z_range : PySem.W.nsIn K mainGlobals "range" = some none)
    (z_max : PySem.W.nsIn K mainGlobals "max" = some none)
    (z_min : PySem.W.nsIn K mainGlobals "min" = some none)
    (z_abs : PySem.W.nsIn K mainGlobals "abs" = some none)
    (z_repr : PySem.W.nsIn K mainGlobals "repr" = some none)
    (z_LookupError : PySem.W.nsIn K mainGlobals "LookupError" = some none)
    (z_ValueError : PySem.W.nsIn K mainGlobals "ValueError" = some none)
    : ∃ fd : FuncData, (∀ (s : Shared) (v : Value), BindsTo s fd ⟨[v], []⟩ [("_law_script", v)]) ∧
      ∀ base : Heap, K.In base → base.Ns mainGlobals mg → base.NoDigits → Gn l.prog w K mg base 10 fa fd ["_law_script"] (spLaw K) := by
  have e := hfa.symm.trans (PySem.W.mg_of X G a21)
  cases e
  have F0 := fun_mk (st := sIsWhole) l0 c0 k0
  have D0 : Df K mg "is_whole" ["thing"] sIsWhole f0 _ := ⟨F0, PySem.W.mg_of X G a0, F0.binds (ps := ["thing"]) fun _ _ _ _ _ _ us hl => match us, hl with | [_], _ => rfl⟩
  have F1 := fun_mk (st := sIsWithin) l1 c1 k1
  have D1 : Df K mg "is_within" ["thing", "least", "most"] sIsWithin f1 _ := ⟨F1, PySem.W.mg_of X G a1, F1.binds (ps := ["thing", "least", "most"]) fun _ _ _ _ _ _ us hl => match us, hl with | [_, _, _], _ => rfl⟩
  have F2 := fun_mk (st := sPartAt) l2 c2 k2
  have D2 : Df K mg "part_at" ["work", "path"] sPartAt f2 _ := ⟨F2, PySem.W.mg_of X G a2, F2.binds (ps := ["work", "path"]) fun _ _ _ _ _ _ us hl => match us, hl with | [_, _], _ => rfl⟩
  have F3 := fun_mk (st := sNoPathInit) l3 c3 k3
  have B3 := F3.binds (ps := ["self", "path"]) fun _ _ _ _ _ _ us hl => match us, hl with | [_, _], _ => rfl
  have F4 := fun_mk (st := sHand) l4 c4 k4
  have D4 : Df K mg "_law_hand" ["_law_script", "_law_k"] sHand f4 _ := ⟨F4, PySem.W.mg_of X G a4, F4.binds (ps := ["_law_script", "_law_k"]) fun _ _ _ _ _ _ us hl => match us, hl with | [_, _], _ => rfl⟩
  have F5 := fun_mk (st := sTake) l5 c5 k5
  have D5 : Df K mg "_law_take" ["_law_hand_here", "_law_many"] sTake f5 _ := ⟨F5, PySem.W.mg_of X G a5, F5.binds (ps := ["_law_hand_here", "_law_many"]) fun _ _ _ _ _ _ us hl => match us, hl with | [_, _], _ => rfl⟩
  have F6 := fun_mk (st := sPick) l6 c6 k6
  have D6 : Df K mg "_law_pick" ["_law_hand_here", "_law_some"] sPick f6 _ := ⟨F6, PySem.W.mg_of X G a6, F6.binds (ps := ["_law_hand_here", "_law_some"]) fun _ _ _ _ _ _ us hl => match us, hl with | [_, _], _ => rfl⟩
  have F7 := fun_mk (st := sSigns) l7 c7 k7
  have D7 : Df K mg "_law_signs" [] sSigns f7 _ := ⟨F7, PySem.W.mg_of X G a7, F7.binds (ps := []) fun _ _ _ _ _ _ us hl => match us, hl with | [], _ => rfl⟩
  have F8 := fun_mk (st := sText) l8 c8 k8
  have D8 : Df K mg "_law_text" ["_law_hand_here", "_law_most"] sText f8 _ := ⟨F8, PySem.W.mg_of X G a8, F8.binds (ps := ["_law_hand_here", "_law_most"]) fun _ _ _ _ _ _ us hl => match us, hl with | [_, _], _ => rfl⟩
  have F9 := fun_mk (st := sTongue) l9 c9 k9
  have D9 : Df K mg "_law_tongue" ["_law_hand_here"] sTongue f9 _ := ⟨F9, PySem.W.mg_of X G a9, F9.binds (ps := ["_law_hand_here"]) fun _ _ _ _ _ _ us hl => match us, hl with | [_], _ => rfl⟩
  have F10 := fun_mk (st := sNames) l10 c10 k10
  have D10 : Df K mg "_law_names" ["_law_hand_here", "_law_many"] sNames f10 _ := ⟨F10, PySem.W.mg_of X G a10, F10.binds (ps := ["_law_hand_here", "_law_many"]) fun _ _ _ _ _ _ us hl => match us, hl with | [_, _], _ => rfl⟩
  have F11 := fun_mk (st := sTree) l11 c11 k11
  have D11 : Df K mg "_law_tree" ["_law_hand_here", "_law_deep_here", "_law_left"] sTree f11 _ := ⟨F11, PySem.W.mg_of X G a11, F11.binds (ps := ["_law_hand_here", "_law_deep_here", "_law_left"]) fun _ _ _ _ _ _ us hl => match us, hl with | [_, _, _], _ => rfl⟩
  have F12 := fun_mk (st := sWork) l12 c12 k12
  have D12 : Df K mg "_law_work" ["_law_hand_here", "_law_many"] sWork f12 _ := ⟨F12, PySem.W.mg_of X G a12, F12.binds (ps := ["_law_hand_here", "_law_many"]) fun _ _ _ _ _ _ us hl => match us, hl with | [_, _], _ => rfl⟩
  have F13 := fun_mk (st := sAll) l13 c13 k13
  have D13 : Df K mg "_law_all" ["_law_work_here"] sAll f13 _ := ⟨F13, PySem.W.mg_of X G a13, F13.binds (ps := ["_law_work_here"]) fun _ _ _ _ _ _ us hl => match us, hl with | [_], _ => rfl⟩
  have F14 := fun_mk (st := sWhole) l14 c14 k14
  have D14 : Df K mg "_law_whole" ["_law_thing"] sWhole f14 _ := ⟨F14, PySem.W.mg_of X G a14, F14.binds (ps := ["_law_thing"]) fun _ _ _ _ _ _ us hl => match us, hl with | [_], _ => rfl⟩
  have F15 := fun_mk (st := sLed) l15 c15 k15
  have D15 : Df K mg "_law_led" ["_law_work_here", "_law_path"] sLed f15 _ := ⟨F15, PySem.W.mg_of X G a15, F15.binds (ps := ["_law_work_here", "_law_path"]) fun _ _ _ _ _ _ us hl => match us, hl with | [_, _], _ => rfl⟩
  have F16 := fun_mk (st := sRefusal) l16 c16 k16
  have D16 : Df K mg "_law_refusal" ["_law_e"] sRefusal f16 _ := ⟨F16, PySem.W.mg_of X G a16, F16.binds (ps := ["_law_e"]) fun _ _ _ _ _ _ us hl => match us, hl with | [_], _ => rfl⟩
  have F17 := fun_mk (st := sAsked) l17 c17 k17
  have D17 : Df K mg "_law_asked" ["_law_work_here", "_law_path"] sAsked f17 _ := ⟨F17, PySem.W.mg_of X G a17, F17.binds (ps := ["_law_work_here", "_law_path"]) fun _ _ _ _ _ _ us hl => match us, hl with | [_, _], _ => rfl⟩
  have F18 := fun_mk (st := sWayDown) l18 c18 k18
  have D18 : Df K mg "_law_way_down" ["_law_hand_here", "_law_work_here"] sWayDown f18 _ := ⟨F18, PySem.W.mg_of X G a18, F18.binds (ps := ["_law_hand_here", "_law_work_here"]) fun _ _ _ _ _ _ us hl => match us, hl with | [_, _], _ => rfl⟩
  have F19 := fun_mk (st := sOdd) l19 c19 k19
  have D19 : Df K mg "_law_odd" ["_law_hand_here", "_law_work_here"] sOdd f19 _ := ⟨F19, PySem.W.mg_of X G a19, F19.binds (ps := ["_law_hand_here", "_law_work_here"]) fun _ _ _ _ _ _ us hl => match us, hl with | [_, _], _ => rfl⟩
  have F20 := fun_mk (st := sDeep) l20 c20 k20
  have D20 : Df K mg "_law_deep" ["_law_hand_here"] sDeep f20 _ := ⟨F20, PySem.W.mg_of X G a20, F20.binds (ps := ["_law_hand_here"]) fun _ _ _ _ _ _ us hl => match us, hl with | [_], _ => rfl⟩
  have F21 := fun_mk (st := sLaw) l21 c21 k21
  have D21 : Df K mg "law" ["_law_script"] sLaw fa _ := ⟨F21, PySem.W.mg_of X G a21, F21.binds (ps := ["_law_script"]) fun _ _ _ _ _ _ us hl => match us, hl with | [_], _ => rfl⟩
  let e : Ex := ⟨cNotSuch, cLost, cTaken, cNoNumber, cStruck, cNoKey, cNoPath⟩
  have no : ∀ {c : Addr}, PySem.W.isClsIn K c = true → PySem.W.typeIn K (.ref c) = some (.type "type") → PySem.W.subIn K (.ref cNoPath) (.ref c) = some false → PySem.W.kitOne K (.ref cNoPath) (.ref c) = some false := fun a b d => kit_no a b d sb_NoPath
  have exs : ∀ {c : Addr} {b : Bool}, PySem.W.isClsIn K c = true → PySem.W.typeIn K (.ref c) = some (.type "type") → PySem.W.subIn K (.ref c) (.type "BaseException") = some true → PySem.W.subIn K (.ref cNoPath) (.ref c) = some b → PySem.W.exmOne K (.ref cNoPath) (.ref c) = some b := fun a b d g => exm_is a b d g
  have T : Txt mg := ⟨PySem.W.mg_none_of X G z_isinstance,
    PySem.W.mg_none_of X G z_int,
    PySem.W.mg_none_of X G z_bool,
    PySem.W.mg_none_of X G z_str,
    PySem.W.mg_none_of X G z_tuple,
    PySem.W.mg_none_of X G z_list,
    PySem.W.mg_none_of X G z_len,
    PySem.W.mg_none_of X G z_range,
    PySem.W.mg_none_of X G z_max,
    PySem.W.mg_none_of X G z_min,
    PySem.W.mg_none_of X G z_abs,
    PySem.W.mg_none_of X G z_repr,
    PySem.W.mg_none_of X G z_LookupError,
    PySem.W.mg_none_of X G z_ValueError⟩
  have TE : Txe K mg e := ⟨PySem.W.mg_of X G a_NotSuch,
    PySem.W.mg_of X G a_Lost,
    PySem.W.mg_of X G a_Taken,
    PySem.W.mg_of X G a_NoNumber,
    PySem.W.mg_of X G a_Struck,
    PySem.W.mg_of X G a_NoKey,
    PySem.W.mg_of X G a_NoPath,
    ⟨⟨nmX, qX, NX, bsX, [cLost], snX, subX, abX, colX, ddX, k0X, k1X, k2X, k3X, k5X, by rw [← hbX]; exact oX⟩, saX, exX, ty_NoPath, kX⟩,
    ⟨ic_NoPath, gaX, ggX, exX, hdX, haX, hn, ht, hmX⟩,
    ⟨rdN, spN, fiN⟩,
    fl1,
    exm_ft (exs ic_NotSuch ty_NotSuch be_NotSuch sb_NotSuch) (exs ic_Lost ty_Lost be_Lost sb_Lost) (exs ic_Taken ty_Taken be_Taken sb_Taken),
    kit_skip (no ic_NoNumber ty_NoNumber sb_NoNumber) (kit_skip (no ic_Struck ty_Struck sb_Struck) (kit_skip (no ic_NoKey ty_NoKey sb_NoKey) (rfl))),
    kit_skip (no ic_NotSuch ty_NotSuch sb_NotSuch) (kit_skip (no ic_Taken ty_Taken sb_Taken) (rfl)),
    kit_self,
    kit_tyB (by decide +kernel) sLE,
    kit_tyB (by decide +kernel) sVE⟩
  refine ⟨PySem.W.fnOf "law" "law" (defArgs sLaw) (defBody sLaw) (defScope sLaw) .none kV21 dc21 pm21 an21 cd21 ct21, fun s v => .of_eq rfl, fun base kb gb nd => ?g⟩
  case g =>
    have N : Np l.prog w K mg base e f3 _ := ⟨ok_np (P := l.prog) (w := w) (base := base) F3 TE, a3, tyF, B3⟩
    have cW := D0.ca (ok_whole (P := l.prog) (w := w) (base := base) D0 T)
    have cWi := D1.ca (ok_within D1 cW)
    have FP := ok_part D2 T TE N cWi
    have cH := D4.ca (ok_hand (P := l.prog) (w := w) (base := base) D4 T)
    have cT := D5.ca (ok_take (P := l.prog) (w := w) (base := base) D5)
    have cP := D6.ca (ok_pick D6 T cT)
    have cS := D7.ca (ok_signs (P := l.prog) (w := w) (base := base) D7)
    have cX := D8.ca (ok_text D8 T cT cP cS)
    have cG := D9.ca (ok_tongue D9 T cT cP)
    have cN := D10.ca (ok_names D10 T cT cP cS cX cG)
    have cTA := D11.ca (fn_all (N := 5) (k := 8) (sp := spTree) fun n hn => FnOk.mono (tree_fn D11 T cP n) (by omega))
    have cAA := D13.ca (all_fn (P := l.prog) (w := w) (base := base) D13 T 5)
    have cWo := D12.ca (ok_work D12 T cT cN cTA cAA)
    have cLW := D14.ca (ok_lwhole (P := l.prog) (w := w) (base := base) D14 T)
    have cLd := D15.ca (ok_led D15 T cLW)
    have cRf := D16.ca (ok_ref (P := l.prog) (w := w) (base := base) D16 T TE)
    have GA := ok_asked D17 T TE D2 FP cRf
    have cWd := D18.ca (ok_wd D18 T cT)
    have cOd := D19.ca (Xfr.frame (ok_odd D19 T cT cP cWd cLd))
    have cDe := D20.ca (ok_deep D20 T cT)
    exact ok_law D21 T cH cT cWo cOd cDe cLd D17 GA
end K39
open PySem PySem.W PyProof.Rows
set_option maxRecDepth 100000 in
set_option maxHeartbeats 0 in
theorem PySem.Challenge.cw_takesworks_k39_paths_that_lead_nowhere_holds : PySem.Challenge.rw_takesworks_k39_paths_that_lead_nowhere.Holds := by
  w_on; o_law; k_head; (case hw => w_witness2)
  k_fill
  refine K39.walk_go (l := PySem.Challenge.rw_takesworks_k39_paths_that_lead_nowhere) (n := 63) (k := 10) (x := "_law_script") (sp := K39.spLaw) rfl (by decide) rfl ⟨rfl, by decide, by decide⟩ (fun w h Y => PySem.W.kIn_of Y) ?F
    (fun _ _ a ns hl hS => ⟨a, ns, rfl, hS, hl, fun _ => rfl⟩)
  case F =>
    intro w mg fa h KX G hmg
    refine' K39.all_mk KX G hmg ?a_NotSuch ?a_Lost ?a_Taken ?a_NoNumber ?a_Struck ?a_NoKey ?a_NoPath ?a0 ?l0 ?c0 ?k0 ?a1 ?l1 ?c1 ?k1 ?a2 ?l2 ?c2 ?k2 ?a3 ?i3 ?l3 ?c3 ?k3 ?a4 ?l4 ?c4 ?k4 ?a5 ?l5 ?c5 ?k5 ?a6 ?l6 ?c6 ?k6 ?a7 ?l7 ?c7 ?k7 ?a8 ?l8 ?c8 ?k8 ?a9 ?l9 ?c9 ?k9 ?a10 ?l10 ?c10 ?k10 ?a11 ?l11 ?c11 ?k11 ?a12 ?l12 ?c12 ?k12 ?a13 ?l13 ?c13 ?k13 ?a14 ?l14 ?c14 ?k14 ?a15 ?l15 ?c15 ?k15 ?a16 ?l16 ?c16 ?k16 ?a17 ?l17 ?c17 ?k17 ?a18 ?l18 ?c18 ?k18 ?a19 ?l19 ?c19 ?k19 ?a20 ?l20 ?c20 ?k20 ?a21 ?l21 ?c21 ?k21 ?ic_NotSuch ?ty_NotSuch ?sb_NotSuch ?ic_Lost ?ty_Lost ?sb_Lost ?ic_Taken ?ty_Taken ?sb_Taken ?ic_NoNumber ?ty_NoNumber ?sb_NoNumber ?ic_Struck ?ty_Struck ?sb_Struck ?ic_NoKey ?ty_NoKey ?sb_NoKey ?ic_NoPath ?ty_NoPath ?sb_NoPath ?be_NotSuch ?be_Lost ?be_Taken ?sVE ?sLE ?oX ?hbX ?saX ?exX ?kX ?gaX ?ggX ?hdX ?haX ?hmX ?fl1 ?tyF ?rdN ?spN ?fiN ?hn ?ht ?z_isinstance ?z_int ?z_bool ?z_str ?z_tuple ?z_list ?z_len ?z_range ?z_max ?z_min ?z_abs ?z_repr ?z_LookupError ?z_ValueError
    (case a_NotSuch => k_is)
    (case a_Lost => k_is)
    (case a_Taken => k_is)
    (case a_NoNumber => k_is)
    (case a_Struck => k_is)
    (case a_NoKey => k_is)
    (case a_NoPath => k_is)
    (case a0 => k_is)
    (case l0 => k_is)
    (case c0 => k_is)
    (case k0 => k_is)
    (case a1 => k_is)
    (case l1 => k_is)
    (case c1 => k_is)
    (case k1 => k_is)
    (case a2 => k_is)
    (case l2 => k_is)
    (case c2 => k_is)
    (case k2 => k_is)
    (case a3 => k_is)
    (case i3 => k_is)
    (case l3 => k_is)
    (case c3 => k_is)
    (case k3 => k_is)
    (case a4 => k_is)
    (case l4 => k_is)
    (case c4 => k_is)
    (case k4 => k_is)
    (case a5 => k_is)
    (case l5 => k_is)
    (case c5 => k_is)
    (case k5 => k_is)
    (case a6 => k_is)
    (case l6 => k_is)
    (case c6 => k_is)
    (case k6 => k_is)
    (case a7 => k_is)
    (case l7 => k_is)
    (case c7 => k_is)
    (case k7 => k_is)
    (case a8 => k_is)
    (case l8 => k_is)
    (case c8 => k_is)
    (case k8 => k_is)
    (case a9 => k_is)
    (case l9 => k_is)
    (case c9 => k_is)
    (case k9 => k_is)
    (case a10 => k_is)
    (case l10 => k_is)
    (case c10 => k_is)
    (case k10 => k_is)
    (case a11 => k_is)
    (case l11 => k_is)
    (case c11 => k_is)
    (case k11 => k_is)
    (case a12 => k_is)
    (case l12 => k_is)
    (case c12 => k_is)
    (case k12 => k_is)
    (case a13 => k_is)
    (case l13 => k_is)
    (case c13 => k_is)
    (case k13 => k_is)
    (case a14 => k_is)
    (case l14 => k_is)
    (case c14 => k_is)
    (case k14 => k_is)
    (case a15 => k_is)
    (case l15 => k_is)
    (case c15 => k_is)
    (case k15 => k_is)
    (case a16 => k_is)
    (case l16 => k_is)
    (case c16 => k_is)
    (case k16 => k_is)
    (case a17 => k_is)
    (case l17 => k_is)
    (case c17 => k_is)
    (case k17 => k_is)
    (case a18 => k_is)
    (case l18 => k_is)
    (case c18 => k_is)
    (case k18 => k_is)
    (case a19 => k_is)
    (case l19 => k_is)
    (case c19 => k_is)
    (case k19 => k_is)
    (case a20 => k_is)
    (case l20 => k_is)
    (case c20 => k_is)
    (case k20 => k_is)
    (case a21 => k_is)
    (case l21 => k_is)
    (case c21 => k_is)
    (case k21 => k_is)
    (case ic_NotSuch => k_is)
    (case ty_NotSuch => k_is)
    (case sb_NotSuch => k_is)
    (case ic_Lost => k_is)
    (case ty_Lost => k_is)
    (case sb_Lost => k_is)
    (case ic_Taken => k_is)
    (case ty_Taken => k_is)
    (case sb_Taken => k_is)
    (case ic_NoNumber => k_is)
    (case ty_NoNumber => k_is)
    (case sb_NoNumber => k_is)
    (case ic_Struck => k_is)
    (case ty_Struck => k_is)
    (case sb_Struck => k_is)
    (case ic_NoKey => k_is)
    (case ty_NoKey => k_is)
    (case sb_NoKey => k_is)
    (case ic_NoPath => k_is)
    (case ty_NoPath => k_is)
    (case sb_NoPath => k_is)
    (case be_NotSuch => k_is)
    (case be_Lost => k_is)
    (case be_Taken => k_is)
    (case sVE => k_is)
    (case sLE => k_is)
    (case oX => k_is)
    (case hbX => rfl)
    (case saX => k_is)
    (case exX => k_is)
    (case kX => k_is)
    (case gaX => k_is)
    (case ggX => k_is)
    (case hdX => k_is)
    (case haX => k_is)
    (case hmX => k_is)
    (case fl1 => k_is)
    (case tyF => k_is)
    (case rdN => k_is)
    (case spN => k_is)
    (case fiN => k_is)
    (case hn => k_is)
    (case ht => k_is)
    (case z_isinstance => k_is)
    (case z_int => k_is)
    (case z_bool => k_is)
    (case z_str => k_is)
    (case z_tuple => k_is)
    (case z_list => k_is)
    (case z_len => k_is)
    (case z_range => k_is)
    (case z_max => k_is)
    (case z_min => k_is)
    (case z_abs => k_is)
    (case z_repr => k_is)
    (case z_LookupError => k_is)
    (case z_ValueError => k_is)
