import PyProof.Rows.All
import Wide.All
import OpenK.AllK
import Wide.FinOn
import HandS.ForMost
import HandS.Wide
import HandS.Flow
import HandS.IsInst
import HandS.Codes
import HandS.TupLe
import HandS.Zip
import HandS.Walk
import HandS.FStrTup
import HandS.RaiseMore
import PyProof.ReprRoads
import HandS.OwnEq
import HandS.Text
import HandS.StrMore
import PyProof.FitsReplace
import PyProof.StrLawsFirst
import HandS.ForExc
import HandS.ExcInit
import HandS.ExcField
import HandS.ExcIs
import HandS.CallSlots
import HandS.Defaults
import HandS.MakeKw
import HandS.MakeKwOnly
import KE.KExcIs
import KE.KTryMore
import PyProof.StrLawsRepr
import HandS.FStr
import KE.KCallOwn
import HandS.TupAny
import HandS.TupMul
import HandS.Style
import HandS.IterVal
import OpenK.KTop
import HandS.Strs
import KE.DataEq
import PyProof.Rows.StrPartPair
import HandS.TupSets
import HandS.Dict
import PyProof.StrOps2
import PyProof.NeKinds
import PyProof.AutoSeq1
import KE.SortKeyHeap
import HandS.SortKw
import HandS.More
import HandS.Conv
import HandS.ExcValue
import HandS.Deep
import KE.KDictSum
import KE.SortData
import HandS.SortInts
import HandS.List
import KE.DataCmp
import PyProof.StrLawsIn
import HandS.Base
import PySem.Challenge.RW_takesworks_k20_entries_of_anything
set_option Elab.async false
set_option linter.all false
set_option maxRecDepth 100000
set_option maxHeartbeats 4000000
namespace K20
open PySem PySem.Spec PyProof.Rows L2
/-! ## defs that show things: promises where no showing is under way -/
structure Gn (P : Program) (w : World) (K : PySem.W.Frag) (mg : Str → Option Value) (base : Heap) (k : Nat) (f : Addr) (fd : FuncData) (ps : List Str) (sp : Sp) : Prop where
  many : ∀ vs H Q E, sp vs H Q E → vs.length = ps.length
  go : ∀ (A : Around) (outer : List Env) (s : Shared) (H : Hp) (args : Args) (us : List Value) (vs : List V) (Q : VK) (E : XK), A.guards = some [] → Room k A →
    Env0 P w K mg base A outer s H → BindsTo s fd args (ps.zip us) → Vals vs us → sp vs H Q E → codeAny (model P w) A (.call (.ref f) args) (CR CX0 outer P w H s Q E) s
section
variable {P : Program} {w : World} {K : PySem.W.Frag} {mg : Str → Option Value} {base : Heap}
theorem gn_body {x qual : Str} {st : Stmt} {f : Addr} {fd : FuncData} {N ps : List Str} {k : Nat} {sp : Sp} (F : Fun K x qual st f fd) (S : FnScope N ps (defScope st))
    (many : ∀ vs H Q E, sp vs H Q E → vs.length = ps.length)
    (body : ∀ (cdv : Value) (A : Around) (outer : List Env) (s : Shared) (H : Hp) (vs : List V) (Q : VK) (E : XK), A.guards = some [] →
      Room k (A.deeper (envOfC qual (defScope st) s.heap.objs.size f cdv)) → sp vs H Q E →
      ∃ t, PSs (cxOf CX0 P w K mg base N qual (defScope st) f cdv A outer s H E).nox (defBody st) t ∧ t { nx := fun _ H' => Q .non H', rt := Q } (start N vs) H) :
    Gn P w K mg base (k + 1) f fd ps sp := by
  obtain ⟨oc, od, kV, doc, pm, an, cdv, ct, osl, rfl, lk, hcd⟩ := F.ex
  refine ⟨many, fun A outer s H args us vs Q E hg room en bd rv hsp => ?_⟩
  have kin : K.In s.heap := en.mod.kin.keeps fun b o q => (en.bs b o q).1
  refine Att.call_fn kin (en.mod.nolimit.keeps fun b o q => (en.bs b o q).1) lk hcd room.depth bd ?_ (fun s1 inc => ?_) S.co S.gen S.kind
  · refine List.all_eq_true.mpr fun y hy => ?_
    rcases S.par y.1 (List.of_mem_zip (a := y.1) (b := y.2) hy).1 with q | q
    · rw [q]; rfl
    · rw [q]; rfl
  · obtain ⟨t, ht, hq⟩ := body cdv A outer s H vs Q E hg (room.deeper _) hsp
    have I := inv_start (CX := CX0) (E := E) S room.hd en (many _ _ _ _ hsp) rv inc
    refine wpAny_mono (ht.nox.run [] s1 _ H _ I hq) (fun fl s' hs => ?_) fun _ _ z => z
    cases fl with
    | ret u =>
      obtain ⟨v, _, H', J, r, q⟩ := hs
      exact ⟨v, H', J.os, J.bare, J.base, J.hok, r, q⟩
    | next =>
      obtain ⟨_, H', J, q⟩ := hs
      exact ⟨.non, H', J.os, J.bare, J.base, J.hok, rfl, q⟩
    | brk =>
      obtain ⟨_, _, _, z⟩ := hs
      exact False.elim z
    | cont =>
      obtain ⟨_, _, _, z⟩ := hs
      exact False.elim z
end
section
variable {X : Cx} {k : Nat} {f : Addr} {fd : FuncData} {ps : List Str} {sp : Sp} {x : Str} {p pos : Pos} {e : Expr} {es : List Expr} {t : TA}
theorem pe_gn (F : Gn X.prog X.w X.K X.mg X.base k f fd ps sp) (quiet : X.A.guards = some []) (room : Room k X.A) (gl : Gl X x) (mgf : X.mg x = some (.ref f))
    (kp : PySem.W.keepIn X.K (.ref f) = true) (bd : Binds X.K fd ps []) (ha : PA X (e :: es) t) (hdb : (x == ("__debug__" : Str)) = false := by decide)
    (he : starEach (e :: es) X.env = (false, eval e X.env) :: starEach es X.env := by rfl) (hpl : (backTo pos (starEach es X.env)).any (·.1) = false := by rfl) :
    PE X (.Call (.Name x p) (e :: es) [] pos) (tCall sp [] E0 t) := by
  refine ⟨fun pins s σ H Q I h => wpAny_Call_Name_kw (ld_glob I gl mgf ?_ hdb)⟩
  refine PySem.W.callWith_K (h₀ := X.base) I.ok.mod.kin kp ?_ he hpl
  refine thn (ha.run pos pins s σ H _ I h) fun us s1 z => ?_
  obtain ⟨vs, H1, I1, rv, q⟩ := z
  have q' : sp vs H1 Q E0 := by
    have z := q
    rw [List.append_nil] at z
    exact z
  have many : us.length = ps.length := rv.length.symm.trans (F.many _ _ _ _ q')
  have b1 := bd s1 us I1.kIn (by rw [List.append_nil]; exact many)
  rw [List.append_nil] at b1
  refine ⟨I1.kIn, wpAny_call (codeAny_mono (F.go X.A X.stack s1 H1 ⟨us, []⟩ us vs Q E0 quiet room I1.env0 b1 rv q') fun r s' hr => ?_)⟩
  cases r with
  | error z => exact False.elim hr
  | ok fl =>
    cases fl with
    | ret u => exact I1.after hr
    | next => exact False.elim hr
    | brk => exact False.elim hr
    | cont => exact False.elim hr
/-- repr of data at any depth -/
theorem cr_reprD (quiet : X.A.guards = some []) (room : Room k X.A) : CallR X (.builtin "repr") (fun xs H Q => ∃ (a : Addr) (d : PyData), xs = [.ref a] ∧ Dp X.K H (.ref a) d ∧ d.showable = true ∧ d.hasDict = false ∧
    d.depth ≤ 50 ∧ d.shown.length ≤ sizeLine ∧ Q (.str d.shown) H) := by
  intro pins s σ H xs us Q I r h
  obtain ⟨a, d, rfl, hd, hs, hn, hp, hz, q⟩ := h
  obtain ⟨u, rfl, rx⟩ := vals1 r
  obtain ⟨as, rd⟩ := Dp.reads I d _ u hd rx
  cases rx
  have hu := room.units
  exact repr_of_reads' rd hs (fun z => absurd (hn.symm.trans z) Bool.false_ne_true) quiet (by omega) (fun _ _ z => z) (fun h' u tk kept => ⟨.str d.shown, H, I.kept kept, ⟨u, rfl⟩, q⟩) hz
theorem cr_repr_bl : CallR X (.builtin "repr") (fun xs H Q => ∃ b : Bool, xs = [.bl b] ∧ Q (.str (if b then "True" else "False")) H) := by
  intro pins s σ H xs us Q I r h
  obtain ⟨b, rfl, q⟩ := h
  obtain ⟨u, rfl, rx⟩ := vals1 r
  cases rx
  exact PySem.P.repr_of_bool ⟨.str _, H, I.tok _, ⟨_, rfl⟩, q⟩
end
end K20
set_option Elab.async false
set_option linter.all false
set_option maxRecDepth 100000
set_option maxHeartbeats 4000000
set_option pp.maxSteps 400
set_option pp.deepTerms false
namespace K20
open PySem PySem.Spec PyProof.Rows L2
/-! ## == by a class's own __eq__, either way about -/
/-- what the written part says of the class -/
structure OwnC (K : PySem.W.Frag) (C f : Addr) : Prop where
  eq : PySem.W.findIn K (.ref C) "__eq__" = some (some (.ref f))
  fn : PySem.W.isFn K (.ref f) = true
  ne : PySem.W.findIn K (.ref C) "__ne__" = some (some (.builtin "object.__ne__"))
  mo : PySem.W.mroIn K C (.type "object") = some true
  sInt : PySem.W.subIn K (.ref C) (.type "int") = some false
  sStr : PySem.W.subIn K (.ref C) (.type "str") = some false
  sNon : PySem.W.subIn K (.ref C) (.type "NoneType") = some false
  sTup : PySem.W.subIn K (.ref C) (.type "tuple") = some false
  sLst : PySem.W.subIn K (.ref C) (.type "list") = some false
section
variable {X : Cx} {pins : List (Addr × Obj)} {σ : L2.St} {H : Hp} {n : Nat} {f C : Addr} {fd : FuncData} {ps : List Str} {sp : Sp}
/-- the end of such a comparison: a truth -/
def BP (X : Cx) (pins : List (Addr × Obj)) (σ : L2.St) (Q : Bool → Hp → Prop) (u : Value) (s' : Shared) : Prop := ∃ b H', u = .bool b ∧ Inv X pins σ H' s' ∧ Q b H'
theorem own_call {A : Around} {s : Shared} {a : Addr} {y : V} {v : Value} {Q : Bool → Hp → Prop} {E : Value → Shared → Prop} (fr : A.frames = some X.stack) (room : Room n A) (F : FnOk X.prog X.w X.K X.mg X.base CX0 n f fd ps sp) (bd : Binds X.K fd ps [])
    (I : Inv X pins σ H s) (rv : RelV y v) (hsp : sp [.ref a, y] H (fun z H' => ∃ b, z = .bl b ∧ Q b H') E0) : wpAny (model X.prog X.w) A (call (.ref f) [.ref a, v]) (BP X pins σ Q) E s := by
  have en : Env0 X.prog X.w X.K X.mg X.base A X.stack s H := by
    have z := I.env0
    exact ⟨fr, z.mod, z.bs, z.bsz, z.funs, z.frf, z.hok, z.bare⟩
  have hl : [V.ref a, y].length = ps.length := F.len _ _ _ _ hsp
  have b1 := bd s [.ref a, v] I.kIn (by simpa using hl)
  rw [List.append_nil] at b1
  refine wpAny_call (codeAny_mono (F.run A X.stack s H ⟨[.ref a, v], []⟩ [.ref a, v] [.ref a, y] _ E0 room en b1 (.cons rfl (.cons rv .nil)) hsp) fun r s2 hr => ?_)
  match r, hr with
  | .error z, hr => exact False.elim hr
  | .ok .next, hr => exact False.elim hr
  | .ok .brk, hr => exact False.elim hr
  | .ok .cont, hr => exact False.elim hr
  | .ok (.ret u), hr =>
    obtain ⟨z, H2, I2, rz, b, rfl, q⟩ := I.after hr
    cases rz
    exact ⟨b, H2, rfl, I2, q⟩
theorem rc_L {A : Around} {s : Shared} {a dx : Addr} {fs : List (Str × V)} {y : V} {v tb : Value} {Q : Bool → Hp → Prop} {E : Value → Shared → Prop} (W : OwnC X.K C f) (fr : A.frames = some X.stack) (room : Room n A)
    (F : FnOk X.prog X.w X.K X.mg X.base CX0 n f fd ps sp) (bd : Binds X.K fd ps []) (I : Inv X pins σ H s) (ha : H a = some (.ins C dx fs)) (rv : RelV y v) (hb : PySem.W.Looks (model X.prog X.w) s.heap (typeOf v) tb)
    (nf : PySem.W.notFirst X.K C tb = true) (hsp : sp [.ref a, y] H (fun z H' => ∃ b, z = .bl b ∧ Q b H') E0) : wpAny (model X.prog X.w) A (richCompare .Eq (.ref a) v) (BP X pins σ Q) E s := by
  obtain ⟨mA, J, _⟩ := ins_get I.hok ha
  obtain ⟨od, J, _⟩ := J.look
  obtain ⟨m, hF⟩ := I.fr
  refine PySem.W.cmp_K (op := .Eq) room.units0 hF I.ok.mod.kin J hb nf W.eq W.fn (wpAny_mono (own_call fr room F bd I rv hsp) (fun u s' hu => ?_) fun _ _ z => z)
  obtain ⟨b, H', rfl, I', q⟩ := hu
  exact ⟨b, H', rfl, I', q⟩
/-- a builtin's own == has no answer, then the class's own is asked -/
theorem rc_R {A : Around} {s : Shared} {a dx : Addr} {fs : List (Str × V)} {y : V} {v : Value} {T id : String} {Q : Bool → Hp → Prop} {E : Value → Shared → Prop} (W : OwnC X.K C f) (fr : A.frames = some X.stack) (room : Room n A)
    (F : FnOk X.prog X.w X.K X.mg X.base CX0 n f fd ps sp) (bd : Binds X.K fd ps []) (I : Inv X pins σ H s) (ha : H a = some (.ins C dx fs)) (rv : RelV y v) (hT : s.TypeIs v T) (one : oneThing? .Eq v (.ref a) = none)
    (sub : PySem.W.subIn X.K (.ref C) (.type T) = some false) (slot : Slot T "__eq__" id) (dec : ∀ E', wpAny (model X.prog X.w) A (call (.builtin id) [v, .ref a]) (fun u s' => u = .notImplemented ∧ s' = s) E' s)
    (hsp : sp [.ref a, y] H (fun z H' => ∃ b, z = .bl b ∧ Q b H') E0) : wpAny (model X.prog X.w) A (richCompare .Eq v (.ref a)) (BP X pins σ Q) E s := by
  obtain ⟨mA, J, _⟩ := ins_get I.hok ha
  obtain ⟨od, J, _⟩ := J.look
  have two : wpAny (model X.prog X.w) A (tryCompare (.ref a) "__eq__" v) (fun r s' => ∃ u, r = some u ∧ BP X pins σ Q u s') E s := by
    unfold tryCompare
    refine wpAny_bind (PySem.W.ifBound_K I.kIn J W.eq W.fn (wpAny_mono (own_call fr room F bd I rv hsp) (fun u s' hu => ?_) fun _ _ z => z))
    obtain ⟨b, H', rfl, I', q⟩ := hu
    exact wpAny_pure ⟨_, rfl, b, H', rfl, I', q⟩
  have first : wpAny (model X.prog X.w) A (tryCompare v "__eq__" (.ref a)) (fun r s' => r = none ∧ s' = s) E s :=
    wpAny_tryCompare_declines hT slot (wpAny_mono (dec E) (fun u s' z => ⟨z.1, rfl, z.2⟩) fun _ _ z => z)
  simp only [richCompare, cmpInfo_Eq, one]
  refine wpAny_holding (wpAny_bind (wpAny_cRoomFor room.units0 ?_))
  refine wpAny_bind (wpAny_typeOf hT (wpAny_bind (J.type.here ?_)))
  split
  · refine wpAny_bind ((PySem.W.looks_subIn I.kIn sub).here ?_)
    simp only [Bool.false_eq_true, if_false, Bool.not_false, if_true]
    refine wpAny_bind (m := tryCompare v _ (.ref a)) (wpAny_mono first (fun r s1 z => ?_) fun _ _ e => e)
    obtain ⟨z1, z2⟩ := z
    subst z1
    subst z2
    refine wpAny_bind (m := tryCompare (.ref a) _ v) (wpAny_mono two (fun r s2 z => ?_) fun _ _ e => e)
    obtain ⟨u, rfl, q⟩ := z
    exact wpAny_pure q
  · rename_i q
    exact absurd (by simp) q
end
end K20
set_option Elab.async false
set_option linter.all false
set_option maxRecDepth 100000
set_option maxHeartbeats 4000000
set_option pp.maxSteps 400
set_option pp.deepTerms false
namespace K20
open PySem PySem.Spec PyProof.Rows L2
section
variable {prog : Program} {w : World} {A : Around} {E : Value → Shared → Prop} {s : Shared} {a C dx : Addr} {K : PySem.W.Frag} {ox : Obj} {od : Option Obj}
theorem dec_none : wpAny (model prog w) A (call (.builtin "NoneType.__eq__") [.none, .ref a]) (fun u s' => u = .notImplemented ∧ s' = s) E s := by
  refine GQ.call_here F.slot_NoneType_eq (T := "NoneType") rfl F.entry_NoneType_eq (F.args_NoneType_eq_2 _ _) ?_
  wp_walk
  exact ⟨rfl, rfl⟩
theorem dec_int {i : Int} {t : Tok} (ho : s.heap.get? a = some (PySem.W.instObj C dx)) : wpAny (model prog w) A (call (.builtin "int.__eq__") [.int i t, .ref a]) (fun u s' => u = .notImplemented ∧ s' = s) E s := by
  refine GQ.call_here F.slot_int_eq (typeIs_int _ _ _) F.entry_int_eq (F.args_int_eq_2 _ _) ?_
  wp_walk using wpAny_load ho
  exact ⟨rfl, rfl⟩
theorem dec_str {i : Str} {t : Tok} (ho : s.heap.get? a = some (PySem.W.instObj C dx)) : wpAny (model prog w) A (call (.builtin "str.__eq__") [.str i t, .ref a]) (fun u s' => u = .notImplemented ∧ s' = s) E s := by
  refine GQ.call_here F.slot_str_eq (typeIs_str _ _ _) F.entry_str_eq (F.args_str_eq_2 _ _) ?_
  wp_walk using wpAny_load ho
  exact ⟨rfl, rfl⟩
theorem isi_no {T : String} {Q : Bool → Shared → Prop} (J : PySem.W.InstAt s.heap a ox C od) (kin : K.In s.heap) (sub : PySem.W.subIn K (.ref C) (.type T) = some false) (h : Q false s) : wpAny (model prog w) A (isInstance (.ref a) (.type T)) Q E s := by
  unfold isInstance
  exact wpAny_bind (J.type.here ((PySem.W.looks_subIn kin sub).here h))
theorem dec_tup {t : Addr} (hT : s.TypeIs (.ref t) "tuple") (J : PySem.W.InstAt s.heap a ox C od) (kin : K.In s.heap) (sub : PySem.W.subIn K (.ref C) (.type "tuple") = some false) :
    wpAny (model prog w) A (call (.builtin "tuple.__eq__") [.ref t, .ref a]) (fun u s' => u = .notImplemented ∧ s' = s) E s := by
  refine GQ.call_here F.slot_tuple_eq hT F.entry_tuple_eq (F.args_tuple_eq_2 _ _) ?_
  wp_walk using isi_no J kin sub
  exact ⟨rfl, rfl⟩
theorem dec_lst {t : Addr} (hT : s.TypeIs (.ref t) "list") (J : PySem.W.InstAt s.heap a ox C od) (kin : K.In s.heap) (sub : PySem.W.subIn K (.ref C) (.type "list") = some false) :
    wpAny (model prog w) A (call (.builtin "list.__eq__") [.ref t, .ref a]) (fun u s' => u = .notImplemented ∧ s' = s) E s := by
  refine GQ.call_here F.slot_list_eq hT F.entry_list_eq (F.args_list_eq_2 _ _) ?_
  wp_walk using isi_no J kin sub
  exact ⟨rfl, rfl⟩
end
section
variable {X : Cx} {pins : List (Addr × Obj)} {σ : L2.St} {H : Hp} {n : Nat} {f C : Addr} {fd : FuncData} {ps : List Str} {sp : Sp}
/-- != of two instances -/
theorem rc_N {A : Around} {s : Shared} {a dx : Addr} {fs : List (Str × V)} {y : V} {v tb : Value} {Q : Bool → Hp → Prop} {E : Value → Shared → Prop} (W : OwnC X.K C f) (fr : A.frames = some X.stack) (room : Room (n + 1) A)
    (F : FnOk X.prog X.w X.K X.mg X.base CX0 n f fd ps sp) (bd : Binds X.K fd ps []) (I : Inv X pins σ H s) (ha : H a = some (.ins C dx fs)) (rv : RelV y v) (hb : PySem.W.Looks (model X.prog X.w) s.heap (typeOf v) tb)
    (nf : PySem.W.notFirst X.K C tb = true) (hsp : sp [.ref a, y] H (fun z H' => ∃ b, z = .bl b ∧ Q (!b) H') E0) : wpAny (model X.prog X.w) A (richCompare .NotEq (.ref a) v) (BP X pins σ Q) E s := by
  obtain ⟨mA, J, _⟩ := ins_get I.hok ha
  obtain ⟨od, J, _⟩ := J.look
  have inner : wpAny (model X.prog X.w) A.in1 (Builtin.«object.__ne__» ⟨[.ref a, v], []⟩) (fun fl s' => ∃ u, fl = .done (.ret u) ∧ u ≠ .notImplemented ∧ BP X pins σ Q u s') E s := by
    unfold Builtin.«object.__ne__»
    refine wpAny_bind (m := slotArgs "__ne__" 1 _) (wpAny_pure ?_)
    dsimp only
    refine wpAny_bind (wpAny_cRoomFor room.in1.units0 ?_)
    refine wpAny_bind (PySem.W.ifBound_K I.kIn J W.eq W.fn (wpAny_mono (own_call (A := A.in1) fr room.in1 F bd I rv hsp) (fun u s' hu => ?_) fun _ _ z => z))
    obtain ⟨b, H', rfl, I', q⟩ := hu
    dsimp only
    refine wpAny_bind (m := truthy (.bool b)) (wpAny_truthy_bool ?_)
    exact wpAny_pure ⟨_, rfl, by simp, !b, H', rfl, I', q⟩
  have call_ : wpAny (model X.prog X.w) A (call (.builtin "object.__ne__") [.ref a, v]) (fun u s' => u ≠ .notImplemented ∧ BP X pins σ Q u s') E s := by
    refine wpAny_call (codeAny_call_builtin PySem.F.cmp_object.ne.plain PySem.F.cmpEntry_ne (PySem.W.check_slot PySem.F.cmpKind_ne PySem.F.cmpSplit_ne (J.type.andThen (PySem.W.looks_mroIn I.kIn W.mo)) (PySem.F.cmpArgs_ne _ _) (wpAny_mono inner (fun fl s' z => ?_) fun _ _ z => z)))
    obtain ⟨u, rfl, z1, z2⟩ := z
    exact ⟨z1, z2⟩
  have one : wpAny (model X.prog X.w) A (tryCompare (.ref a) "__ne__" v) (fun r s' => ∃ u, r = some u ∧ BP X pins σ Q u s') E s := by
    unfold tryCompare
    refine wpAny_bind ?_
    simp only [callSpecialIfBound?, bindSpecialIfBound?]
    refine wpAny_holding (wpAny_bind (wpAny_bind (wpAny_bind (J.type.here ((PySem.W.looks_findIn I.kIn W.ne).here ?_)))))
    refine wpAny_bind (wpAny_askSetting (wpAny_ite ?_))
    have fin : wpAny (model X.prog X.w) A (call (.builtin "object.__ne__") ([.ref a] ++ [v]) >>= fun z => pure (some z)) (fun r s1 => wpAny (model X.prog X.w) A (match r with
        | some .notImplemented => pure none
        | none => pure none
        | some z => pure (some z)) (fun r s' => ∃ u, r = some u ∧ BP X pins σ Q u s') E s1) E s := by
      refine wpAny_bind (wpAny_mono call_ (fun u s' z => wpAny_pure ?_) fun _ _ z => z)
      obtain ⟨z1, b, H', rfl, z2⟩ := z
      exact wpAny_pure ⟨_, rfl, b, H', rfl, z2⟩
    split
    · exact wpAny_bind (wpAny_of_eq (PySem.F.cmp_object.ne.bind _) (wpAny_pure (by exact fin)))
    · exact wpAny_tryCatch (wpAny_bind (wpAny_of_eq (PySem.F.cmp_object.ne.bind _) (wpAny_pure (by exact fin))))
  unfold richCompare
  simp only [oneThing_ref]
  refine wpAny_holding (wpAny_bind (wpAny_cRoomFor room.units0 ?_))
  refine wpAny_bind (J.type.here (wpAny_bind (hb.here ?_)))
  split
  · rename_i d
    have no : PySem.W.subIn X.K tb (.ref C) = some false := by
      rcases Bool.or_eq_true_iff.mp nf with z | z
      · rw [beq_iff_eq.mp z] at d
        simp at d
      · exact beq_iff_eq.mp z
    refine wpAny_bind ((PySem.W.looks_subIn I.kIn no).here ?_)
    simp only [Bool.false_eq_true, if_false]
    refine wpAny_bind (m := tryCompare (.ref a) _ v) (wpAny_mono one (fun r s' z => ?_) fun _ _ z => z)
    obtain ⟨u, rfl, q⟩ := z
    exact wpAny_pure q
  · refine wpAny_bind (wpAny_pure ?_)
    simp only [Bool.false_eq_true, if_false]
    refine wpAny_bind (m := tryCompare (.ref a) _ v) (wpAny_mono one (fun r s' z => ?_) fun _ _ z => z)
    obtain ⟨u, rfl, q⟩ := z
    exact wpAny_pure q
end
end K20
set_option Elab.async false
set_option linter.all false
set_option maxRecDepth 100000
set_option maxHeartbeats 4000000
set_option pp.maxSteps 400
set_option pp.deepTerms false
namespace K20
open PySem PySem.Spec PyProof.Rows L2
open AutoSeq1 (wpAny_loadPart')
section
variable {prog : Program} {w : World} {A : Around}
theorem in_loop {l x : Addr} {as : List Addr} {e : Addr → Bool} {J : Nat → Shared → Prop} {Y : Shared → Prop} {R : Result → Shared → Prop} (hl : ∀ i s, J i s → ∃ n, s.heap.get? l = some { cls := .type "list", data := .seq (as.map Value.ref).toArray n })
    (turn : ∀ i c s, as[i]? = some c → J i s → wpAny (model prog w) A.in1 (eqBool (.ref c) (.ref x)) (fun r s' => r = e c ∧ (e c = true → Y s') ∧ (e c = false → J (i + 1) s')) (fun z s' => R (.error z) s') s)
    (yes : ∀ s, Y s → R (.ok (.ret (.bool true))) s) (no : ∀ s, J as.length s → R (.ok (.ret (.bool false))) s) (k : Nat) :
    ∀ i : Nat, as.length - i = k → i ≤ as.length → ∀ s, J i s → wpAny (model prog w) A.in1 (Builtin.«list.__contains__.loop» ⟨[.ref l, .ref x, rawInt i], []⟩) (GQ.FinOf prog w A R) (fun z s' => R (.error z) s') s := by
  induction k with
  | zero =>
    intro i hk hi s h
    obtain ⟨n, e1⟩ := hl i s h
    have he : i = as.length := by omega
    have fin := no s (he ▸ h)
    obtain ⟨hp, g, d, tk, os⟩ := s
    wp_walk using wpAny_loadPart' e1
    have none_ : (as.map Value.ref).toArray[((i : Nat) : Int).toNat]? = none := by simp; omega
    rw [none_]
    wp_walk
    exact fin
  | succ k ih =>
    intro i hk hi s h
    obtain ⟨n, e1⟩ := hl i s h
    have lt : i < as.length := by omega
    have ht := turn i as[i] s (List.getElem?_eq_getElem lt) h
    obtain ⟨hp, g, d, tk, os⟩ := s
    wp_walk using wpAny_loadPart' e1
    have some_ : (as.map Value.ref).toArray[((i : Nat) : Int).toNat]? = some (.ref as[i]) := by simp [lt]
    have hc : ((i : Int) + 1) = ((i + 1 : Nat) : Int) := by omega
    rw [some_]
    refine wpAny_bind (wpAny_mono ht (fun r s2 h2 => ?_) fun _ _ z => z)
    obtain ⟨hr, h3, h4⟩ := h2
    subst hr
    cases hb : e as[i] with
    | true =>
      have y2 := yes s2 (h3 hb)
      obtain ⟨hp2, g2, d2, tk2, os2⟩ := s2
      wp_walk
      exact y2
    | false =>
      have rec_ := ih (i + 1) (by omega) (by omega) s2 (h4 hb)
      obtain ⟨hp2, g2, d2, tk2, os2⟩ := s2
      wp_walk
      rw [hc]
      exact ⟨plainId_quiet MeetsSeq.plain_contains_loop _, codeAny_builtin MeetsSeq.entry_contains_loop (by
        rw [Around.under_plainId MeetsSeq.plain_contains_loop _]
        exact rec_)⟩
end
section
variable {X : Cx} {n : Nat} {f C : Addr} {fd : FuncData} {ps : List Str} {sp : Sp}
/-- what is asked of the items and of what is looked for -/
structure InD (sp : Sp) (C : Addr) (H : Hp) (a l : Addr) (as : List Addr) (e : Addr → Bool) : Prop where
  ha : ∃ dx fs, H a = some (.ins C dx fs)
  hl : H l = some (.lst (as.map V.ref))
  ne : ∀ c ∈ as, c ≠ a
  it : ∀ c ∈ as, ∃ dx fs, H c = some (.ins C dx fs)
  ask : ∀ c ∈ as, ∀ (H' : Hp) (Q : Bool → Hp → Prop), Same H H' → (∀ H2, Same H' H2 → Q (e c) H2) → sp [.ref c, .ref a] H' (fun z H2 => ∃ b, z = .bl b ∧ Q b H2) E0
theorem as_ref : ∀ {as : List Addr} {its : List Value}, Vals (as.map V.ref) its → its = as.map Value.ref
  | [], _, .nil => rfl
  | a :: as, _, .cons r t => by
    cases r
    rw [as_ref t]
    rfl
theorem contains_own (W : OwnC X.K C f) (room : Room (n + 2) X.A) (F : FnOk X.prog X.w X.K X.mg X.base CX0 n f fd ps sp) (bd : Binds X.K fd ps []) {pins : List (Addr × Obj)} {σ : L2.St} {H : Hp} {s : Shared} {a l : Addr} {as : List Addr} {e : Addr → Bool}
    {E : Value → Shared → Prop} {Q : Bool → Shared → Prop} (I : Inv X pins σ H s) (d : InD sp C H a l as e) (q : ∀ H' s', Inv X pins σ H' s' → Same H H' → Q (as.any e) s') :
    wpAny (model X.prog X.w) X.A (call (.builtin "list.__contains__") [.ref l, .ref a]) (fun u s' => ∃ b, u = .bool b ∧ Q b s') E s := by
  have at_ : ∀ {s' : Shared} {H' : Hp}, Inv X pins σ H' s' → Same H H' → ∃ n, s'.heap.get? l = some { cls := .type "list", data := .seq (as.map Value.ref).toArray n } := fun {s' H'} I' sm => by
    obtain ⟨_, its, m, r, e1⟩ := I'.hok l _ (sm _ _ d.hl)
    rw [as_ref r] at e1
    exact ⟨m, e1⟩
  obtain ⟨m0, e0⟩ := at_ I (Same.refl H)
  refine GQ.call_here PySem.F.slot_list_contains ⟨_, e0, rfl⟩ PySem.F.entry_list_contains (PySem.F.args_list_contains_2 _ _) ?_
  have loop := in_loop (prog := X.prog) (w := X.w) (A := X.A) (l := l) (x := a) (as := as) (e := e) (J := fun i s' => ∃ H', Inv X pins σ H' s' ∧ Same H H' ∧ (as.take i).any e = false) (Y := fun s' => ∃ H', Inv X pins σ H' s' ∧ Same H H' ∧ as.any e = true)
    (R := wants (fun u s' => ∃ b, u = .bool b ∧ Q b s') E) (fun i s' z => by
      obtain ⟨H', I', sm, _⟩ := z
      exact at_ I' sm) (fun i c s' hc z => ?_) (fun s' z => ?_) (fun s' z => ?_) as.length 0 (by omega) (Nat.zero_le _) s ⟨H, I, Same.refl H, by simp⟩
  · obtain ⟨hp, g, dd, tk, os⟩ := s
    wp_walk using wpAny_loadPart' e0
    exact ⟨plainId_quiet MeetsSeq.plain_contains_loop _, codeAny_builtin MeetsSeq.entry_contains_loop (by
      rw [Around.under_plainId MeetsSeq.plain_contains_loop _]
      exact loop)⟩
  · obtain ⟨H', I', sm, no⟩ := z
    have cm : c ∈ as := List.mem_of_getElem? hc
    obtain ⟨dx, fs, ec⟩ := d.it c cm
    obtain ⟨dxa, fsa, ea⟩ := d.ha
    obtain ⟨mB, JB, _⟩ := ins_get I'.hok (sm _ _ ea)
    obtain ⟨oB, JB, _⟩ := JB.look
    refine GQ.eqBool_refG (d.ne c cm) (wpAny_mono (rc_L (A := X.A.in1) (n := n) W (by show X.A.frames = some X.stack; exact I.ok.frames) (room.in1.mono (Nat.le_succ _)) F bd I' (sm _ _ ec) (y := .ref a) rfl JB.type (by simp [PySem.W.notFirst])
      (d.ask c cm H' (fun b H2 => b = e c ∧ Same H' H2) sm fun H2 s2 => ⟨rfl, s2⟩)) (fun u s2 hu => ?_) fun _ _ z => z)
    obtain ⟨b, H2, rfl, I2, rfl, s2⟩ := hu
    refine ⟨_, rfl, rfl, fun y => ⟨H2, I2, sm.trans s2, List.any_eq_true.mpr ⟨c, cm, y⟩⟩, fun y => ⟨H2, I2, sm.trans s2, ?_⟩⟩
    rw [List.take_add_one, hc, List.any_append, no]
    simp [y]
  · obtain ⟨H', I', sm, y⟩ := z
    refine ⟨true, rfl, ?_⟩
    have r := q H' s' I' sm
    rw [y] at r
    exact r
  · obtain ⟨H', I', sm, y⟩ := z
    rw [List.take_length] at y
    refine ⟨false, rfl, ?_⟩
    have r := q H' s' I' sm
    rw [y] at r
    exact r
def rInO (sp : Sp) (C : Addr) (neg : Bool) : R2 := fun x y H Q => ∃ (a l : Addr) (as : List Addr) (e : Addr → Bool), x = .ref a ∧ y = .ref l ∧ InD sp C H a l as e ∧ ∀ H', Same H H' → Q (.bl (if neg = true then !as.any e else as.any e)) H'
theorem op_inO (W : OwnC X.K C f) (room : Room (n + 2) X.A) (F : FnOk X.prog X.w X.K X.mg X.base CX0 n f fd ps sp) (bd : Binds X.K fd ps []) : OpR X (compareOp .In) (rInO sp C false) := by
  intro pins s σ H x y u v Q I rx ry h
  obtain ⟨a, l, as, e, rfl, rfl, d, q⟩ := h
  cases rx
  cases ry
  obtain ⟨_, its, m, r, e1⟩ := I.hok l _ d.hl
  show wpAny (model X.prog X.w) X.A (do return Value.bool (← contains (.ref l) (.ref a))) _ _ s
  refine wpAny_bind (wpAny_contains_slot ⟨_, e1, rfl⟩ PySem.F.slot_list_contains (wpAny_mono (contains_own (Q := fun b s' => EP X pins σ Q (.bool b) s') W room F bd I d fun H' s' I' sm => ⟨.bl (as.any e), H', I', rfl, q H' sm⟩) (fun z s' hz => ?_) fun _ _ z => z))
  obtain ⟨b, rfl, hq⟩ := hz
  exact wpAny_truthy_bool (wpAny_pure hq)
theorem op_notInO (W : OwnC X.K C f) (room : Room (n + 2) X.A) (F : FnOk X.prog X.w X.K X.mg X.base CX0 n f fd ps sp) (bd : Binds X.K fd ps []) : OpR X (compareOp .NotIn) (rInO sp C true) := by
  intro pins s σ H x y u v Q I rx ry h
  obtain ⟨a, l, as, e, rfl, rfl, d, q⟩ := h
  cases rx
  cases ry
  obtain ⟨_, its, m, r, e1⟩ := I.hok l _ d.hl
  show wpAny (model X.prog X.w) X.A (do return Value.bool (!(← contains (.ref l) (.ref a)))) _ _ s
  refine wpAny_bind (wpAny_contains_slot ⟨_, e1, rfl⟩ PySem.F.slot_list_contains (wpAny_mono (contains_own (Q := fun b s' => EP X pins σ Q (.bool (!b)) s') W room F bd I d fun H' s' I' sm => ⟨.bl (!as.any e), H', I', rfl, q H' sm⟩) (fun z s' hz => ?_) fun _ _ z => z))
  obtain ⟨b, rfl, hq⟩ := hz
  exact wpAny_truthy_bool (wpAny_pure hq)
end
end K20
set_option Elab.async false
set_option linter.all false
set_option maxRecDepth 100000
set_option maxHeartbeats 4000000
namespace K20
open PySem PySem.Spec PyProof.Rows L2
theorem law_go {P : Program} {w : World} {K : PySem.W.Frag} {mg mb : Str → Option Value} {k : Nat} {fa a : Addr} {fd : FuncData} {x : Str} {sp : Sp} {z : Shared} {vs : List Value} {ns : List Int}
    (kin : K.In z.heap) (nsG : z.heap.Ns mainGlobals mg) (nsB : z.heap.Ns builtinsNs mb) (same : ∀ y : Str, y ≠ "__name__" → mb y = bootBuiltins y) (lim : z.heap.NoLimit) (dig : z.heap.NoDigits) (no : z.gens = #[])
    (at_ : z.heap.get? a = some { cls := .type "list", data := .seq vs.toArray }) (intsA : IntsAre vs ns) (many : ns.length ≤ sizeLine) (room : Room k callerA)
    (F : ∀ base : Heap, K.In base → base.Ns mainGlobals mg → base.NoDigits → Gn P w K mg base k fa fd [x] sp) (bind : ∀ (s : Shared) (u : Value), BindsTo s fd ⟨[u], []⟩ [(x, u)])
    (hsp : ∀ H : Hp, SqL K H a (ns.map V.int) → sp [.ref a] H (fun v _ => v = .bl true) fun _ _ _ => False) :
    codeAny (model P w) callerA (.call (.ref fa) ⟨[.ref a], []⟩) (fun r s' => r = .ok (.ret (.bool true)) ∧ OldK z.heap s'.heap ∧ s'.os = z.os ∧ AllBare s'.gens) z := by
  have rv : Vals (ns.map V.int) vs := vals_ints intsA
  have sz : (ns.map V.int).length ≤ sizeLine := by rw [List.length_map]; exact many
  -- what is tracked: the script, unless it is the module's own
  let u : HO := .frz { cls := .type "list", data := .seq vs.toArray } (.lst (ns.map V.int))
  let H : Hp := fun b => if b = a ∧ K.lookup a = none then some u else none
  have only : ∀ b o, H b = some o → b = a ∧ K.lookup a = none ∧ o = u := fun b o e => by
    by_cases c : b = a ∧ K.lookup a = none
    · have e2 : H b = some u := if_pos c
      rw [e2] at e
      exact ⟨c.1, c.2, (Option.some.inj e).symm⟩
    · have e2 : H b = none := if_neg c
      rw [e2] at e
      cases e
  have sq : SqL K H a (ns.map V.int) := by
    cases hk : K.lookup a with
    | none => exact .inl (.inr ⟨_, if_pos ⟨rfl, hk⟩⟩)
    | some o =>
      have e := kin a o hk
      rw [at_] at e
      cases e
      exact .inr ⟨_, vs.toArray, _, hk, rfl, rfl, rfl, by rw [List.size_toArray, ← rv.length]; exact sz, by simpa using rv⟩
  have hok : HOk P w H z.heap := fun b o e => by
    obtain ⟨rfl, _, rfl⟩ := only b o e
    exact ⟨at_, sz, vs, _, rv, at_⟩
  have dictFree : ∀ {b : Addr} {o : Obj} {es : Array DictEntry} {ep : Nat}, z.heap.get? b = some o → o.data = .dict es ep → H b = none := fun {b o es ep} e d => by
    cases q : H b with
    | none => rfl
    | some v =>
      obtain ⟨rfl, _, _⟩ := only b v q
      rw [at_] at e
      cases e
      cases (show Data.seq vs.toArray _ = Data.dict es ep from d)
  have nsK : ∀ {b : Addr} {m : Str → Option Value}, z.heap.Ns b m → (hidT z.heap H).Ns b m := fun {b m} q => by
    obtain ⟨o, es, ep, e, d, r⟩ := q
    exact ⟨o, es, ep, hidT_get e (dictFree e d), d, r⟩
  have kb : K.In (hidT z.heap H) := fun b o e => by
    refine hidT_get (kin b o e) ?_
    cases q : H b with
    | none => rfl
    | some v =>
      obtain ⟨rfl, n, _⟩ := only b v q
      rw [n] at e
      cases e
  have limB : (hidT z.heap H).NoLimit := by
    obtain ⟨mc, h1, h2⟩ := lim
    exact ⟨mc, nsK h1, h2⟩
  have digB : (hidT z.heap H).NoDigits := by
    obtain ⟨mc, h1, h2⟩ := dig
    exact ⟨mc, nsK h1, h2⟩
  have en : Env0 P w K mg (hidT z.heap H) callerA [] z H :=
    ⟨rfl, ⟨kb, nsK nsG, ⟨mb, nsK nsB, same⟩, limB⟩, fun _ _ e => of_hidT e, Nat.le_of_eq (hidT_size _ _), trivial, (fun b hb => absurd (show b ∈ ([] : List Addr) from hb) List.not_mem_nil), hok, .of_eq no⟩
  refine codeAny_mono ((F _ kb (nsK nsG) digB).go callerA [] z H ⟨[.ref a], []⟩ [.ref a] [.ref a] _ _ rfl room en (bind z (.ref a)) (.cons rfl .nil) (hsp H sq)) fun r s' h => ?_
  match r, h with
  | .error e, h => exact False.elim h
  | .ok .next, h => exact False.elim h
  | .ok .brk, h => exact False.elim h
  | .ok .cont, h => exact False.elim h
  | .ok (.ret y), h =>
    obtain ⟨v, H', os, bare, un, hok', r', q⟩ := h
    obtain rfl : v = .bl true := q
    obtain rfl : y = Value.bool true := r'
    refine ⟨rfl, OldK.of_keep fun b o e => ?_, os, bare⟩
    cases q : H b with
    | none => exact un.keep b o e q (fun y => by cases y) (fun y => by cases y)
    | some v =>
      obtain ⟨rfl, _, rfl⟩ := only b v q
      have e2 := (hok' _ _ (un.frzs _ _ _ q)).1
      rw [at_] at e
      cases e
      exact e2
theorem walk_go {l : PySem.W.OpenLaw} {n k : Nat} {q : Program} {loose : List Str} {XP : (Str → Option Value) → Heap → Prop} {YP : World → Heap → Prop} {d : DefRec} {K : Params → PySem.W.Frag} {sp : PySem.W.Frag → Sp} {x : Str}
    (most : l.most = some n) (small : n ≤ sizeLine) (nodef : d.params.defaults = []) (room : Room k callerA) (hY : ∀ (w : World) (h : Heap), YP w h → (K w.params).In h)
    (F : ∀ (w : World) (mg : Str → Option Value) (fa : Addr) (h : Heap), (K w.params).In h → h.Ns mainGlobals mg → mg d.name = some (.ref fa) →
      ∃ fd : FuncData, (∀ (s : Shared) (u : Value), BindsTo s fd ⟨[u], []⟩ [(x, u)]) ∧ ∀ base : Heap, (K w.params).In base → base.Ns mainGlobals mg → base.NoDigits →
        Gn l.prog w (K w.params) mg base k fa fd [x] (sp (K w.params)))
    (hsp : ∀ (K : PySem.W.Frag) (H : Hp) (a : Addr) (ns : List Int), ns.length ≤ n → SqL K H a (ns.map V.int) → sp K [.ref a] H (fun v _ => v = .bl true) fun _ _ _ => False) :
    PySem.W.WalkO q loose XP YP l.row.toRowW d [] (fun f vs => PySem.call f vs) := by
  refine Att.attach_call most nodef fun w s₀ s₁ mg mb fa o pm cd doc a vs ns G Y _ _ _ hmg hobj hints hlen hg => ?_
  have kin := hY w _ Y
  obtain ⟨fd, hb, hF⟩ := F w mg fa _ kin G.T.g hmg
  exact law_go kin G.T.g G.T.b G.T.builtins G.T.nolimit G.T.nodigits hg hobj hints (Nat.le_trans hlen small) room hF hb fun H hS => hsp _ H a ns hlen hS
end K20
set_option Elab.async false
set_option linter.all false
set_option maxRecDepth 100000
set_option maxHeartbeats 4000000
set_option pp.maxSteps 400
set_option pp.deepTerms false
/-! Texts that are parted at one sign and put together again. -/
namespace Xtx
open PySem PySem.Spec PyProof.Rows L2
open PySem.StrLaws PySem.Builtin PySem.Builtin.Str
/-- one sign -/
abbrev s1 (c : Nat) : Str := ⟨#[c]⟩
theorem occ_all (s : Str) (c limit : Nat) : ∀ (n a : Nat) (st : Array Nat × Nat), st.2 ≤ a → st.1.size + n ≤ limit →
    (forIn (List.range' a n) st (occBody s (s1 c) s.length limit)).run.fst.toList = st.1.toList ++ (List.range' a n).filter (fun i => decide (s.cps.toList[i]? = some c))
  | 0, a, st, _, _ => by
    show st.1.toList = st.1.toList ++ []
    rw [List.append_nil]
  | n + 1, a, st, h1, h2 => by
    rw [List.range'_succ, List.forIn_cons, List.filter_cons]
    unfold occBody
    by_cases e : s.cps.toList[a]? = some c
    · have w := (subAt_one s c a).mpr e
      rw [if_pos ⟨⟨⟨by omega, h1⟩, w.1⟩, w.2⟩, if_pos (decide_eq_true e)]
      have ih := occ_all s c limit n (a + 1) (st.1.push a, a + 1) (Nat.le_refl _) (by rw [Array.size_push]; omega)
      refine (show _ = _ from ih).trans ?_
      rw [Array.toList_push, List.append_assoc]
      rfl
    · have w : ¬ (((st.1.size < limit ∧ st.2 ≤ a) ∧ a + (s1 c).length ≤ s.length) ∧ subAt s (s1 c) a = true) := fun z => e ((subAt_one s c a).mp ⟨z.1.2, z.2⟩)
      rw [if_neg w, if_neg (fun z => e (of_decide_eq_true z))]
      exact occ_all s c limit n (a + 1) (st.1, st.2) (by omega) (by show st.1.size + n ≤ limit; omega)
/-- where a sign stands -/
def cuts (s : Str) (c : Nat) : List Nat := (List.range' 0 s.length).filter fun i => decide (s.cps.toList[i]? = some c)
theorem occ_cuts (s : Str) (c : Nat) : occurrences s (s1 c) 0 s.length (s.length + 1) = cuts s c := by
  rw [occ_eq, occ_all s c (s.length + 1) (s.length + 1 - 0) 0 (#[], 0) (Nat.le_refl _) (by simp)]
  unfold cuts
  rw [show s.length + 1 - 0 = s.length + 1 from rfl, List.range'_concat, List.filter_append]
  have e : s.cps.toList[0 + 1 * s.length]? ≠ some c := fun z => by
    have := (List.getElem?_eq_some_iff.mp z).1
    have l : s.length = s.cps.toList.length := rfl
    omega
  rw [List.filter_cons, if_neg (fun z => e (of_decide_eq_true z))]
  simp
/-- without the sign -/
def Fr (c : Nat) (s : Str) : Prop := c ∉ s.cps.toList
theorem zip_free (s : Str) (c : Nat) : ∀ (cs : List Nat) (a : Nat), cs.Pairwise (· < ·) → (∀ i ∈ cs, a ≤ i) → (∀ k, a ≤ k → s.cps.toList[k]? = some c → k ∈ cs) →
    ∀ p ∈ (a :: cs.map (· + 1)).zip (cs ++ [s.length]), Fr c (strSub s p.1 p.2)
  | [], a, _, _, h3, p, hp => by
    simp only [List.map_nil, List.nil_append, List.zip_cons_cons, List.zip_nil_right, List.mem_singleton] at hp
    rw [hp]
    intro m
    rw [strSub_toList] at m
    obtain ⟨k, e⟩ := List.mem_iff_getElem?.mp (List.mem_of_mem_take m)
    rw [List.getElem?_drop] at e
    cases h3 (a + k) (by omega) e
  | i :: cs, a, h1, h2, h3, p, hp => by
    obtain ⟨p1, p2⟩ := List.pairwise_cons.mp h1
    simp only [List.map_cons, List.cons_append, List.zip_cons_cons] at hp
    rcases List.mem_cons.mp hp with e | m
    · rw [e]
      intro m
      rw [strSub_toList] at m
      obtain ⟨k, e⟩ := List.mem_iff_getElem?.mp m
      rw [List.getElem?_take] at e
      split at e
      · rename_i lt
        rw [List.getElem?_drop] at e
        rcases List.mem_cons.mp (h3 (a + k) (by omega) e) with z | z
        · omega
        · have := p1 _ z
          omega
      · cases e
    · refine zip_free s c cs (i + 1) p2 (fun j hj => p1 j hj) (fun k hk e => ?_) p m
      have ai := h2 i List.mem_cons_self
      rcases List.mem_cons.mp (h3 k (by omega) e) with z | z
      · omega
      · exact z
theorem parts_free (s : Str) (c : Nat) : ∀ t ∈ partsBetween s (cuts s c) 1, Fr c t := fun t ht => by
  unfold partsBetween at ht
  obtain ⟨p, hp, rfl⟩ := List.mem_map.mp ht
  refine zip_free s c (cuts s c) 0 ?_ (fun i _ => Nat.zero_le i) (fun k _ e => ?_) p hp
  · exact List.Pairwise.filter _ (List.pairwise_lt_range')
  · have hk := (List.getElem?_eq_some_iff.mp e).1
    refine List.mem_filter.mpr ⟨?_, decide_eq_true e⟩
    rw [List.mem_range'_1]
    exact ⟨Nat.zero_le _, by show k < 0 + s.length; have l : s.length = s.cps.toList.length := rfl; omega⟩
theorem cut_one {c : Nat} : ∀ {p q r t : List Nat}, c ∉ p → c ∉ q → p ++ c :: r = q ++ c :: t → p = q ∧ r = t
  | [], [], _, _, _, _, e => ⟨rfl, (List.cons.inj e).2⟩
  | [], b :: q, _, _, _, h2, e => absurd (by rw [(List.cons.inj e).1]; exact List.mem_cons_self) h2
  | a :: p, [], _, _, h1, _, e => absurd (by rw [← (List.cons.inj e).1]; exact List.mem_cons_self) h1
  | a :: p, b :: q, _, _, h1, h2, e => by
    obtain ⟨e1, e2⟩ := List.cons.inj e
    obtain ⟨e3, e4⟩ := cut_one (fun z => h1 (List.mem_cons_of_mem _ z)) (fun z => h2 (List.mem_cons_of_mem _ z)) e2
    exact ⟨by rw [e1, e3], e4⟩
theorem str_eq {x y : Str} (h : x.cps.toList = y.cps.toList) : x = y := by
  cases x; cases y
  exact congrArg Str.mk (Array.toList_inj.mp h)
theorem join_one (c : Nat) (x y : Str) (r : List Str) : (Str.join (s1 c) (x :: y :: r)).cps.toList = x.cps.toList ++ c :: (Str.join (s1 c) (y :: r)).cps.toList := by
  show (x ++ s1 c ++ Str.join (s1 c) (y :: r)).cps.toList = _
  rw [Str.cps_append, Array.toList_append, Str.cps_append, Array.toList_append, List.append_assoc]
  rfl
/-- rows without the sign are told by their text -/
theorem join_inj {c : Nat} : ∀ {ps qs : List Str}, ps ≠ [] → qs ≠ [] → (∀ p ∈ ps, Fr c p) → (∀ q ∈ qs, Fr c q) → Str.join (s1 c) ps = Str.join (s1 c) qs → ps = qs
  | [], _, h, _, _, _, _ => absurd rfl h
  | _ :: _, [], _, h, _, _, _ => absurd rfl h
  | [p], [q], _, _, _, _, e => by
    have e2 : p = q := e
    rw [e2]
  | [p], q :: q2 :: qs, _, _, hp, hq, e => by
    have w := congrArg (fun s : Str => s.cps.toList) e
    rw [join_one] at w
    refine absurd ?_ (hp p List.mem_cons_self)
    show c ∈ p.cps.toList
    have w2 : p.cps.toList = q.cps.toList ++ c :: (Str.join (s1 c) (q2 :: qs)).cps.toList := w
    rw [w2]
    exact List.mem_append_right _ List.mem_cons_self
  | p :: p2 :: ps, [q], _, _, hp, hq, e => by
    have w := congrArg (fun s : Str => s.cps.toList) e
    rw [join_one] at w
    refine absurd ?_ (hq q List.mem_cons_self)
    show c ∈ q.cps.toList
    have w2 : p.cps.toList ++ c :: (Str.join (s1 c) (p2 :: ps)).cps.toList = q.cps.toList := w
    rw [← w2]
    exact List.mem_append_right _ List.mem_cons_self
  | p :: p2 :: ps, q :: q2 :: qs, _, _, hp, hq, e => by
    have w := congrArg (fun s : Str => s.cps.toList) e
    rw [join_one, join_one] at w
    obtain ⟨e1, e2⟩ := cut_one (hp p List.mem_cons_self) (hq q List.mem_cons_self) w
    have ih := join_inj (List.cons_ne_nil p2 ps) (List.cons_ne_nil q2 qs) (fun z hz => hp z (List.mem_cons_of_mem _ hz)) (fun z hz => hq z (List.mem_cons_of_mem _ hz)) (str_eq e2)
    rw [str_eq e1, ih]
theorem kind1 {c : Nat} (hc : c < 256) : Builtin.Str.strKind (s1 c) = 1 := by
  unfold Builtin.Str.strKind
  rw [if_pos]
  simp [hc]
theorem kind_le (x : Str) : 1 ≤ Builtin.Str.strKind x := by
  unfold Builtin.Str.strKind
  split
  · exact Nat.le_refl _
  · split <;> decide
theorem join_ne {c : Nat} {a b : Str} {r : List Str} : 1 ≤ (Str.join (s1 c) (a :: b :: r)).length := by
  have w := congrArg List.length (join_one c a b r)
  rw [List.length_append, List.length_cons] at w
  show 1 ≤ (Str.join (s1 c) (a :: b :: r)).cps.toList.length
  omega
/-- text.split(sign) of rows put together -/
theorem split_join {c : Nat} (hc : c < 256) {ls : List Str} (ne : ls ≠ []) (fr : ∀ t ∈ ls, Fr c t) : Txt.split (Str.join (s1 c) ls) (s1 c) = ls := by
  obtain ⟨x, ex⟩ : ∃ x, Str.join (s1 c) ls = x := ⟨_, rfl⟩
  rw [ex]
  have one : ls.length = 1 ∨ 1 ≤ x.length := by
    match ls, ne, ex with
    | [a], _, _ => exact .inl rfl
    | a :: b :: r, _, ex => exact .inr (by rw [← ex]; exact join_ne)
  have ck : cuts x c = [] → [x] = ls := fun e => by
    have fx : Fr c x := fun m => by
      obtain ⟨k, hk⟩ := List.mem_iff_getElem?.mp m
      have hl := (List.getElem?_eq_some_iff.mp hk).1
      have : k ∈ cuts x c := List.mem_filter.mpr ⟨by rw [List.mem_range'_1]; exact ⟨Nat.zero_le _, by show k < 0 + x.length; have l : x.length = x.cps.toList.length := rfl; omega⟩, decide_eq_true hk⟩
      rw [e] at this
      cases this
    exact join_inj (List.cons_ne_nil _ _) ne (fun z hz => by rw [List.mem_singleton.mp hz]; exact fx) fr ex.symm
  unfold Txt.split
  by_cases c1 : (decide (x.length < (s1 c).length) || decide (Builtin.Str.strKind x < Builtin.Str.strKind (s1 c))) = true
  · rw [if_pos c1]
    refine ck ?_
    rw [kind1 hc, Bool.or_eq_true, decide_eq_true_eq, decide_eq_true_eq] at c1
    have k1 := kind_le x
    rcases c1 with z | z
    · have z2 : x.length < 1 := z
      unfold cuts
      rw [show x.length = 0 by omega]
      rfl
    · omega
  · rw [if_neg c1, occ_cuts]
    by_cases c2 : (cuts x c).isEmpty = true
    · rw [if_pos c2]
      exact ck (List.isEmpty_iff.mp c2)
    · rw [if_neg c2]
      show partsBetween x (cuts x c) 1 = ls
      have g := glued_between_self x (s1 c) (x.length + 1)
      rw [occ_cuts, glued_eq_join] at g
      refine join_inj (c := c) ?_ ne (parts_free x c) fr (g.trans ex.symm)
      unfold partsBetween
      intro z
      have w := congrArg List.length z
      simp at w
/-! strip, lstrip, rstrip -/
theorem drop_while (p : Nat → Bool) : ∀ l : List Nat, l.drop (l.takeWhile p).length = l.dropWhile p
  | [] => rfl
  | a :: r => by
    rw [List.takeWhile_cons, List.dropWhile_cons]
    split
    · rw [List.length_cons, List.drop_succ_cons, drop_while p r]
    · rfl
theorem take_while (p : Nat → Bool) (l : List Nat) : l.take (l.length - (l.reverse.takeWhile p).length) = (l.reverse.dropWhile p).reverse := by
  rw [← drop_while p l.reverse, List.reverse_drop, List.reverse_reverse, List.length_reverse]
theorem while_le (p : Nat → Bool) : ∀ l : List Nat, (l.takeWhile p).length ≤ l.length
  | [] => Nat.le_refl _
  | a :: r => by
    rw [List.takeWhile_cons]
    split
    · have := while_le p r
      simp only [List.length_cons]
      omega
    · exact Nat.zero_le _
theorem strip_list (goes : Nat → Bool) (l r : Bool) (x : Str) : (Txt.stripBy goes l r x).cps.toList =
    (if r = true then (((if l = true then x.cps.toList.dropWhile goes else x.cps.toList).reverse.dropWhile goes).reverse) else (if l = true then x.cps.toList.dropWhile goes else x.cps.toList)) := by
  have lx : x.length = x.cps.toList.length := rfl
  have e1 : x.cps.toList.drop (stripLo goes l x) = (if l = true then x.cps.toList.dropWhile goes else x.cps.toList) := by
    unfold stripLo
    cases l with
    | true => rw [if_pos rfl, if_pos rfl]; exact drop_while goes _
    | false => rw [if_neg Bool.false_ne_true, if_neg Bool.false_ne_true]; rfl
  have llo : stripLo goes l x ≤ x.cps.toList.length := by
    unfold stripLo
    cases l with
    | true => rw [if_pos rfl]; exact while_le goes _
    | false => rw [if_neg Bool.false_ne_true]; exact Nat.zero_le _
  have e2 : (strSub x (stripLo goes l x) (stripHi goes r x (stripLo goes l x))).cps.toList = (if r = true then (((if l = true then x.cps.toList.dropWhile goes else x.cps.toList).reverse.dropWhile goes).reverse) else (if l = true then x.cps.toList.dropWhile goes else x.cps.toList)) := by
    rw [strSub_toList, ← e1]
    have ly : (x.cps.toList.drop (stripLo goes l x)).length = x.cps.toList.length - stripLo goes l x := List.length_drop
    unfold stripHi
    cases r with
    | true =>
      rw [if_pos rfl, if_pos rfl, ← take_while goes, ly, lx]
      congr 1
      omega
    | false =>
      rw [if_neg Bool.false_ne_true, if_neg Bool.false_ne_true, lx]
      exact List.take_of_length_le (by rw [ly]; exact Nat.le_refl _)
  unfold Txt.stripBy
  split
  · rename_i h
    unfold stripSame at h
    rw [Bool.and_eq_true, beq_iff_eq, beq_iff_eq] at h
    rw [← e2, h.1] at *
    rw [h.2, strSub_toList, List.drop_zero, Nat.sub_zero, lx, List.take_length]
  · exact e2
def bl (c : Nat) : Bool := (" " : Str).cps.contains c
theorem bl_iff (c : Nat) : bl c = decide (c = 32) := by
  unfold bl
  rw [show (" " : Str).cps = #[32] by decide +kernel, Bool.eq_iff_iff, decide_eq_true_iff]
  simp
theorem rs_list (x : Str) : (Txt.rstripChars x " ").cps.toList = (x.cps.toList.reverse.dropWhile bl).reverse := by
  unfold Txt.rstripChars
  rw [strip_list]
  rfl
theorem ls_list (x : Str) : (Txt.lstripChars x " ").cps.toList = x.cps.toList.dropWhile bl := by
  unfold Txt.lstripChars
  rw [strip_list]
  rfl
theorem st_list (x : Str) : (Txt.stripChars x " ").cps.toList = ((x.cps.toList.dropWhile bl).reverse.dropWhile bl).reverse := by
  unfold Txt.stripChars
  rw [strip_list]
  rfl
/-- blanks ahead are taken off -/
theorem ls_blanks (n : Nat) {y : Str} (h : y.cps.toList.head? ≠ some 32) : (Txt.lstripChars ⟨(List.replicate n 32 ++ y.cps.toList).toArray⟩ " ") = y := by
  refine str_eq ?_
  rw [ls_list]
  show (List.replicate n 32 ++ y.cps.toList).dropWhile bl = y.cps.toList
  induction n with
  | zero =>
    rw [List.replicate_zero, List.nil_append]
    cases e : y.cps.toList with
    | nil => rfl
    | cons a r =>
      rw [e] at h
      have ha : a ≠ 32 := fun z => h (by rw [z]; rfl)
      rw [List.dropWhile_cons, bl_iff, decide_eq_false ha]
      rfl
  | succ n ih =>
    rw [List.replicate_succ, List.cons_append, List.dropWhile_cons, bl_iff, decide_eq_true rfl]
    exact ih
end Xtx
set_option Elab.async false
set_option linter.all false
set_option maxRecDepth 100000
set_option maxHeartbeats 4000000
set_option pp.maxSteps 400
set_option pp.deepTerms false
/-! A caught exception that is kept: tracked as an object of its own, with its class and its dict. -/
namespace Xk
open PySem PySem.Spec PyProof.Rows L2
/-- at a: an exception of the class cls, its dict at d (if it has one) -/
def ExK (cls : Value) (d : Option Addr) (a : Addr) : HO := .ext fun h => ∃ oe : Obj, h.get? a = some oe ∧ Zc cls d oe ∧ ∃ vs, oe.data = .fields vs
theorem exK_ok {P : Program} {w : World} {H : Hp} {h : Heap} {a : Addr} {cls : Value} {d : Option Addr} {oe : Obj} {vs : Array Value}
    (e : h.get? a = some oe) (z : Zc cls d oe) (hd : oe.data = .fields vs) : ObjOk P w H h a (ExK cls d a) :=
  ⟨⟨oe, e, z, vs, hd⟩, ⟨oe, e⟩, fun _ _ y k => by
    obtain ⟨o, q, r⟩ := y
    exact ⟨o, k o q, r⟩⟩
theorem exK_at {P : Program} {w : World} {H : Hp} {h : Heap} {a : Addr} {cls : Value} {d : Option Addr} (hok : HOk P w H h) (e : H a = some (ExK cls d a)) :
    ∃ oe : Obj, h.get? a = some oe ∧ Zc cls d oe ∧ ∃ vs, oe.data = .fields vs := by
  have z : ObjOk P w H h a (.ext fun h => ∃ oe : Obj, h.get? a = some oe ∧ Zc cls d oe ∧ ∃ vs, oe.data = .fields vs) := hok a _ e
  exact z.1
section
variable {X : Cx} {pins : List (Addr × Obj)} {σ : L2.St} {H : Hp} {s : Shared}
/-- an object that came during the call, untracked as yet, is tracked from here on -/
theorem track {a : Addr} {o : HO} (I : Inv X pins σ H s) (h0 : X.s_0.heap.get? a = none) (na : H a = none) (nL : a ≠ X.env.locals)
    (nC : ∀ x c, X.env.cells.lookup x = some c → c ≠ a) (nP : ∀ p ∈ X.pn ++ pins, p.1 ≠ a) (new : ObjOk X.prog X.w (upd H a o) s.heap a o) : Inv X pins σ (upd H a o) s := by
  have n0 : ∀ {b : Addr} {u : Obj}, X.s_0.heap.get? b = some u → b ≠ a := fun {b u} e z => by
    rw [z, h0] at e
    cases e
  refine ⟨I.ok, I.os, I.bare, ⟨I.base.keep, I.base.slot, fun b u e n hx => ?_, I.base.there, fun b xs e => ?_, fun b u v e => ?_, fun b ps e => ?_⟩, I.loc, I.cell, ?_, fun x c e => ?_, fun p hp => ?_, fun b u e => ?_, I.len⟩
  · rw [upd_ne (n0 e)]
    exact I.base.free b u e n hx
  · have q := I.base.tups b xs e
    rw [upd_ne (ne_of_none q na)]
    exact q
  · have q := I.base.frzs b u v e
    rw [upd_ne (ne_of_none q na)]
    exact q
  · obtain ⟨m, q⟩ := I.base.tbls b ps e
    exact ⟨m, by rw [upd_ne (ne_of_none q na)]; exact q⟩
  · rw [upd_ne (Ne.symm nL)]
    exact I.free
  · rw [upd_ne (nC x c e)]
    exact I.freeC x c e
  · obtain ⟨e1, e2, e3⟩ := I.pin p hp
    exact ⟨e1, by rw [upd_ne (nP p hp)]; exact e2, e3⟩
  · by_cases hb : b = a
    · subst hb
      rw [upd_same] at e
      cases e
      exact new
    · rw [upd_ne hb] at e
      refine (I.hok b u e).stay (fun _ _ _ q => q) (fun c q => ?_) fun c xs q => ?_
      · rw [upd_ne (ne_of_none q na)]
        exact q
      · rw [upd_ne (ne_of_none q na)]
        exact q
end
theorem flying_kept {B h h' : Heap} {l : List Env} {a : Addr} {Z : Obj → Prop} (f : HandSPX.FlyingZ B l a Z h) (k : ∀ b o, h.get? b = some o → h'.get? b = some o) : HandSPX.FlyingZ B l a Z h' := by
  obtain ⟨f1, f2, f3, oe, vs, T, oT, ts, t1, t2, t3, t4, t5, t6, t7, t8, t9⟩ := f
  exact ⟨fun b o e => k b o (f1 b o e), f2, f3.of_keeps fun b o e _ => ⟨o, k b o e, rfl⟩, oe, vs, T, oT, ts, k _ _ t1, t2, t3, t4, t5, t6, k _ _ t7, t8, t9⟩
/-- what the clause 'except (A, B, C) as n' wishes of an exception of the body: slot i is n's; the exception is tracked -/
def wKeep (K : PySem.W.Frag) (cs : List Value) (i : Nat) (ts : Addr → TS) (Wout : WX) (D : Ends) : WX := fun cls d σ H =>
  ∃ b, PySem.W.exmAny K cls cs = some b ∧
    (b = true → ∀ a, H a = none → ts a { nx := fun σ' H' => D.nx (σ'.set i none) H', rt := D.rt, bk := fun σ' H' => D.bk (σ'.set i none) H', ct := fun σ' H' => D.ct (σ'.set i none) H' } (σ.set i (some (.ref a))) (upd H a (ExK cls d a))) ∧
    (b = false → Wout cls d σ H)
/-- a module's own class by its name -/
structure Nm (X : Cx) (x : Str) (C : Addr) : Prop where
  gl : Gl X x
  db : (x == ("__debug__" : Str)) = false
  mg : X.mg x = some (.ref C)
section
variable {X : Cx} {x1 x2 x3 n : Str} {C1 C2 C3 : Addr} {i : Nat} {body suite : List Stmt} {b₀ : Stmt} {p1 p2 p3 tp pos pos' : Pos} {tb : WX → TS} {ts : Addr → TS} {Wout : WX} {cx}
theorem ps_try_keep (hs : X.stack = X.env :: X.outer) (hf : X.env.frame = some X.env.locals) (hex : X.ex = []) (hN : X.N.Nodup) (hi : X.N[i]? = some n) (hln : X.env.kindOf n = some .local)
    (n1 : Nm X x1 C1) (n2 : Nm X x2 C2) (n3 : Nm X x3 C3) (tk : Takes X Wout)
    (hb : ∀ (W : WX) (pn : List (Addr × Obj)) (xe : Value → Shared → Prop), Takes (X.tr pn xe) W → PassesOwn (model X.prog X.w) X.A X.env xe → PSs (X.tr pn xe) body (tb W))
    (hsu : ∀ (a : Addr) (pn : List (Addr × Obj)), PSs (X.suite a pn) (b₀ :: suite) (ts a)) :
    PS X (.Try body [.ExceptHandler (some (.Tuple [.Name x1 p1, .Name x2 p2, .Name x3 p3] cx tp)) (some n) (b₀ :: suite) pos'] [] [] pos) (fun D σ H => tb (wKeep X.K [.ref C1, .ref C2, .ref C3] i ts Wout D) D σ H) := by
  refine ⟨fun pins s σ H D I h => ?_⟩
  have ok := I.ok
  have frs2 : X.A.frames = some (X.env :: X.outer) := by rw [ok.frames, hs]
  refine wpAny_Try_except ?_
  refine wpAny_mono ((hb (wKeep X.K [.ref C1, .ref C2, .ref C3] i ts Wout D) (X.pn ++ pins)
    (fun e s₁ => wpAny (model X.prog X.w) X.A (noteFrame e X.env) (fun _ s₂ => wpAny (model X.prog X.w) X.A (setFlight e none) (fun _ s₃ => wpAny (model X.prog X.w) X.A
      (handleBy e X.env [.ExceptHandler (some (.Tuple [.Name x1 p1, .Name x2 p2, .Name x3 p3] cx tp)) (some n) (b₀ :: suite) pos']) (SP X pins D) X.xe s₃) X.xe s₂) X.xe s₁)
    (fun u s' air => ?_) PassesOwn.looking).run [] s σ H D (I.toTry _) h) (fun f s1 hsp => ?_) (fun e s1 he => he)
  · obtain ⟨a, B, sI, pins', σ', H', cls, d, rfl, J', nb, up, sky, na, os, ag, b, hb1, hyes, hno⟩ := air
    have J : Inv X pins σ' H' sI := J'.ofTry ok
    have sky2 : Sky B (X.env :: X.outer) a (Zc cls d) X.env.locals s'.heap := by
      rw [← hs]
      exact sky
    refine Sky.land Zc.steady frs2 hf sky2 fun h3 fl3 up3 => ?_
    obtain ⟨oe3, vs3, he3, hz3, hd3⟩ := fl3.there
    have nfr : a ∉ frs (X.env :: X.outer) := fun hm => by
      obtain ⟨_, o', e', hnf⟩ := fl3.2.2.1.mem hm
      rw [he3] at e'
      cases e'
      exact hnf _ hd3
    have nL : a ≠ X.env.locals := fun z => nfr (List.mem_filterMap.mpr ⟨X.env, List.mem_cons_self, by rw [hf, z]⟩)
    have nF : a ∉ X.fs := fun hm => by
      obtain ⟨e, he, q⟩ := List.mem_filterMap.mp hm
      exact nfr (List.mem_filterMap.mpr ⟨e, List.mem_cons_of_mem _ he, q⟩)
    -- it was not there when the call began
    have aI : sI.heap.get? a = none := by
      cases e : sI.heap.get? a with
      | none => rfl
      | some o =>
        have z := nb a o e (by rw [hs]; exact nfr)
        rw [fl3.2.1] at z
        cases z
    have a0 : X.s_0.heap.get? a = none := by
      cases e : X.s_0.heap.get? a with
      | none => rfl
      | some o =>
        obtain ⟨o', z⟩ := J.base.there a o e (by rw [hex]; exact fun z => nomatch z)
        rw [aI] at z
        cases z
    have nP : ∀ p ∈ X.pn ++ pins, p.1 ≠ a := fun p hp z => by
      have q := (J.pin p hp).1
      rw [z, aI] at q
      cases q
    have trk : ∀ {h4 : Heap} {s4 : Shared}, s4.heap = h4 → HandSPX.FlyingZ B (X.env :: X.outer) a (Zc cls d) h4 → Inv X pins σ' H' s4 → Inv X pins σ' (upd H' a (ExK cls d a)) s4 := fun {h4 s4} e4 fl4 J4 => by
      subst e4
      obtain ⟨oe4, vs4, he4, hz4, hd4⟩ := fl4.there
      refine track J4 a0 na nL (fun x c e z => ?_) nP (exK_ok he4 hz4 hd4)
      obtain ⟨v, o, eo, ed⟩ := J4.cell x c e
      rw [z, he4] at eo
      cases eo
      rw [hd4] at ed
      cases ed
    have J3 : Inv X pins σ' H' { s' with heap := h3 } := J.landed nb fl3.1 (up.trans up3) os ag
    have S3 : Inv (X.suite a (X.pn ++ pins)) [] σ' H' { s' with heap := h3 } :=
      ⟨J3.ok.suite _ _, J3.os, J3.bare, J3.base, J3.loc, J3.cell, J3.free, J3.freeC, fun p hp => J3.pin p (by rw [List.append_nil] at hp; exact hp), J3.hok, J3.len⟩
    refine wpAny_handleBy_cons (codeAny_handlers_test ?_) (by intro q; cases q)
    have own : ∀ {x : Str} {C : Addr} {p : Pos} {Q : Value → Shared → Prop} {E : Value → Shared → Prop}, Nm X x C → Q (.ref C) { s' with heap := h3 } →
        wpAny (model X.prog X.w) (X.A.mark (some (.ref a))) (eval (.Name x p) X.env) Q E { s' with heap := h3 } := fun {x C p Q E} z q => ld_glob (X := X.suite a (X.pn ++ pins)) S3 z.gl z.mg q z.db
    have tup : ∀ {Q : Value → Shared → Prop} {E : Value → Shared → Prop}, Q (.ref h3.objs.size) { s' with heap := h3.push { cls := .type "tuple", data := .seq [Value.ref C1, .ref C2, .ref C3].toArray } } →
        wpAny (model X.prog X.w) (X.A.mark (some (.ref a))) (eval (.Tuple [.Name x1 p1, .Name x2 p2, .Name x3 p3] cx tp) X.env) Q E { s' with heap := h3 } := fun {Q E} q => by
      refine wpAny_Tuple_spliced ?_
      show wpAny _ _ (spliced ((false, eval (.Name x1 p1) X.env) :: (false, eval (.Name x2 p2) X.env) :: (false, eval (.Name x3 p3) X.env) :: [])) _ _ _
      exact Calls.spliced_cons (own n1 (Calls.spliced_cons (own n2 (Calls.spliced_cons (own n3 (Calls.spliced_nil ⟨by show 3 ≤ sizeLine; decide, q⟩))))))
    refine tup ?_
    have k4 : ∀ b o, h3.get? b = some o → (h3.push { cls := .type "tuple", data := .seq [Value.ref C1, .ref C2, .ref C3].toArray }).get? b = some o := fun b o e => Heap.get?_push_of_some _ e
    have t4 := Heap.get?_push_size h3 (o := { cls := .type "tuple", data := .seq [Value.ref C1, .ref C2, .ref C3].toArray }) rfl
    generalize h3.push { cls := .type "tuple", data := .seq [Value.ref C1, .ref C2, .ref C3].toArray } = h4 at k4 t4 ⊢
    have fl4 := flying_kept fl3 k4
    have J4 : Inv X pins σ' H' { s' with heap := h4 } := J3.kept k4
    have LT : PySem.W.Looks (model X.prog X.w) h4 (typeOf (.ref a)) cls := fun A Q E s k q => wpAny_typeOf_ref (k _ _ (k4 _ _ he3)) (by rw [hz3.1]; exact q)
    refine (PySem.W.exm_tup3 (M := model X.prog X.w) J4.kIn LT t4 hb1).here ?_
    cases b with
    | true =>
      refine codeAny_handlers_suite_as ?_
      refine HandSPX.lands_againZ fl4 fun h5 fl5 up5 => ?_
      have J5 : Inv X pins σ' H' { s' with heap := h5 } := J.landed nb fl5.1 ((up.trans up3).trans ((Heap.UpToSlots.of_keeps k4).trans up5)) os ag
      have T5 := trk rfl fl5 J5
      have S5 : Inv (X.suite a (X.pn ++ pins)) [] σ' (upd H' a (ExK cls d a)) { s' with heap := h5 } :=
        ⟨T5.ok.suite _ _, T5.os, T5.bare, T5.base, T5.loc, T5.cell, T5.free, T5.freeC, fun p hp => T5.pin p (by rw [List.append_nil] at hp; exact hp), T5.hok, T5.len⟩
      refine store_ok (X := X.suite a (X.pn ++ pins)) (v := .ref a) S5 hN hi (.inl hln) rfl (fun s6 S6 => ?_) (.inr hln)
      refine wpAny_mono ((hsu a (X.pn ++ pins)).run [] s6 _ _ _ S6 (hyes rfl a na)) (fun f s7 hsp => ?_) (fun _ _ z => False.elim z)
      have back : ∀ {σ7 : L2.St} {H7 : Hp}, Inv (X.suite a (X.pn ++ pins)) [] σ7 H7 s7 → Inv X pins σ7 H7 s7 := fun {σ7 H7} S7 =>
        ⟨ok, S7.os, S7.bare, S7.base, S7.loc, S7.cell, S7.free, S7.freeC, fun p hp => S7.pin p (by rw [List.append_nil]; exact hp), S7.hok, S7.len⟩
      cases f with
      | next =>
        obtain ⟨σ7, H7, S7, q7⟩ := hsp
        exact gone_ok (back S7) hN hi hln fun s8 J8 => ⟨_, _, J8, q7⟩
      | brk =>
        obtain ⟨σ7, H7, S7, q7⟩ := hsp
        exact gone_ok (back S7) hN hi hln fun s8 J8 => ⟨_, _, J8, q7⟩
      | cont =>
        obtain ⟨σ7, H7, S7, q7⟩ := hsp
        exact gone_ok (back S7) hN hi hln fun s8 J8 => ⟨_, _, J8, q7⟩
      | ret u =>
        obtain ⟨v7, σ7, H7, S7, r7, q7⟩ := hsp
        exact gone_ok (back S7) hN hi hln fun s8 J8 => ⟨_, _, _, J8, r7, q7⟩
    | false =>
      refine wpAny_handleBy_nil ?_
      obtain ⟨k1, k2, k3, oe, vs, T, oT, ts', he, hz, hd, h1, hr⟩ := id fl4
      unfold PySem.passOn
      refine wpAny_bind (wpAny_field he hd h1 ?_)
      rw [if_neg (by simp : ¬ ((Value.ref T == Value.none) = true))]
      have fin : wpAny (model X.prog X.w) X.A (setFlight (.ref a) X.env.frame) (fun _ s5 => wpAny (model X.prog X.w) X.A (throw (.ref a) : Sem Flow) (SP X pins D) X.xe s5) X.xe { s' with heap := h4 } := by
        rw [hf]
        refine HandSPX.setFlight_upZ fl4 fun h5 hh5 up5 => wpAny_throw (tk _ _ ?_)
        exact ⟨a, B, sI, pins, σ', H', cls, d, rfl, J, nb, (up.trans up3).trans ((Heap.UpToSlots.of_keeps k4).trans up5), .inr (.inr (by rw [hs]; exact hh5)), na, os, ag, hno rfl⟩
      first
        | exact wpAny_bind (wpAny_pure (wpAny_bind fin))
        | exact wpAny_bind fin
  · cases f with
    | next =>
      obtain ⟨σ', H', J', q⟩ := hsp
      exact wpAny_execs_nil ⟨σ', H', J'.ofTry ok, q⟩
    | brk =>
      obtain ⟨σ', H', J', q⟩ := hsp
      exact ⟨σ', H', J'.ofTry ok, q⟩
    | cont =>
      obtain ⟨σ', H', J', q⟩ := hsp
      exact ⟨σ', H', J'.ofTry ok, q⟩
    | ret u =>
      obtain ⟨v, σ', H', J', r, q⟩ := hsp
      exact ⟨v, σ', H', J'.ofTry ok, r, q⟩
end
end Xk
set_option Elab.async false
set_option linter.all false
set_option maxRecDepth 100000
set_option maxHeartbeats 4000000
set_option pp.maxSteps 400
set_option pp.deepTerms false
namespace Xk
open PySem PySem.Spec PyProof.Rows L2
/-- what an own exception class says, so that its kept instances are read and asked -/
structure XcC (K : PySem.W.Frag) (C : Addr) : Prop where
  cl : (PySem.W.clsIn K C).isSome = true
  ga : PySem.W.findIn K (.ref C) "__getattribute__" = some (some (.builtin "BaseException.__getattribute__"))
  gg : PySem.W.findIn K (.ref C) "__getattr__" = some none
  sb : PySem.W.subIn K (.ref C) (.type "BaseException") = some true
  hd : PySem.W.hasDictIn K C = true
  ha : PySem.W.findIn K (.ref C) "__class__" = some (some (.builtin "object.__class__"))
  hn : PySem.W.specialIn K (.builtin "object.__class__") "__get__" = some (some (.builtin "getset_descriptor.__get__"))
  ht : PySem.W.takesIn K (.builtin "object.__class__") = some true
  hm : PySem.W.mroIn K C (.type "object") = some true
/-- a kept exception of the class at C with the fields fs -/
def Kept (H : Hp) (a C : Addr) (fs : List (Str × V)) : Prop := ∃ d, H a = some (ExK (.ref C) (some d) a) ∧ H d = some (.xd fs)
theorem Kept.same {H H' : Hp} {a C : Addr} {fs : List (Str × V)} (k : Kept H a C fs) (s : L2.Same H H') : Kept H' a C fs := by
  obtain ⟨d, e1, e2⟩ := k
  exact ⟨d, s _ _ e1, s _ _ e2⟩
section
variable {X : Cx} {pins : List (Addr × Obj)} {σ : L2.St} {H : Hp} {s : Shared}
theorem Kept.inst {a C : Addr} {fs : List (Str × V)} (I : Inv X pins σ H s) (k : Kept H a C fs) :
    ∃ (oe od : Obj) (mA : Str → Option Value), PySem.W.InstAt s.heap a oe C (some od) ∧ (∀ n, PySem.W.lookIn n od = some (mA n)) ∧ ∀ f, RelO (fs.lookup f) (mA f) := by
  obtain ⟨d, e1, e2⟩ := k
  obtain ⟨oe, he, hz, vs, hv⟩ := exK_at I.hok e1
  have hx : ObjOk X.prog X.w H s.heap d (.xd fs) := I.hok d _ e2
  obtain ⟨mA, hns, hr⟩ := hx
  obtain ⟨od, ho, hl⟩ := lookIn_ns hns
  refine ⟨oe, od, mA, ⟨he, hz.1, by unfold PySem.W.notCls; rw [hv] <;> rfl, by rw [hz.2]; exact ho⟩, hl, hr⟩
end
/-- e.f of a kept exception -/
def tKf (C : Addr) (f : Str) (te : TE) : TE := fun σ H Q => te σ H fun x H1 => ∃ (a : Addr) (fs : List (Str × V)) (v : V), x = .ref a ∧ Kept H1 a C fs ∧ fs.lookup f = some v ∧ Q v H1
theorem pe_kf {X : Cx} {C : Addr} {e : Expr} {te : TE} {pos : Pos} {n : Str} (T : XcC X.K C) (hno : PySem.W.findIn X.K (.ref C) n = some none) (he : PE X e te)
    (hb : attributeBase e n X.env (eval e X.env) = eval e X.env := by rfl) : PE X (.Attribute e n pos) (tKf C n te) := by
  refine ⟨fun pins s σ H Q I h => attr_of hb (thn (he.run pins s σ H _ I h) fun u s1 z => ?_)⟩
  obtain ⟨x, H1, I1, rx, a, fs, v, ex, k, l, q⟩ := z
  subst ex
  obtain rfl : u = Value.ref a := rx
  obtain ⟨oe, od, mA, J, hl, hr⟩ := k.inst I1
  obtain ⟨y, hy, ry⟩ := RelO.some_of (v := v) (o := mA n) (by rw [← l]; exact hr n)
  exact HandSPX.exc_get I1.kIn J T.ga T.gg T.sb (PySem.W.findObj_own T.hd hno rfl (by rw [hl, hy])) (handed_of ry) ⟨v, H1, I1.tok _, ry, q⟩
/-- isinstance(e, c), isinstance(e, (c1, ..)) of a kept exception -/
def rIsK (K : PySem.W.Frag) (C : Addr) : List V → Hp → VK → Prop := fun xs H Q => ∃ (a : Addr) (fs : List (Str × V)) (c : V) (u : Value) (b : Bool), xs = [.ref a, c] ∧ Kept H a C fs ∧ ClsV c u ∧ PySem.W.kitOne K (.ref C) u = some b ∧ Q (.bl b) H
def rIsKT (K : PySem.W.Frag) (C : Addr) : List V → Hp → VK → Prop := fun xs H Q => ∃ (a tp : Addr) (fs : List (Str × V)) (cs : List V) (us : List Value) (b : Bool), xs = [.ref a, .ref tp] ∧ Kept H a C fs ∧
  H tp = some (.tup cs) ∧ Paired ClsV cs us ∧ PySem.W.kitAny K (.ref C) us = some b ∧ Q (.bl b) H
theorem call_isK {X : Cx} {C : Addr} (T : XcC X.K C) : CallR X (.builtin "isinstance") (rIsK X.K C) := by
  intro pins s σ H xs us Q I r h
  obtain ⟨a, fs, c, u, b, rfl, k, hc, e, q⟩ := h
  obtain ⟨u1, u2, rfl, r1, r2⟩ := vals2 r
  have e2 := hc.eq r2
  subst e2
  cases (show u1 = Value.ref a from r1)
  obtain ⟨oe, od, mA, J, _, _⟩ := k.inst I
  exact PySem.W.kia_one (PySem.W.kitx_exc (ox := oe) (od := some od) T.cl T.ga T.gg T.sb T.ha T.hn T.ht T.hm) I.kIn J e (fun z => nomatch z) fun tk => ⟨.bl b, H, I.tok tk, rfl, q⟩
theorem call_isKT {X : Cx} {C : Addr} (T : XcC X.K C) : CallR X (.builtin "isinstance") (rIsKT X.K C) := by
  intro pins s σ H xs us Q I r h
  obtain ⟨a, tp, fs, cs, ws, b, rfl, k, hT, hc, e, q⟩ := h
  obtain ⟨u1, u2, rfl, r1, r2⟩ := vals2 r
  cases (show u1 = Value.ref a from r1)
  cases (show u2 = Value.ref tp from r2)
  obtain ⟨oe, od, mA, J, _, _⟩ := k.inst I
  have ht : ObjOk X.prog X.w H s.heap tp (.tup cs) := I.hok tp _ hT
  obtain ⟨_, its, rv, o, h1, h2, n, h3⟩ := ht
  have e3 := ClsV.all hc rv
  subst e3
  obtain ⟨oc, od2, dt, sl⟩ := o
  simp only at h2 h3
  subst h2 h3
  exact PySem.W.kia_tup (PySem.W.kitx_exc (ox := oe) (od := some od) T.cl T.ga T.gg T.sb T.ha T.hn T.ht T.hm) I.kIn J h1 e (fun z => nomatch z) fun tk => ⟨.bl b, H, I.tok tk, rfl, q⟩
/-! ### B.__init__(self, ..), B an own class over ValueError without own __init__ -/
structure BiC (K : PySem.W.Frag) (B : Addr) : Prop where
  rd : PySem.W.readsIn K B (.type "type") = true
  sp : PySem.W.specialIn K (.ref B) "__getattribute__" = some (some (.builtin "type.__getattribute__"))
  fi : PySem.W.findCls K (.ref B) (.type "type") "__init__" = some (.val (.builtin "ValueError.__init__"))
theorem pe_binit {X : Cx} {B : Addr} {x : Str} {e : Expr} {es : List Expr} {ta : TA} {p1 p2 pos : Pos} {pl : Sem Bool} (T : BiC X.K B) (gl : Gl X x) (mg : X.mg x = some (.ref B)) (ha : PA X (e :: es) ta) (hdb : (x == ("__debug__" : Str)) = false := by decide)
    (hc : eval (.Call (.Attribute (.Name x p1) "__init__" p2) (e :: es) [] pos) X.env = (do
      let ov ← eval (.Name x p1) X.env
      standAt p2.atName
      let (f, first) ← holding [ov] (getMethod ov "__init__" pl)
      callWith pos f first (backTo pos (starEach (e :: es) X.env)) (backToKw pos (keywordEach [] X.env))) := by rfl)
    (he : starEach (e :: es) X.env = (false, eval e X.env) :: starEach es X.env := by rfl) (hpl : (backTo pos (starEach es X.env)).any (·.1) = false := by rfl) :
    PE X (.Call (.Attribute (.Name x p1) "__init__" p2) (e :: es) [] pos) (tVeI X.K ta) := by
  refine ⟨fun pins s σ H Q I h => PySem.W.methodCall_KW (ld_glob I gl mg ?_ hdb) hc⟩
  refine PySem.W.method_cls I.kIn T.sp (PySem.W.cls_value I.kIn T.rd T.fi (by decide +kernel) ?_)
  show wpAny _ _ (callWith pos (Value.builtin "ValueError.__init__") [] (backTo pos (starEach (e :: es) X.env)) []) _ _ _
  refine PyProof.Rows.callWith_method1 (thn (ha.run pos pins _ σ H _ (I.tok _) h) fun us s1 z => ?_) he hpl
  obtain ⟨vs, H1, I1, r1, a, C, ws, ev, hl, Tx, ea, q⟩ := z
  subst ev
  cases r1 with
  | @cons _ u0 _ ur ra rw' =>
    obtain rfl : u0 = Value.ref a := ra
    refine oinit_ok Tx I1 ea ?_ fun s' J => ⟨.non, H1, J, rfl, q⟩
    rw [← Paired.length rw', sizeLine_eq]
    omega
/-! ### calls in a try's body: what is raised is wished for at the slots -/
section
variable {X : Cx} {CX : CXT} {k n : Nat} {f C : Addr} {fd : FuncData} {ps ks : List Str} {sp : Sp} {dvs : List V} {ds : List Value} {E : L2.St → XK} {x : Str} {p pos : Pos} {e : Expr} {es : List Expr} {kws : List Keyword} {t tk : TA}
  {g : List Value → List Value → List Value} {gV : List V → List V → List V}
def tMakeS (C : Addr) (sp : Sp) (dvs : List V) (E : L2.St → XK) (t : TA) : TE := fun σ H Q => t σ H fun vs H1 => ∀ x dx, H1 x = none → H1 dx = none → dx ≠ x →
  sp (.ref x :: (vs ++ dvs)) (upd (upd H1 dx (.own x)) x (.ins C dx [])) (fun v H2 => v = .non ∧ Q (.ref x) H2) (E σ)
theorem pe_makeS (M : Mk X.K C f) (F : FnOk X.prog X.w X.K X.mg X.base CX k f fd ps sp) (room : Room (k + 1) X.A) (gl : Gl X x) (mg : X.mg x = some (.ref C)) (bd : Binds X.K fd ps ds) (rd : Vals dvs ds) (px : ∀ σ, PassesAt CX X σ (E σ))
    (ha : PA X (e :: es) t) (hdb : (x == ("__debug__" : Str)) = false := by decide) (he : starEach (e :: es) X.env = (false, eval e X.env) :: starEach es X.env := by rfl) (hpl : (backTo pos (starEach es X.env)).any (·.1) = false := by rfl) :
    PE X (.Call (.Name x p) (e :: es) [] pos) (tMakeS C sp dvs E t) := by
  refine ⟨fun pins s σ H Q I h => wpAny_Call_Name_kw (ld_glob I gl mg ?_ hdb)⟩
  refine PySem.W.callWith_K (h₀ := X.base) I.ok.mod.kin M.kp (thn (ha.run pos pins s σ H _ I h) fun us s1 z => ?_) he hpl
  obtain ⟨vs, H1, I1, r, q⟩ := z
  refine ⟨I1.kIn, ?_⟩
  have q1 := q (s1.heap.objs.size + 1) s1.heap.objs.size (I1.hok.fresh (Nat.le_succ _)) (I1.hok.fresh (Nat.le_refl _)) (Nat.ne_of_lt (Nat.lt_succ_self _))
  have I2 := Inv.made (C := C) I1
  have r2 : Vals (V.ref (s1.heap.objs.size + 1) :: (vs ++ dvs)) (Value.ref (s1.heap.objs.size + 1) :: (us ++ ds)) := .cons rfl (r.append rd)
  have many : (Value.ref (s1.heap.objs.size + 1) :: us ++ ds).length = ps.length := (r2.length.symm.trans (F.len _ _ _ _ q1))
  refine wpAny_call (make_map (f := f) I1.kIn M.makes M.init (beq_iff_eq.mp M.fn) (codeAny_mono (F.run _ X.stack _ _ ⟨Value.ref (s1.heap.objs.size + 1) :: us, []⟩ (Value.ref (s1.heap.objs.size + 1) :: (us ++ ds)) _ _ (E σ)
    (room.make C us []) (I2.env0.make C us []) (bd _ (Value.ref (s1.heap.objs.size + 1) :: us) I2.kIn many) r2 q1) fun r s' z => ?_))
  cases r with
  | error e => exact px σ pins _ _ e s' I2 z
  | ok fl =>
    cases fl with
    | ret u =>
      obtain ⟨v, H', I3, rv, ev, q3⟩ := I2.after z
      subst ev
      exact ⟨rv, ⟨V.ref (s1.heap.objs.size + 1), H', I3, rfl, q3⟩⟩
    | next => exact False.elim z
    | brk => exact False.elim z
    | cont => exact False.elim z
def tMakeKS (C : Addr) (m : Nat) (sp : Sp) (gV : List V → List V → List V) (E : L2.St → XK) (tk : TA) : TE := fun σ H Q => tk σ H fun zs H2 => zs.length = m ∧
  ∀ x dx, H2 x = none → H2 dx = none → dx ≠ x → sp (gV [.ref x] zs) (upd (upd H2 dx (.own x)) x (.ins C dx [])) (fun v H3 => v = .non ∧ Q (.ref x) H3) (E σ)
theorem pe_makeKS (M : Mk X.K C f) (F : FnOk X.prog X.w X.K X.mg X.base CX k f fd ps sp) (room : Room (k + 1) X.A) (gl : Gl X x) (mg : X.mg x = some (.ref C)) (kb : KBn X.K fd ps 1 ks g gV) (px : ∀ σ, PassesAt CX X σ (E σ)) (pk : PK X kws tk)
    (hall : (backToKw pos (keywordEach kws X.env)).all (·.1.isSome) = true := by rfl) (hks : (backToKw pos (keywordEach kws X.env)).filterMap (·.1) = ks := by rfl) (hdb : (x == ("__debug__" : Str)) = false := by decide)
    (hpl : ((backTo pos (starEach [] X.env)).any (·.1) || (backToKw pos (keywordEach kws X.env)).any (·.1.isNone)) = false := by rfl) :
    PE X (.Call (.Name x p) [] kws pos) (tMakeKS C ks.length sp gV E tk) := by
  refine ⟨fun pins s σ H Q I h => wpAny_Call_Name_kw (ld_glob I gl mg ?_ hdb)⟩
  refine PySem.W.callWith_KW0 (h₀ := X.base) I.ok.mod.kin M.kp hall (thn (pk.run pos pins s σ H _ I h) fun ws s1 z => ?_) hpl
  obtain ⟨zs, H1, I1, rz, l2, q⟩ := z
  refine ⟨I1.kIn, ?_⟩
  rw [hks]
  have q1 := q (s1.heap.objs.size + 1) s1.heap.objs.size (I1.hok.fresh (Nat.le_succ _)) (I1.hok.fresh (Nat.le_refl _)) (Nat.ne_of_lt (Nat.lt_succ_self _))
  have I2 := Inv.made (C := C) I1
  have r1 : Vals [V.ref (s1.heap.objs.size + 1)] [Value.ref (s1.heap.objs.size + 1)] := .cons rfl .nil
  have r2 := kb.rel r1 rz
  refine wpAny_call (make_map (f := f) I1.kIn M.makes M.init (beq_iff_eq.mp M.fn) (codeAny_mono (F.run _ X.stack _ _ ⟨[Value.ref (s1.heap.objs.size + 1)], ks.zip ws⟩ (g [Value.ref (s1.heap.objs.size + 1)] ws) _ _ (E σ)
    (room.make C [] (ks.zip ws)) (I2.env0.make C [] (ks.zip ws)) (kb.to _ [Value.ref (s1.heap.objs.size + 1)] ws I2.kIn rfl (rz.length.symm.trans l2)) r2 q1) fun r s' z => ?_))
  cases r with
  | error e => exact px σ pins _ _ e s' I2 z
  | ok fl =>
    cases fl with
    | ret u =>
      obtain ⟨v, H', I3, rv, ev, q3⟩ := I2.after z
      subst ev
      exact ⟨rv, ⟨V.ref (s1.heap.objs.size + 1), H', I3, rfl, q3⟩⟩
    | next => exact False.elim z
    | brk => exact False.elim z
    | cont => exact False.elim z
def tCallKS (m : Nat) (sp : Sp) (gV : List V → List V → List V) (E : L2.St → XK) (tk : TA) : TE := fun σ H Q => tk σ H fun zs H2 => zs.length = m ∧ sp (gV [] zs) H2 Q (E σ)
theorem pe_callKS (F : FnOk X.prog X.w X.K X.mg X.base CX k f fd ps sp) (room : Room k X.A) (gl : Gl X x) (mg : X.mg x = some (.ref f)) (kp : PySem.W.keepIn X.K (.ref f) = true) (kb : KBn X.K fd ps 0 ks g gV) (px : ∀ σ, PassesAt CX X σ (E σ)) (pk : PK X kws tk)
    (hall : (backToKw pos (keywordEach kws X.env)).all (·.1.isSome) = true := by rfl) (hks : (backToKw pos (keywordEach kws X.env)).filterMap (·.1) = ks := by rfl) (hdb : (x == ("__debug__" : Str)) = false := by decide)
    (hpl : ((backTo pos (starEach [] X.env)).any (·.1) || (backToKw pos (keywordEach kws X.env)).any (·.1.isNone)) = false := by rfl) :
    PE X (.Call (.Name x p) [] kws pos) (tCallKS ks.length sp gV E tk) := by
  refine ⟨fun pins s σ H Q I h => wpAny_Call_Name_kw (ld_glob I gl mg ?_ hdb)⟩
  refine PySem.W.callWith_KW0 (h₀ := X.base) I.ok.mod.kin kp hall (thn (pk.run pos pins s σ H _ I h) fun ws s1 z => ?_) hpl
  obtain ⟨zs, H1, I1, rz, l2, q⟩ := z
  refine ⟨I1.kIn, ?_⟩
  rw [hks]
  have rn : Vals [] [] := .nil
  have r2 := kb.rel rn rz
  refine wpAny_call (codeAny_mono (F.run X.A X.stack s1 H1 ⟨[], ks.zip ws⟩ (g [] ws) (gV [] zs) Q (E σ) room I1.env0 (kb.to s1 [] ws I1.kIn rfl (rz.length.symm.trans l2)) r2 q) fun r s' z => ?_)
  cases r with
  | error e => exact px σ pins _ _ e s' I1 z
  | ok fl =>
    cases fl with
    | ret u => exact I1.after z
    | next => exact False.elim z
    | brk => exact False.elim z
    | cont => exact False.elim z
end
end Xk
set_option Elab.async false
set_option linter.all false
set_option maxRecDepth 100000
set_option maxHeartbeats 4000000
set_option pp.maxSteps 400
set_option pp.deepTerms false
/-! Things of any kind: texts, numbers, truths, None, and lists, tuples, dicts of these, at any depth. -/
namespace Az
open PySem PySem.Spec PyProof.Rows L2
def keyD : Key → PyData
  | .inl i => .int i
  | .inr x => .str x
mutual
inductive Dz (K : PySem.W.Frag) (H : Hp) : V → PyData → Prop
  | non : Dz K H .non .none
  | bl (b : Bool) : Dz K H (.bl b) (.bool b)
  | int (i : Int) : Dz K H (.int i) (.int i)
  | str (x : Str) : Dz K H (.str x) (.str x)
  | lst {a : Addr} {xs : List V} {ds : List PyData} : H a = some (.lst xs) → a ≠ sysModules → DzAll K H xs ds → Dz K H (.ref a) (.list ds)
  | tup {a : Addr} {xs : List V} {ds : List PyData} : H a = some (.tup xs) → DzAll K H xs ds → Dz K H (.ref a) (.tuple ds)
  | dct {a : Addr} {kvs : List (Key × V)} {ds : List (PyData × PyData)} : H a = some (.dK kvs) → DzKv K H kvs ds → Dz K H (.ref a) (.dict ds)
inductive DzAll (K : PySem.W.Frag) (H : Hp) : List V → List PyData → Prop
  | nil : DzAll K H [] []
  | cons {v : V} {vs : List V} {d : PyData} {ds : List PyData} : Dz K H v d → DzAll K H vs ds → DzAll K H (v :: vs) (d :: ds)
inductive DzKv (K : PySem.W.Frag) (H : Hp) : List (Key × V) → List (PyData × PyData) → Prop
  | nil : DzKv K H [] []
  | cons {k : Key} {v : V} {kvs : List (Key × V)} {d : PyData} {ds : List (PyData × PyData)} : Dz K H v d → DzKv K H kvs ds → DzKv K H ((k, v) :: kvs) ((keyD k, d) :: ds)
end
section
variable {K : PySem.W.Frag} {H H' : Hp}
mutual
/-- what is read of a thing stays while its objects do -/
theorem Dz.keep (s : ∀ b o, H b = some o → (∀ x, o ≠ .own x) → H' b = some o) : ∀ {v : V} {d : PyData}, Dz K H v d → Dz K H' v d
  | _, _, .non => .non
  | _, _, .bl b => .bl b
  | _, _, .int i => .int i
  | _, _, .str x => .str x
  | _, _, .lst e n r => .lst (s _ _ e (fun _ z => by cases z)) n (DzAll.keep s r)
  | _, _, .tup e r => .tup (s _ _ e (fun _ z => by cases z)) (DzAll.keep s r)
  | _, _, .dct e r => .dct (s _ _ e (fun _ z => by cases z)) (DzKv.keep s r)
theorem DzAll.keep (s : ∀ b o, H b = some o → (∀ x, o ≠ .own x) → H' b = some o) : ∀ {v : List V} {d : List PyData}, DzAll K H v d → DzAll K H' v d
  | _, _, .nil => .nil
  | _, _, .cons h r => .cons (Dz.keep s h) (DzAll.keep s r)
theorem DzKv.keep (s : ∀ b o, H b = some o → (∀ x, o ≠ .own x) → H' b = some o) : ∀ {v : List (Key × V)} {d : List (PyData × PyData)}, DzKv K H v d → DzKv K H' v d
  | _, _, .nil => .nil
  | _, _, .cons h r => .cons (Dz.keep s h) (DzKv.keep s r)
end
theorem Dz.same {v : V} {d : PyData} (h : Dz K H v d) (s : L2.Same H H') : Dz K H' v d := h.keep fun b o e _ => s b o e
theorem DzAll.same {v : List V} {d : List PyData} (h : DzAll K H v d) (s : L2.Same H H') : DzAll K H' v d := h.keep fun b o e _ => s b o e
/-- the kind of a thing -/
def kindD : PyData → String
  | .none => "NoneType"
  | .bool _ => "bool"
  | .int _ => "int"
  | .str _ => "str"
  | .list _ => "list"
  | .tuple _ => "tuple"
  | .dict _ => "dict"
theorem Dz.ty {v : V} {d : PyData} (h : Dz K H v d) : TyX K H v (.type (kindD d)) := by
  cases h with
  | non => exact .base .non
  | bl b => exact .base (.bl b)
  | int i => exact .base (.int i)
  | str x => exact .base (.str x)
  | lst e _ _ => exact .base (.lst e)
  | tup e _ => exact .base (.tup e)
  | dct e _ => exact .base (.dK e)
end
section
variable {X : Cx} {pins : List (Addr × Obj)} {σ : L2.St} {H : Hp} {s : Shared}
theorem pairs_keys {P : Program} {w : World} : ∀ {es : List DictEntry} {vs : List (Key × Value)}, PySem.Pairs (mixKind P w) es vs → ∃ as, ReadsAll s.heap (es.map (·.key)) (vs.map fun p => keyD p.1) as ∧ as = []
  | _, _, .nil => ⟨[], .nil, rfl⟩
  | e :: es, (k, u) :: vs, .cons h1 h2 r => by
    obtain ⟨as, q, rfl⟩ := pairs_keys r
    rcases keyIs_shape (show keyIs k e.key = true from h1) with ⟨i, t, rfl, ek⟩ | ⟨x, t, rfl, ek⟩
    · refine ⟨[] ++ [], .cons ?_ q, rfl⟩
      show Reads s.heap e.key (.int i) []
      rw [ek]
      exact .int i t
    · refine ⟨[] ++ [], .cons ?_ q, rfl⟩
      show Reads s.heap e.key (.str x) []
      rw [ek]
      exact .str x t
theorem pairs_vals {P : Program} {w : World} : ∀ {es : List DictEntry} {vs : List (Key × Value)}, PySem.Pairs (mixKind P w) es vs → es.map (·.val) = vs.map (·.2)
  | _, _, .nil => rfl
  | e :: es, (k, u) :: vs, .cons h1 h2 r => by
    rw [List.map_cons, List.map_cons, pairs_vals r, h2]
mutual
theorem Dz.reads (I : Inv X pins σ H s) : ∀ (d : PyData) (v : V) (u : Value), Dz X.K H v d → RelV v u → ∃ as, Reads s.heap u d as ∧ sysModules ∉ as
  | .none, _, _, h, r => by
    cases h
    cases r
    exact ⟨[], .none, by simp⟩
  | .bool b, _, _, h, r => by
    cases h
    cases r
    exact ⟨[], .bool b, by simp⟩
  | .int i, _, _, h, r => by
    cases h
    obtain ⟨t, rfl⟩ := r
    exact ⟨[], .int i t, by simp⟩
  | .str x, _, _, h, r => by
    cases h
    obtain ⟨t, rfl⟩ := r
    exact ⟨[], .str x t, by simp⟩
  | .list ds, _, _, h, r => by
    cases h with
    | @lst a xs _ e ne ha =>
      cases r
      have ok : ObjOk X.prog X.w H s.heap a (.lst xs) := I.hok a _ e
      obtain ⟨_, its, n, rv, eh⟩ := ok
      obtain ⟨as, q, na⟩ := DzAll.reads I ds xs its ha rv
      refine ⟨a :: as, .list eh rfl rfl (by simpa using q), fun m => ?_⟩
      rcases List.mem_cons.mp m with z | z
      · exact ne z.symm
      · exact na z
  | .tuple ds, _, _, h, r => by
    cases h with
    | @tup a xs _ e ha =>
      cases r
      have ok : ObjOk X.prog X.w H s.heap a (.tup xs) := I.hok a _ e
      obtain ⟨_, its, rv, o, eh, ec, n, ed⟩ := ok
      obtain ⟨as, q, na⟩ := DzAll.reads I ds xs its ha rv
      exact ⟨as, .tuple eh ec ed (by simpa using q), na⟩
  | .dict ds, _, _, h, r => by
    cases h with
    | @dct a kvs _ e ha =>
      cases r
      obtain ⟨_, ne, vs, rel, o, es, ep, eh, ex, ed, _, pr, _⟩ := dk_of I.hok e
      obtain ⟨as, q1, rfl⟩ := pairs_keys (s := s) pr
      obtain ⟨bs, q2, nb⟩ := DzKv.reads I ds kvs vs ha rel
      have hk : (vs.map fun p => keyD p.1) = ds.map (·.1) := DzKv.keys ha rel
      rw [hk] at q1
      refine ⟨a :: [] ++ bs, .dict eh ex.1 ed q1 (by rw [pairs_vals pr]; exact q2), fun m => ?_⟩
      rcases List.mem_cons.mp m with z | z
      · rw [← z] at ne
        simp at ne
      · exact nb z
theorem DzAll.reads (I : Inv X pins σ H s) : ∀ (ds : List PyData) (vs : List V) (us : List Value), DzAll X.K H vs ds → Vals vs us → ∃ as, ReadsAll s.heap us ds as ∧ sysModules ∉ as
  | [], _, _, h, r => by
    cases h
    cases r
    exact ⟨[], .nil, by simp⟩
  | d :: ds, _, _, h, r => by
    cases h with
    | cons h1 h2 =>
      cases r with
      | cons r1 r2 =>
        obtain ⟨as, q1, n1⟩ := Dz.reads I d _ _ h1 r1
        obtain ⟨bs, q2, n2⟩ := DzAll.reads I ds _ _ h2 r2
        exact ⟨as ++ bs, .cons q1 q2, fun m => (List.mem_append.mp m).elim n1 n2⟩
theorem DzKv.reads (I : Inv X pins σ H s) : ∀ (ds : List (PyData × PyData)) (kvs : List (Key × V)) (vs : List (Key × Value)), DzKv X.K H kvs ds → KV kvs vs → ∃ as, ReadsAll s.heap (vs.map (·.2)) (ds.map (·.2)) as ∧ sysModules ∉ as
  | [], _, _, h, r => by
    cases h
    cases r
    exact ⟨[], .nil, by simp⟩
  | (_, d) :: ds, _, _, h, r => by
    cases h with
    | cons h1 h2 =>
      cases r with
      | cons r1 r2 =>
        obtain ⟨as, q1, n1⟩ := Dz.reads I d _ _ h1 r1.2
        obtain ⟨bs, q2, n2⟩ := DzKv.reads I ds _ _ h2 r2
        exact ⟨as ++ bs, .cons q1 q2, fun m => (List.mem_append.mp m).elim n1 n2⟩
theorem DzKv.keys {K : PySem.W.Frag} : ∀ {ds : List (PyData × PyData)} {kvs : List (Key × V)} {vs : List (Key × Value)}, DzKv K H kvs ds → KV kvs vs → (vs.map fun p => keyD p.1) = ds.map (·.1)
  | [], _, _, h, r => by
    cases h
    cases r
    rfl
  | (_, d) :: ds, _, _, h, r => by
    cases h with
    | cons h1 h2 =>
      cases r with
      | cons r1 r2 =>
        rw [List.map_cons, List.map_cons, DzKv.keys h2 r2, ← r1.1]
end
/-- repr of a thing -/
def rReprZ (K : PySem.W.Frag) : List V → Hp → VK → Prop := fun xs H Q => ∃ (v : V) (d : PyData), xs = [v] ∧ Dz K H v d ∧ d.showable = true ∧ d.depth ≤ 60 ∧ d.shown.length ≤ sizeLine ∧ Q (.str d.shown) H
theorem cr_reprZ {k : Nat} (quiet : X.A.guards = some []) (room : Room k X.A) : CallR X (.builtin "repr") (rReprZ X.K) := by
  intro pins s σ H xs us Q I r h
  obtain ⟨v, d, rfl, hd, hs, hp, hz, q⟩ := h
  obtain ⟨u, rfl, rx⟩ := vals1 r
  have hu := room.units
  cases hd with
  | non =>
    cases rx
    exact PySem.P.repr_of_none ⟨.str _, H, I.tok _, ⟨_, rfl⟩, q⟩
  | bl b =>
    cases rx
    exact PySem.P.repr_of_bool ⟨.str _, H, I.tok _, ⟨_, rfl⟩, q⟩
  | int i =>
    obtain ⟨t, rfl⟩ := rx
    exact PySem.P.repr_of_int (by simpa [PyData.showable] using hs) ⟨.str _, H, I.tok _, ⟨_, rfl⟩, q⟩
  | str x =>
    obtain ⟨t, rfl⟩ := rx
    exact PySem.P.repr_of_str ⟨.str _, H, I.tok _, ⟨_, rfl⟩, q⟩ hz
  | lst e n ha =>
    obtain ⟨as, rd, na⟩ := Dz.reads I _ _ u (.lst e n ha) rx
    cases rx
    exact repr_of_reads' rd hs (fun _ => na) quiet (by omega) (fun _ _ z => z) (fun h' u tk kept => ⟨.str _, H, I.kept kept, ⟨u, rfl⟩, q⟩) hz
  | tup e ha =>
    obtain ⟨as, rd, na⟩ := Dz.reads I _ _ u (.tup e ha) rx
    cases rx
    exact repr_of_reads' rd hs (fun _ => na) quiet (by omega) (fun _ _ z => z) (fun h' u tk kept => ⟨.str _, H, I.kept kept, ⟨u, rfl⟩, q⟩) hz
  | dct e ha =>
    obtain ⟨as, rd, na⟩ := Dz.reads I _ _ u (.dct e ha) rx
    cases rx
    exact repr_of_reads' rd hs (fun _ => na) quiet (by omega) (fun _ _ z => z) (fun h' u tk kept => ⟨.str _, H, I.kept kept, ⟨u, rfl⟩, q⟩) hz
/-- a list of written items: new, and no table of modules -/
def tLstZ (t : TA) : TE := fun σ H Q => t σ H fun xs H1 => xs.length ≤ sizeLine ∧ ∀ p, H1 p = none → p ≠ sysModules → Q (.ref p) (upd H1 p (.lst xs))
theorem pe_lstZ {es : List Expr} {t : TA} {pos : Pos} (h : PA X es t) : PE X (.List es pos) (tLstZ t) := by
  refine ⟨fun pins s σ H Q I hq => wpAny_List_spliced (thn (h.run pos pins s σ H _ I hq) fun us s1 z => ?_)⟩
  obtain ⟨xs, H1, I1, r, z, q⟩ := z
  refine ⟨by rw [← r.length]; exact z, ?_⟩
  have new : H1 s1.heap.objs.size = none := I1.hok.fresh (Nat.le_refl _)
  refine ⟨.ref s1.heap.objs.size, upd H1 s1.heap.objs.size (.lst xs), I1.laid (t' := s1.toks) (fun b u e => Heap.get?_push_of_some _ e) (Nat.le_refl _) ?_, rfl, q _ new (Nat.ne_of_gt I1.big)⟩
  exact ⟨z, us, 0, r, Heap.get?_push_size _ rfl⟩
end
end Az
namespace Az
open PySem PySem.Spec PyProof.Rows L2
/-- a thing that is shown in n signs at most, at most k deep -/
structure Nice (d : PyData) (k n : Nat) : Prop where
  sh : d.showable = true
  dp : d.depth ≤ k
  sz : d.shown.length ≤ n
theorem Nice.mono {d : PyData} {k k' n n' : Nat} (h : Nice d k n) (hk : k ≤ k') (hn : n ≤ n') : Nice d k' n' := ⟨h.sh, Nat.le_trans h.dp hk, Nat.le_trans h.sz hn⟩
theorem nice_int {i : Int} {n : Nat} (h : i.natAbs.log2 < 1920) (hn : (Str.ofString (toString i)).length ≤ n) : Nice (.int i) 0 n :=
  ⟨by simpa [PyData.showable] using h, by simp [PyData.depth], by simpa [PyData.shown] using hn⟩
theorem nice_none : Nice .none 0 4 := ⟨by simp [PyData.showable], by simp [PyData.depth], by simp only [PyData.shown]; decide +kernel⟩
theorem nice_bool (b : Bool) : Nice (.bool b) 0 5 := ⟨by simp [PyData.showable], by simp [PyData.depth], by simp only [PyData.shown]; cases b <;> decide +kernel⟩
theorem nice_str {x : Str} {n : Nat} (h : (reprText x).length ≤ n) : Nice (.str x) 0 n := ⟨by simp [PyData.showable], by simp [PyData.depth], by simpa [PyData.shown] using h⟩
theorem list_le : ∀ ts : List Str, (listText ts).length ≤ piled ts + 2
  | [] => by decide +kernel
  | t :: ts => by
    have e : (textFrom 0 "[" (t :: ts)).length = 1 + t.length + piled ts := by
      show (textFrom 1 (("[" : Str) ++ ((if 0 > 0 then ", " else "" : String) : Str) ++ t) ts).length = _
      rw [textFrom_length_pos ts 1 _ (by decide), strLen_append, strLen_append]
      rfl
    unfold listText
    rw [strLen_append, e, piled_cons]
    show 1 + t.length + piled ts + 1 ≤ _
    omega
theorem dict_le (ps : List Str) : (dictText ps).length ≤ piled ps + 2 := by
  unfold dictText
  rw [strLen_append, strLen_append]
  show 1 + (Str.join ", " ps).length + 1 ≤ _
  cases ps with
  | nil => decide
  | cons p r =>
    have := join_length_add (p :: r) (by simp)
    omega
theorem nice_tup1 {d : PyData} {k n : Nat} (h : Nice d k n) : Nice (.tuple [d]) (k + 1) (n + 4) := by
  refine ⟨by simp [PyData.showable, PyData.showableAll, h.sh], ?_, ?_⟩
  · simp only [PyData.depth, PyData.depthAll]
    have := h.dp
    omega
  · simp only [PyData.shown, PyData.shownAll]
    have a := fmt_text [d.shown]
    simp only [piled_cons, piled_nil] at a
    have := h.sz
    omega
theorem nice_lst1 {d : PyData} {k n : Nat} (h : Nice d k n) : Nice (.list [d]) (k + 1) (n + 4) := by
  refine ⟨by simp [PyData.showable, PyData.showableAll, h.sh], ?_, ?_⟩
  · simp only [PyData.depth, PyData.depthAll]
    have := h.dp
    omega
  · simp only [PyData.shown, PyData.shownAll]
    have a := list_le [d.shown]
    simp only [piled_cons, piled_nil] at a
    have := h.sz
    omega
theorem nice_dct1 {d : PyData} {k n m : Nat} {x : Str} (hx : (reprText x).length ≤ m) (h : Nice d k n) : Nice (.dict [(.str x, d)]) (k + 1) (n + m + 6) := by
  refine ⟨by simp [PyData.showable, PyData.showableKv, h.sh], ?_, ?_⟩
  · simp only [PyData.depth, PyData.depthKv]
    have := h.dp
    omega
  · simp only [PyData.shown, PyData.shownKv]
    have a := dict_le [reprText x ++ ": " ++ d.shown]
    simp only [piled_cons, piled_nil, strLen_append] at a
    have c : ((": " : Str)).length = 2 := by decide +kernel
    have := h.sz
    omega
theorem nice_tup0 : Nice (.tuple []) 1 2 := ⟨by simp [PyData.showable, PyData.showableAll], by simp [PyData.depth, PyData.depthAll], by simp only [PyData.shown, PyData.shownAll]; decide +kernel⟩
theorem nice_lst0 : Nice (.list []) 1 2 := ⟨by simp [PyData.showable, PyData.showableAll], by simp [PyData.depth, PyData.depthAll], by simp only [PyData.shown, PyData.shownAll]; decide +kernel⟩
theorem nice_dct0 : Nice (.dict []) 1 2 := ⟨by simp [PyData.showable, PyData.showableKv], by simp [PyData.depth, PyData.depthKv], by simp only [PyData.shown, PyData.shownKv]; decide +kernel⟩
end Az
set_option Elab.async false
set_option linter.all false
set_option maxRecDepth 100000
set_option maxHeartbeats 4000000
set_option pp.maxSteps 400
set_option pp.deepTerms false
namespace Az
open PySem PySem.Spec PyProof.Rows L2
/-! ### texts of signs that have a number of eight places -/
def Asc (x : Str) : Prop := ∀ c ∈ x.cps.toList, c < 16 ^ 8
theorem asc_str (s : String) : Asc (Str.ofString s) := fun c hc => by
  rw [Str.ofString_eq_toList] at hc
  simp only [List.mem_map] at hc
  obtain ⟨k, _, rfl⟩ := hc
  exact Nat.lt_of_lt_of_le (UInt32.toNat_lt k.val) (by decide)
theorem Asc.app {x y : Str} (h1 : Asc x) (h2 : Asc y) : Asc (x ++ y) := fun c hc => by
  rw [Str.cps_append, Array.toList_append, List.mem_append] at hc
  exact hc.elim (h1 c) (h2 c)
theorem asc_hex (l : List Char) (n : Nat) : ∀ c ∈ List.replicate n 48 ++ l.map Char.toNat, c < 16 ^ 8 := fun c hc => by
  rcases List.mem_append.mp hc with h | h
  · rw [(List.mem_replicate.mp h).2]
    decide
  · obtain ⟨k, _, rfl⟩ := List.mem_map.mp h
    exact Nat.lt_of_lt_of_le (UInt32.toNat_lt k.val) (by decide)
theorem asc_char {q c : Nat} (hc : c < 16 ^ 8) : ∀ d ∈ Builtin.Str.reprChar q c, d < 16 ^ 8 := fun d hd => by
  unfold Builtin.Str.reprChar at hd
  dsimp only at hd
  have two : ∀ a : Nat, a < 16 ^ 8 → d ∈ [92, a] → d < 16 ^ 8 := fun a ha h => by
    simp only [List.mem_cons, List.not_mem_nil, or_false] at h
    rcases h with h | h
    · rw [h]; decide
    · rw [h]; exact ha
  have app : ∀ (a : Nat) (l : List Nat), a < 16 ^ 8 → (∀ c ∈ l, c < 16 ^ 8) → d ∈ [92, a] ++ l → d < 16 ^ 8 := fun a l ha hl h => (List.mem_append.mp h).elim (two a ha) (hl d)
  split at hd
  · exact two c hc hd
  · split at hd
    · exact two 110 (by decide) hd
    · split at hd
      · exact two 114 (by decide) hd
      · split at hd
        · exact two 116 (by decide) hd
        · split at hd
          · simp only [List.mem_cons, List.not_mem_nil, or_false] at hd
            rw [hd]
            exact hc
          · split at hd
            · exact app 120 _ (by decide) (asc_hex _ _) hd
            · split at hd
              · exact app 117 _ (by decide) (asc_hex _ _) hd
              · exact app 85 _ (by decide) (asc_hex _ _) hd
theorem asc_fold {q : Nat} : ∀ (l : List Nat) (acc : Array Nat), (∀ c ∈ l, c < 16 ^ 8) → (∀ c ∈ acc.toList, c < 16 ^ 8) → ∀ c ∈ (l.foldl (fun out c => out ++ (Builtin.Str.reprChar q c).toArray) acc).toList, c < 16 ^ 8
  | [], acc, _, h => h
  | k :: r, acc, hl, ha => by
    rw [List.foldl_cons]
    refine asc_fold r _ (fun c hc => hl c (List.mem_cons_of_mem _ hc)) fun c hc => ?_
    rw [Array.toList_append, List.mem_append] at hc
    exact hc.elim (ha c) fun h => asc_char (hl k List.mem_cons_self) c (by simpa using h)
theorem asc_quote (x : Str) : reprQuote x < 16 ^ 8 := by
  unfold reprQuote
  split <;> decide
theorem asc_repr {x : Str} (h : Asc x) : Asc (reprText x) := fun c hc => by
  unfold reprText at hc
  rw [Array.toList_push, List.mem_append, ← Array.foldl_toList] at hc
  rcases hc with hc | hc
  · refine asc_fold x.cps.toList #[reprQuote x] h (fun d hd => ?_) c hc
    have z : d = reprQuote x := by simpa using hd
    rw [z]
    exact asc_quote x
  · have z : c = reprQuote x := by simpa using hc
    rw [z]
    exact asc_quote x
theorem asc_join : ∀ ts : List Str, (∀ t ∈ ts, Asc t) → Asc (Str.join ", " ts)
  | [], _ => fun c hc => by
    have z : c ∈ (Str.empty).cps.toList := hc
    simp [Str.empty] at z
  | [x], h => h x List.mem_cons_self
  | x :: y :: r, h => ((h x List.mem_cons_self).app (asc_str ", ")).app (asc_join (y :: r) fun t ht => h t (List.mem_cons_of_mem _ ht))
theorem asc_from : ∀ (ts : List Str) (k : Nat) (acc : Str), Asc acc → (∀ t ∈ ts, Asc t) → Asc (textFrom k acc ts)
  | [], _, _, h, _ => h
  | t :: ts, k, acc, h, ht => by
    unfold textFrom
    exact asc_from ts (k + 1) _ ((h.app (asc_str _)).app (ht t List.mem_cons_self)) fun u hu => ht u (List.mem_cons_of_mem _ hu)
mutual
/-- all texts within a thing -/
def ascD : PyData → Prop
  | .none | .bool _ | .int _ => True
  | .str x => Asc x
  | .list xs | .tuple xs => ascAll xs
  | .dict kvs => ascKv kvs
def ascAll : List PyData → Prop
  | [] => True
  | x :: xs => ascD x ∧ ascAll xs
def ascKv : List (PyData × PyData) → Prop
  | [] => True
  | (k, v) :: r => ascD k ∧ ascD v ∧ ascKv r
end
mutual
theorem asc_shown : ∀ d : PyData, ascD d → Asc d.shown
  | .none, _ => asc_str "None"
  | .bool b, _ => by
    simp only [PyData.shown]
    cases b
    · exact asc_str "False"
    · exact asc_str "True"
  | .int i, _ => asc_str (toString i)
  | .str x, h => asc_repr (by simpa [ascD] using h)
  | .list xs, h => by
    simp only [PyData.shown]
    exact (asc_from _ _ _ (asc_str "[") (asc_shownAll xs (by simpa [ascD] using h))).app (asc_str "]")
  | .tuple xs, h => by
    simp only [PyData.shown]
    exact ((asc_str "(").app (asc_join _ (asc_shownAll xs (by simpa [ascD] using h)))).app (asc_str _)
  | .dict kvs, h => by
    simp only [PyData.shown]
    exact ((asc_str "{").app (asc_join _ (asc_shownKv kvs (by simpa [ascD] using h)))).app (asc_str "}")
theorem asc_shownAll : ∀ xs : List PyData, ascAll xs → ∀ t ∈ PyData.shownAll xs, Asc t
  | [], _, t, ht => by
    simp [PyData.shownAll] at ht
  | x :: xs, h, t, ht => by
    have h' : ascD x ∧ ascAll xs := by simpa [ascAll] using h
    simp only [PyData.shownAll, List.mem_cons] at ht
    rcases ht with e | e
    · rw [e]
      exact asc_shown x h'.1
    · exact asc_shownAll xs h'.2 t e
theorem asc_shownKv : ∀ xs : List (PyData × PyData), ascKv xs → ∀ t ∈ PyData.shownKv xs, Asc t
  | [], _, t, ht => by
    simp [PyData.shownKv] at ht
  | (k, v) :: xs, h, t, ht => by
    have h' : ascD k ∧ ascD v ∧ ascKv xs := by simpa [ascKv] using h
    simp only [PyData.shownKv, List.mem_cons] at ht
    rcases ht with e | e
    · rw [e]
      exact ((asc_shown k h'.1).app (asc_str ": ")).app (asc_shown v h'.2.1)
    · exact asc_shownKv xs h'.2.2 t e
end
/-- str of a thing -/
def strD : PyData → Str
  | .str x => x
  | d => d.shown
theorem strD_asc {d : PyData} (h : ascD d) : Asc (strD d) := by
  cases d with
  | str x => simpa [strD, ascD] using h
  | _ => exact asc_shown _ h
theorem len_repr (x : Str) : x.length ≤ (reprText x).length := by
  have grow : ∀ (q : Nat) (l : List Nat) (acc : Array Nat), acc.size + l.length ≤ (l.foldl (fun out c => out ++ (Builtin.Str.reprChar q c).toArray) acc).size := fun q l => by
    induction l with
    | nil => intro acc; simp
    | cons k r ih =>
      intro acc
      have h := ih (acc ++ (Builtin.Str.reprChar q k).toArray)
      have one : 1 ≤ (Builtin.Str.reprChar q k).length := by
        unfold Builtin.Str.reprChar
        dsimp only
        repeat' split
        all_goals simp
        all_goals omega
      rw [List.foldl_cons]
      simp only [Array.size_append, List.size_toArray] at h
      simp only [List.length_cons]
      omega
  have h := grow (reprQuote x) x.cps.toList #[reprQuote x]
  unfold reprText
  show x.length ≤ ((x.cps.foldl (fun out c => out ++ (Builtin.Str.reprChar (reprQuote x) c).toArray) #[reprQuote x]).push (reprQuote x)).size
  rw [Array.size_push, ← Array.foldl_toList]
  have e : x.cps.toList.length = x.length := by simp [Str.length]
  omega
theorem strD_len {d : PyData} : (strD d).length ≤ d.shown.length := by
  cases d with
  | str x =>
    simp only [strD, PyData.shown]
    exact len_repr x
  | _ => exact Nat.le_refl _
section
variable {X : Cx}
def rStrZ (K : PySem.W.Frag) : List V → Hp → VK → Prop := fun xs H Q => ∃ (v : V) (d : PyData), xs = [v] ∧ Dz K H v d ∧ d.showable = true ∧ d.depth ≤ 60 ∧ d.shown.length ≤ sizeLine ∧ Q (.str (strD d)) H
theorem cr_strZ {k : Nat} (quiet : X.A.guards = some []) (room : Room k X.A) : CallR X (.type "str") (rStrZ X.K) := by
  intro pins s σ H xs us Q I r h
  obtain ⟨v, d, rfl, hd, hs, hp, hz, q⟩ := h
  obtain ⟨u, rfl, rx⟩ := vals1 r
  have hu := room.un
  cases hd with
  | non =>
    cases rx
    exact PySem.P.str_of_none ⟨.str _, H, I.tok _, ⟨_, rfl⟩, q⟩
  | bl b =>
    cases rx
    exact PySem.P.str_of_bool ⟨.str _, H, I.tok _, ⟨_, rfl⟩, q⟩
  | int i =>
    obtain ⟨t, rfl⟩ := rx
    exact PySem.P.str_of_int (by simpa [PyData.showable] using hs) ⟨.str _, H, I.tok _, ⟨_, rfl⟩, q⟩
  | str x =>
    obtain ⟨t, rfl⟩ := rx
    exact PySem.P.str_of_str ⟨.str _, H, I, ⟨_, rfl⟩, q⟩
  | lst e n ha =>
    obtain ⟨as, rd, na⟩ := Dz.reads I _ _ u (.lst e n ha) rx
    cases rx
    exact str_of_reads rd hs (fun _ => na) quiet (by omega) (fun _ _ z => z) (fun h' u tk kept => ⟨.str _, H, I.kept kept, ⟨u, rfl⟩, q⟩) hz
  | tup e ha =>
    obtain ⟨as, rd, na⟩ := Dz.reads I _ _ u (.tup e ha) rx
    cases rx
    exact str_of_reads rd hs (fun _ => na) quiet (by omega) (fun _ _ z => z) (fun h' u tk kept => ⟨.str _, H, I.kept kept, ⟨u, rfl⟩, q⟩) hz
  | dct e ha =>
    obtain ⟨as, rd, na⟩ := Dz.reads I _ _ u (.dct e ha) rx
    cases rx
    exact str_of_reads rd hs (fun _ => na) quiet (by omega) (fun _ _ z => z) (fun h' u tk kept => ⟨.str _, H, I.kept kept, ⟨u, rfl⟩, q⟩) hz
end
end Az
set_option Elab.async false
set_option linter.all false
set_option maxRecDepth 100000
set_option maxHeartbeats 4000000
set_option pp.maxSteps 400
set_option pp.deepTerms false
namespace K20
open PySem PySem.Spec PyProof.Rows L2
open Xk Az Xtx
def top (i : Nat) : Stmt := PySem.Challenge.pw_takesworks_k20_entries_of_anything.main.body.getD i (.Pass ⟨0, 0, 0, 0⟩)
abbrev sIsWhole : Stmt := top 7
abbrev sIsWithin : Stmt := top 8
abbrev sIsTextOf : Stmt := top 9
abbrev sIsSmallText : Stmt := top 10
abbrev sIsWord : Stmt := top 11
abbrev sAreRising : Stmt := top 12
abbrev sIsLeap : Stmt := top 18
abbrev sDaysIn : Stmt := top 19
abbrev sMakesDay : Stmt := top 20
abbrev sDayInit : Stmt := inClass (top 21) 0
abbrev sDayEq : Stmt := inClass (top 21) 1
abbrev sDayStr : Stmt := inClass (top 21) 2
abbrev sDayRepr : Stmt := inClass (top 21) 3
abbrev sBeyondMinutes : Stmt := top 24
abbrev sLengthInit : Stmt := inClass (top 25) 0
abbrev sLengthEq : Stmt := inClass (top 25) 1
abbrev sLengthStr : Stmt := inClass (top 25) 2
abbrev sLengthRepr : Stmt := inClass (top 25) 3
abbrev sIsTongue : Stmt := top 31
abbrev sIsNameText : Stmt := top 32
abbrev sIsName : Stmt := top 33
abbrev sIsKey : Stmt := top 40
abbrev sIsCode : Stmt := top 41
abbrev sArePlayers : Stmt := top 42
abbrev sIsEntry : Stmt := top 43
abbrev sFieldOf : Stmt := top 44
abbrev sHand : Stmt := top 46
abbrev sTake : Stmt := top 47
abbrev sPick : Stmt := top 48
abbrev sWord : Stmt := top 49
abbrev sText : Stmt := top 50
abbrev sNames : Stmt := top 51
abbrev sSome : Stmt := top 52
abbrev sCode : Stmt := top 53
abbrev sDay : Stmt := top 54
abbrev sEntries : Stmt := top 55
abbrev sLawIsName : Stmt := top 56
abbrev sLawIsEntry : Stmt := top 57
abbrev sOdd : Stmt := top 58
abbrev sBent : Stmt := top 59
abbrev sLaw : Stmt := top 60
theorem scIsWhole : FnScope ["thing"] ["thing"] (defScope sIsWhole) := ⟨rfl, rfl, rfl, by decide +kernel, rfl, by decide +kernel, by decide +kernel⟩
theorem scIsWithin : FnScope ["thing", "least", "most"] ["thing", "least", "most"] (defScope sIsWithin) := ⟨rfl, rfl, rfl, by decide +kernel, rfl, by decide +kernel, by decide +kernel⟩
theorem scIsTextOf : FnScope ["thing", "signs", "least", "most", "sign"] ["thing", "signs", "least", "most"] (defScope sIsTextOf) := ⟨rfl, rfl, rfl, by decide +kernel, rfl, by decide +kernel, by decide +kernel⟩
theorem scIsSmallText : FnScope ["thing", "least", "most"] ["thing", "least", "most"] (defScope sIsSmallText) := ⟨rfl, rfl, rfl, by decide +kernel, rfl, by decide +kernel, by decide +kernel⟩
theorem scIsWord : FnScope ["thing"] ["thing"] (defScope sIsWord) := ⟨rfl, rfl, rfl, by decide +kernel, rfl, by decide +kernel, by decide +kernel⟩
theorem scAreRising : FnScope ["things", "one", "other"] ["things"] (defScope sAreRising) := ⟨rfl, rfl, rfl, by decide +kernel, rfl, by decide +kernel, by decide +kernel⟩
theorem scIsLeap : FnScope ["year"] ["year"] (defScope sIsLeap) := ⟨rfl, rfl, rfl, by decide +kernel, rfl, by decide +kernel, by decide +kernel⟩
theorem scDaysIn : FnScope ["year", "month"] ["year", "month"] (defScope sDaysIn) := ⟨rfl, rfl, rfl, by decide +kernel, rfl, by decide +kernel, by decide +kernel⟩
theorem scMakesDay : FnScope ["year", "month", "day"] ["year", "month", "day"] (defScope sMakesDay) := ⟨rfl, rfl, rfl, by decide +kernel, rfl, by decide +kernel, by decide +kernel⟩
theorem scDayInit : FnScope ["self", "year", "month", "day"] ["self", "year", "month", "day"] (defScope sDayInit) := ⟨rfl, rfl, rfl, by decide +kernel, rfl, by decide +kernel, by decide +kernel⟩
theorem scDayEq : FnScope ["self", "other"] ["self", "other"] (defScope sDayEq) := ⟨rfl, rfl, rfl, by decide +kernel, rfl, by decide +kernel, by decide +kernel⟩
theorem scDayStr : FnScope ["self"] ["self"] (defScope sDayStr) := ⟨rfl, rfl, rfl, by decide +kernel, rfl, by decide +kernel, by decide +kernel⟩
theorem scDayRepr : FnScope ["self"] ["self"] (defScope sDayRepr) := ⟨rfl, rfl, rfl, by decide +kernel, rfl, by decide +kernel, by decide +kernel⟩
theorem scBeyondMinutes : FnScope ["seconds"] ["seconds"] (defScope sBeyondMinutes) := ⟨rfl, rfl, rfl, by decide +kernel, rfl, by decide +kernel, by decide +kernel⟩
theorem scLengthInit : FnScope ["self", "seconds"] ["self", "seconds"] (defScope sLengthInit) := ⟨rfl, rfl, rfl, by decide +kernel, rfl, by decide +kernel, by decide +kernel⟩
theorem scLengthEq : FnScope ["self", "other"] ["self", "other"] (defScope sLengthEq) := ⟨rfl, rfl, rfl, by decide +kernel, rfl, by decide +kernel, by decide +kernel⟩
theorem scLengthStr : FnScope ["self"] ["self"] (defScope sLengthStr) := ⟨rfl, rfl, rfl, by decide +kernel, rfl, by decide +kernel, by decide +kernel⟩
theorem scLengthRepr : FnScope ["self"] ["self"] (defScope sLengthRepr) := ⟨rfl, rfl, rfl, by decide +kernel, rfl, by decide +kernel, by decide +kernel⟩
theorem scIsTongue : FnScope ["thing"] ["thing"] (defScope sIsTongue) := ⟨rfl, rfl, rfl, by decide +kernel, rfl, by decide +kernel, by decide +kernel⟩
theorem scIsNameText : FnScope ["thing"] ["thing"] (defScope sIsNameText) := ⟨rfl, rfl, rfl, by decide +kernel, rfl, by decide +kernel, by decide +kernel⟩
theorem scIsName : FnScope ["thing"] ["thing"] (defScope sIsName) := ⟨rfl, rfl, rfl, by decide +kernel, rfl, by decide +kernel, by decide +kernel⟩
theorem scIsKey : FnScope ["thing", "house", "number"] ["thing"] (defScope sIsKey) := ⟨rfl, rfl, rfl, by decide +kernel, rfl, by decide +kernel, by decide +kernel⟩
theorem scIsCode : FnScope ["thing"] ["thing"] (defScope sIsCode) := ⟨rfl, rfl, rfl, by decide +kernel, rfl, by decide +kernel, by decide +kernel⟩
theorem scArePlayers : FnScope ["thing", "player"] ["thing"] (defScope sArePlayers) := ⟨rfl, rfl, rfl, by decide +kernel, rfl, by decide +kernel, by decide +kernel⟩
theorem scIsEntry : FnScope ["thing", "house", "number", "code", "title", "players", "day", "length"] ["thing"] (defScope sIsEntry) := ⟨rfl, rfl, rfl, by decide +kernel, rfl, by decide +kernel, by decide +kernel⟩
theorem scFieldOf : FnScope ["entry", "field"] ["entry", "field"] (defScope sFieldOf) := ⟨rfl, rfl, rfl, by decide +kernel, rfl, by decide +kernel, by decide +kernel⟩
theorem scHand : FnScope ["_law_script", "_law_own", "_law_mixed", "_law_cell"] ["_law_script"] (defScope sHand) := ⟨rfl, rfl, rfl, by decide +kernel, rfl, by decide +kernel, by decide +kernel⟩
theorem scTake : FnScope ["_law_hand_here", "_law_many", "_law_digit", "_law_once", "_law_twice"] ["_law_hand_here", "_law_many"] (defScope sTake) := ⟨rfl, rfl, rfl, by decide +kernel, rfl, by decide +kernel, by decide +kernel⟩
theorem scPick : FnScope ["_law_hand_here", "_law_some_here"] ["_law_hand_here", "_law_some_here"] (defScope sPick) := ⟨rfl, rfl, rfl, by decide +kernel, rfl, by decide +kernel, by decide +kernel⟩
theorem scWord : FnScope ["_law_hand_here", "_law_least", "_law_most", "_law_letters", "_law_k"] ["_law_hand_here", "_law_least", "_law_most"] (defScope sWord) := ⟨rfl, rfl, rfl, by decide +kernel, rfl, by decide +kernel, by decide +kernel⟩
theorem scText : FnScope ["_law_hand_here", "_law_many", "_law_signs", "_law_found", "_law_k", "_law_sign"] ["_law_hand_here", "_law_many"] (defScope sText) := ⟨rfl, rfl, rfl, by decide +kernel, rfl, by decide +kernel, by decide +kernel⟩
theorem scNames : FnScope ["_law_hand_here", "_law_many", "_law_signs", "_law_k", "_law_tongues", "_law_stem", "_law_at", "_law_found", "_law_name", "_law_twin"] ["_law_hand_here", "_law_many"] (defScope sNames) := ⟨rfl, rfl, rfl, by decide +kernel, rfl, by decide +kernel, by decide +kernel⟩
theorem scSome : FnScope ["_law_hand_here", "_law_names_here", "_law_many", "_law_k"] ["_law_hand_here", "_law_names_here"] (defScope sSome) := ⟨rfl, rfl, rfl, by decide +kernel, rfl, by decide +kernel, by decide +kernel⟩
theorem scCode : FnScope ["_law_hand_here", "_law_signs", "_law_k"] ["_law_hand_here"] (defScope sCode) := ⟨rfl, rfl, rfl, by decide +kernel, rfl, by decide +kernel, by decide +kernel⟩
theorem scDay : FnScope ["_law_hand_here", "_law_year", "_law_month", "_law_here", "_law_parts"] ["_law_hand_here", "_law_year"] (defScope sDay) := ⟨rfl, rfl, rfl, by decide +kernel, rfl, by decide +kernel, by decide +kernel⟩
theorem scEntries : FnScope ["_law_hand_here", "_law_names_here", "_law_many", "_law_k", "_law_houses", "_law_codes", "_law_found", "_law_keys", "_law_far", "_law_year", "_law_seconds", "_law_share", "_law_key", "_law_things", "_law_thing"] ["_law_hand_here", "_law_names_here", "_law_many"] (defScope sEntries) := ⟨rfl, rfl, rfl, by decide +kernel, rfl, by decide +kernel, by decide +kernel⟩
theorem scLawIsName : FnScope ["_law_thing", "_law_part", "_law_sign"] ["_law_thing"] (defScope sLawIsName) := ⟨rfl, rfl, rfl, by decide +kernel, rfl, by decide +kernel, by decide +kernel⟩
theorem scLawIsEntry : FnScope ["_law_thing", "_law_house", "_law_number", "_law_code_here", "_law_title", "_law_players", "_law_here", "_law_long", "_law_sign", "_law_name"] ["_law_thing"] (defScope sLawIsEntry) := ⟨rfl, rfl, rfl, by decide +kernel, rfl, by decide +kernel, by decide +kernel⟩
theorem scOdd : FnScope ["_law_hand_here", "_law_entry", "_law_some_here", "_law_k"] ["_law_hand_here", "_law_entry"] (defScope sOdd) := ⟨rfl, rfl, rfl, by decide +kernel, rfl, by decide +kernel, by decide +kernel⟩
theorem scBent : FnScope ["_law_hand_here", "_law_thing", "_law_entry", "_law_deep", "_law_at", "_law_part", "_law_odd_here", "_law_way", "_law_some_here"] ["_law_hand_here", "_law_thing", "_law_entry", "_law_deep"] (defScope sBent) := ⟨rfl, rfl, rfl, by decide +kernel, rfl, by decide +kernel, by decide +kernel⟩
theorem scLaw : FnScope ["_law_script", "_law_hand_here", "_law_turn", "_law_names_here", "_law_entry", "_law_at", "_law_field", "_law_again", "_law_thing", "_law_found"] ["_law_script"] (defScope sLaw) := ⟨rfl, rfl, rfl, by decide +kernel, rfl, by decide +kernel, by decide +kernel⟩
def leap (y : Int) : Bool := decide (y % 4 = 0) && (decide (y % 100 ≠ 0) || decide (y % 400 = 0))
def lastDay (y m : Int) : Int := if m = 4 ∨ m = 6 ∨ m = 9 ∨ m = 11 then 30 else if m ≠ 2 then 31 else if leap y = true then 29 else 28
theorem lastDay_ge (y m : Int) : 28 ≤ lastDay y m ∧ lastDay y m ≤ 31 := by
  unfold lastDay
  split
  · omega
  · split
    · omega
    · split <;> omega
/-- the parts of a day -/
def Good (y : Int) (m d : Option Int) : Prop := 1 ≤ y ∧ y ≤ 9999 ∧ match m with
  | none => d = none
  | some i => 1 ≤ i ∧ i ≤ 12 ∧ match d with
    | none => True
    | some j => 1 ≤ j ∧ j ≤ lastDay y i
def oV : Option Int → V
  | none => .non
  | some i => .int i
def oD : Option Int → PyData
  | none => .none
  | some i => .int i
/-! ## objects -/
/-- all that was tracked stands but for the hand -/
def But (h : Addr) (H H' : Hp) : Prop := ∀ b o, b ≠ h → H b = some o → H' b = some o
theorem But.refl (h : Addr) (H : Hp) : But h H H := fun _ _ _ e => e
theorem But.trans {h : Addr} {H H1 H2 : Hp} (p : But h H H1) (q : But h H1 H2) : But h H H2 := fun b o n e => q b o n (p b o n e)
theorem Same.but {H H' : Hp} (s : Same H H') (h : Addr) : But h H H' := fun b o _ e => s b o e
theorem But.seqT {K : PySem.W.Frag} {h : Addr} {H H' : Hp} (s : But h H H') {t : Addr} {xs : List V} (n : t ≠ h) (q : SqT K H t xs) : SqT K H' t xs := by
  rcases q with (q | ⟨o, q⟩) | q
  · exact .inl (.inl (s _ _ n q))
  · exact .inl (.inr ⟨o, s _ _ n q⟩)
  · exact .inr q
theorem But.seqL {K : PySem.W.Frag} {h : Addr} {H H' : Hp} (s : But h H H') {t : Addr} {xs : List V} (n : t ≠ h) (q : SqL K H t xs) : SqL K H' t xs := by
  rcases q with (q | ⟨o, q⟩) | q
  · exact .inl (.inl (s _ _ n q))
  · exact .inl (.inr ⟨o, s _ _ n q⟩)
  · exact .inr q
theorem Same.seqT {K : PySem.W.Frag} {H H' : Hp} (s : Same H H') {t : Addr} {xs : List V} (q : SqT K H t xs) : SqT K H' t xs := by
  rcases q with (q | ⟨o, q⟩) | q
  · exact .inl (.inl (s _ _ q))
  · exact .inl (.inr ⟨o, s _ _ q⟩)
  · exact .inr q
theorem same_upd {H : Hp} {p : Addr} {o : HO} (h : H p = none) : Same H (upd H p o) := fun b x e => by
  rw [upd_ne (ne_of_none e h)]
  exact e
theorem but_upd {H : Hp} {p : Addr} {o : HO} : But p H (upd H p o) := fun b x n e => by
  rw [upd_ne n]
  exact e
/-- the hand: what is left of the cell, what it is mixed of, how often it was asked -/
def Hand (n : Int) (H : Hp) (a : Addr) : Prop := ∃ g m c : Int, H a = some (.lst [.int g, .int m, .int c]) ∧ 0 ≤ g ∧ 0 ≤ m ∧ m < 2305843009213693951 ∧ 0 ≤ c ∧ c ≤ n
theorem Hand.mono {n n' : Int} {H : Hp} {a : Addr} (h : Hand n H a) (l : n ≤ n') : Hand n' H a := by
  obtain ⟨g, m, c, e, h1, h2, h3, h4, h5⟩ := h
  exact ⟨g, m, c, e, h1, h2, h3, h4, Int.le_trans h5 l⟩
theorem Hand.same {n : Int} {H H' : Hp} {a : Addr} (h : Hand n H a) (s : Same H H') : Hand n H' a := by
  obtain ⟨g, m, c, e, r⟩ := h
  exact ⟨g, m, c, s _ _ e, r⟩
theorem Hand.at_ {n : Int} {H : Hp} {a : Addr} (h : Hand n H a) : ∃ xs, H a = some (.lst xs) := by
  obtain ⟨g, m, c, e, r⟩ := h
  exact ⟨_, e⟩
theorem Hand.ne_tup {K : PySem.W.Frag} {n : Int} {H : Hp} {a t : Addr} {xs : List V} (h : Hand n H a) (e : H t = some (.tup xs)) : t ≠ a := by
  obtain ⟨ys, e2⟩ := h.at_
  exact ne_of e e2 (by intro z; cases z)
theorem But.free {h l : Addr} {H H' : Hp} (b : But h H H') (ne : l ≠ h) (e : H' l = none) : H l = none := by
  cases q : H l with
  | none => rfl
  | some o =>
    rw [b l o ne q] at e
    cases e
theorem Hand.fresh {n : Int} {H : Hp} {a l : Addr} (h : Hand n H a) (e : H l = none) : l ≠ a := by
  obtain ⟨xs, q⟩ := h.at_
  exact (ne_of_none q e).symm
theorem Hand.upd {n : Int} {H : Hp} {a p : Addr} {x : HO} (h : Hand n H a) (ne : a ≠ p) : Hand n (L2.upd H p x) a := by
  obtain ⟨g, m, c, e, r⟩ := h
  exact ⟨g, m, c, by rw [upd_ne ne]; exact e, r⟩
/-- the fields of a Day -/
def dayF (y : Int) (m d : Option Int) : List (Str × V) := [("year", .int y), ("month", oV m), ("day", oV d)]
def DayAt (C : Addr) (H : Hp) (x : Addr) (y : Int) (m d : Option Int) : Prop := ∃ dx, H x = some (.ins C dx (dayF y m d))
theorem DayAt.same {C : Addr} {H H' : Hp} {x : Addr} {y : Int} {m d : Option Int} (h : DayAt C H x y m d) (s : Same H H') : DayAt C H' x y m d := by
  obtain ⟨dx, e⟩ := h
  exact ⟨dx, s _ _ e⟩
theorem DayAt.but {C h : Addr} {n : Int} {H H' : Hp} {x : Addr} {y : Int} {m d : Option Int} (q : DayAt C H x y m d) (hh : Hand n H h) (s : But h H H') : DayAt C H' x y m d := by
  obtain ⟨dx, e⟩ := q
  obtain ⟨ys, e2⟩ := hh.at_
  exact ⟨dx, s _ _ (ne_of e e2 (by intro z; cases z)) e⟩
theorem f_y (y : Int) (m d : Option Int) : (dayF y m d).lookup ("year" : Str) = some (.int y) := by
  unfold dayF
  rw [List.lookup_cons_self]
theorem f_m (y : Int) (m d : Option Int) : (dayF y m d).lookup ("month" : Str) = some (oV m) := by
  unfold dayF
  rw [List.lookup_cons, show (("month" : Str) == "year") = false by decide +kernel, List.lookup_cons_self]
theorem f_d (y : Int) (m d : Option Int) : (dayF y m d).lookup ("day" : Str) = some (oV d) := by
  unfold dayF
  rw [List.lookup_cons, show (("day" : Str) == "year") = false by decide +kernel, List.lookup_cons, show (("day" : Str) == "month") = false by decide +kernel, List.lookup_cons_self]
def LenAt (C : Addr) (H : Hp) (x : Addr) (i : Int) : Prop := ∃ dx, H x = some (.ins C dx [("seconds", .int i)])
theorem LenAt.same {C : Addr} {H H' : Hp} {x : Addr} {i : Int} (h : LenAt C H x i) (s : L2.Same H H') : LenAt C H' x i := by
  obtain ⟨dx, e⟩ := h
  exact ⟨dx, s _ _ e⟩
theorem LenAt.but {C h : Addr} {n : Int} {H H' : Hp} {x : Addr} {i : Int} (q : LenAt C H x i) (hh : Hand n H h) (s : But h H H') : LenAt C H' x i := by
  obtain ⟨dx, e⟩ := q
  obtain ⟨ys, e2⟩ := hh.at_
  exact ⟨dx, s _ _ (ne_of e e2 (by intro z; cases z)) e⟩
theorem f_s (i : Int) : ([(("seconds" : Str), V.int i)] : List (Str × V)).lookup ("seconds" : Str) = some (.int i) := by rw [List.lookup_cons_self]
/-- an exception's making ends so -/
theorem made_x {H H2 : Hp} {a d : Addr} {o : HO} (na : H a = none) (ne : d ≠ a) (off : ∀ b, b ≠ a → b ≠ d → H2 b = H b) : upd (del H2 a) d o = upd H d o := by
  funext b
  by_cases hd : b = d
  · rw [hd, upd_same, upd_same]
  · rw [upd_ne hd, upd_ne hd]
    by_cases ha : b = a
    · rw [ha, del_same, na]
    · rw [del_ne ha, off b ha hd]
theorem off_all {h : Addr} {H : Hp} : L2.Same (del H h) H := fun b o e => by
  by_cases z : b = h
  · rw [z, del_same] at e
    cases e
  · rw [del_ne z] at e
    exact e
theorem off_but {h : Addr} {H H' : Hp} (s : But h H H') : L2.Same (del H h) (del H' h) := fun b o e => by
  by_cases z : b = h
  · rw [z, del_same] at e
    cases e
  · rw [del_ne z] at e
    rw [del_ne z]
    exact s b o z e
theorem off_new {h p : Addr} {H : Hp} {o : HO} (ne : p ≠ h) : del (upd H p o) h p = some o := by rw [del_ne ne, upd_same]
theorem off_at {h p : Addr} {H : Hp} {o : HO} (ne : p ≠ h) (e : H p = some o) : del H h p = some o := by rw [del_ne ne, e]
/-- things of the built-in kinds that are asked -/
inductive Odd (H : Hp) : V → String → Prop where
  | int (i : Int) : Odd H (.int i) "int"
  | str (x : Str) : Odd H (.str x) "str"
  | non : Odd H .non "NoneType"
  | tup {a : Addr} {xs : List V} (e : H a = some (.tup xs)) : Odd H (.ref a) "tuple"
  | lst {a : Addr} {xs : List V} (e : H a = some (.lst xs)) : Odd H (.ref a) "list"
abbrev OddT (t : String) : Prop := t = "int" ∨ t = "str" ∨ t = "NoneType" ∨ t = "tuple" ∨ t = "list"
theorem Odd.one {H : Hp} {o : V} {t : String} (h : Odd H o t) : OddT t := by
  cases h <;> simp [OddT]
theorem Odd.ty {K : PySem.W.Frag} {H : Hp} {o : V} {t : String} (h : Odd H o t) : TyX K H o (.type t) := by
  cases h with
  | int i => exact .base (.int i)
  | str x => exact .base (.str x)
  | non => exact .base .non
  | tup e => exact .base (.tup e)
  | lst e => exact .base (.lst e)
theorem Odd.same {H H' : Hp} {o : V} {t : String} (h : Odd H o t) (s : Same H H') : Odd H' o t := by
  cases h with
  | int i => exact .int i
  | str x => exact .str x
  | non => exact .non
  | tup e => exact .tup (s _ _ e)
  | lst e => exact .lst (s _ _ e)
structure KitC (K : PySem.W.Frag) (C : Addr) : Prop where
  me : PySem.W.kitOne K (.ref C) (.ref C) = some true
  no : ∀ t : String, OddT t → PySem.W.kitOne K (.type t) (.ref C) = some false
  sub : ∀ t : String, OddT t → PySem.W.subIn K (.type t) (.ref C) = some false
theorem kitC_mk {K : PySem.W.Frag} {C : Addr} (ty : PySem.W.typeIn K (.ref C) = some (.type "type")) (mo : PySem.W.mroIn K C (.type "object") = some true) (s1 : PySem.W.subIn K (.type "int") (.ref C) = some false)
    (s2 : PySem.W.subIn K (.type "str") (.ref C) = some false) (s3 : PySem.W.subIn K (.type "NoneType") (.ref C) = some false) (s4 : PySem.W.subIn K (.type "tuple") (.ref C) = some false) (s5 : PySem.W.subIn K (.type "list") (.ref C) = some false) : KitC K C := by
  have cl : (PySem.W.clsIn K C).isSome = true := by
    unfold PySem.W.mroIn at mo
    cases e : PySem.W.clsIn K C with
    | none => rw [e] at mo; cases mo
    | some c => rfl
  have sub : ∀ t : String, OddT t → PySem.W.subIn K (.type t) (.ref C) = some false := fun t ht => by
    rcases ht with rfl | rfl | rfl | rfl | rfl
    · exact s1
    · exact s2
    · exact s3
    · exact s4
    · exact s5
  refine ⟨?_, fun t ht => ?_, sub⟩
  · unfold PySem.W.kitOne
    simp
  · have q : (Value.type t == Value.ref C) = false := rfl
    unfold PySem.W.kitOne
    rw [q]
    simp only [Bool.false_eq_true, if_false]
    unfold PySem.W.kitCls
    dsimp only
    rw [cl, ty]
    simp only [beq_self_eq_true, Bool.and_self, if_true]
    exact sub t ht
section
variable {X : Cx} {pins : List (Addr × Obj)} {σ : L2.St} {H : Hp} {s : Shared} {n : Nat} {f C : Addr} {fd : FuncData} {ps : List Str} {sp : Sp}
/-- a def of the written part is run somewhere below -/
theorem own_run {A : Around} {vs : List V} {us : List Value} {Q : VK} {E : Value → Shared → Prop} (fr : A.frames = some X.stack) (room : Room n A) (F : FnOk X.prog X.w X.K X.mg X.base CX0 n f fd ps sp) (bd : Binds X.K fd ps [])
    (I : Inv X pins σ H s) (rv : Vals vs us) (hsp : sp vs H Q E0) : wpAny (model X.prog X.w) A (call (.ref f) us) (EP X pins σ Q) E s := by
  have en : Env0 X.prog X.w X.K X.mg X.base A X.stack s H := by
    have z := I.env0
    exact ⟨fr, z.mod, z.bs, z.bsz, z.funs, z.frf, z.hok, z.bare⟩
  have hl : vs.length = ps.length := F.len _ _ _ _ hsp
  have b1 := bd s us I.kIn (by simpa [← rv.length] using hl)
  rw [List.append_nil] at b1
  refine wpAny_call (codeAny_mono (F.run A X.stack s H ⟨us, []⟩ us vs _ E0 room en b1 rv hsp) fun r s2 hr => ?_)
  match r, hr with
  | .error z, hr => exact False.elim hr
  | .ok .next, hr => exact False.elim hr
  | .ok .brk, hr => exact False.elim hr
  | .ok .cont, hr => exact False.elim hr
  | .ok (.ret u), hr => exact I.after hr
theorem odd_looks {y : V} {v : Value} {t : String} (I : Inv X pins σ H s) (rv : RelV y v) (o : Odd H y t) : PySem.W.Looks (model X.prog X.w) s.heap (typeOf v) (.type t) := by
  obtain ⟨P, Z, p, _⟩ := kit_of I rv (o.ty (K := X.K))
  exact Z.ty _ _ I.kIn p
/-- day == thing -/
def rEqL (C : Addr) (sp : Sp) : R2 := fun x y H Q => ∃ (a dx : Addr) (fs : List (Str × V)), x = .ref a ∧ H a = some (.ins C dx fs) ∧ ((∃ t, Odd H y t) ∨ ∃ b dz gs, y = .ref b ∧ H b = some (.ins C dz gs)) ∧
  sp [.ref a, y] H (fun z H' => ∃ b, z = .bl b ∧ Q (.bl b) H') E0
theorem op_eqL (W : OwnC X.K C f) (Z : KitC X.K C) (room : Room n X.A) (F : FnOk X.prog X.w X.K X.mg X.base CX0 n f fd ps sp) (bd : Binds X.K fd ps []) : OpR X (compareOp .Eq) (rEqL C sp) := by
  intro pins s σ H x y u v Q I rx ry h
  obtain ⟨a, dx, fs, rfl, ha, hy, hsp⟩ := h
  cases rx
  have fin : ∀ tb, PySem.W.Looks (model X.prog X.w) s.heap (typeOf v) tb → PySem.W.notFirst X.K C tb = true → wpAny (model X.prog X.w) X.A (compareOp .Eq (.ref a) v) (EP X pins σ Q) X.xe s := fun tb hb nf => by
    show wpAny (model X.prog X.w) X.A (richCompare .Eq (.ref a) v) _ _ s
    refine wpAny_mono (rc_L (Q := fun b H' => Q (.bl b) H') W I.ok.frames room F bd I ha ry hb nf hsp) (fun z s' hz => ?_) fun _ _ z => z
    obtain ⟨b, H', rfl, I', q⟩ := hz
    exact ⟨.bl b, H', I', rfl, q⟩
  rcases hy with ⟨t, o⟩ | ⟨b, dz, gs, rfl, hb⟩
  · refine fin _ (odd_looks I ry o) ?_
    unfold PySem.W.notFirst
    rw [Z.sub t o.one]
    simp
  · cases ry
    obtain ⟨mB, JB, _⟩ := ins_get I.hok hb
    obtain ⟨oB, JB, _⟩ := JB.look
    exact fin _ JB.type (by simp [PySem.W.notFirst])
/-- day != day -/
def rNeL (C : Addr) (sp : Sp) : R2 := fun x y H Q => ∃ (a dx : Addr) (fs : List (Str × V)) (b dz : Addr) (gs : List (Str × V)), x = .ref a ∧ H a = some (.ins C dx fs) ∧ y = .ref b ∧ H b = some (.ins C dz gs) ∧
  sp [.ref a, y] H (fun z H' => ∃ b, z = .bl b ∧ Q (.bl (!b)) H') E0
theorem op_neL (W : OwnC X.K C f) (room : Room (n + 1) X.A) (F : FnOk X.prog X.w X.K X.mg X.base CX0 n f fd ps sp) (bd : Binds X.K fd ps []) : OpR X (compareOp .NotEq) (rNeL C sp) := by
  intro pins s σ H x y u v Q I rx ry h
  obtain ⟨a, dx, fs, b, dz, gs, rfl, ha, rfl, hb, hsp⟩ := h
  cases rx
  cases ry
  obtain ⟨mB, JB, _⟩ := ins_get I.hok hb
  obtain ⟨oB, JB, _⟩ := JB.look
  show wpAny (model X.prog X.w) X.A (richCompare .NotEq (.ref a) (.ref b)) _ _ s
  refine wpAny_mono (rc_N (Q := fun b H' => Q (.bl b) H') (y := .ref b) W I.ok.frames room F bd I ha rfl JB.type (by simp [PySem.W.notFirst]) hsp) (fun z s' hz => ?_) fun _ _ z => z
  obtain ⟨b, H', rfl, I', q⟩ := hz
  exact ⟨.bl b, H', I', rfl, q⟩
/-- thing == day -/
def rEqR (C : Addr) (sp : Sp) : R2 := fun x y H Q => ∃ (a dx : Addr) (fs : List (Str × V)), y = .ref a ∧ H a = some (.ins C dx fs) ∧
  (((∃ t, Odd H x t) ∧ sp [.ref a, x] H (fun z H' => ∃ b, z = .bl b ∧ Q (.bl b) H') E0) ∨ ∃ b dz gs, x = .ref b ∧ H b = some (.ins C dz gs) ∧ sp [.ref b, .ref a] H (fun z H' => ∃ b, z = .bl b ∧ Q (.bl b) H') E0)
theorem op_eqR (W : OwnC X.K C f) (room : Room n X.A) (F : FnOk X.prog X.w X.K X.mg X.base CX0 n f fd ps sp) (bd : Binds X.K fd ps []) : OpR X (compareOp .Eq) (rEqR C sp) := by
  intro pins s σ H x y u v Q I rx ry h
  obtain ⟨a, dx, fs, rfl, ha, h⟩ := h
  cases ry
  show wpAny (model X.prog X.w) X.A (richCompare .Eq u (.ref a)) _ _ s
  have fin : ∀ {A : Around} {z : Value} {s' : Shared}, BP X pins σ (fun b H' => Q (.bl b) H') z s' → EP X pins σ Q z s' := fun {A z s'} hz => by
    obtain ⟨b, H', rfl, I', q⟩ := hz
    exact ⟨.bl b, H', I', rfl, q⟩
  obtain ⟨mA, J, eI⟩ := ins_get I.hok ha
  obtain ⟨oA, J', _⟩ := J.look
  rcases h with ⟨⟨t, o⟩, hsp⟩ | ⟨b, dz, gs, rfl, hb, hsp⟩
  · cases o with
    | int i =>
      obtain ⟨tk, rfl⟩ := rx
      refine wpAny_mono (rc_R (Q := fun b H' => Q (.bl b) H') (y := .int i) W I.ok.frames room F bd I ha ⟨tk, rfl⟩ (typeIs_int _ _ _) rfl W.sInt PySem.F.slot_int_eq (fun E' => dec_int J.obj) hsp) (fun z s' hz => fin (A := X.A) hz) fun _ _ z => z
    | str i =>
      obtain ⟨tk, rfl⟩ := rx
      refine wpAny_mono (rc_R (Q := fun b H' => Q (.bl b) H') (y := .str i) W I.ok.frames room F bd I ha ⟨tk, rfl⟩ (typeIs_str _ _ _) rfl W.sStr PySem.F.slot_str_eq (fun E' => dec_str J.obj) hsp) (fun z s' hz => fin (A := X.A) hz) fun _ _ z => z
    | non =>
      cases rx
      refine wpAny_mono (rc_R (Q := fun b H' => Q (.bl b) H') (y := .non) W I.ok.frames room F bd I ha rfl (T := "NoneType") rfl rfl W.sNon PySem.F.slot_NoneType_eq (fun E' => dec_none) hsp) (fun z s' hz => fin (A := X.A) hz) fun _ _ z => z
    | @tup b xs e =>
      cases rx
      obtain ⟨_, _, _, ob, h1, h2, _⟩ := (show ObjOk X.prog X.w H s.heap b (.tup xs) from I.hok b _ e)
      refine wpAny_mono (rc_R (Q := fun b H' => Q (.bl b) H') (y := .ref b) W I.ok.frames room F bd I ha rfl (T := "tuple") ⟨ob, h1, h2⟩ rfl W.sTup PySem.F.slot_tuple_eq (fun E' => dec_tup ⟨ob, h1, h2⟩ J' I.kIn W.sTup) hsp) (fun z s' hz => fin (A := X.A) hz) fun _ _ z => z
    | @lst b xs e =>
      cases rx
      obtain ⟨_, _, k, _, h1⟩ := (show ObjOk X.prog X.w H s.heap b (.lst xs) from I.hok b _ e)
      refine wpAny_mono (rc_R (Q := fun b H' => Q (.bl b) H') (y := .ref b) W I.ok.frames room F bd I ha rfl (T := "list") ⟨_, h1, rfl⟩ rfl W.sLst PySem.F.slot_list_eq (fun E' => dec_lst ⟨_, h1, rfl⟩ J' I.kIn W.sLst) hsp) (fun z s' hz => fin (A := X.A) hz) fun _ _ z => z
  · cases rx
    refine wpAny_mono (rc_L (Q := fun b H' => Q (.bl b) H') (y := .ref a) W I.ok.frames room F bd I hb rfl J'.type (by simp [PySem.W.notFirst]) hsp) (fun z s' hz => fin (A := X.A) hz) fun _ _ z => z
/-- str(o) by its own __str__ -/
theorem cr_strO (hs : PySem.W.findIn X.K (.ref C) "__str__" = some (some (.ref f))) (hf : PySem.W.isFn X.K (.ref f) = true) (room : Room (n + 2) X.A) (F : FnOk X.prog X.w X.K X.mg X.base CX0 n f fd ps sp) (bd : Binds X.K fd ps []) :
    CallR X (.type "str") (fun xs H Q => ∃ (a dx : Addr) (fs : List (Str × V)), xs = [.ref a] ∧ H a = some (.ins C dx fs) ∧ sp [.ref a] H (fun z H' => ∃ y, z = .str y ∧ Q (.str y) H') E0) := by
  intro pins s σ H xs us Q I r h
  obtain ⟨a, dx, fs, rfl, ha, hsp⟩ := h
  obtain ⟨u, rfl, rx⟩ := vals1 r
  cases rx
  obtain ⟨mA, J, _⟩ := ins_get I.hok ha
  obtain ⟨oA, J, _⟩ := J.look
  refine PySem.W.kso_call room.in1.in1.units0 I.kIn J hs hf (wpAny_mono (own_run (A := X.A.in1.in1) (vs := [.ref a]) I.ok.frames room.in1.in1 F bd I (.cons rfl .nil) hsp) (fun v s' hv => ?_) fun _ _ z => z)
  obtain ⟨v', H', I', rv, y, rfl, q⟩ := hv
  obtain ⟨tk, rfl⟩ := rv
  exact ⟨.str y, H', I', ⟨tk, rfl⟩, q⟩
/-- repr(o) by its own __repr__ -/
theorem cr_reprO (hs : PySem.W.findIn X.K (.ref C) "__repr__" = some (some (.ref f))) (hf : PySem.W.isFn X.K (.ref f) = true) (room : Room (n + 1) X.A) (F : FnOk X.prog X.w X.K X.mg X.base CX0 n f fd ps sp) (bd : Binds X.K fd ps []) :
    CallR X (.builtin "repr") (fun xs H Q => ∃ (a dx : Addr) (fs : List (Str × V)), xs = [.ref a] ∧ H a = some (.ins C dx fs) ∧ sp [.ref a] H (fun z H' => ∃ y, z = .str y ∧ Q (.str y) H') E0) := by
  intro pins s σ H xs us Q I r h
  obtain ⟨a, dx, fs, rfl, ha, hsp⟩ := h
  obtain ⟨u, rfl, rx⟩ := vals1 r
  cases rx
  obtain ⟨mA, J, _⟩ := ins_get I.hok ha
  obtain ⟨oA, J, _⟩ := J.look
  refine Calls.call_function_entry PySem.F.kind_repr PySem.F.plain_repr PySem.F.entry_repr (PySem.F.args_repr1 _) ?_
  unfold Builtin.«repr»
  refine wpAny_bind (m := oneArg "repr" _) (wpAny_pure ?_)
  refine wpAny_bind (wpAny_cRoomFor room.in1.units0 ?_)
  refine wpAny_bind (wpAny_bind (J.type.here ((PySem.W.looks_findIn I.kIn hs).here ?_)))
  refine wpAny_bind (m := callSpecialIfBound? (.ref a) (Str.ofString "__repr__") _) (PySem.W.ifBound_K I.kIn J hs hf (wpAny_mono (own_run (A := X.A.in1) (vs := [.ref a]) I.ok.frames room.in1 F bd I (.cons rfl .nil) hsp) (fun v s' hv => ?_) fun _ _ z => z))
  obtain ⟨v', H', I', rv, y, rfl, q⟩ := hv
  obtain ⟨tk, rfl⟩ := rv
  refine wpAny_bind (wpAny_isInstance (T := "str") (b := true) rfl isSubtype_str_str ?_)
  exact wpAny_pure ⟨_, rfl, .str y, H', I', ⟨tk, rfl⟩, q⟩
end
section
variable {X : Cx}
theorem cr_alt {f : Value} {r1 r2 : List V → Hp → VK → Prop} (h1 : CallR X f r1) (h2 : CallR X f r2) : CallR X f (fun xs H Q => r1 xs H Q ∨ r2 xs H Q) :=
  fun pins s σ H xs us Q I r h => h.elim (h1 pins s σ H xs us Q I r) (h2 pins s σ H xs us Q I r)
end
theorem ps_no {X : Cx} {st : Stmt} : PS X st (fun _ _ _ => False) := ⟨fun _ _ _ _ _ _ h => False.elim h⟩
theorem dInt (i j : Int) : decide (V.int i = V.int j) = decide (i = j) := decide_eq_decide.mpr ⟨fun z => V.int.inj z, fun z => by rw [z]⟩
theorem fitN {n : Nat} (h : n ≤ 100000) : n ≤ sizeLine := Nat.le_trans h (by decide)
theorem lg {i : Int} (h0 : -(10 ^ 31) < i) (h1 : i < 10 ^ 31) : i.natAbs.log2 < 1920 := by
  have h2 : i.natAbs < 2 ^ 110 := by
    have : (10 : Int) ^ 31 < 2 ^ 110 := by decide
    omega
  exact Nat.lt_of_lt_of_le (PySem.Flt.log2_lt_of (by decide) h2) (by decide)
theorem big39 : (10 : Int) ^ 30 < 10 ^ 39 := by decide
theorem tx_le {i : Int} (h0 : -(10 ^ 30) ≤ i) (h1 : i ≤ 10 ^ 30) : (Str.ofString (toString i)).length ≤ 40 := by
  have b := big39
  cases i with
  | ofNat m =>
    have c : (Int.ofNat m) = (m : Int) := rfl
    exact Nat.le_trans (toString_length_le (v := (m : Int)) (by omega) (k := 39) (by decide) (by omega)) (by decide)
  | negSucc m =>
    have c : Int.negSucc m = -((m : Int) + 1) := rfl
    have z := toString_length_le (v := ((m + 1 : Nat) : Int)) (by omega) (k := 39) (by decide) (by omega)
    rw [PySem.ofString_length] at z ⊢
    have z2 : (toString (m + 1)).length ≤ 39 := z
    show ("-" ++ toString (m + 1)).length ≤ 40
    rw [String.length_append]
    have : "-".length = 1 := rfl
    omega
/-! ## parts that make a day -/
def isI : V → Bool
  | .int _ => true
  | _ => false
def wiV (v : V) (a b : Int) : Bool := match v with
  | .int i => decide (a ≤ i) && decide (i ≤ b)
  | _ => false
def goodV (y m d : V) : Bool := match y with
  | .int i => wiV y 1 9999 && (if m = .non then decide (d = .non) else match m with
    | .int j => wiV m 1 12 && (if d = .non then true else wiV d 1 (lastDay i j))
    | _ => false)
  | _ => false
theorem good_no {y m d : V} (h : wiV y 1 9999 = false) : goodV y m d = false := by
  cases y with
  | int i =>
    show (wiV (.int i) 1 9999 && _) = false
    rw [h, Bool.false_and]
  | _ => rfl
theorem good_non {i : Int} {d : V} (h : wiV (.int i) 1 9999 = true) : goodV (.int i) .non d = decide (d = .non) := by
  show (wiV (.int i) 1 9999 && (if V.non = V.non then decide (d = .non) else _)) = _
  rw [h, Bool.true_and, if_pos rfl]
theorem good_m {i : Int} {m d : V} (h : wiV (.int i) 1 9999 = true) (n : m ≠ .non) (h2 : wiV m 1 12 = false) : goodV (.int i) m d = false := by
  unfold goodV
  dsimp only
  rw [if_neg n]
  cases m with
  | int j =>
    dsimp only
    rw [h2, Bool.false_and, Bool.and_false]
  | _ => exact Bool.and_false _
theorem good_d {i j : Int} {d : V} (h : wiV (.int i) 1 9999 = true) (h2 : wiV (.int j) 1 12 = true) : goodV (.int i) (.int j) d = (if d = .non then true else wiV d 1 (lastDay i j)) := by
  show (wiV (.int i) 1 9999 && (if V.int j = V.non then decide (d = .non) else (wiV (.int j) 1 12 && (if d = .non then true else wiV d 1 (lastDay i j))))) = _
  rw [if_neg (by intro z; cases z), h, h2, Bool.true_and, Bool.true_and]
theorem wiV_int {v : V} {a b : Int} (h : wiV v a b = true) : ∃ i, v = .int i ∧ a ≤ i ∧ i ≤ b := by
  cases v with
  | int i =>
    have h' : (decide (a ≤ i) && decide (i ≤ b)) = true := h
    rw [Bool.and_eq_true] at h'
    exact ⟨i, rfl, of_decide_eq_true h'.1, of_decide_eq_true h'.2⟩
  | _ => cases h
def zeros (n : Nat) : Str := ⟨(List.replicate n 48).toArray⟩
def nDig (i : Int) : Nat := (Nat.toDigits 10 i.natAbs).length
def zpad (W : Nat) (i : Int) : Str := zeros (W - nDig i) ++ Str.ofString (toString i)
theorem len_text {i : Int} (h : 0 ≤ i) : (Str.ofString (toString i)).length = nDig i := by
  obtain ⟨m, rfl⟩ := Int.eq_ofNat_of_zero_le h
  have e := text_ofNat m
  have e2 : Str.ofString (toString ((m : Nat) : Int)) = ⟨((Nat.toDigits 10 m).map Char.toNat).toArray⟩ := e
  rw [e2]
  show ((Nat.toDigits 10 m).map Char.toNat).toArray.size = _
  rw [List.size_toArray, List.length_map]
  rfl
def Tiny (i : Int) : Prop := 0 ≤ i ∧ i < 10000
theorem nDig_le {i : Int} (h : Tiny i) : nDig i ≤ 4 := (digitsFacts10 i.natAbs).lt10000 (by have := h.1; have := h.2; omega)
theorem nDig_le2 {i : Int} (h : 0 ≤ i) (h2 : i < 100) : nDig i ≤ 2 := (digitsFacts10 i.natAbs).lt100 (by omega)
theorem zeros_len (n : Nat) : (zeros n).length = n := by
  show (List.replicate n 48).toArray.size = n
  simp
theorem zpad_len {W : Nat} {i : Int} (hW : W ≤ 4) (h : Tiny i) : (zpad W i).length ≤ 4 := by
  unfold zpad
  rw [strLen_append, zeros_len, len_text h.1]
  have := nDig_le h
  omega
section
variable {X : Cx}
/-- {i:0Wd} -/
def tFmtS (W : Nat) (te : TE) : TE := fun σ H Q => te σ H fun x H1 => ∃ i : Int, x = .int i ∧ Tiny i ∧ Q (.str (zpad W i)) H1
theorem pe_fmtS {e sp : Expr} {te : TE} {spec : Str} {W : Nat} {pos : Pos} (nd : X.base.NoDigits) (hok : intSpecOk spec = true) (hW : intSpecWidthOf spec = W) (hz : intSpecZeroOf spec = true) (hsz : spec.length ≤ sizeLine) (he : PE X e te)
    (hs : PE X sp (tC (.str spec))) : PE X (.FormattedValue e (-1) (some sp) pos) (tFmtS W te) := by
  refine ⟨fun pins s σ H Q I h => ?_⟩
  refine wpAny_FormattedValue_spec (thn (he.run pins s σ H _ I h) fun v s1 hv => ?_)
  obtain ⟨x, H1, I1, r1, i, rfl, hi, q⟩ := hv
  obtain ⟨t, rfl⟩ := r1
  refine thn (hs.run pins s1 σ H1 (fun v H' => v = .str spec ∧ H' = H1) I1 ⟨rfl, rfl⟩) fun r s2 hr => ?_
  obtain ⟨v, H2, I2, r2, rfl, rfl⟩ := hr
  obtain ⟨t2, rfl⟩ := r2
  have a := hi.1
  have b := hi.2
  refine ⟨spec, t2, rfl, formatField_int_specOf (nd.keeps fun b o z => (I2.env0.bs b o z).1) (lt_digitLimit_of_lt (by omega)) hok (fun W' hW' F => ?_) hsz⟩
  have e : intSpecTextOf spec i = zpad W i := by
    rw [F.zeroG hz a, hW', hW]
    rfl
  rw [e]
  exact ⟨.str (zpad W i), H2, I2.tok _, ⟨_, rfl⟩, q⟩
/-- "0" * n -/
theorem op_zeros : OpR X (binaryOp .Mult) (fun x y H Q => ∃ n : Nat, x = .str "0" ∧ y = .int n ∧ n ≤ 4 ∧ Q (.str (zeros n)) H) := by
  intro pins s σ H x y v u Q I rx ry h
  obtain ⟨n, rfl, rfl, hn, q⟩ := h
  obtain ⟨t, rfl⟩ := rx
  obtain ⟨t2, rfl⟩ := ry
  have z0 : ("0" : Str) = ⟨#[48]⟩ := by decide +kernel
  match n, hn, q with
  | 0, _, q => exact PySem.P.mul_str_none (by decide) (by decide) ⟨.str (zeros 0), H, I.tok _, ⟨_, rfl⟩, q⟩
  | 1, _, q =>
    refine PySem.P.mul_str (by decide) (fun _ z => by cases z) (fun _ z => by cases z) ?_
    show EP X pins σ Q (.str "0" t) s
    refine ⟨.str (zeros 1), H, I, ⟨t, by rw [z0]; rfl⟩, q⟩
  | 2, _, q => exact PySem.P.mul_str (by decide) (fun _ _ => by decide +kernel) (fun _ _ => by decide +kernel) ⟨by decide +kernel, .str (zeros 2), H, I.tok _, ⟨_, by rw [z0]; rfl⟩, q⟩
  | 3, _, q => exact PySem.P.mul_str (by decide) (fun _ _ => by decide +kernel) (fun _ _ => by decide +kernel) ⟨by decide +kernel, .str (zeros 3), H, I.tok _, ⟨_, by rw [z0]; rfl⟩, q⟩
  | 4, _, q => exact PySem.P.mul_str (by decide) (fun _ _ => by decide +kernel) (fun _ _ => by decide +kernel) ⟨by decide +kernel, .str (zeros 4), H, I.tok _, ⟨_, by rw [z0]; rfl⟩, q⟩
end
end K20
set_option Elab.async false
set_option linter.all false
set_option maxRecDepth 100000
set_option maxHeartbeats 4000000
set_option pp.maxSteps 400
set_option pp.deepTerms false
/-! Things of any kind, own objects among them. -/
namespace Th
open PySem PySem.Spec PyProof.Rows L2
inductive T
  | none
  | bool (b : Bool)
  | int (i : Int)
  | str (x : Str)
  | list (ds : List T)
  | tuple (ds : List T)
  | dict
  | own (c : Addr)
/-- what is known of an own class: what isinstance asks of its objects -/
structure Ow (K : PySem.W.Frag) (C : Addr) : Prop where
  cl : Cls K C
  ha : PySem.W.findIn K (.ref C) "__class__" = some (some (.builtin "object.__class__"))
  hn : PySem.W.specialIn K (.builtin "object.__class__") "__get__" = some (some (.builtin "getset_descriptor.__get__"))
  htk : PySem.W.takesIn K (.builtin "object.__class__") = some true
  hm : PySem.W.mroIn K C (.type "object") = some true
  kS : PySem.W.kitOne K (.ref C) (.type "str") = some false
  kT : PySem.W.kitOne K (.ref C) (.type "tuple") = some false
  kI : PySem.W.kitOne K (.ref C) (.type "int") = some false
  kB : PySem.W.kitOne K (.ref C) (.type "bool") = some false
mutual
inductive Dz (K : PySem.W.Frag) (H : Hp) : V → T → Prop
  | non : Dz K H .non .none
  | bl (b : Bool) : Dz K H (.bl b) (.bool b)
  | int (i : Int) : Dz K H (.int i) (.int i)
  | str (x : Str) : Dz K H (.str x) (.str x)
  | lst {a : Addr} {xs : List V} {ds : List T} : H a = some (.lst xs) → DzAll K H xs ds → Dz K H (.ref a) (.list ds)
  | tup {a : Addr} {xs : List V} {ds : List T} : H a = some (.tup xs) → DzAll K H xs ds → Dz K H (.ref a) (.tuple ds)
  | dct {a : Addr} : H a = some (.dK []) → Dz K H (.ref a) .dict
  | own {a C dx : Addr} {fs : List (Str × V)} : H a = some (.ins C dx fs) → Ow K C → Dz K H (.ref a) (.own C)
inductive DzAll (K : PySem.W.Frag) (H : Hp) : List V → List T → Prop
  | nil : DzAll K H [] []
  | cons {v : V} {vs : List V} {d : T} {ds : List T} : Dz K H v d → DzAll K H vs ds → DzAll K H (v :: vs) (d :: ds)
end
section
variable {K : PySem.W.Frag} {H H' : Hp}
mutual
/-- what is read of a thing stays while its objects do -/
theorem Dz.keep (s : ∀ b o, H b = some o → H' b = some o) : ∀ {v : V} {d : T}, Dz K H v d → Dz K H' v d
  | _, _, .non => .non
  | _, _, .bl b => .bl b
  | _, _, .int i => .int i
  | _, _, .str x => .str x
  | _, _, .lst e r => .lst (s _ _ e) (DzAll.keep s r)
  | _, _, .tup e r => .tup (s _ _ e) (DzAll.keep s r)
  | _, _, .dct e => .dct (s _ _ e)
  | _, _, .own e o => .own (s _ _ e) o
theorem DzAll.keep (s : ∀ b o, H b = some o → H' b = some o) : ∀ {v : List V} {d : List T}, DzAll K H v d → DzAll K H' v d
  | _, _, .nil => .nil
  | _, _, .cons h r => .cons (Dz.keep s h) (DzAll.keep s r)
end
theorem Dz.same {v : V} {d : T} (h : Dz K H v d) (s : L2.Same H H') : Dz K H' v d := h.keep s
theorem DzAll.same {v : List V} {d : List T} (h : DzAll K H v d) (s : L2.Same H H') : DzAll K H' v d := h.keep s
/-- the kind of a thing -/
def kindD : T → Value
  | .none => .type "NoneType"
  | .bool _ => .type "bool"
  | .int _ => .type "int"
  | .str _ => .type "str"
  | .list _ => .type "list"
  | .tuple _ => .type "tuple"
  | .dict => .type "dict"
  | .own c => .ref c
theorem Dz.ty {v : V} {d : T} (h : Dz K H v d) : TyX K H v (kindD d) := by
  cases h with
  | non => exact .base .non
  | bl b => exact .base (.bl b)
  | int i => exact .base (.int i)
  | str x => exact .base (.str x)
  | lst e _ => exact .base (.lst e)
  | tup e _ => exact .base (.tup e)
  | dct e => exact .base (.dK e)
  | own e o => exact .base (.ins e o.cl o.ha o.hn o.htk o.hm)
def isStr : T → Bool
  | .str _ => true
  | _ => false
def isTup : T → Bool
  | .tuple _ => true
  | _ => false
def isZ : T → Bool
  | .int _ => true
  | _ => false
def isBo : T → Bool
  | .bool _ => true
  | _ => false
def isNone : T → Bool
  | .none => true
  | _ => false
def isOwn (c : Addr) : T → Bool
  | .own d => decide (d = c)
  | _ => false
theorem z_str {v : V} : ∀ {d : T}, Dz K H v d → PySem.W.kitOne K (kindD d) (.type "str") = some (isStr d)
  | .none, _ => kit_ty (a := "NoneType") (b := "str") (r := false) (by decide +kernel)
  | .bool _, _ => kit_ty (a := "bool") (b := "str") (r := false) (by decide +kernel)
  | .int _, _ => kit_ty (a := "int") (b := "str") (r := false) (by decide +kernel)
  | .str _, _ => kit_ty (a := "str") (b := "str") (r := true) (by decide +kernel)
  | .list _, _ => kit_ty (a := "list") (b := "str") (r := false) (by decide +kernel)
  | .tuple _, _ => kit_ty (a := "tuple") (b := "str") (r := false) (by decide +kernel)
  | .dict, _ => kit_ty (a := "dict") (b := "str") (r := false) (by decide +kernel)
  | .own _, .own _ o => o.kS
theorem z_tup {v : V} : ∀ {d : T}, Dz K H v d → PySem.W.kitOne K (kindD d) (.type "tuple") = some (isTup d)
  | .none, _ => kit_ty (a := "NoneType") (b := "tuple") (r := false) (by decide +kernel)
  | .bool _, _ => kit_ty (a := "bool") (b := "tuple") (r := false) (by decide +kernel)
  | .int _, _ => kit_ty (a := "int") (b := "tuple") (r := false) (by decide +kernel)
  | .str _, _ => kit_ty (a := "str") (b := "tuple") (r := false) (by decide +kernel)
  | .list _, _ => kit_ty (a := "list") (b := "tuple") (r := false) (by decide +kernel)
  | .tuple _, _ => kit_ty (a := "tuple") (b := "tuple") (r := true) (by decide +kernel)
  | .dict, _ => kit_ty (a := "dict") (b := "tuple") (r := false) (by decide +kernel)
  | .own _, .own _ o => o.kT
theorem z_int {v : V} : ∀ {d : T}, Dz K H v d → PySem.W.kitOne K (kindD d) (.type "int") = some (isZ d || isBo d)
  | .none, _ => kit_ty (a := "NoneType") (b := "int") (r := false) (by decide +kernel)
  | .bool _, _ => kit_ty (a := "bool") (b := "int") (r := true) (by decide +kernel)
  | .int _, _ => kit_ty (a := "int") (b := "int") (r := true) (by decide +kernel)
  | .str _, _ => kit_ty (a := "str") (b := "int") (r := false) (by decide +kernel)
  | .list _, _ => kit_ty (a := "list") (b := "int") (r := false) (by decide +kernel)
  | .tuple _, _ => kit_ty (a := "tuple") (b := "int") (r := false) (by decide +kernel)
  | .dict, _ => kit_ty (a := "dict") (b := "int") (r := false) (by decide +kernel)
  | .own _, .own _ o => o.kI
theorem z_bool {v : V} : ∀ {d : T}, Dz K H v d → PySem.W.kitOne K (kindD d) (.type "bool") = some (isBo d)
  | .none, _ => kit_ty (a := "NoneType") (b := "bool") (r := false) (by decide +kernel)
  | .bool _, _ => kit_ty (a := "bool") (b := "bool") (r := true) (by decide +kernel)
  | .int _, _ => kit_ty (a := "int") (b := "bool") (r := false) (by decide +kernel)
  | .str _, _ => kit_ty (a := "str") (b := "bool") (r := false) (by decide +kernel)
  | .list _, _ => kit_ty (a := "list") (b := "bool") (r := false) (by decide +kernel)
  | .tuple _, _ => kit_ty (a := "tuple") (b := "bool") (r := false) (by decide +kernel)
  | .dict, _ => kit_ty (a := "dict") (b := "bool") (r := false) (by decide +kernel)
  | .own _, .own _ o => o.kB
/-- what isinstance with an own class tells of all kinds that may stand there -/
structure IsC (K : PySem.W.Frag) (cs : List Addr) (c : Addr) : Prop where
  no : ∀ t ∈ (["NoneType", "bool", "int", "str", "list", "tuple", "dict"] : List String), PySem.W.kitOne K (.type t) (.ref c) = some false
  ow : ∀ d ∈ cs, PySem.W.kitOne K (.ref d) (.ref c) = some (decide (d = c))
theorem z_own {cs : List Addr} {c : Addr} (i : IsC K cs c) : ∀ d : T, (∀ e, d = .own e → e ∈ cs) → PySem.W.kitOne K (kindD d) (.ref c) = some (isOwn c d)
  | .none, _ => i.no _ (by simp)
  | .bool _, _ => i.no _ (by simp)
  | .int _, _ => i.no _ (by simp)
  | .str _, _ => i.no _ (by simp)
  | .list _, _ => i.no _ (by simp)
  | .tuple _, _ => i.no _ (by simp)
  | .dict, _ => i.no _ (by simp)
  | .own e, h => i.ow e (h e rfl)
theorem dz_get : ∀ {xs : List V} {ds : List T} {i : Nat} {x : V}, DzAll K H xs ds → xs[i]? = some x → ∃ d, ds[i]? = some d ∧ Dz K H x d
  | _, _, 0, _, .cons h _, e => ⟨_, rfl, by cases Option.some.inj e; exact h⟩
  | _, _, i + 1, _, .cons _ r, e => dz_get (i := i) r e
theorem dz_len : ∀ {xs : List V} {ds : List T}, DzAll K H xs ds → xs.length = ds.length
  | _, _, .nil => rfl
  | _, _, .cons _ r => congrArg (· + 1) (dz_len r)
theorem dz_cat : ∀ {xs ys : List V} {ds es : List T}, DzAll K H xs ds → DzAll K H ys es → DzAll K H (xs ++ ys) (ds ++ es)
  | _, _, _, _, .nil, q => q
  | _, _, _, _, .cons h r, q => .cons h (dz_cat r q)
theorem dz_rev : ∀ {xs : List V} {ds : List T}, DzAll K H xs ds → DzAll K H xs.reverse ds.reverse
  | _, _, .nil => .nil
  | _, _, .cons h r => by
    rw [List.reverse_cons, List.reverse_cons]
    exact dz_cat (dz_rev r) (.cons h .nil)
theorem dz_drop : ∀ (k : Nat) {xs : List V} {ds : List T}, DzAll K H xs ds → DzAll K H (xs.drop k) (ds.drop k)
  | 0, _, _, h => h
  | _ + 1, _, _, .nil => .nil
  | k + 1, _, _, .cons _ r => dz_drop k r
theorem dz_take : ∀ (k : Nat) {xs : List V} {ds : List T}, DzAll K H xs ds → DzAll K H (xs.take k) (ds.take k)
  | 0, _, _, _ => .nil
  | _ + 1, _, _, .nil => .nil
  | k + 1, _, _, .cons h r => .cons h (dz_take k r)
mutual
/-- own objects of these classes alone; texts of plain signs, not long; no row longer than n -/
def ok (cs : List Addr) (n : Nat) : T → Prop
  | .str x => x.length ≤ 2000 ∧ ∀ c ∈ x.cps.toList, c < 128
  | .list ds => ds.length ≤ n ∧ oks cs n ds
  | .tuple ds => ds.length ≤ n ∧ oks cs n ds
  | .own c => c ∈ cs
  | _ => True
def oks (cs : List Addr) (n : Nat) : List T → Prop
  | [] => True
  | d :: ds => ok cs n d ∧ oks cs n ds
end
mutual
theorem ok_le {cs : List Addr} {n m : Nat} (l : n ≤ m) : ∀ {d : T}, ok cs n d → ok cs m d
  | .none, _ => trivial
  | .bool _, _ => trivial
  | .int _, _ => trivial
  | .str _, h => by simp only [ok] at h ⊢; exact h
  | .list _, h => by simp only [ok] at h ⊢; exact ⟨Nat.le_trans h.1 l, oks_le l h.2⟩
  | .tuple _, h => by simp only [ok] at h ⊢; exact ⟨Nat.le_trans h.1 l, oks_le l h.2⟩
  | .dict, _ => trivial
  | .own _, h => by simp only [ok] at h ⊢; exact h
theorem oks_le {cs : List Addr} {n m : Nat} (l : n ≤ m) : ∀ {ds : List T}, oks cs n ds → oks cs m ds
  | [], _ => trivial
  | _ :: _, h => by simp only [oks] at h ⊢; exact ⟨ok_le l h.1, oks_le l h.2⟩
end
theorem oks_mem {cs : List Addr} {n : Nat} : ∀ {ds : List T}, oks cs n ds ↔ ∀ d ∈ ds, ok cs n d
  | [] => by simp [oks]
  | d :: ds => by simp only [oks, List.mem_cons, forall_eq_or_imp]; rw [oks_mem (ds := ds)]
end
end Th
set_option Elab.async false
set_option linter.all false
set_option maxRecDepth 100000
set_option maxHeartbeats 4000000
set_option pp.maxSteps 400
set_option pp.deepTerms false
namespace K20
open PySem PySem.Spec PyProof.Rows L2
open Xk Az Xtx
section
variable {P : Program} {w : World} {K : PySem.W.Frag} {mg : Str → Option Value} {base : Heap} {C CL : Addr}
/-- a def that may be called by its name -/
structure Ca (P : Program) (w : World) (K : PySem.W.Frag) (mg : Str → Option Value) (base : Heap) (k : Nat) (x : Str) (ps : List Str) (sp : Sp) : Prop where
  ex : ∃ (f : Addr) (fd : FuncData), FnOk P w K mg base CX0 k f fd ps sp ∧ mg x = some (.ref f) ∧ PySem.W.keepIn K (.ref f) = true ∧ Binds K fd ps []
/-- a def of the text, as the head finds it -/
structure Df (K : PySem.W.Frag) (mg : Str → Option Value) (x : Str) (ps : List Str) (st : Stmt) (f : Addr) (fd : FuncData) : Prop where
  fn : Fun K x x st f fd
  mgf : mg x = some (.ref f)
  bd : Binds K fd ps []
theorem Df.ca {k : Nat} {x : Str} {ps : List Str} {st : Stmt} {f : Addr} {fd : FuncData} {sp : Sp} (d : Df K mg x ps st f fd)
    (h : FnOk P w K mg base CX0 k f fd ps sp) : Ca P w K mg base k x ps sp := ⟨f, fd, h, d.mgf, d.fn.kp, d.bd⟩
section
variable {X : Cx} {k j : Nat} {x : Str} {ps : List Str} {sp : Sp} {p pos : Pos} {e : Expr} {es : List Expr} {t : TA}
theorem pe_ca (c : Ca X.prog X.w X.K X.mg X.base k x ps sp) (hr : Room j X.A) (hk : k ≤ j) (hg : Gl X x) (ha : PA X (e :: es) t) (hdb : (x == ("__debug__" : Str)) = false := by decide)
    (he : starEach (e :: es) X.env = (false, eval e X.env) :: starEach es X.env := by rfl) (hpl : (backTo pos (starEach es X.env)).any (·.1) = false := by rfl) :
    PE X (.Call (.Name x p) (e :: es) [] pos) (tCall sp [] E0 t) := by
  obtain ⟨f, fd, F, hm, kp, b⟩ := c.ex
  exact pe_call F (hr.mono hk) hg hm kp b .nil pass0 ha hdb he hpl
end
def small : Str := "abcdefghijklmnopqrstuvwxyz"
def signs : Str := "abcdefghijklmnopqrstuvwxyzABCDEFGHIJKLMNOPQRSTUVWXYZ0123456789 '-."
def codes : Str := "ABCDEFGHIJKLMNOPQRSTUVWXYZ0123456789"
/-- the fields, and the words ahead of what is told in them -/
def flds : List Str := ["code", "title", "players", "day", "length"]
/-- what the top has left, besides the defs -/
structure Txt (K : PySem.W.Frag) (mg : Str → Option Value) (C CL : Addr) : Prop where
  cl : Cls K C
  nY : NoAttr K C "year"
  nM : NoAttr K C "month"
  nD : NoAttr K C "day"
  mgC : mg "Day" = some (.ref C)
  clL : Cls K CL
  nS : NoAttr K CL "seconds"
  mgL : mg "Length" = some (.ref CL)
  ins : C8.InsC K C
  insL : C8.InsC K CL
  iD : Th.IsC K [C, CL] C
  iL : Th.IsC K [C, CL] CL
  oD : Th.Ow K C
  oL : Th.Ow K CL
  cKEY_PARTS : ∃ t, mg "KEY_PARTS" = some (.int 2 t)
  cLONGEST_WORD : ∃ t, mg "LONGEST_WORD" = some (.int 8 t)
  cLONGEST_CODE : ∃ t, mg "LONGEST_CODE" = some (.int 12 t)
  cMOST_PLAYERS : ∃ t, mg "MOST_PLAYERS" = some (.int 8 t)
  cLAST_YEAR : ∃ t, mg "LAST_YEAR" = some (.int 9999 t)
  cMONTHS : ∃ t, mg "MONTHS" = some (.int 12 t)
  cFEBRUARY : ∃ t, mg "FEBRUARY" = some (.int 2 t)
  cMOST_SECONDS : ∃ t, mg "MOST_SECONDS" = some (.int 359999 t)
  cSHORTEST_TONGUE : ∃ t, mg "SHORTEST_TONGUE" = some (.int 2 t)
  cLONGEST_TONGUE : ∃ t, mg "LONGEST_TONGUE" = some (.int 3 t)
  cLONGEST_TEXT : ∃ t, mg "LONGEST_TEXT" = some (.int 40 t)
  cSMALL_LETTERS : ∃ t, mg "SMALL_LETTERS" = some (.str small t)
  cTEXT_SIGNS : ∃ t, mg "TEXT_SIGNS" = some (.str signs t)
  cCODE_SIGNS : ∃ t, mg "CODE_SIGNS" = some (.str codes t)
  md : ∃ a, mg "MONTH_DAYS" = some (.ref a) ∧ ∀ H, SqT K H a ([31, 28, 31, 30, 31, 30, 31, 31, 30, 31, 30, 31].map V.int)
  fd : ∃ a, mg "FIELDS" = some (.ref a) ∧ (∃ o, K.lookup a = some o ∧ o.cls = .type "tuple" ∧ o.dict = none) ∧ ∀ H, SqT K H a (flds.map V.str)
  isi : mg "isinstance" = none
  int : mg "int" = none
  bool : mg "bool" = none
  str : mg "str" = none
  tuple : mg "tuple" = none
  list : mg "list" = none
  len : mg "len" = none
  all : mg "all" = none
  range : mg "range" = none
  repr : mg "repr" = none
  max : mg "max" = none
  min : mg "min" = none
  sorted : mg "sorted" = none
  zip : mg "zip" = none
  set : mg "set" = none
  enumerate : mg "enumerate" = none
section
variable {K : PySem.W.Frag} {mg : Str → Option Value} {C CL : Addr}
theorem Txt.sm (T : Txt K mg C CL) : ∃ t, mg "SMALL_LETTERS" = some (.str small t) := T.cSMALL_LETTERS
theorem Txt.sg (T : Txt K mg C CL) : ∃ t, mg "TEXT_SIGNS" = some (.str signs t) := T.cTEXT_SIGNS
theorem Txt.st (T : Txt K mg C CL) : ∃ t, mg "SHORTEST_TONGUE" = some (.int 2 t) := T.cSHORTEST_TONGUE
theorem Txt.lt (T : Txt K mg C CL) : ∃ t, mg "LONGEST_TONGUE" = some (.int 3 t) := T.cLONGEST_TONGUE
theorem Txt.lx (T : Txt K mg C CL) : ∃ t, mg "LONGEST_TEXT" = some (.int 40 t) := T.cLONGEST_TEXT
theorem Txt.lw (T : Txt K mg C CL) : ∃ t, mg "LONGEST_WORD" = some (.int 8 t) := T.cLONGEST_WORD
theorem Txt.cs (T : Txt K mg C CL) : ∃ t, mg "CODE_SIGNS" = some (.str codes t) := T.cCODE_SIGNS
theorem Txt.lc (T : Txt K mg C CL) : ∃ t, mg "LONGEST_CODE" = some (.int 12 t) := T.cLONGEST_CODE
theorem Txt.kp (T : Txt K mg C CL) : ∃ t, mg "KEY_PARTS" = some (.int 2 t) := T.cKEY_PARTS
theorem Txt.mp (T : Txt K mg C CL) : ∃ t, mg "MOST_PLAYERS" = some (.int 8 t) := T.cMOST_PLAYERS
end
def spWhole (K : PySem.W.Frag) : Sp := fun vs H Q _ => ∃ (v : V) (d : PyData), vs = [v] ∧ Dz K H v d ∧ Q (.bl (isI v)) H
def spWithin (K : PySem.W.Frag) : Sp := fun vs H Q _ => ∃ (v : V) (d : PyData) (a b : Int), vs = [v, .int a, .int b] ∧ Dz K H v d ∧ Q (.bl (wiV v a b)) H
def spLeap : Sp := fun vs H Q _ => ∃ y : Int, vs = [.int y] ∧ Q (.bl (leap y)) H
def spDaysIn : Sp := fun vs H Q _ => ∃ y m : Int, vs = [.int y, .int m] ∧ 1 ≤ m ∧ m ≤ 12 ∧ Q (.int (lastDay y m)) H
def spMakes (K : PySem.W.Frag) : Sp := fun vs H Q _ => ∃ (y m d : V) (dy dm dd : PyData), vs = [y, m, d] ∧ Dz K H y dy ∧ Dz K H m dm ∧ Dz K H d dd ∧ Q (.bl (goodV y m d)) H
theorem ok_whole {f : Addr} {fd : FuncData} {e : Ex} (D : Df K mg "is_whole" ["thing"] sIsWhole f fd) (T : Txt K mg C CL) : FnOk P w K mg base CX0 1 f fd ["thing"] (spWhole K) := by
  refine D.fn.ok scIsWhole (fun vs H Q E h => ?_) (fun cdv A outer s H vs Q E hr h => ?_)
  · obtain ⟨v, d, rfl, h, q⟩ := h
    rfl
  · obtain ⟨v, d, rfl, h, q⟩ := h
    refine ⟨_, (pss_one (ps_ret (pe_and (pe_callB call_isi (by rfl) T.isi (by decide +kernel) (pa_cons (pv 0) (pa_cons (pe_bltn (v := .ty "int") (by rfl) T.int (by decide +kernel) rfl) pa_nil))) (pe_one (pe_not (pe_callB call_isi (by rfl) T.isi (by decide +kernel) (pa_cons (pv 0) (pa_cons (pe_bltn (v := .ty "bool") (by rfl) T.bool (by decide +kernel) rfl) pa_nil)))))))), ?_⟩
    cases h with
    | int i =>
      refine ⟨_, rfl, _, _, _, _, true, rfl, .ty _, (.base (.int i)), kit_ty (by decide +kernel), true, rfl, iteT ?_⟩
      exact ⟨_, rfl, _, _, _, _, false, rfl, .ty _, (.base (.int i)), kit_ty (by decide +kernel), false, rfl, q⟩
    | bl b =>
      refine ⟨_, rfl, _, _, _, _, true, rfl, .ty _, (.base (.bl b)), kit_ty (by decide +kernel), true, rfl, iteT ?_⟩
      exact ⟨_, rfl, _, _, _, _, true, rfl, .ty _, (.base (.bl b)), kit_ty (by decide +kernel), true, rfl, q⟩
    | non => exact ⟨_, rfl, _, _, _, _, false, rfl, .ty _, (.base .non : TyX K H .non (.type "NoneType")), kit_ty (by decide +kernel), false, rfl, iteF q⟩
    | str x => exact ⟨_, rfl, _, _, _, _, false, rfl, .ty _, (.base (.str x) : TyX K H (.str x) (.type "str")), kit_ty (by decide +kernel), false, rfl, iteF q⟩
    | lst e _ _ => exact ⟨_, rfl, _, _, _, _, false, rfl, .ty _, (.base (.lst e)), kit_ty (by decide +kernel), false, rfl, iteF q⟩
    | tup e _ => exact ⟨_, rfl, _, _, _, _, false, rfl, .ty _, (.base (.tup e)), kit_ty (by decide +kernel), false, rfl, iteF q⟩
    | dct e _ => exact ⟨_, rfl, _, _, _, _, false, rfl, .ty _, (.base (.dK e)), kit_ty (by decide +kernel), false, rfl, iteF q⟩
theorem ok_within {f : Addr} {fd : FuncData} (D : Df K mg "is_within" ["thing", "least", "most"] sIsWithin f fd) (cW : Ca P w K mg base 1 "is_whole" ["thing"] (spWhole K)) : FnOk P w K mg base CX0 2 f fd ["thing", "least", "most"] (spWithin K) := by
  refine D.fn.ok scIsWithin (fun vs H Q E h => ?_) (fun cdv A outer s H vs Q E hr h => ?_)
  · obtain ⟨v, d, a, b, rfl, h, q⟩ := h
    rfl
  · obtain ⟨v, d, a, b, rfl, h, q⟩ := h
    refine ⟨_, (pss_one (ps_ret (pe_and (pe_ca cW hr (by decide) (by rfl) (pa_cons (pv 0) pa_nil)) (pe_one (pe_chain op_le op_le (pv 1) (pv 0) (pv 2)))))), ?_⟩
    refine ⟨_, rfl, v, d, rfl, h, _, rfl, ?_⟩
    cases v with
    | int i =>
      refine iteT ⟨_, rfl, _, rfl, a, i, rfl, rfl, _, rfl, ?_⟩
      have q' : Q (.bl (decide (a ≤ i) && decide (i ≤ b))) H := q
      cases e : decide (a ≤ i) with
      | true =>
        rw [e, Bool.true_and] at q'
        exact iteT ⟨_, rfl, i, b, rfl, rfl, q'⟩
      | false =>
        rw [e, Bool.false_and] at q'
        exact iteF q'
    | _ => exact iteF q
theorem ok_leap {f : Addr} {fd : FuncData} (D : Df K mg "is_leap" ["year"] sIsLeap f fd) : FnOk P w K mg base CX0 1 f fd ["year"] spLeap := by
  refine D.fn.ok scIsLeap (fun vs H Q E h => ?_) (fun cdv A outer s H vs Q E hr h => ?_)
  · obtain ⟨y, rfl, _⟩ := h
    rfl
  · obtain ⟨y, rfl, q⟩ := h
    refine ⟨_, pss_one (ps_ret (pe_and (pe_cmpR op_eq (pe_op op_mod (pv 0) pe_int) pe_int (nomark _))
      (pe_one (pe_or (pe_cmpR op_ne (pe_op op_mod (pv 0) pe_int) pe_int (nomark _)) (pe_one (pe_cmpR op_eq (pe_op op_mod (pv 0) pe_int) pe_int (nomark _))))))), ?_⟩
    have e4 : decide (V.int (y % 4) = V.int 0) = decide (y % 4 = 0) := decide_eq_decide.mpr ⟨fun z => V.int.inj z, fun z => by rw [z]⟩
    have e1 : decide (V.int (y % 100) = V.int 0) = decide (y % 100 = 0) := decide_eq_decide.mpr ⟨fun z => V.int.inj z, fun z => by rw [z]⟩
    have e0 : decide (V.int (y % 400) = V.int 0) = decide (y % 400 = 0) := decide_eq_decide.mpr ⟨fun z => V.int.inj z, fun z => by rw [z]⟩
    refine ⟨_, rfl, y, 4, rfl, rfl, (by show (0 : Int) < 4; decide), rfl, _, rfl, ?_⟩
    rw [e4]
    refine ite2 (fun c4 => ?_) (fun c4 => ?_)
    · refine ⟨_, rfl, y, 100, rfl, rfl, (by show (0 : Int) < 100; decide), rfl, _, rfl, ?_⟩
      rw [e1]
      refine ite2 (fun c1 => ?_) (fun c1 => ?_)
      · have z : leap y = true := by
          have a := of_decide_eq_true c4
          have b : ¬ y % 100 = 0 := by simpa using c1
          unfold leap
          simp [a, b]
        rw [z] at q
        exact q
      · refine ⟨_, rfl, y, 400, rfl, rfl, (by show (0 : Int) < 400; decide), rfl, ?_⟩
        rw [e0]
        have z : leap y = decide (y % 400 = 0) := by
          have a := of_decide_eq_true c4
          have b : y % 100 = 0 := by simpa using c1
          unfold leap
          simp [a, b]
        rw [z] at q
        exact q
    · have z : leap y = false := by
        have a : ¬ y % 4 = 0 := by simpa using c4
        unfold leap
        simp [a]
      rw [z] at q
      exact q
theorem month_at (y m : Int) (h1 : 1 ≤ m) (h2 : m ≤ 12) (n : ¬ (m = 2 ∧ leap y = true)) :
    atI ([31, 28, 31, 30, 31, 30, 31, 31, 30, 31, 30, 31].map V.int) (m - 1) = some (.int (lastDay y m)) := by
  obtain ⟨j, rfl⟩ : ∃ j : Nat, m = (j : Int) + 1 := ⟨(m - 1).toNat, by omega⟩
  have hj : j < 12 := by omega
  rw [show (j : Int) + 1 - 1 = (j : Int) by omega]
  refine atI_nat ?_
  match j, hj with
  | 0, _ => simp [lastDay]
  | 1, _ =>
    have l : ¬ leap y = true := fun z => n ⟨by decide, z⟩
    simp [lastDay, l]
  | 2, _ => simp [lastDay]
  | 3, _ => simp [lastDay]
  | 4, _ => simp [lastDay]
  | 5, _ => simp [lastDay]
  | 6, _ => simp [lastDay]
  | 7, _ => simp [lastDay]
  | 8, _ => simp [lastDay]
  | 9, _ => simp [lastDay]
  | 10, _ => simp [lastDay]
  | 11, _ => simp [lastDay]
theorem ok_daysIn {f : Addr} {fd : FuncData} {e : Ex} (D : Df K mg "days_in" ["year", "month"] sDaysIn f fd) (T : Txt K mg C CL) (cL : Ca P w K mg base 1 "is_leap" ["year"] spLeap) :
    FnOk P w K mg base CX0 2 f fd ["year", "month"] spDaysIn := by
  obtain ⟨tF, gF⟩ := T.cFEBRUARY
  obtain ⟨aM, gM, sM⟩ := T.md
  refine D.fn.ok scDaysIn (fun vs H Q E h => ?_) (fun cdv A outer s H vs Q E hr h => ?_)
  · obtain ⟨y, m, rfl, _⟩ := h
    rfl
  · obtain ⟨y, m, rfl, h1, h2, q⟩ := h
    refine ⟨_, pss_cons (ps_if (PW.pt (pw_and (pt_cmpR op_eq (pv 1) (pe_glob (v := .int 2) (by rfl) gF ⟨_, rfl⟩) (nomark _)) (pw_and1 (pt_val (pe_ca cL hr (by decide) (by rfl) (pa_cons (pv 0) pa_nil))))))
      (pss_one (ps_ret pe_int)) pss_nil)
      (pss_one (ps_ret (pe_ix ix_tup (pe_glob (v := .ref aM) (by rfl) gM rfl) (pe_op op_sub (pv 1) pe_int) (fun _ _ => rfl)))), ?_⟩
    refine ⟨_, rfl, rfl, _, rfl, ?_⟩
    rw [dInt]
    refine ite2 (fun c => ?_) (fun c => ?_)
    · have em : m = 2 := of_decide_eq_true c
      refine ⟨_, rfl, y, rfl, _, rfl, ?_⟩
      cases l : leap y with
      | true =>
        have z : lastDay y m = 29 := by
          rw [em]
          simp [lastDay, l]
        rw [z] at q
        exact iteT q
      | false => exact iteF ⟨_, rfl, m, 1, rfl, rfl, aM, _, m - 1, _, rfl, rfl, sM H, month_at y m h1 h2 (fun z => by rw [l] at z; cases z.2), q⟩
    · exact iteF ⟨_, rfl, m, 1, rfl, rfl, aM, _, m - 1, _, rfl, rfl, sM H, month_at y m h1 h2 (fun z => c (decide_eq_true z.1)), q⟩
theorem ok_makes {f : Addr} {fd : FuncData} {e : Ex} (D : Df K mg "makes_day" ["year", "month", "day"] sMakesDay f fd) (T : Txt K mg C CL) (cI : Ca P w K mg base 2 "is_within" ["thing", "least", "most"] (spWithin K)) (cD : Ca P w K mg base 2 "days_in" ["year", "month"] spDaysIn) : FnOk P w K mg base CX0 3 f fd ["year", "month", "day"] (spMakes K) := by
  obtain ⟨tY, gY⟩ := T.cLAST_YEAR
  obtain ⟨tM, gM⟩ := T.cMONTHS
  refine D.fn.ok scMakesDay (fun vs H Q E h => ?_) (fun cdv A outer s H vs Q E hr h => ?_)
  · obtain ⟨y, m, d, dy, dm, dd, rfl, hy, hm, hd, q⟩ := h
    rfl
  · obtain ⟨y, m, d, dy, dm, dd, rfl, hy, hm, hd, q⟩ := h
    refine ⟨_, (pss_cons (ps_if (pt_not (pt_val (pe_ca cI hr (by decide) (by rfl) (pa_cons (pv 0) (pa_cons pe_int (pa_cons (pe_glob (v := .int 9999) (by rfl) gY ⟨_, rfl⟩) pa_nil)))))) (pss_one (ps_ret pe_bl)) pss_nil)
      (pss_cons (ps_if (pt_cmpR op_isN (pv 1) pe_non (nomark _)) (pss_one (ps_ret (pe_cmpR op_isN (pv 2) pe_non (nomark _)))) pss_nil)
      (pss_cons (ps_if (pt_not (pt_val (pe_ca cI hr (by decide) (by rfl) (pa_cons (pv 1) (pa_cons pe_int (pa_cons (pe_glob (v := .int 12) (by rfl) gM ⟨_, rfl⟩) pa_nil)))))) (pss_one (ps_ret pe_bl)) pss_nil)
      (pss_one (ps_ret (pe_or (pe_cmpR op_isN (pv 2) pe_non (nomark _)) (pe_one (pe_ca cI hr (by decide) (by rfl) (pa_cons (pv 2) (pa_cons pe_int (pa_cons (pe_ca cD hr (by decide) (by rfl) (pa_cons (pv 0) (pa_cons (pv 1) pa_nil))) pa_nil))))))))))), ?_⟩
    refine ⟨_, rfl, y, dy, 1, 9999, rfl, hy, _, rfl, ?_⟩
    cases cy : wiV y 1 9999 with
    | false =>
      rw [good_no cy] at q
      exact iteT q
    | true =>
      obtain ⟨i, rfl, _, _⟩ := wiV_int cy
      refine iteF ⟨_, rfl, rfl, _, rfl, ?_⟩
      refine ite2 (fun c => ?_) (fun c => ?_)
      · have em : m = .non := of_decide_eq_true c
        subst em
        rw [good_non cy] at q
        exact ⟨_, rfl, rfl, q⟩
      · have nm : m ≠ .non := fun z => c (decide_eq_true z)
        refine ⟨_, rfl, m, dm, 1, 12, rfl, hm, _, rfl, ?_⟩
        cases cm : wiV m 1 12 with
        | false =>
          rw [good_m cy nm cm] at q
          exact iteT q
        | true =>
          obtain ⟨j, rfl, j1, j2⟩ := wiV_int cm
          rw [good_d cy cm] at q
          refine iteF ⟨_, rfl, rfl, _, rfl, ?_⟩
          refine ite2 (fun c => ?_) (fun c => ?_)
          · rw [if_pos (of_decide_eq_true c)] at q
            exact q
          · rw [if_neg (fun z => c (decide_eq_true z))] at q
            exact ⟨_, rfl, _, rfl, _, rfl, i, j, rfl, j1, j2, d, dd, 1, lastDay i j, rfl, hd, q⟩
theorem len_cps (x : Str) : x.length = x.cps.toList.length := rfl
end
end K20
set_option Elab.async false
set_option linter.all false
set_option maxRecDepth 100000
set_option maxHeartbeats 4000000
set_option pp.maxSteps 400
set_option pp.deepTerms false
namespace K20
open PySem PySem.Spec PyProof.Rows L2
open Xk Az Xtx
section
variable {P : Program} {w : World} {K : PySem.W.Frag} {mg : Str → Option Value} {base : Heap} {C CL : Addr}
theorem oV_dz {H : Hp} : ∀ m : Option Int, Dz K H (oV m) (oD m)
  | none => .non
  | some i => .int i
theorem oV_non (m : Option Int) : oV m = .non ↔ m = none := by cases m <;> simp [oV]
theorem good_iff {y : Int} {m d : Option Int} : goodV (.int y) (oV m) (oV d) = true ↔ Good y m d := by
  unfold Good goodV
  cases m with
  | none => cases d <;> simp [wiV, oV, and_assoc]
  | some i => cases d <;> simp [wiV, oV, and_assoc]
theorem put3 (y : Int) (m d : Option Int) : putF "day" (oV d) (putF "month" (oV m) (putF "year" (.int y) [])) = dayF y m d := by
  show (if ("year" : Str) = "day" then _ else _) = _
  rw [if_neg (by decide +kernel)]
  rfl
def spInit (C : Addr) : Sp := fun vs H Q _ => ∃ (x dx : Addr) (y : Int) (m d : Option Int), vs = [.ref x, .int y, oV m, oV d] ∧ Good y m d ∧ H x = some (.ins C dx []) ∧
  ∀ H' : Hp, (∀ b o, H b = some o → b ≠ x → H' b = some o) → DayAt C H' x y m d → Q .non H'
def spLen (CL : Addr) : Sp := fun vs H Q _ => ∃ (x dx : Addr) (i : Int), vs = [.ref x, .int i] ∧ H x = some (.ins CL dx []) ∧ 0 ≤ i ∧ i ≤ 359999 ∧
  ∀ H' : Hp, (∀ b o, H b = some o → b ≠ x → H' b = some o) → LenAt CL H' x i → Q .non H'
theorem ok_init {f : Addr} {fd : FuncData} (F : FunD K "__init__" "Day.__init__" (defArgs sDayInit) (defBody sDayInit) (defScope sDayInit) [.non, .non] [] f fd) (T : Txt K mg C CL) (cM : Ca P w K mg base 3 "makes_day" ["year", "month", "day"] (spMakes K)) : FnOk P w K mg base CX0 4 f fd ["self", "year", "month", "day"] (spInit C) := by
  refine F.ok scDayInit (fun vs H Q E h => ?_) (fun cdv A outer s H vs Q E hr h => ?_)
  · obtain ⟨x, dx, y, m, d, rfl, g, hx, q⟩ := h
    rfl
  · obtain ⟨x, dx, y, m, d, rfl, g, hx, q⟩ := h
    refine ⟨_, (pss_cons (ps_if (pt_not (pt_val (pe_ca cM hr (by decide) (by rfl) (pa_cons (pv 1) (pa_cons (pv 2) (pa_cons (pv 3) pa_nil)))))) (pss_one ps_no) pss_nil)
      (pss_cons (ps_fld (pv 0) (pv 1) rfl)
      (pss_cons (ps_fld (pv 0) (pv 2) rfl)
      (pss_one (ps_fld (pv 0) (pv 3) rfl))))), ?_⟩
    refine ⟨_, rfl, _, rfl, _, rfl, .int y, oV m, oV d, .int y, oD m, oD d, rfl, .int y, oV_dz m, oV_dz d, _, rfl, ?_⟩
    rw [good_iff.mpr g]
    refine iteF ⟨_, rfl, _, rfl, x, C, dx, [], rfl, hx, T.cl, T.nY, (by decide), ?_⟩
    refine ⟨_, rfl, _, rfl, x, C, dx, _, rfl, upd_same, T.cl, T.nM, (by show 1 < 1000; decide), ?_⟩
    refine ⟨_, rfl, _, rfl, x, C, dx, _, rfl, upd_same, T.cl, T.nD, ?_, ?_⟩
    · show (putF "month" (oV m) [(("year" : Str), V.int y)]).length < 1000
      unfold putF
      split <;> simp [putF]
    · rw [upd_upd, upd_upd]
      refine q _ (fun b o e n => by rw [upd_ne n]; exact e) ⟨dx, ?_⟩
      rw [upd_same]
      exact congrArg (fun z => some (HO.ins C dx z)) (put3 y m d)
theorem init_binds {f : Addr} {fd : FuncData} (F : FunD K "__init__" "Day.__init__" (defArgs sDayInit) (defBody sDayInit) (defScope sDayInit) [.non, .non] [] f fd) : Binds K fd ["self", "year", "month", "day"] [] := by
  obtain ⟨ds, r, b⟩ := F.binds1 (ps := ["self", "year", "month", "day"]) 4 2 (by simp) rfl fun T kV doc pm an cdv ct us its h1 h2 => by
    match us, its, h1, h2 with
    | [_, _, _, _], [_, _], _, _ => exact ⟨_, rfl, rfl⟩
  cases r
  exact b
theorem ok_len {f : Addr} {fd : FuncData} (F : Fun K "__init__" "Length.__init__" sLengthInit f fd) (T : Txt K mg C CL) (cI : Ca P w K mg base 2 "is_within" ["thing", "least", "most"] (spWithin K)) : FnOk P w K mg base CX0 3 f fd ["self", "seconds"] (spLen CL) := by
  obtain ⟨_, gKEY_PARTS⟩ := T.cKEY_PARTS
  obtain ⟨_, gLONGEST_WORD⟩ := T.cLONGEST_WORD
  obtain ⟨_, gLONGEST_CODE⟩ := T.cLONGEST_CODE
  obtain ⟨_, gMOST_PLAYERS⟩ := T.cMOST_PLAYERS
  obtain ⟨_, gLAST_YEAR⟩ := T.cLAST_YEAR
  obtain ⟨_, gMONTHS⟩ := T.cMONTHS
  obtain ⟨_, gFEBRUARY⟩ := T.cFEBRUARY
  obtain ⟨_, gMOST_SECONDS⟩ := T.cMOST_SECONDS
  obtain ⟨_, gSHORTEST_TONGUE⟩ := T.cSHORTEST_TONGUE
  obtain ⟨_, gLONGEST_TONGUE⟩ := T.cLONGEST_TONGUE
  obtain ⟨_, gLONGEST_TEXT⟩ := T.cLONGEST_TEXT
  obtain ⟨_, gSMALL_LETTERS⟩ := T.cSMALL_LETTERS
  obtain ⟨_, gTEXT_SIGNS⟩ := T.cTEXT_SIGNS
  obtain ⟨_, gCODE_SIGNS⟩ := T.cCODE_SIGNS
  refine F.ok scLengthInit (fun vs H Q E h => ?_) (fun cdv A outer s H vs Q E hr h => ?_)
  · obtain ⟨x, dx, i, rfl, hx, h0, h1, q⟩ := h
    rfl
  · obtain ⟨x, dx, i, rfl, hx, h0, h1, q⟩ := h
    refine ⟨_, (pss_cons (ps_if (pt_not (pt_val (pe_ca cI hr (by decide) (by rfl) (pa_cons (pv 1) (pa_cons pe_int (pa_cons (pe_glob (v := .int 359999) (by rfl) gMOST_SECONDS ⟨_, rfl⟩) pa_nil)))))) (pss_one ps_no) pss_nil)
      (pss_one (ps_fld (pv 0) (pv 1) rfl))), ?_⟩
    refine ⟨_, rfl, .int i, .int i, 0, 359999, rfl, .int i, _, rfl, ?_⟩
    have c : wiV (.int i) 0 359999 = true := by simp [wiV, h0, h1]
    rw [c]
    refine iteF ⟨_, rfl, _, rfl, x, CL, dx, [], rfl, hx, T.clL, T.nS, (by decide), ?_⟩
    exact q _ (fun b o e n => by rw [upd_ne n]; exact e) ⟨dx, upd_same⟩
def addP (acc : Str) : Option Int → Str
  | none => acc
  | some i => acc ++ "-" ++ zpad 2 i
def dayText (y : Int) (m d : Option Int) : Str := addP (addP (zpad 4 y) m) d
def toldS : Int → Option Int → Option Int → List Str
  | y, none, _ => [Str.ofString (toString y)]
  | y, some m, none => [Str.ofString (toString y), Str.ofString (toString m)]
  | y, some m, some d => [Str.ofString (toString y), Str.ofString (toString m), Str.ofString (toString d)]
def dayRepr (y : Int) (m d : Option Int) : Str := "Day(" ++ Str.join ", " (toldS y m d) ++ ")"
def spStrD (C : Addr) : Sp := fun vs H Q _ => ∃ (a : Addr) (y : Int) (m d : Option Int), vs = [.ref a] ∧ DayAt C H a y m d ∧ Good y m d ∧ Q (.str (dayText y m d)) H
def spReprD (C : Addr) : Sp := fun vs H Q _ => ∃ (a : Addr) (y : Int) (m d : Option Int), vs = [.ref a] ∧ DayAt C H a y m d ∧ Good y m d ∧ Q (.str (dayRepr y m d)) H
def TinyO : Option Int → Prop
  | none => True
  | some i => Tiny i
theorem good_tiny {y : Int} {m d : Option Int} (g : Good y m d) : Tiny y ∧ TinyO m ∧ TinyO d := by
  obtain ⟨g1, g2, g3⟩ := g
  refine ⟨⟨by omega, by omega⟩, ?_⟩
  cases m with
  | none =>
    have : d = none := g3
    subst this
    exact ⟨trivial, trivial⟩
  | some i =>
    obtain ⟨g4, g5, g6⟩ := g3
    have l := lastDay_ge y i
    refine ⟨⟨by omega, by omega⟩, ?_⟩
    cases d with
    | none => trivial
    | some j => exact ⟨by have := g6.1; omega, by have := g6.2; omega⟩
theorem int_small {i : Int} (h : Tiny i) : i.natAbs.log2 < 1920 := by
  have h1 : i.natAbs < 2 ^ 14 := by
    obtain ⟨a, b⟩ := h
    omega
  exact Nat.lt_of_lt_of_le (PySem.Flt.log2_lt_of (by decide) h1) (by decide)
theorem int_short {i : Int} (h : Tiny i) : (PyData.shown (.int i)).length ≤ 4 := by
  simp only [PyData.shown]
  exact toString_length_le h.1 (by decide) (by have := h.2; omega)
theorem emp : Str.empty.length = 0 := rfl
theorem dsh : ("-" : Str).length = 1 := by decide +kernel
theorem ok_strD {f : Addr} {fd : FuncData} (F : Fun K "__str__" "Day.__str__" sDayStr f fd) (T : Txt K mg C CL) (nd : base.NoDigits) : FnOk P w K mg base CX0 1 f fd ["self"] (spStrD C) := by
  refine F.ok scDayStr (fun vs H Q E h => ?_) (fun cdv A outer s H vs Q E hr h => ?_)
  · obtain ⟨a, y, m, d, rfl, _⟩ := h
    rfl
  · obtain ⟨a, y, m, d, rfl, ⟨dx, ha⟩, g, q⟩ := h
    obtain ⟨ty, tm, td⟩ := good_tiny g
    refine ⟨_, pss_cons (ps_if (pt_cmpR op_isN (pe_fld (pv 0) rfl) pe_non (nomark _)) (pss_one (ps_ret (pe_joined1 (pe_fmtS (spec := "04d") (W := 4) nd (by decide +kernel) (by decide +kernel) (by decide +kernel) (by decide +kernel) (pe_fld (pv 0) rfl) (pe_joined1 pe_str))))) pss_nil)
      (pss_cons (ps_if (pt_cmpR op_isN (pe_fld (pv 0) rfl) pe_non (nomark _)) (pss_one (ps_ret (pe_joined (.cons (pe_fmtS (spec := "04d") (W := 4) nd (by decide +kernel) (by decide +kernel) (by decide +kernel) (by decide +kernel) (pe_fld (pv 0) rfl) (pe_joined1 pe_str))
          (.cons pe_str (.cons (pe_fmtS (spec := "02d") (W := 2) nd (by decide +kernel) (by decide +kernel) (by decide +kernel) (by decide +kernel) (pe_fld (pv 0) rfl) (pe_joined1 pe_str)) .nil)))))) pss_nil)
      (pss_one (ps_ret (pe_joined (.cons (pe_fmtS (spec := "04d") (W := 4) nd (by decide +kernel) (by decide +kernel) (by decide +kernel) (by decide +kernel) (pe_fld (pv 0) rfl) (pe_joined1 pe_str))
          (.cons pe_str (.cons (pe_fmtS (spec := "02d") (W := 2) nd (by decide +kernel) (by decide +kernel) (by decide +kernel) (by decide +kernel) (pe_fld (pv 0) rfl) (pe_joined1 pe_str))
          (.cons pe_str (.cons (pe_fmtS (spec := "02d") (W := 2) nd (by decide +kernel) (by decide +kernel) (by decide +kernel) (by decide +kernel) (pe_fld (pv 0) rfl) (pe_joined1 pe_str)) .nil))))))))), ?_⟩
    have l4 := zpad_len (W := 4) (by decide) ty
    cases m with
    | none =>
      have ed : d = none := g.2.2
      subst ed
      refine ⟨_, rfl, a, C, dx, _, _, rfl, ha, T.cl, T.nM, f_m _ _ _, rfl, _, rfl, iteT ?_⟩
      exact ⟨_, rfl, a, C, dx, _, _, rfl, ha, T.cl, T.nY, f_y _ _ _, y, rfl, ty, q⟩
    | some i =>
      have l2 := zpad_len (W := 2) (i := i) (by decide) tm
      refine ⟨_, rfl, a, C, dx, _, _, rfl, ha, T.cl, T.nM, f_m _ _ _, rfl, _, rfl, iteF ?_⟩
      refine ⟨_, rfl, a, C, dx, _, _, rfl, ha, T.cl, T.nD, f_d _ _ _, rfl, _, rfl, ?_⟩
      cases d with
      | none =>
        refine iteT ⟨_, rfl, a, C, dx, _, _, rfl, ha, T.cl, T.nY, f_y _ _ _, y, rfl, ty, _, rfl, fitN ?_, _, rfl, fitN ?_, _, rfl, a, C, dx, _, _, rfl, ha, T.cl, T.nM, f_m _ _ _, i, rfl, tm, _, rfl, fitN ?_, ?_⟩
        · rw [strLen_append, emp]; omega
        · rw [strLen_append, strLen_append, emp, dsh]; omega
        · rw [strLen_append, strLen_append, strLen_append, emp, dsh]; omega
        · show Q (V.str (Str.empty ++ zpad 4 y ++ "-" ++ zpad 2 i)) H
          rw [Str.empty_append]
          exact q
      | some j =>
        have l3 := zpad_len (W := 2) (i := j) (by decide) td
        refine iteF ⟨_, rfl, a, C, dx, _, _, rfl, ha, T.cl, T.nY, f_y _ _ _, y, rfl, ty, _, rfl, fitN ?_, _, rfl, fitN ?_, _, rfl, a, C, dx, _, _, rfl, ha, T.cl, T.nM, f_m _ _ _, i, rfl, tm, _, rfl, fitN ?_, _, rfl, fitN ?_, _, rfl, a, C, dx, _, _, rfl, ha, T.cl, T.nD, f_d _ _ _, j, rfl, td, _, rfl, fitN ?_, ?_⟩
        · rw [strLen_append, emp]; omega
        · rw [strLen_append, strLen_append, emp, dsh]; omega
        · rw [strLen_append, strLen_append, strLen_append, emp, dsh]; omega
        · rw [strLen_append, strLen_append, strLen_append, strLen_append, emp, dsh]; omega
        · rw [strLen_append, strLen_append, strLen_append, strLen_append, strLen_append, emp, dsh]; omega
        · show Q (V.str (Str.empty ++ zpad 4 y ++ "-" ++ zpad 2 i ++ "-" ++ zpad 2 j)) H
          rw [Str.empty_append]
          exact q
theorem dPar : ("Day(" : Str).length = 4 := by decide +kernel
theorem dCom : (", " : Str).length = 2 := by decide +kernel
theorem dEnd : (")" : Str).length = 1 := by decide +kernel
theorem txt_len {i : Int} (h : Tiny i) : (Str.ofString (toString i)).length ≤ 4 := by
  rw [len_text h.1]
  exact nDig_le h
theorem ok_reprD {f : Addr} {fd : FuncData} (F : Fun K "__repr__" "Day.__repr__" sDayRepr f fd) (T : Txt K mg C CL) : FnOk P w K mg base CX0 1 f fd ["self"] (spReprD C) := by
  refine F.ok scDayRepr (fun vs H Q E h => ?_) (fun cdv A outer s H vs Q E hr h => ?_)
  · obtain ⟨a, y, m, d, rfl, _⟩ := h
    rfl
  · obtain ⟨a, y, m, d, rfl, ⟨dx, ha⟩, g, q⟩ := h
    obtain ⟨ty, tm, td⟩ := good_tiny g
    refine ⟨_, pss_cons (ps_if (pt_cmpR op_isN (pe_fld (pv 0) rfl) pe_non (nomark _)) (pss_one (ps_ret (pe_joined (.cons pe_str (.cons (pe_fmt (pe_fld (pv 0) rfl)) (.cons pe_str .nil)))))) pss_nil)
      (pss_cons (ps_if (pt_cmpR op_isN (pe_fld (pv 0) rfl) pe_non (nomark _)) (pss_one (ps_ret (pe_joined (.cons pe_str (.cons (pe_fmt (pe_fld (pv 0) rfl)) (.cons pe_str (.cons (pe_fmt (pe_fld (pv 0) rfl)) (.cons pe_str .nil)))))))) pss_nil)
      (pss_one (ps_ret (pe_joined (.cons pe_str (.cons (pe_fmt (pe_fld (pv 0) rfl)) (.cons pe_str (.cons (pe_fmt (pe_fld (pv 0) rfl)) (.cons pe_str (.cons (pe_fmt (pe_fld (pv 0) rfl)) (.cons pe_str .nil))))))))))), ?_⟩
    have ly := txt_len ty
    cases m with
    | none =>
      have ed : d = none := g.2.2
      subst ed
      refine ⟨_, rfl, a, C, dx, _, _, rfl, ha, T.cl, T.nM, f_m _ _ _, rfl, _, rfl, iteT ?_⟩
      refine ⟨_, rfl, fitN ?_, _, rfl, a, C, dx, _, _, rfl, ha, T.cl, T.nY, f_y _ _ _, .inr ⟨y, rfl, int_small ty, _, rfl, fitN ?_, _, rfl, fitN ?_, ?_⟩⟩
      · rw [strLen_append, emp, dPar]; omega
      · rw [strLen_append, strLen_append, emp, dPar]; omega
      · rw [strLen_append, strLen_append, strLen_append, emp, dPar, dEnd]; omega
      · show Q (V.str (Str.empty ++ "Day(" ++ Str.ofString (toString y) ++ ")")) H
        rw [Str.empty_append]
        exact q
    | some i =>
      have li := txt_len (i := i) tm
      refine ⟨_, rfl, a, C, dx, _, _, rfl, ha, T.cl, T.nM, f_m _ _ _, rfl, _, rfl, iteF ?_⟩
      refine ⟨_, rfl, a, C, dx, _, _, rfl, ha, T.cl, T.nD, f_d _ _ _, rfl, _, rfl, ?_⟩
      cases d with
      | none =>
        refine iteT ⟨_, rfl, fitN ?_, _, rfl, a, C, dx, _, _, rfl, ha, T.cl, T.nY, f_y _ _ _, .inr ⟨y, rfl, int_small ty, _, rfl, fitN ?_, _, rfl, fitN ?_, _, rfl, a, C, dx, _, _, rfl, ha, T.cl, T.nM, f_m _ _ _, .inr ⟨i, rfl, int_small tm, _, rfl, fitN ?_, _, rfl, fitN ?_, ?_⟩⟩⟩
        · rw [strLen_append, emp, dPar]; omega
        · rw [strLen_append, strLen_append, emp, dPar]; omega
        · rw [strLen_append, strLen_append, strLen_append, emp, dPar, dCom]; omega
        · rw [strLen_append, strLen_append, strLen_append, strLen_append, emp, dPar, dCom]; omega
        · rw [strLen_append, strLen_append, strLen_append, strLen_append, strLen_append, emp, dPar, dCom, dEnd]; omega
        · show Q (V.str (Str.empty ++ "Day(" ++ Str.ofString (toString y) ++ ", " ++ Str.ofString (toString i) ++ ")")) H
          have e : Str.empty ++ "Day(" ++ Str.ofString (toString y) ++ ", " ++ Str.ofString (toString i) ++ ")" = dayRepr y (some i) none := by
            show _ = "Day(" ++ (Str.ofString (toString y) ++ ", " ++ Str.ofString (toString i)) ++ ")"
            simp only [Str.append_assoc, Str.empty_append]
          rw [e]
          exact q
      | some j =>
        have lj := txt_len (i := j) td
        refine iteF ⟨_, rfl, fitN ?_, _, rfl, a, C, dx, _, _, rfl, ha, T.cl, T.nY, f_y _ _ _, .inr ⟨y, rfl, int_small ty, _, rfl, fitN ?_, _, rfl, fitN ?_, _, rfl, a, C, dx, _, _, rfl, ha, T.cl, T.nM, f_m _ _ _, .inr ⟨i, rfl, int_small tm, _, rfl, fitN ?_, _, rfl, fitN ?_,
          _, rfl, a, C, dx, _, _, rfl, ha, T.cl, T.nD, f_d _ _ _, .inr ⟨j, rfl, int_small td, _, rfl, fitN ?_, _, rfl, fitN ?_, ?_⟩⟩⟩⟩
        · rw [strLen_append, emp, dPar]; omega
        · rw [strLen_append, strLen_append, emp, dPar]; omega
        · rw [strLen_append, strLen_append, strLen_append, emp, dPar, dCom]; omega
        · rw [strLen_append, strLen_append, strLen_append, strLen_append, emp, dPar, dCom]; omega
        · rw [strLen_append, strLen_append, strLen_append, strLen_append, strLen_append, emp, dPar, dCom]; omega
        · rw [strLen_append, strLen_append, strLen_append, strLen_append, strLen_append, strLen_append, emp, dPar, dCom]; omega
        · rw [strLen_append, strLen_append, strLen_append, strLen_append, strLen_append, strLen_append, strLen_append, emp, dPar, dCom, dEnd]; omega
        · show Q (V.str (Str.empty ++ "Day(" ++ Str.ofString (toString y) ++ ", " ++ Str.ofString (toString i) ++ ", " ++ Str.ofString (toString j) ++ ")")) H
          have e : Str.empty ++ "Day(" ++ Str.ofString (toString y) ++ ", " ++ Str.ofString (toString i) ++ ", " ++ Str.ofString (toString j) ++ ")" = dayRepr y (some i) (some j) := by
            show _ = "Day(" ++ (Str.ofString (toString y) ++ ", " ++ (Str.ofString (toString i) ++ ", " ++ Str.ofString (toString j))) ++ ")"
            simp only [Str.append_assoc, Str.empty_append]
          rw [e]
          exact q
def spBey : Sp := fun vs H Q _ => ∃ i : Int, vs = [.int i] ∧ Q (.int (i % 60)) H
def lenText (i : Int) : Str := Str.ofString (toString (i / 60)) ++ ":" ++ zpad 2 (i % 60)
def lenRepr (i : Int) : Str := "Length(" ++ Str.ofString (toString i) ++ ")"
def spStrL (C : Addr) : Sp := fun vs H Q _ => ∃ (a : Addr) (i : Int), vs = [.ref a] ∧ LenAt C H a i ∧ 0 ≤ i ∧ i ≤ 359999 ∧ Q (.str (lenText i)) H
def spReprL (C : Addr) : Sp := fun vs H Q _ => ∃ (a : Addr) (i : Int), vs = [.ref a] ∧ LenAt C H a i ∧ 0 ≤ i ∧ i ≤ 359999 ∧ Q (.str (lenRepr i)) H
theorem tx_len {i : Int} (h0 : 0 ≤ i) (h1 : i < 10 ^ 9) : (Str.ofString (toString i)).length ≤ 9 := toString_length_le h0 (by decide) h1
theorem ok_bey {f : Addr} {fd : FuncData} (D : Df K mg "beyond_minutes" ["seconds"] sBeyondMinutes f fd)  : FnOk P w K mg base CX0 1 f fd ["seconds"] spBey := by
  refine D.fn.ok scBeyondMinutes (fun vs H Q E h => ?_) (fun cdv A outer s H vs Q E hr h => ?_)
  · obtain ⟨i, rfl, q⟩ := h
    rfl
  · obtain ⟨i, rfl, q⟩ := h
    refine ⟨_, (pss_one (ps_ret (pe_op op_mod (pv 0) pe_int))), ?_⟩
    exact ⟨_, rfl, i, 60, rfl, rfl, (by show (0 : Int) < 60; decide), q⟩
theorem ok_strL {f : Addr} {fd : FuncData} {e : Ex} (F : Fun K "__str__" "Length.__str__" sLengthStr f fd) (T : Txt K mg C CL) (nd : base.NoDigits) (cB : Ca P w K mg base 1 "beyond_minutes" ["seconds"] spBey) : FnOk P w K mg base CX0 2 f fd ["self"] (spStrL CL) := by
  refine F.ok scLengthStr (fun vs H Q E h => ?_) (fun cdv A outer s H vs Q E hr h => ?_)
  · obtain ⟨a, i, rfl, ⟨dx, ha⟩, h0, h1, q⟩ := h
    rfl
  · obtain ⟨a, i, rfl, ⟨dx, ha⟩, h0, h1, q⟩ := h
    refine ⟨_, (pss_one (ps_ret (pe_joined (.cons (pe_fmt (pe_op op_fdiv (pe_fld (pv 0) rfl) pe_int)) (.cons pe_str (.cons (pe_fmtS (spec := "02d") (W := 2) nd (by decide +kernel) (by decide +kernel) (by decide +kernel) (by decide +kernel) (pe_ca cB hr (by decide) (by rfl) (pa_cons (pe_fld (pv 0) rfl) pa_nil)) (pe_joined1 pe_str)) .nil)))))), ?_⟩
    have t6 : Tiny (i % 60) := ⟨by omega, by omega⟩
    have l2 := zpad_len (W := 2) (by decide) t6
    have l1 := tx_len (i := i / 60) (by omega) (by omega)
    have c1 : (":" : Str).length = 1 := by decide +kernel
    have e0 : Str.empty.length = 0 := rfl
    refine ⟨_, rfl, a, CL, dx, _, _, rfl, ha, T.clL, T.nS, f_s i, i, 60, rfl, rfl, ⟨by decide, by decide⟩, .inr ⟨_, rfl, lg (by omega) (by omega), ?_⟩⟩
    refine ⟨_, rfl, fitN ?_, _, rfl, fitN ?_, _, rfl, a, CL, dx, _, _, rfl, ha, T.clL, T.nS, f_s i, i, rfl, _, rfl, t6, _, rfl, fitN ?_, ?_⟩
    · rw [strLen_append, e0]; omega
    · rw [strLen_append, strLen_append, e0, c1]; omega
    · rw [strLen_append, strLen_append, strLen_append, e0, c1]; omega
    · show Q (V.str (Str.empty ++ Str.ofString (toString (i / 60)) ++ ":" ++ zpad 2 (i % 60))) H
      rw [Str.empty_append]
      exact q
theorem ok_reprL {f : Addr} {fd : FuncData} {e : Ex} (F : Fun K "__repr__" "Length.__repr__" sLengthRepr f fd) (T : Txt K mg C CL) : FnOk P w K mg base CX0 1 f fd ["self"] (spReprL CL) := by
  refine F.ok scLengthRepr (fun vs H Q E h => ?_) (fun cdv A outer s H vs Q E hr h => ?_)
  · obtain ⟨a, i, rfl, ⟨dx, ha⟩, h0, h1, q⟩ := h
    rfl
  · obtain ⟨a, i, rfl, ⟨dx, ha⟩, h0, h1, q⟩ := h
    refine ⟨_, (pss_one (ps_ret (pe_joined (.cons pe_str (.cons (pe_fmt (pe_fld (pv 0) rfl)) (.cons pe_str .nil)))))), ?_⟩
    have l1 := tx_len (i := i) (by omega) (by omega)
    have c1 : ("Length(" : Str).length = 7 := by decide +kernel
    have c2 : (")" : Str).length = 1 := by decide +kernel
    have e0 : Str.empty.length = 0 := rfl
    refine ⟨_, rfl, fitN ?_, _, rfl, a, CL, dx, _, _, rfl, ha, T.clL, T.nS, f_s i, .inr ⟨_, rfl, lg (by omega) (by omega), _, rfl, fitN ?_, _, rfl, fitN ?_, ?_⟩⟩
    · rw [strLen_append, e0, c1]; omega
    · rw [strLen_append, strLen_append, e0, c1]; omega
    · rw [strLen_append, strLen_append, strLen_append, e0, c1, c2]; omega
    · show Q (V.str (Str.empty ++ "Length(" ++ Str.ofString (toString i) ++ ")")) H
      rw [Str.empty_append]
      exact q
end
end K20
set_option Elab.async false
set_option linter.all false
set_option maxRecDepth 100000
set_option maxHeartbeats 8000000
set_option pp.maxSteps 400
set_option pp.deepTerms false
/-! set(a list or a tuple of keys), of any number below the scan's bound; how many unlike ones there are. -/
namespace Xset
open PySem PySem.Spec PyProof.Rows
/-- how many unlike things -/
def cn {κ : Type} [DecidableEq κ] : List κ → Nat
  | [] => 0
  | x :: r => if x ∈ r then cn r else cn r + 1
theorem cn_le {κ : Type} [DecidableEq κ] : ∀ l : List κ, cn l ≤ l.length
  | [] => Nat.le_refl _
  | x :: r => by
    have := cn_le r
    unfold cn
    rw [List.length_cons]
    split <;> omega
theorem cn_nodup {κ : Type} [DecidableEq κ] : ∀ l : List κ, cn l = l.length ↔ l.Nodup
  | [] => by simp [cn]
  | x :: r => by
    have h := cn_le r
    unfold cn
    rw [List.length_cons, List.nodup_cons, ← cn_nodup r]
    by_cases m : x ∈ r
    · rw [if_pos m]
      exact ⟨fun z => by omega, fun z => absurd m z.1⟩
    · rw [if_neg m]
      exact ⟨fun z => ⟨m, by omega⟩, fun z => by omega⟩
section
variable {prog : Program} {w : World} {κ : Type} [DecidableEq κ] [BEq κ] [LawfulBEq κ] (knd : KeyKind prog w κ)
def SetL (h : Heap) (S : Addr) (ks : List κ) (i : Nat) : Prop := h.SetOf knd S (fun k => decide (k ∈ ks.take i)) (cn (ks.take i).reverse)
theorem SetL.at_ {h h' : Heap} {S : Addr} {ks : List κ} {i : Nat} (x : SetL knd h S ks i) (k : ∀ o, h.get? S = some o → h'.get? S = some o) : SetL knd h' S ks i := by
  obtain ⟨o, es, ep, t, ho, r⟩ := x
  exact ⟨o, es, ep, t, k o ho, r⟩
variable {A : Around} {R : Result → Shared → Prop} {it : Addr} {fp wr : List Addr} {G : Array GenState → Array GenState → Prop} {n : Nat} {P : Nat → Value → Prop} {St : Nat → Shared → Prop}
theorem run_all (W : WalksS prog w A.in1 it fp wr G n P St) {S : Addr} (nS : S ∉ fp) {ks : List κ} (lk : ks.length = n) (room : n + 1 < scanBound) (val : ∀ i v, P i v → ∃ k, ks[i]? = some k ∧ knd.is k v = true ∧ v.scannable = true) :
    ∀ (left i : Nat) (s : Shared), n - i = left → i ≤ n → St i s → SetL knd s.heap S ks i → (∀ s', Moved (S :: wr) G s s' → SetL knd s'.heap S ks n → R (.ok (.ret .none)) s') →
      codeAny (model prog w) A (.builtin "set.update.loop" ⟨[.ref S, .ref it], []⟩) R s := by
  have nw : S ∉ wr := fun z => nS (W.sub _ z)
  have up : ∀ b ∈ wr, b ∈ S :: wr := fun b m => List.mem_cons_of_mem _ m
  intro left
  induction left with
  | zero =>
    intro i s e le st hs q
    obtain rfl : i = n := by omega
    refine codeAny_builtin PyProof.Rows.F.entry_set_update_loop (by
      rw [Around.under_plainId PyProof.Rows.F.plain_set_update_loop _]
      show wpAny _ A.in1 (pyNext (.ref it) >>= _) _ _ s
      exact wpAny_bind (W.done s _ _ st fun s' mv => by
        show wpAny _ A.in1 (ret Value.none) _ _ s'
        exact wpAny_pure (q s' (mv.mono up) (hs.at_ knd fun o e => mv.heap S _ nw e))))
  | succ left ih =>
    intro i s e le st hs q
    have lt : i < n := by omega
    refine codeAny_builtin PyProof.Rows.F.entry_set_update_loop ?_
    rw [Around.under_plainId PyProof.Rows.F.plain_set_update_loop _]
    show wpAny _ A.in1 (pyNext (.ref it) >>= _) _ _ s
    refine wpAny_bind (W.item i s _ _ lt st fun v s' pv st' mv => ?_)
    obtain ⟨k, ek, kv, sc⟩ := val i v pv
    have hs' := hs.at_ (h' := s'.heap) knd fun o e => mv.heap S _ nw e
    show wpAny _ A.in1 (holding [v] (setAdd S v) >>= _) _ _ s'
    refine wpAny_bind (wpAny_holding (by
      unfold setAdd
      refine wpAny_holding (wpAny_bind (knd.pyHash kv ?_))
      have few : cn (ks.take i).reverse + 1 < scanBound := by
        have := cn_le (ks.take i).reverse
        rw [List.length_reverse, List.length_take] at this
        omega
      refine wpAny_setAddHashed_of (knd := knd) (s := { s' with toks := s'.toks + 1 }) kv sc hs' few fun h' sb new => ?_
      have tk : ks.take (i + 1) = ks.take i ++ [k] := by rw [List.take_succ, ek]; rfl
      have new' : SetL knd h' S ks (i + 1) := by
        refine SetOf_congr new (fun j => ?_) ?_
        · rw [tk, Bool.eq_iff_iff]
          simp
        · rw [tk, List.reverse_append]
          show _ = cn (k :: (ks.take i).reverse)
          simp only [cn, List.mem_reverse, decide_eq_true_eq]
      refine wpAny_pure ⟨plainId_quiet PyProof.Rows.F.plain_set_update_loop _, ih (i + 1) _ (by omega) lt (W.frame _ s' _ _ st' (Nat.le_add_right _ _) fun b m o z => ?_) new' fun s2 mv2 z2 => ?_⟩
      · exact (sb.2 b (fun c => nS (by rw [← c]; exact m))).trans z
      · exact q s2 (Moved.trans W.gtrans ((mv.mono up).then_heap (Nat.le_add_right _ _) fun b o m z => (sb.2 b (fun c => m (by rw [c]; exact List.mem_cons_self))).trans z) mv2) z2))
end
/-- what set(x) comes to, x a list or a tuple that holds keys -/
theorem set_made {prog : Program} {w : World} {κ : Type} [DecidableEq κ] [BEq κ] [LawfulBEq κ] (knd : KeyKind prog w κ) {A : Around} {E : Value → Shared → Prop} {s : Shared} {l : Addr} {xs : Array Value} {ks : List κ} {Q : Value → Shared → Prop}
    (quiet : A.handled = none) (src : s.heap.IsList l xs ∨ s.heap.IsTuple l xs) (lk : ks.length = xs.size) (room : xs.size + 1 < scanBound) (val : ∀ (i : Nat) (v : Value), xs[i]? = some v → ∃ k, ks[i]? = some k ∧ knd.is k v = true ∧ v.scannable = true)
    (q : ∀ (h' : Heap) (tk : Nat), SetL knd h' s.heap.objs.size ks xs.size → (∀ b o, b < s.heap.objs.size → s.heap.get? b = some o → h'.get? b = some o) → Q (.ref s.heap.objs.size) { s with heap := h', toks := tk }) :
    wpAny (model prog w) A (call (.type "set") [.ref l]) Q E s := by
  obtain ⟨cc, tl, mro⟩ := PySem.F.called_set.mro; have g1 := PySem.F.called_set.made; have g2 := PySem.F.called_set.sub
  refine wpAny_call (codeAny_of_tree ?_); show wpAny _ _ (callAny (.type "set") _) _ _ _
  refine wpAny_pure ⟨Code.quiet_builtin _ (by decide +kernel), codeAny_builtin PySem.F.entry_type_call ?_⟩; rw [Around.under_plain (weight_type_call_type "set" [.ref l] []) rfl]
  have g3 := PySem.F.called_set.notType; have g4 := PySem.F.called_set.canCreate; have g5 := PySem.F.typeCall_set_1 (.ref l)
  repeat (any_goals (first | assumption | wp_step))
  generalize hp : s.heap.objs.size = S at q ⊢
  refine codeAny_mono (code_set_new_1 (.ref l) (E := E) (Q₁ := fun ob s1 => ∃ led : Bool, ob = .ref S ∧ s1 = { s with heap := s.heap.push { cls := .type "set", dict := none, data := .set #[] 0 (.fresh 0 0 led) } }) fun led => ⟨led, by rw [hp], rfl⟩) fun r s1 hr => ?_
  match r, hr with
  | .error e, hr => exact hr
  | .ok .next, hr | .ok .brk, hr | .ok .cont, hr => exact hr.elim
  | .ok (.ret ob), ⟨led, e1, e2⟩ =>
  subst e1 e2
  generalize hob : ({ cls := .type "set", dict := none, data := .set #[] 0 (.fresh 0 0 led) } : Obj) = newS
  have atS : (s.heap.push newS).get? S = some newS := by rw [← hp]; exact Heap.get?_push_size _ (by rw [← hob]; rfl)
  have ty : Shared.TypeIs { s with heap := s.heap.push newS } (.ref S) "set" := ⟨_, atS, by rw [← hob]⟩
  have szS : (s.heap.push newS).objs.size = S + 1 := by rw [Heap.size_push, hp]
  have g6 := PySem.F.called_set.init.lookup; have g7 := PySem.F.called_set.init.bind (.ref S)
  repeat (any_goals (first | assumption | wp_step))
  -- what __init__ leaves
  refine codeAny_mono (codeAny_call_builtin (R := wants (fun r s2 => r = .none ∧ ∃ h' tk, s2 = { s with heap := h', toks := tk } ∧ SetL knd h' S ks xs.size ∧ ∀ b o, b < S → s.heap.get? b = some o → h'.get? b = some o) E) PySem.F.called_set.init.plain PySem.F.entry_set_init (check_set_init_1 ty ?_)) fun r2 s2 hr2 => ?_
  · rcases src with hl | hl
    · obtain ⟨⟨a1, a2, a3, a4⟩, ho, e1, n1, e2⟩ := hl
      simp only at e1 e2; subst e1 e2
      have lS : @LT.lt Nat _ l S := by rw [← hp]; exact Heap.lt_size ho
      have hl1 : (s.heap.push newS).IsList l xs := ⟨_, Heap.get?_push_of_some _ ho, rfl, n1, rfl⟩
      have f1 := PySem.F.sub_list_set; have f2 := PySem.F.sub_list_frozenset
      have f3 : (Value.type "list" == Value.type "dict") = false := by decide
      have ho1 := Heap.get?_push_of_some newS ho
      unfold Builtin.«set.__init__» noKeywords Builtin.Frozenset.updateFrom
      generalize hPI : pyIter = PI
      wp_walk
      rw [show newS.data = .set #[] 0 (.fresh 0 0 led) from by rw [← hob]]
      wp_walk
      subst hPI
      refine wpAny_pyIter_list hl1 ?_; refine wpAny_bind (wpAny_runValue ?_)
      have nI : l ≠ (s.heap.push newS).objs.size := by rw [szS]; exact Nat.ne_of_lt (Nat.lt_succ_of_lt lS)
      refine run_all (knd := knd) (ks := ks) ((Walks.list (show A.in1.in1.in1.handled = none by simp [quiet]) _ l nI xs).toS) (S := S) (by rw [szS]; simp only [List.mem_cons, List.not_mem_nil, or_false, not_or]; exact ⟨Nat.ne_of_lt (Nat.lt_succ_self _), Nat.ne_of_gt lS⟩) lk room val (xs.size - 0) 0 _ (by omega) (Nat.zero_le _) ⟨⟨_, Heap.get?_push_size _ rfl, rfl, rfl⟩, hl1.push _⟩ ?_ fun s' mv z => ?_
      · have at2 : ((s.heap.push newS).push { cls := .type "list_iterator", data := .fields #[.ref l, .int 0 0] }).get? S = some newS := Heap.get?_push_of_some _ atS
        have so : newS.SetObjOf knd (fun _ => false) 0 := by rw [← hob]; exact PyProof.Rows.setObjOf_fresh (knd := knd) led
        exact SetOf_congr (so.setOf at2 (by unfold scanBound; omega)) (fun _ => by simp) rfl
      · obtain ⟨h', g', d', tk', os'⟩ := s'
        obtain ⟨m1, m2, m3, m4, _⟩ := mv
        simp only at m1 m2 m3 m4 z
        subst m2 m3 m4
        show wpAny _ _ _ _ _ _
        refine wpAny_pure (show wpAny _ _ (ret Value.none) _ _ _ from wpAny_pure ⟨rfl, h', tk', rfl, z, fun b o lt e => m1 b o ?_ (Heap.get?_push_of_some _ (Heap.get?_push_of_some _ e))⟩)
        rw [szS]
        simp only [List.mem_cons, List.not_mem_nil, or_false, not_or]
        exact ⟨Nat.ne_of_lt lt, Nat.ne_of_lt (Nat.lt_succ_of_lt lt)⟩
    · obtain ⟨⟨a1, a2, a3, a4⟩, ho, e1, n1, e2⟩ := hl
      simp only at e1 e2; subst e1 e2
      have lS : @LT.lt Nat _ l S := by rw [← hp]; exact Heap.lt_size ho
      have hl1 : (s.heap.push newS).IsTuple l xs := ⟨_, Heap.get?_push_of_some _ ho, rfl, n1, rfl⟩
      have f1 := PySem.F.sub_tuple_set; have f2 := PySem.F.sub_tuple_frozenset
      have f3 : (Value.type "tuple" == Value.type "dict") = false := by decide
      have ho1 := Heap.get?_push_of_some newS ho
      unfold Builtin.«set.__init__» noKeywords Builtin.Frozenset.updateFrom
      generalize hPI : pyIter = PI
      wp_walk
      rw [show newS.data = .set #[] 0 (.fresh 0 0 led) from by rw [← hob]]
      wp_walk
      subst hPI
      refine wpAny_pyIter_tuple hl1 ?_; refine wpAny_bind (wpAny_runValue ?_)
      have nI : l ≠ (s.heap.push newS).objs.size := by rw [szS]; exact Nat.ne_of_lt (Nat.lt_succ_of_lt lS)
      refine run_all (knd := knd) (ks := ks) ((Walks.tuple (show A.in1.in1.in1.handled = none by simp [quiet]) _ l nI xs).toS) (S := S) (by rw [szS]; simp only [List.mem_cons, List.not_mem_nil, or_false, not_or]; exact ⟨Nat.ne_of_lt (Nat.lt_succ_self _), Nat.ne_of_gt lS⟩) lk room val (xs.size - 0) 0 _ (by omega) (Nat.zero_le _) ⟨⟨_, Heap.get?_push_size _ rfl, rfl, rfl⟩, hl1.push _⟩ ?_ fun s' mv z => ?_
      · have at2 : ((s.heap.push newS).push { cls := .type "tuple_iterator", data := .fields #[.ref l, .int 0 0] }).get? S = some newS := Heap.get?_push_of_some _ atS
        have so : newS.SetObjOf knd (fun _ => false) 0 := by rw [← hob]; exact PyProof.Rows.setObjOf_fresh (knd := knd) led
        exact SetOf_congr (so.setOf at2 (by unfold scanBound; omega)) (fun _ => by simp) rfl
      · obtain ⟨h', g', d', tk', os'⟩ := s'
        obtain ⟨m1, m2, m3, m4, _⟩ := mv
        simp only at m1 m2 m3 m4 z
        subst m2 m3 m4
        show wpAny _ _ _ _ _ _
        refine wpAny_pure (show wpAny _ _ (ret Value.none) _ _ _ from wpAny_pure ⟨rfl, h', tk', rfl, z, fun b o lt e => m1 b o ?_ (Heap.get?_push_of_some _ (Heap.get?_push_of_some _ e))⟩)
        rw [szS]
        simp only [List.mem_cons, List.not_mem_nil, or_false, not_or]
        exact ⟨Nat.ne_of_lt lt, Nat.ne_of_lt (Nat.lt_succ_of_lt lt)⟩
  · match r2, hr2 with
    | .error e, hr2 => exact hr2
    | .ok .next, hr2 | .ok .brk, hr2 | .ok .cont, hr2 => exact hr2.elim
    | .ok (.ret _), ⟨e1, h', tk, e2, e3, e4⟩ =>
      subst e1 e2
      repeat (any_goals (first | assumption | wp_step))
      exact q h' tk e3 e4
end Xset
set_option Elab.async false
set_option linter.all false
set_option maxRecDepth 100000
set_option maxHeartbeats 4000000
set_option pp.maxSteps 400
set_option pp.deepTerms false
/-! Sets of things on the heap, of any kind whose hash and equality the model tells; how the search and the adding go. -/
namespace Xts
open PySem PySem.Spec PyProof.Rows L2
/-- things on the heap that a set may hold -/
structure Elt (P : Program) (w : World) (κ : Type) [DecidableEq κ] where
  is : Heap → κ → Addr → Prop
  hash : κ → Int
  draws : κ → Nat
  room : Around → Prop
  hashes : ∀ {A : Around} {E : Value → Shared → Prop} {s : Shared} {k : κ} {b : Addr} {Q : Int → Shared → Prop}, room A → is s.heap k b → Q (hash k) { s with toks := s.toks + draws k } → wpAny (model P w) A (pyHash (.ref b)) Q E s
  equals : ∀ {A : Around} {E : Value → Shared → Prop} {s : Shared} {x y : κ} {b c : Addr} {Q : Bool → Shared → Prop}, room A → is s.heap x b → is s.heap y c → Q (decide (x = y)) s → wpAny (model P w) A (eqBool (.ref b) (.ref c)) Q E s
  unseen : ∀ {A : Around} {E : Value → Shared → Prop} {s : Shared} {k : κ} {b : Addr} {ys : List Value} {Q : Bool → Shared → Prop}, is s.heap k b → (∀ y ∈ ys, ∃ k' c, y = Value.ref c ∧ is s.heap k' c) → Q false s → wpAny (model P w) A (searchCouldBeSeen (.ref b) ys) Q E s
  byVal : ∀ {A : Around} {E : Value → Shared → Prop} {s : Shared} {k : κ} {b : Addr} {Q : Bool → Shared → Prop}, is s.heap k b → (∀ c, Q c s) → wpAny (model P w) A (hashByValue 8 (.ref b)) Q E s
  seq : ∀ {h : Heap} {k : κ} {b : Addr}, is h k b → ∃ o items n, h.get? b = some o ∧ o.data = .seq items n
  stays : ∀ {h h' : Heap} {k : κ} {b : Addr}, is h k b → (∀ o, h.get? b = some o → h'.get? b = some o) → is h' k b
section
variable {P : Program} {w : World} {κ : Type} [DecidableEq κ] {e : Elt P w κ}
def rowE (e : Elt P w κ) (p : Addr × κ) : Int × Value := (e.hash p.2, .ref p.1)
def hsE (e : Elt P w κ) (L : List (Addr × κ)) : List Int := L.map fun p => e.hash p.2
/-- the set at a holds just these, in the table's order -/
structure Holds (e : Elt P w κ) (h : Heap) (a : Addr) (L : List (Addr × κ)) (es : Array (Int × Value)) (ep : Nat) (t : SetTable) : Prop where
  at_ : ∃ o, h.get? a = some o ∧ o.ExactSet ∧ o.data = .set es ep t
  rows : es.toList = L.map (rowE e)
  tab : TabOk t (hsE e L)
  nd : (L.map (·.2)).Nodup
  mem : ∀ p ∈ L, e.is h p.2 p.1
  room : L.length * 5 < t.mask * 3
  few : L.length < 64
  led : w.params.followText "set-order" = true ∨ t.led = true
theorem rows_size {es : Array (Int × Value)} {L : List (Addr × κ)} (r : es.toList = L.map (rowE e)) : es.size = L.length := by
  have := congrArg List.length r
  rwa [Array.length_toList, List.length_map] at this
theorem rows_at {es : Array (Int × Value)} {L : List (Addr × κ)} (r : es.toList = L.map (rowE e)) {i : Nat} {p : Addr × κ} (h : L[i]? = some p) : es[i]? = some (e.hash p.2, .ref p.1) := by
  rw [← Array.getElem?_toList, r, List.getElem?_map, h]
  rfl
theorem hsE_len (L : List (Addr × κ)) : (hsE e L).length = L.length := List.length_map ..
theorem fits_of {t : SetTable} {n : Nat} (d : t.dummies = #[]) (h1 : t.place.size = n) (h2 : n ≤ t.mask) : t.fits n = true := by
  unfold SetTable.fits SetTable.fill
  rw [d, Bool.and_eq_true, beq_iff_eq, decide_eq_true_eq]
  show t.place.size = n ∧ t.place.size + 0 ≤ t.mask
  omega
/-- where the search stands at its c-th step -/
abbrev stp (m : Nat) (h : Int) (c : Nat) : SetTable.Probe := nth m (runAt m (SetTable.bits h % (m + 1)) (SetTable.bits h)) c
theorem nth_dm (m : Nat) : ∀ (n : Nat) (p : SetTable.Probe), p.dummy = none → (nth m p n).dummy = none
  | 0, _, h => h
  | n + 1, p, h => nth_dm m n (adv m p) (by unfold adv; split <;> exact h)
theorem stp_dm (m : Nat) (h : Int) (c : Nat) : (stp m h c).dummy = none := nth_dm m c _ rfl
theorem stp_on (m : Nat) (h : Int) (c q : Nat) : nth m (stp m h c) q = stp m h (c + q) := (nth_add m c _ q).symm
section
variable {A : Around} {E : Value → Shared → Prop} {s : Shared} {a : Addr} {L : List (Addr × κ)} {es : Array (Int × Value)} {ep : Nat} {t : SetTable}
theorem Holds.fits (R : Holds e s.heap a L es ep t) : t.fits es.size = true := by
  have h1 := R.tab.sz
  rw [hsE_len] at h1
  have h3 := R.room
  rw [rows_size R.rows]
  exact fits_of R.tab.dm h1 (by omega)
theorem Holds.whole (R : Holds e s.heap a L es ep t) : ¬ t.gaveWay = true := by
  unfold SetTable.gaveWay
  rw [mask_odd R.tab.mok]
  decide
/-- the search from its c-th step on, up to the first empty place, its K-th -/
theorem look (R : Holds e s.heap a L es ep t) {x : Addr} {k : κ} (hx : e.is s.heap k x) (hu : e.room A) {K : Nat} (few : K < 10 * SetTable.turns t.mask)
    (hK : way t.mask (e.hash k) K ∉ t.place.toList) (hB : ∀ c, c < K → way t.mask (e.hash k) c ∈ t.place.toList) {Q : SetFound → Shared → Prop}
    (yes : k ∈ L.map (·.2) → Q (.there none) s) (no : k ∉ L.map (·.2) → Q (.free (way t.mask (e.hash k) K) false) s) :
    ∀ (f c : Nat) (stand : Option SetTable.Probe), stand.getD (t.probeStart (e.hash k)) = stp t.mask (e.hash k) c → c ≤ K → K - c < f →
      (∀ (i : Nat) p, L[i]? = some p → p.2 = k → ∃ c', c ≤ c' ∧ c' < K ∧ t.place.toList[i]? = some (way t.mask (e.hash k) c')) →
      wpAny (model P w) A (setSearchFrom a (.ref x) (e.hash k) true f stand) Q E s := by
  obtain ⟨o, ho, _, hd⟩ := R.at_
  have hashAt : ∀ (i : Nat) (p : Addr × κ), L[i]? = some p → (es[i]?.map (·.1)).getD 0 = e.hash p.2 := fun i p hp => by
    rw [rows_at R.rows hp]
    rfl
  intro f
  induction f with
  | zero => intro c _ _ _ hf; exact absurd hf (Nat.not_lt_zero _)
  | succ f ih =>
    intro c stand hst hc hf ahead
    have hj : ∀ q, (nth t.mask (stp t.mask (e.hash k) c) q).j = way t.mask (e.hash k) (c + q) := fun q => congrArg SetTable.Probe.j (stp_on _ _ c q)
    have cK : c + (K - c) = K := by omega
    have seen := go_spec t R.tab.ris R.tab.dm (fun i => (es[i]?.map (·.1)).getD 0) (e.hash k) (10 * SetTable.turns t.mask) (K - c) (stp t.mask (e.hash k) c) (stp_dm _ _ _) (by omega)
      (fun q hq => by rw [hj]; exact hB _ (by omega)) (by rw [hj, cK]; exact hK)
    rw [setSearchFrom_succ]
    refine wpAny_bind (wpAny_setState_of ho hd R.fits ?_)
    dsimp only
    refine wp_if_neg R.whole ?_
    try refine wpAny_bind (wpAny_pure ?_)
    rcases seen with ⟨q, i, hq, hi, _, none_yet, go⟩ | ⟨none_at_all, go⟩
    · rw [hj] at hi go
      rw [stp_on] at go
      have pr : t.probe (fun i => (es[i]?.map (·.1)).getD 0) (e.hash k) (stand.getD (t.probeStart (e.hash k))) = some (.candidate (way t.mask (e.hash k) (c + q)) i (stp t.mask (e.hash k) (c + (q + 1)))) := by
        rw [hst]
        exact go
      rw [pr]
      dsimp only
      have il : i < L.length := by
        have h1 := (List.getElem?_eq_some_iff.mp hi).1
        have h2 := R.tab.sz
        rw [hsE_len] at h2
        rw [Array.length_toList] at h1
        omega
      obtain ⟨p, hp⟩ : ∃ p, L[i]? = some p := ⟨_, List.getElem?_eq_getElem il⟩
      have pm := List.mem_of_getElem? hp
      have live : t.slot (way t.mask (e.hash k) (c + q)) = .live i := slot_live R.tab.ris hi
      have rest : wpAny (model P w) A (searchRest a (.ref x) (e.hash k) true f es t (way t.mask (e.hash k) (c + q)) i (stp t.mask (e.hash k) (c + (q + 1)))) Q E s := by
        unfold searchRest
        rw [rows_at R.rows hp]
        dsimp only
        refine wpAny_bind (wpAny_holding (e.equals hu (R.mem p pm) hx ?_))
        refine wpAny_bind (wpAny_setState_of ho hd R.fits ?_)
        dsimp only
        by_cases same : p.2 = k
        · exact wp_if_pos (by simp [same]) (wpAny_pure (yes (List.mem_map.mpr ⟨p, pm, same⟩)))
        · refine wp_if_neg (by simp [same]) ?_
          try refine wpAny_bind (wpAny_pure ?_)
          rw [sameMem]
          dsimp only
          simp only [if_true, live, rows_at R.rows hp]
          refine wpAny_bind (wpAny_isSame_ref_self (wpAny_bind (wpAny_pure ?_)))
          simp only [if_true]
          refine wp_if_neg (by simp [same]) ?_
          refine ih (c + (q + 1)) _ rfl (by omega) (by omega) fun i0 p0 h0 k0 => ?_
          obtain ⟨c', a1, a2, a3⟩ := ahead i0 p0 h0 k0
          refine ⟨c', Classical.byContradiction fun z => ?_, a2, a3⟩
          rcases Nat.lt_or_eq_of_le (show c' ≤ c + q by omega) with y | y
          · exact none_yet (c' - c) i0 (by omega) (by rw [hj, show c + (c' - c) = c' by omega]; exact a3) ((hashAt i0 p0 h0).trans (congrArg e.hash k0))
          · rw [y] at a3
            have l0 := slot_live R.tab.ris a3
            rw [live] at l0
            injection l0 with l0
            rw [← l0, hp] at h0
            cases h0
            exact same k0
      by_cases hl : t.led = true
      · refine wp_if_neg (by simp [hl]) ?_
        try refine wpAny_bind (wpAny_pure ?_)
        exact rest
      · refine wp_if_pos (by simp [hl]) ?_
        refine wpAny_bind (e.unseen hx (fun y hy => ?_) ?_)
        · obtain ⟨r, hr, rfl⟩ := List.mem_map.mp hy
          have hr1 : r ∈ es.toList := by
            have : r ∈ es ∧ r.1 = e.hash k := by simpa using hr
            simpa using this.1
          rw [R.rows] at hr1
          obtain ⟨p2, hp2, rfl⟩ := List.mem_map.mp hr1
          exact ⟨p2.2, p2.1, rfl, R.mem p2 hp2⟩
        · refine wp_if_neg (by decide) ?_
          try refine wpAny_bind (wpAny_pure ?_)
          exact rest
    · rw [hj, cK] at go
      have pr : t.probe (fun i => (es[i]?.map (·.1)).getD 0) (e.hash k) (stand.getD (t.probeStart (e.hash k))) = some (.empty (way t.mask (e.hash k) K) none) := by
        rw [hst]
        exact go
      rw [pr]
      dsimp only
      refine wpAny_pure (no fun hm => ?_)
      obtain ⟨p0, h0, k0⟩ := List.mem_map.mp hm
      obtain ⟨i0, e0⟩ := List.getElem?_of_mem h0
      obtain ⟨c', a1, a2, a3⟩ := ahead i0 p0 e0 k0
      exact none_at_all (c' - c) i0 (by omega) (by rw [hj, show c + (c' - c) = c' by omega]; exact a3) ((hashAt i0 p0 e0).trans (congrArg e.hash k0))
theorem look_all (R : Holds e s.heap a L es ep t) {x : Addr} {k : κ} (hx : e.is s.heap k x) (hu : e.room A) {Q : SetFound → Shared → Prop} (yes : k ∈ L.map (·.2) → Q (.there none) s)
    (no : ∀ K, k ∉ L.map (·.2) → way t.mask (e.hash k) K ∉ t.place.toList → (∀ c, c < K → way t.mask (e.hash k) c ∈ t.place.toList) → Q (.free (way t.mask (e.hash k) K) false) s) :
    wpAny (model P w) A (setSearch a (.ref x) (e.hash k) true) Q E s := by
  have room := R.room
  obtain ⟨K, few, hK, hB⟩ := R.tab.first (by rw [hsE_len]; omega) (e.hash k)
  have small : K < 100000 := by
    have : SetTable.turns t.mask ≤ 142 := by
      unfold SetTable.turns
      rcases R.tab.mok with z | z | z <;> omega
    omega
  unfold setSearch
  refine look R hx hu few hK hB yes (fun n => no K n hK hB) 100000 0 none rfl (Nat.zero_le _) (by omega) fun i p hp hk => ?_
  have hi : (hsE e L)[i]? = some (e.hash k) := by
    unfold hsE
    rw [List.getElem?_map, hp, ← hk]
    rfl
  have il : i < t.place.toList.length := by
    have h1 := (List.getElem?_eq_some_iff.mp hi).1
    rw [Array.length_toList, R.tab.sz]
    exact h1
  obtain ⟨c, hc, z⟩ := R.tab.before hK hi (List.getElem?_eq_getElem il)
  exact ⟨c, Nat.zero_le _, hc, by rw [List.getElem?_eq_getElem il, z]⟩
end
end
end Xts
set_option Elab.async false
set_option linter.all false
set_option maxRecDepth 100000
set_option maxHeartbeats 4000000
set_option pp.maxSteps 400
set_option pp.deepTerms false
/-! Sets of things on the heap: the table laid anew, and the adding. -/
namespace Xts
open PySem PySem.Spec PyProof.Rows L2
section
variable {P : Program} {w : World} {κ : Type} [DecidableEq κ] {e : Elt P w κ}
theorem apart {h : Heap} {k : κ} {a b : Addr} {o : Obj} {es : Array (Int × Value)} {ep : Nat} {t : SetTable} (x : e.is h k b) (ho : h.get? a = some o) (hd : o.data = .set es ep t) : b ≠ a := fun z => by
  obtain ⟨o2, its, n, h2, d2⟩ := e.seq x
  rw [z, ho] at h2
  cases h2
  rw [hd] at d2
  cases d2
theorem is_but {h h' : Heap} {k : κ} {a b : Addr} {o : Obj} {es : Array (Int × Value)} {ep : Nat} {t : SetTable} (x : e.is h k b) (ho : h.get? a = some o) (hd : o.data = .set es ep t) (sb : Heap.SameBut a h h') : e.is h' k b :=
  e.stays x fun o2 h2 => (sb.2 b (apart x ho hd)).trans h2
/-- what the places of a list give, a list of its places in any order -/
theorem picked {es : Array (Int × Value)} {L : List (Addr × κ)} (r : es.toList = L.map (rowE e)) : ∀ l : List Nat, (∀ i ∈ l, i < L.length) →
    l.filterMap (fun i => es[i]?) = (l.filterMap fun i => L[i]?).map (rowE e) ∧ hsE e (l.filterMap fun i => L[i]?) = l.map fun i => (es.map (·.1)).getD i 0
  | [], _ => ⟨rfl, rfl⟩
  | i :: l, h => by
    have il := h i List.mem_cons_self
    obtain ⟨h1, h2⟩ := picked r l fun j hj => h j (List.mem_cons_of_mem _ hj)
    have eL : L[i]? = some L[i] := List.getElem?_eq_getElem il
    have eE := rows_at r eL
    have eH : (es.map (·.1)).getD i 0 = e.hash (L[i]).2 := by
      have : (es.map (·.1))[i]? = some (e.hash (L[i]).2) := by rw [Array.getElem?_map, eE]; rfl
      simp [Array.getD_eq_getD_getElem?, this]
    refine ⟨?_, ?_⟩
    · rw [List.filterMap_cons_some eE, List.filterMap_cons_some eL, List.map_cons, h1]
      rfl
    · rw [List.filterMap_cons_some eL, List.map_cons, ← h2, eH]
      rfl
theorem all_places {α : Type} (L : List α) : (List.range L.length).filterMap (fun i => L[i]?) = L := by
  have : ∀ n, n ≤ L.length → (List.range n).filterMap (fun i => L[i]?) = L.take n := by
    intro n
    induction n with
    | zero => intro _; rfl
    | succ n ih =>
      intro h
      rw [List.range_succ, List.filterMap_append, ih (Nat.le_of_lt h), List.take_add_one, List.getElem?_eq_getElem h, List.filterMap_cons_some (List.getElem?_eq_getElem h)]
      rfl
  rw [this _ (Nat.le_refl _), List.take_length]
section
variable {A : Around} {E : Value → Shared → Prop} {s : Shared} {a : Addr} {L : List (Addr × κ)} {es : Array (Int × Value)} {ep : Nat} {t : SetTable}
/-- a larger table -/
theorem relaid {o : Obj} (ho : s.heap.get? a = some o) (ex : o.ExactSet) (hd : o.data = .set es ep t) (rows : es.toList = L.map (rowE e)) (sz : t.place.size = L.length) (dm : t.dummies = #[]) (fit : L.length ≤ t.mask) (nd : (L.map (·.2)).Nodup) (mem : ∀ p ∈ L, e.is s.heap p.2 p.1)
    (few : L.length < 64) (ld : w.params.followText "set-order" = true ∨ t.led = true) {wanted M : Nat} (hw : SetTable.sizeAbove wanted - 1 = M) (hM : MaskOk M) (w128 : SetTable.sizeAbove wanted ≤ 128) (room : L.length * 5 < M * 3) {Q : Unit → Shared → Prop}
    (q : ∀ h' L' es' ep' t', Heap.SameBut a s.heap h' → Holds e h' a L' es' ep' t' → L'.Perm L → Q () { s with heap := h' }) : wpAny (model P w) A (setRelay a wanted) Q E s := by
  have sE := rows_size rows
  have sM : (es.map (·.1)).size = L.length := by rw [Array.size_map, sE]
  obtain ⟨t', order, eq, perm, tab, em, el, _, _⟩ := relaid_ok t (hs := es.map (·.1)) (wanted := wanted) hw hM (by rw [sM]; omega)
  rw [sM] at perm
  obtain ⟨p1, p2⟩ := picked rows order.toList fun i hi => List.mem_range.mp (perm.mem_iff.mp hi)
  rw [← p2] at tab
  have pL : (order.toList.filterMap fun i => L[i]?).Perm L := by
    have := perm.filterMap fun i => L[i]?
    rwa [all_places] at this
  have r1 : (order.filterMap (es[·]?)).toList = (order.toList.filterMap fun i => L[i]?).map (rowE e) := by
    rw [← p1]
    first | exact Array.toList_filterMap | simp
  have s2 : (order.filterMap (es[·]?)).size = es.size := by rw [rows_size r1, pL.length_eq, sE]
  rw [setRelay_eq]
  refine wpAny_bind (wpAny_setState_of ho hd (by rw [sE]; exact fits_of dm sz fit) ?_)
  dsimp only
  refine wp_if_neg (by rw [sizeLine_eq]; omega) ?_
  try refine wpAny_bind (wpAny_pure ?_)
  rw [eq]
  dsimp only
  refine wpAny_bind ?_
  refine wp_if_neg (by rw [s2]; simp) ?_
  try refine wpAny_bind (wpAny_pure ?_)
  refine wpAny_pure ?_
  dsimp only
  refine wpAny_storeSet_of ho hd ?_ (by rw [s2, sE, sizeLine_eq]; omega)
  have sb : Heap.SameBut a s.heap (s.heap.update a (Obj.putSet (order.filterMap (es[·]?)) t')) := Heap.SameBut.update ..
  exact q _ _ _ (ep + 1) t' sb ⟨⟨_, store_at ho hd, ⟨ex.1, ex.2.1, ex.2.2⟩, rfl⟩, r1, tab, (pL.map (·.2)).nodup_iff.mpr nd, fun p hp => is_but (mem p (pL.mem_iff.mp hp)) ho hd sb, by rw [pL.length_eq, em]; exact room, by rw [pL.length_eq]; exact few, by rw [el]; exact ld⟩ pL
theorem tab_as {t t' : SetTable} {hs : List Int} (f1 : t'.place = t.place) (f2 : t'.dummies = t.dummies) (f3 : t'.mask = t.mask) (T : TabOk t hs) : TabOk t' hs :=
  ⟨by rw [f1]; exact T.ris, by rw [f2]; exact T.dm, by rw [f1]; exact T.sz, by rw [f3]; exact T.mok, by rw [f1, f3]; exact T.bd, by rw [f1, f3]; exact T.reach⟩
/-- one put in -/
theorem added (R : Holds e s.heap a L es ep t) {x : Addr} {k : κ} (hx : e.is s.heap k x) (hu : e.room A) (few : L.length + 1 < 64) {Q : Bool → Shared → Prop}
    (q : ∀ c h' L' es' ep' t', Heap.SameBut a s.heap h' → Holds e h' a L' es' ep' t' → (k ∈ L.map (·.2) ∧ L' = L ∨ k ∉ L.map (·.2) ∧ L'.Perm ((x, k) :: L)) → Q c { s with heap := h' }) :
    wpAny (model P w) A (setAddHashed a (.ref x) (e.hash k)) Q E s := by
  obtain ⟨o, ho, ex, hd⟩ := R.at_
  have sE := rows_size R.rows
  have room := R.room
  unfold setAddHashed
  refine wpAny_holding ?_
  rw [show (100000 : Nat) = 99999 + 1 from rfl, setAddHashedIn_succ]
  refine wpAny_bind (wpAny_setState_of ho hd R.fits ?_)
  dsimp only
  refine wp_if_neg (by simp [byScan, Value.scannable]) ?_
  try refine wpAny_bind (wpAny_pure ?_)
  refine wpAny_bind (look_all R hx hu (fun m => ?_) fun K m hK hB => ?_)
  · dsimp only
    exact wpAny_pure (q false s.heap L es ep t (Heap.SameBut.refl a s.heap) R (.inl ⟨m, rfl⟩))
  dsimp only
  refine wpAny_bind (wpAny_setState_of ho hd R.fits ?_)
  dsimp only
  obtain ⟨q1, q2, tab, em, el, _, _, _, efl⟩ := R.tab.put hK hB
  rw [hsE_len] at efl
  generalize hpt : t.put (way t.mask (e.hash k) K) = pt at q1 tab em el efl ⊢
  obtain ⟨t1, at1⟩ := pt
  dsimp only at q1 tab em el efl ⊢
  subst q1
  generalize SetTable.below t.place (way t.mask (e.hash k) K) = n at q2 tab ⊢
  have tail : ∀ c : Bool, wpAny (model P w) A (do
      storeSet a (SetTable.insertAt es n (e.hash k, Value.ref x)) (if c = true then t1 else { t1 with plain := false })
      if (!false && (if c = true then t1 else { t1 with plain := false }).tooFull) = true then do
        setRelay a (SetTable.grown (es.size + 1))
        pure true
      else pure true) Q E s := fun c => ?tail
  case tail =>
    obtain ⟨t2, ht2⟩ : ∃ t2, t2 = (if c = true then t1 else { t1 with plain := false }) := ⟨_, rfl⟩
    rw [← ht2]
    have f1 : t2.place = t1.place := by rw [ht2]; cases c <;> rfl
    have f2 : t2.dummies = t1.dummies := by rw [ht2]; cases c <;> rfl
    have f3 : t2.mask = t1.mask := by rw [ht2]; cases c <;> rfl
    have f4 : t2.fill = t1.fill := by rw [ht2]; cases c <;> rfl
    have ld2 : w.params.followText "set-order" = true ∨ t2.led = true := by
      have f5 : t2.led = t1.led := by rw [ht2]; cases c <;> rfl
      rw [f5, el]
      exact R.led
    clear ht2
    obtain ⟨L1, hL1⟩ : ∃ L1, L1 = L.take n ++ (x, k) :: L.drop n := ⟨_, rfl⟩
    have r1 : (SetTable.insertAt es n (e.hash k, Value.ref x)).toList = L1.map (rowE e) := by
      rw [SetTable.toList_insertAt, R.rows, hL1, List.map_append, List.map_cons, List.map_take, List.map_drop]
      rfl
    have pm : L1.Perm ((x, k) :: L) := by rw [hL1]; exact put_perm L n (x, k)
    have l1 : L1.length = L.length + 1 := pm.length_eq
    have tab1 : TabOk t2 (hsE e L1) := by
      refine tab_as f1 f2 f3 ?_
      have : hsE e L1 = (hsE e L).take n ++ e.hash k :: (hsE e L).drop n := by
        unfold hsE
        rw [hL1, List.map_append, List.map_cons, List.map_take, List.map_drop]
      rw [this]
      exact tab
    have nd1 : (L1.map (·.2)).Nodup := by
      refine (pm.map (·.2)).nodup_iff.mpr ?_
      rw [List.map_cons]
      exact List.nodup_cons.mpr ⟨m, R.nd⟩
    generalize SetTable.insertAt es n (e.hash k, Value.ref x) = es1 at r1 ⊢
    have sE1 := rows_size r1
    clear hL1 tab
    refine wpAny_bind (wpAny_storeSet_of ho hd ?_ (by rw [sE1, l1, sizeLine_eq]; omega))
    have sb : Heap.SameBut a s.heap (s.heap.update a (Obj.putSet es1 t2)) := Heap.SameBut.update ..
    have ho1 := store_at (es' := es1) (t' := t2) ho hd
    generalize s.heap.update a (Obj.putSet es1 t2) = h1 at sb ho1 ⊢
    have mem1 : ∀ p ∈ L1, e.is h1 p.2 p.1 := fun p hp => (List.mem_cons.mp (pm.mem_iff.mp hp)).elim (fun z => by rw [z]; exact is_but hx ho hd sb) fun z => is_but (R.mem p z) ho hd sb
    have sz1 : t2.place.size = L1.length := by rw [tab1.sz, hsE_len]
    by_cases full : t2.tooFull = true
    · first
        | (refine wpAny_bind ?_; refine wp_if_pos (by simp [full]) ?_)
        | (refine wp_if_pos (by simp [full]) ?_; refine wpAny_bind ?_)
      have over : t2.mask * 3 ≤ (L.length + 1) * 5 := by
        unfold SetTable.tooFull at full
        rwa [decide_eq_true_eq, f4, efl] at full
      rw [sE]
      have go : ∀ M, SetTable.sizeAbove (SetTable.grown (L.length + 1)) - 1 = M → MaskOk M → SetTable.sizeAbove (SetTable.grown (L.length + 1)) ≤ 128 → (L.length + 1) * 5 < M * 3 →
          wpAny (model P w) A (setRelay a (SetTable.grown (L.length + 1))) (fun _ s' => wpAny (model P w) A (pure true) Q E s') E { s with heap := h1 } := fun M g1 g2 g3 g4 => by
        refine relaid (s := { s with heap := h1 }) ho1 ⟨ex.1, ex.2.1, ex.2.2⟩ rfl r1 sz1 tab1.dm (by rw [l1, f3, em]; rcases R.tab.mok with z | z | z <;> omega) nd1 mem1 (by rw [l1]; exact few) ld2 g1 g2 g3 (by rw [l1]; exact g4) ?_
        intro h2 L2 es2 ep2 t2 sb2 R2 pm2
        exact wpAny_pure (q true h2 L2 es2 ep2 t2 (sb.trans sb2) R2 (.inr ⟨m, pm2.trans pm⟩))
      rw [f3, em] at over
      rcases R.tab.mok with z | z | z
      · obtain e4 : L.length = 4 := by omega
        exact go 31 (by rw [e4, size_20]) (.inr (.inl rfl)) (by rw [e4, size_20]; decide) (by omega)
      · obtain e18 : L.length = 18 := by omega
        exact go 127 (by rw [e18, size_76]) (.inr (.inr rfl)) (by rw [e18, size_76]; decide) (by omega)
      · omega
    · first
        | refine wp_if_neg (by simp [full]) ?_
        | (refine wpAny_bind ?_; refine wp_if_neg (by simp [full]) ?_; refine wpAny_pure ?_)
      refine wpAny_pure (q true h1 L1 es1 (ep + 1) t2 sb ⟨⟨_, ho1, ⟨ex.1, ex.2.1, ex.2.2⟩, rfl⟩, r1, tab1, nd1, mem1, ?_, by rw [l1]; exact few, ld2⟩ (.inr ⟨m, pm⟩))
      unfold SetTable.tooFull at full
      rw [decide_eq_true_eq, f4, efl] at full
      rw [l1]
      omega
  by_cases pl : t1.plain = true
  · exact wp_if_pos pl (wpAny_bind (e.byVal hx fun c => tail c))
  · exact wp_if_neg pl (wpAny_bind (wpAny_pure (tail true)))
end
end
end Xts
set_option Elab.async false
set_option linter.all false
set_option maxRecDepth 100000
set_option maxHeartbeats 8000000
set_option pp.maxSteps 400
set_option pp.deepTerms false
/-! set(a list or a tuple of things on the heap), and how many unlike ones there are. -/
namespace Xts
open PySem PySem.Spec PyProof.Rows L2
theorem cn_of {κ : Type} [DecidableEq κ] : ∀ {m l : List κ}, l.Nodup → (∀ k, k ∈ l ↔ k ∈ m) → l.length = Xset.cn m
  | [], l, _, h => by
    cases l with
    | nil => rfl
    | cons x r => exact absurd ((h x).mp List.mem_cons_self) (by simp)
  | x :: m, l, nd, h => by
    unfold Xset.cn
    by_cases c : x ∈ m
    · rw [if_pos c]
      exact cn_of nd fun k => (h k).trans ⟨fun z => (List.mem_cons.mp z).elim (fun y => by rw [y]; exact c) id, List.mem_cons_of_mem _⟩
    · rw [if_neg c]
      have xl : x ∈ l := (h x).mpr List.mem_cons_self
      have e := List.length_erase_of_mem xl
      have pos := List.length_pos_of_mem xl
      have := cn_of (m := m) (nd.erase x) fun k => by
        rw [nd.mem_erase_iff, h k, List.mem_cons]
        exact ⟨fun z => z.2.resolve_left z.1, fun z => ⟨fun y => c (by rw [← y]; exact z), .inr z⟩⟩
      omega
section
variable {P : Program} {w : World} {κ : Type} [DecidableEq κ] {e : Elt P w κ}
/-- the set has got what the first i of these are -/
def Up (e : Elt P w κ) (h : Heap) (S : Addr) (ks : List (Addr × κ)) (i : Nat) : Prop :=
  ∃ L es ep t, Holds e h S L es ep t ∧ (∀ p ∈ L, p ∈ ks) ∧ (∀ k, k ∈ L.map (·.2) ↔ k ∈ (ks.take i).map (·.2)) ∧ L.length ≤ i
theorem Up.move {h h' : Heap} {S : Addr} {ks : List (Addr × κ)} {i : Nat} (u : Up e h S ks i) (hS : ∀ o, h.get? S = some o → h'.get? S = some o) (hk : ∀ p ∈ ks, ∀ o, h.get? p.1 = some o → h'.get? p.1 = some o) : Up e h' S ks i := by
  obtain ⟨L, es, ep, t, R, sub, r⟩ := u
  obtain ⟨o, ho, r2⟩ := R.at_
  exact ⟨L, es, ep, t, ⟨⟨o, hS o ho, r2⟩, R.rows, R.tab, R.nd, fun p hp => e.stays (R.mem p hp) (hk p (sub p hp)), R.room, R.few, R.led⟩, sub, r⟩
theorem Up.fresh {h : Heap} {S : Addr} {ks : List (Addr × κ)} {led : Bool} (ho : h.get? S = some { cls := .type "set", dict := none, data := .set #[] 0 (.fresh 0 0 led) }) (l : led = (!w.params.followText "set-order")) : Up e h S ks 0 :=
  ⟨[], #[], 0, .fresh 0 0 led, ⟨⟨_, ho, ⟨rfl, rfl, rfl⟩, rfl⟩, rfl, ⟨List.Pairwise.nil, rfl, rfl, .inl rfl, fun x hx => (by cases hx), fun i h j hi => (by simp [hsE] at hi)⟩, List.nodup_nil, fun p hp => (by cases hp), by show 0 * 5 < 7 * 3; decide, by show 0 < 64; decide, by
    show _ ∨ led = true
    rw [l]
    cases w.params.followText "set-order"
    · exact .inr rfl
    · exact .inl rfl⟩, fun p hp => (by cases hp), fun k => by simp, Nat.le_refl _⟩
variable {A : Around} {R : Result → Shared → Prop} {it : Addr} {fp wr : List Addr} {G : Array GenState → Array GenState → Prop} {n : Nat} {Pv : Nat → Value → Prop} {St : Nat → Shared → Prop}
theorem run_up (W : WalksS P w A.in1 it fp wr G n Pv St) {S : Addr} (nS : S ∉ fp) {ks : List (Addr × κ)} (lk : ks.length = n) (few : n < 64) (hu : e.room A.in1) (off : ∀ p ∈ ks, p.1 ∉ S :: wr) (val : ∀ i v, Pv i v → ∃ p, ks[i]? = some p ∧ v = .ref p.1) :
    ∀ (left i : Nat) (s : Shared), n - i = left → i ≤ n → St i s → (∀ p ∈ ks, e.is s.heap p.2 p.1) → Up e s.heap S ks i → (∀ s', Moved (S :: wr) G s s' → Up e s'.heap S ks n → R (.ok (.ret .none)) s') →
      codeAny (model P w) A (.builtin "set.update.loop" ⟨[.ref S, .ref it], []⟩) R s := by
  have nw : S ∉ wr := fun z => nS (W.sub _ z)
  have up : ∀ b ∈ wr, b ∈ S :: wr := fun b m => List.mem_cons_of_mem _ m
  have offw : ∀ p ∈ ks, p.1 ∉ wr := fun p hp z => off p hp (up _ z)
  have offS : ∀ p ∈ ks, p.1 ≠ S := fun p hp z => off p hp (by rw [z]; exact List.mem_cons_self)
  intro left
  induction left with
  | zero =>
    intro i s h0 le st al hs q
    obtain rfl : i = n := by omega
    refine codeAny_builtin PyProof.Rows.F.entry_set_update_loop (by
      rw [Around.under_plainId PyProof.Rows.F.plain_set_update_loop _]
      show wpAny _ A.in1 (pyNext (.ref it) >>= _) _ _ s
      exact wpAny_bind (W.done s _ _ st fun s' mv => by
        show wpAny _ A.in1 (ret Value.none) _ _ s'
        exact wpAny_pure (q s' (mv.mono up) (hs.move (fun o x => mv.heap S _ nw x) fun p hp o x => mv.heap _ _ (offw p hp) x))))
  | succ left ih =>
    intro i s h0 le st al hs q
    have lt : i < n := by omega
    refine codeAny_builtin PyProof.Rows.F.entry_set_update_loop ?_
    rw [Around.under_plainId PyProof.Rows.F.plain_set_update_loop _]
    show wpAny _ A.in1 (pyNext (.ref it) >>= _) _ _ s
    refine wpAny_bind (W.item i s _ _ lt st fun v s' pv st' mv => ?_)
    obtain ⟨p, hp, rfl⟩ := val i v pv
    have pk := List.mem_of_getElem? hp
    have al' : ∀ p ∈ ks, e.is s'.heap p.2 p.1 := fun p hp => e.stays (al p hp) fun o x => mv.heap _ _ (offw p hp) x
    obtain ⟨L, es, ep, t, R1, sub, iff_, len⟩ := hs.move (h' := s'.heap) (fun o x => mv.heap S _ nw x) fun p hp o x => mv.heap _ _ (offw p hp) x
    show wpAny _ A.in1 (holding [Value.ref p.1] (setAdd S (.ref p.1)) >>= _) _ _ s'
    refine wpAny_bind (wpAny_holding ?_)
    unfold setAdd
    refine wpAny_holding (wpAny_bind (e.hashes hu (al' p pk) ?_))
    refine added (s := { s' with toks := s'.toks + e.draws p.2 }) R1 (al' p pk) hu (by omega) fun c h' L' es' ep' t' sb R2 cs => ?_
    have tk : ks.take (i + 1) = ks.take i ++ [p] := by rw [List.take_add_one, hp]; rfl
    have new : Up e h' S ks (i + 1) := by
      refine ⟨L', es', ep', t', R2, ?_⟩
      rw [tk, List.map_append]
      rcases cs with ⟨m, rfl⟩ | ⟨m, pm⟩
      · refine ⟨sub, fun k => ?_, by omega⟩
        rw [List.mem_append, ← iff_ k]
        exact ⟨.inl, fun z => z.elim id fun y => by rw [List.mem_singleton.mp (show k ∈ [p.2] from y)]; exact m⟩
      · refine ⟨fun p2 hp2 => (List.mem_cons.mp (pm.mem_iff.mp hp2)).elim (fun z => by rw [z]; exact pk) (sub p2), fun k => ?_, by rw [pm.length_eq, List.length_cons]; omega⟩
        rw [(pm.map (·.2)).mem_iff, List.map_cons, List.mem_cons, List.mem_append, iff_ k]
        exact ⟨fun z => z.elim (fun y => .inr (by rw [y]; exact List.mem_singleton.mpr rfl)) .inl, fun z => z.elim .inr fun y => .inl (List.mem_singleton.mp (show k ∈ [p.2] from y))⟩
    refine wpAny_pure ⟨plainId_quiet PyProof.Rows.F.plain_set_update_loop _, ih (i + 1) _ (by omega) lt (W.frame _ s' _ _ st' (Nat.le_add_right _ _) fun b m o z => ?_) (fun p2 hp2 => e.stays (al' p2 hp2) fun o x => (sb.2 _ (offS p2 hp2)).trans x) new fun s2 mv2 z2 => ?_⟩
    · exact (sb.2 b (fun c => nS (by rw [← c]; exact m))).trans z
    · exact q s2 (Moved.trans W.gtrans ((mv.mono up).then_heap (Nat.le_add_right _ _) fun b o m z => (sb.2 b (fun c => m (by rw [c]; exact List.mem_cons_self))).trans z) mv2) z2
end
end Xts
set_option Elab.async false
set_option linter.all false
set_option maxRecDepth 100000
set_option maxHeartbeats 4000000
set_option pp.maxSteps 400
set_option pp.deepTerms false
/-! Tuples cut, put together, turned about, as lists, whatever the cases; a sign many times. -/
namespace Xtu
open PySem PySem.Spec PyProof.Rows L2
theorem same_upd {H : Hp} {p : Addr} {o : HO} (h : H p = none) : Same H (upd H p o) := fun b x e => by
  rw [upd_ne (ne_of_none e h)]
  exact e
section
variable {X : Cx}
def rSlU : V → Option Int → Option Int → Hp → VK → Prop := fun x lo hi H Q => ∃ a xs, x = .ref a ∧ H a = some (.tup xs) ∧ ∀ p H', L2.Same H H' → H' p = some (.tup (cutV xs lo hi)) → Q (.ref p) H'
theorem sl_tupU : SlR X rSlU := by
  intro pins s σ H x v vl vu lo hi sl Q I rx hs pl pu h
  obtain ⟨a, xs, rfl, e, q⟩ := h
  refine sl_tupA pins s σ H _ v vl vu lo hi sl Q I rx hs pl pu ⟨a, xs, rfl, SqT.of e, fun w => q a H (Same.refl H) ?_, fun _ p np => q p _ (same_upd np) upd_same⟩
  rw [e]
  unfold cutV
  rw [w.1, w.2, List.drop_zero, Nat.sub_zero, List.take_length]
def rCatU : R2 := fun x y H Q => ∃ a b xs ys, x = .ref a ∧ y = .ref b ∧ H a = some (.tup xs) ∧ H b = some (.tup ys) ∧ xs.length + ys.length ≤ sizeLine ∧ ∀ p H', L2.Same H H' → H' p = some (.tup (xs ++ ys)) → Q (.ref p) H'
theorem op_catU : OpR X (binaryOp .Add) rCatU := by
  intro pins s σ H x y v u Q I rx ry h
  obtain ⟨a, b, xs, ys, rfl, rfl, ea, eb, hz, q⟩ := h
  refine op_catA pins s σ H _ _ v u Q I rx ry ⟨a, b, xs, ys, rfl, rfl, SqT.of ea, SqT.of eb, hz, fun z => q b H (Same.refl H) ?_, fun _ z => q a H (Same.refl H) ?_, fun _ _ p np => q p _ (same_upd np) upd_same⟩
  · rw [z]; exact eb
  · rw [z, List.append_nil]; exact ea
end
section
variable {prog : Program} {w : World} {A : Around} {E : Value → Shared → Prop} {s : Shared}
theorem turnN {sl : Addr} {u : Tok} {n : Nat} {Q : Int × Int × Nat → Shared → Prop} (hs : s.heap.IsSliceOf sl .none .none (.int (-1) u)) (h : Q ((n : Int) - 1, -1, n) s) : wpAny (model prog w) A (Builtin.Slice.sliceApplied (.ref sl) (pure (n : Int))) Q E s := by
  obtain ⟨os, a1, a2, a3⟩ := id hs
  unfold Builtin.Slice.sliceApplied Builtin.Slice.sliceFields
  refine wpAny_bind (wpAny_bind (wpAny_field a1 a3 (x := .none) rfl (wpAny_bind (wpAny_field a1 a3 (x := .none) rfl (wpAny_bind (wpAny_field a1 a3 (x := .int (-1) u) rfl (wpAny_pure ?_)))))))
  refine wpAny_bind (slicePart_int ?_)
  show wpAny _ _ (if ((-1 : Int) == 0) = true then _ else _) _ _ s
  rw [if_neg (by decide)]
  have pl : Builtin.Slice.slicePlaces ((n : Int) - 1) (-1) (-1) = n := by
    unfold Builtin.Slice.slicePlaces
    have h1 : ¬ ((-1 : Int) > 0) := by decide
    simp only [h1, if_false, show (- -1 : Int) = 1 by decide, Int.ediv_one]
    split <;> omega
  refine wpAny_bind (slicePart_none (wpAny_bind (slicePart_none (wpAny_bind (wpAny_pure ?_)))))
  show wpAny _ _ (pure ((n : Int) - 1, (-1 : Int), Builtin.Slice.slicePlaces ((n : Int) - 1) (-1) (-1))) _ _ s
  rw [pl]
  exact wpAny_pure h
theorem fm_congr {α β : Type} {f g : α → Option β} : ∀ l : List α, (∀ m ∈ l, f m = g m) → l.filterMap f = l.filterMap g
  | [], _ => rfl
  | a :: r, h => by
    rw [List.filterMap_cons, List.filterMap_cons, h a List.mem_cons_self, fm_congr r fun m hm => h m (List.mem_cons_of_mem _ hm)]
theorem turn_all (xs : Array Value) : ((List.range xs.size).filterMap fun (m : Nat) => xs[((xs.size : Int) - 1 + (m : Int) * -1).toNat]?).toArray = xs.toList.reverse.toArray := by
  have e : ((List.range xs.size).filterMap fun (m : Nat) => xs[((xs.size : Int) - 1 + (m : Int) * -1).toNat]?) = ((List.range xs.size).map fun k => xs.size - 1 - k).filterMap (xs[·]?) := by
    rw [List.filterMap_map]
    refine fm_congr _ fun m hm => ?_
    have := List.mem_range.mp hm
    show xs[((xs.size : Int) - 1 + (m : Int) * -1).toNat]? = xs[xs.size - 1 - m]?
    congr 1
    omega
  rw [e, PySem.W.krv_range, List.filterMap_reverse, PySem.W.krv_all]
theorem itemN {t sl : Addr} {items : Array Value} {u : Tok} {Q : Value → Shared → Prop} (ht : IsTup s.heap t items) (hs : s.heap.IsSliceOf sl .none .none (.int (-1) u)) (hz : items.size ≤ sizeLine)
    (h : Q (.ref s.heap.objs.size) { s with heap := s.heap.push { cls := .type "tuple", data := .seq items.toList.reverse.toArray } }) : wpAny (model prog w) A (getItem (.ref t) (.ref sl)) Q E s := by
  have fits : sizeOk (.seq items.toList.reverse.toArray) := by
    show items.toList.reverse.toArray.size ≤ sizeLine
    rw [List.size_toArray, List.length_reverse, Array.length_toList]
    exact hz
  obtain ⟨os, a1, a2, a3⟩ := id hs
  have ty : s.TypeIs (.ref sl) "slice" := ⟨os, a1, a2⟩
  unfold getItem; try with_reducible refine wpAny_holding ?_
  (first | refine wpAny_bind (wpAny_pure ?_) | skip); refine wpAny_bind (wpAny_sequenceKey ht.typeIs (by decide) ?_)
  refine wpAny_bind (wpAny_callSpecial?_slot (name := Str.ofString "__getitem__") ht.typeIs PyProof.Rows.slot_tuple_getitem (wpAny_call_entry PyProof.Rows.slot_tuple_getitem ht.typeIs entry_tuple_getitem ?_ (args_tuple_getitem _ _)))
  show wpAny _ _ (Builtin.Tuple.tupleItemsOf (.ref t) >>= _) _ _ s; refine wpAny_bind (tupleItemsOf_ ht ?_)
  refine wpAny_bind (wpAny_typeOf ty ?_); rw [if_pos (by decide)]
  refine wpAny_bind (turnN hs ?_)
  show wpAny _ _ (if (((items.size : Int) - 1) == 0 && (-1 : Int) == 1 && (items.size == items.size)) = true then _ else _) _ _ s
  rw [if_neg (by simp), turn_all]
  (first
    | exact wpAny_bind (m := Builtin.Tuple.tupleExact _) (wpAny_newObj_type (wpAny_pure ⟨_, rfl, wpAny_pure h⟩) fits)
    | exact wpAny_bind (m := Builtin.Tuple.tupleExact _) (wpAny_newObj_type (wpAny_bind (wpAny_pure (wpAny_pure ⟨_, rfl, wpAny_pure h⟩))) fits)
    | exact wpAny_bind (wpAny_bind (m := Builtin.Tuple.tupleExact _) (wpAny_newObj_type (wpAny_pure (wpAny_pure ⟨_, rfl, wpAny_pure h⟩)) fits)))
end
section
variable {X : Cx}
def tRevN (K : PySem.W.Frag) (te : TE) : TE := fun σ H Q => te σ H fun x H1 => ∃ (a : Addr) (xs : List V), x = .ref a ∧ H1 a = some (.tup xs) ∧ ∀ p H', L2.Same H1 H' → H' p = some (.tup xs.reverse) → Q (.ref p) H'
theorem pe_revN {e : Expr} {te : TE} {k : Nat} {p1 p2 p3 pos : Pos} (he : PE X e te) : PE X (.Subscript e (.Slice none none (some (.UnaryOp .USub (.Constant (.int 1) k p1) p2)) p3) pos) (tRevN X.K te) := by
  refine ⟨fun pins s σ H Q I h => Subscript_ (thn (he.run pins s σ H _ I h) fun v s1 ⟨x, H1, I1, r1, a, xs, ex, hx, q⟩ => ?_)⟩
  subst ex; cases r1
  have hst : PO X (some (.UnaryOp .USub (.Constant (.int 1) k p1) p2)) (tPart (tUn (rU fun i => .int (-i)) (tC (.int 1)))) := po_some (pe_un un_neg pe_int)
  refine wpAny_Slice (thn (po_none.run pins s1 σ H1 (fun o G => o = none ∧ G = H1) I1 ⟨rfl, rfl⟩) fun vl s2 ⟨l, G, I2, pl, el, e2⟩ => ?_)
  subst el e2
  refine thn (po_none.run pins s2 σ G (fun o G2 => o = none ∧ G2 = G) I2 ⟨rfl, rfl⟩) fun vu s3 ⟨u, G2, I3, pu, eu, e3⟩ => ?_
  subst eu e3
  refine thn (hst.run pins s3 σ G2 (fun o G3 => o = some (-1) ∧ G3 = G2) I3 ⟨1, rfl, -1, rfl, rfl, rfl⟩) fun vs s4 ⟨o, G3, I4, ps, eo, e4⟩ => ?_
  subst eo e4
  cases pl; cases pu
  cases ps with
  | int _ tk =>
  have I5 : Inv X pins σ G3 { s4 with heap := s4.heap.push { cls := .type "slice", data := .fields #[.none, .none, .int (-1) tk] } } := I4.kept (t' := s4.toks) fun b ob q => Heap.get?_push_of_some _ q
  obtain ⟨its, r, ht, hz⟩ := I5.tuple (SqT.of hx)
  have hlen := r.length
  show wpAny (model X.prog X.w) X.A (subscriptTail e (.Slice none none (some (.UnaryOp .USub (.Constant (.int 1) k p1) p2)) p3) (.ref a) (.ref s4.heap.objs.size)) (EP X pins σ Q) X.xe { s4 with heap := s4.heap.push { cls := .type "slice", data := .fields #[.none, .none, .int (-1) tk] } }
  refine tail_any (ops := [.ref a, .ref s4.heap.objs.size]) ht.typeIs PyProof.Rows.slot_tuple_getitem.lookup ?_ (by with_unfolding_all rfl)
  refine itemN ht (Heap.IsSliceOf.new _ _ _ _) (by rw [List.size_toArray]; omega) ?_
  have nw := I5.hok.fresh (Nat.le_refl _)
  refine ⟨.ref _, _, I5.laid (t' := s4.toks) (o := .tup xs.reverse) (fun b ob q => Heap.get?_push_of_some _ q) (Nat.le_refl _) ?_, rfl, q _ _ (same_upd nw) upd_same⟩
  exact ⟨by rw [List.length_reverse]; exact hz, _, r.reverse, IsTup.new _ _⟩
/-- a list of a tuple's things, new -/
theorem cr_listT : CallR X (.type "list") (fun xs H Q => ∃ p ys, xs = [.ref p] ∧ SqT X.K H p ys ∧ ∀ l, H l = none → l ≠ sysModules → Q (.ref l) (upd H l (.lst ys))) := by
  intro pins s σ H xs us Q I r h
  obtain ⟨p, ys, rfl, hq, q⟩ := h
  obtain ⟨u, rfl, rx⟩ := vals1 r; cases rx
  obtain ⟨its, r', ⟨o, ho, hc, n, hd⟩, hz⟩ := I.tuple hq
  have hlen := r'.length
  exact call_list_seq p (.inr rfl) ho hc hd (fun h' c' kp e => ⟨.ref s.heap.objs.size, _, I.laid (t' := s.toks) kp (Nat.le_refl _) (show ObjOk X.prog X.w _ h' _ (.lst ys) from ⟨hz, its, c', r', e⟩), rfl, q _ (I.hok.fresh (Nat.le_refl _)) (Nat.ne_of_gt I.big)⟩) (by simp only [List.size_toArray]; omega)
end
section
variable {X : Cx}
/-- "x" * 41 -/
theorem op_x41 : OpR X (binaryOp .Mult) (fun x y H Q => x = .str "x" ∧ y = .int 41 ∧ ∀ z : Str, z.length = 41 → (∀ c ∈ z.cps.toList, c = 120) → Q (.str z) H) := by
  intro pins s σ H x y v u Q I rx ry h
  obtain ⟨rfl, rfl, q⟩ := h
  obtain ⟨t, rfl⟩ := rx
  obtain ⟨t2, rfl⟩ := ry
  refine PySem.P.mul_str (by decide) (fun _ _ => by decide +kernel) (fun _ _ => by decide +kernel) ⟨by decide +kernel, .str ⟨(List.replicate 41 ("x" : Str).cps).foldl (· ++ ·) #[]⟩, H, I.tok _, ⟨_, rfl⟩, q _ (by decide +kernel) (by decide +kernel)⟩
end
end Xtu
set_option Elab.async false
set_option linter.all false
set_option maxRecDepth 100000
set_option maxHeartbeats 8000000
set_option pp.maxSteps 400
set_option pp.deepTerms false
/-! set(x) of things on the heap; tuples of numbers and texts; len(set(x)). -/
namespace Xts
open PySem PySem.Spec PyProof.Rows L2
/-- what set(x) comes to, x a list or a tuple of such things -/
theorem set_up {prog : Program} {w : World} {κ : Type} [DecidableEq κ] (e : Elt prog w κ) {A : Around} {E : Value → Shared → Prop} {s : Shared} {l : Addr} {xs : Array Value} {ks : List (Addr × κ)} {Q : Value → Shared → Prop}
    (quiet : A.handled = none) (src : s.heap.IsList l xs ∨ s.heap.IsTuple l xs) (lk : ks.length = xs.size) (few : xs.size < 64) (hu : e.room A.in1.in1.in1) (al : ∀ p ∈ ks, e.is s.heap p.2 p.1) (val : ∀ (i : Nat) (v : Value), xs[i]? = some v → ∃ p, ks[i]? = some p ∧ v = .ref p.1)
    (q : ∀ (h' : Heap) (tk : Nat), Up e h' s.heap.objs.size ks xs.size → (∀ b o, b < s.heap.objs.size → s.heap.get? b = some o → h'.get? b = some o) → Q (.ref s.heap.objs.size) { s with heap := h', toks := tk }) :
    wpAny (model prog w) A (call (.type "set") [.ref l]) Q E s := by
  obtain ⟨cc, tl, mro⟩ := PySem.F.called_set.mro; have g1 := PySem.F.called_set.made; have g2 := PySem.F.called_set.sub
  refine wpAny_call (codeAny_of_tree ?_); show wpAny _ _ (callAny (.type "set") _) _ _ _
  refine wpAny_pure ⟨Code.quiet_builtin _ (by decide +kernel), codeAny_builtin PySem.F.entry_type_call ?_⟩; rw [Around.under_plain (weight_type_call_type "set" [.ref l] []) rfl]
  have g3 := PySem.F.called_set.notType; have g4 := PySem.F.called_set.canCreate; have g5 := PySem.F.typeCall_set_1 (.ref l)
  repeat (any_goals (first | assumption | wp_step))
  have low : ∀ p ∈ ks, p.1 < s.heap.objs.size := fun p hp => let ⟨o, _, _, ho, _⟩ := e.seq (al p hp); Heap.lt_size ho
  generalize hp : s.heap.objs.size = S at q low ⊢
  refine codeAny_mono (code_set_led1 (P := prog) (.ref l) (E := E) (Q₁ := fun ob s1 => ∃ led : Bool, led = (!w.params.followText "set-order") ∧ ob = .ref S ∧ s1 = { s with heap := s.heap.push { cls := .type "set", dict := none, data := .set #[] 0 (.fresh 0 0 led) } }) ⟨_, rfl, by rw [hp], rfl⟩) fun r s1 hr => ?_
  match r, hr with
  | .error e, hr => exact hr
  | .ok .next, hr | .ok .brk, hr | .ok .cont, hr => exact hr.elim
  | .ok (.ret ob), ⟨led, eled, e1, e2⟩ =>
  subst e1 e2
  generalize hob : ({ cls := .type "set", dict := none, data := .set #[] 0 (.fresh 0 0 led) } : Obj) = newS
  have atS : (s.heap.push newS).get? S = some newS := by rw [← hp]; exact Heap.get?_push_size _ (by rw [← hob]; rfl)
  have ty : Shared.TypeIs { s with heap := s.heap.push newS } (.ref S) "set" := ⟨_, atS, by rw [← hob]⟩
  have szS : (s.heap.push newS).objs.size = S + 1 := by rw [Heap.size_push, hp]
  have g6 := PySem.F.called_set.init.lookup; have g7 := PySem.F.called_set.init.bind (.ref S)
  repeat (any_goals (first | assumption | wp_step))
  -- what __init__ leaves
  refine codeAny_mono (codeAny_call_builtin (R := wants (fun r s2 => r = .none ∧ ∃ h' tk, s2 = { s with heap := h', toks := tk } ∧ Up e h' S ks xs.size ∧ ∀ b o, b < S → s.heap.get? b = some o → h'.get? b = some o) E) PySem.F.called_set.init.plain PySem.F.entry_set_init (check_set_init_1 ty ?_)) fun r2 s2 hr2 => ?_
  · rcases src with hl | hl
    · obtain ⟨⟨a1, a2, a3, a4⟩, ho, e1, n1, e2⟩ := hl
      simp only at e1 e2; subst e1 e2
      have lS : @LT.lt Nat _ l S := by rw [← hp]; exact Heap.lt_size ho
      have hl1 : (s.heap.push newS).IsList l xs := ⟨_, Heap.get?_push_of_some _ ho, rfl, n1, rfl⟩
      have f1 := PySem.F.sub_list_set; have f2 := PySem.F.sub_list_frozenset
      have f3 : (Value.type "list" == Value.type "dict") = false := by decide
      have ho1 := Heap.get?_push_of_some newS ho
      unfold Builtin.«set.__init__» noKeywords Builtin.Frozenset.updateFrom
      generalize hPI : pyIter = PI
      wp_walk
      rw [show newS.data = .set #[] 0 (.fresh 0 0 led) from by rw [← hob]]
      wp_walk
      subst hPI
      refine wpAny_pyIter_list hl1 ?_; refine wpAny_bind (wpAny_runValue ?_)
      have nI : l ≠ (s.heap.push newS).objs.size := by rw [szS]; exact Nat.ne_of_lt (Nat.lt_succ_of_lt lS)
      refine run_up (e := e) (ks := ks) ((Walks.list (show A.in1.in1.in1.handled = none by simp [quiet]) _ l nI xs).toS) (S := S) (by rw [szS]; simp only [List.mem_cons, List.not_mem_nil, or_false, not_or]; exact ⟨Nat.ne_of_lt (Nat.lt_succ_self _), Nat.ne_of_gt lS⟩) lk few hu (fun p hp2 => ?_) val (xs.size - 0) 0 _ (by omega) (Nat.zero_le _) ⟨⟨_, Heap.get?_push_size _ rfl, rfl, rfl⟩, hl1.push _⟩ (fun p hp2 => e.stays (al p hp2) fun o x => Heap.get?_push_of_some _ (Heap.get?_push_of_some _ x)) ?_ fun s' mv z => ?_
      · have := low p hp2
        rw [szS]
        simp only [List.mem_cons, List.not_mem_nil, or_false, not_or]
        exact ⟨Nat.ne_of_lt this, Nat.ne_of_lt (Nat.lt_succ_of_lt this)⟩
      · have at2 : ((s.heap.push newS).push { cls := .type "list_iterator", data := .fields #[.ref l, .int 0 0] }).get? S = some newS := Heap.get?_push_of_some _ atS
        exact Up.fresh (led := led) (by rw [hob]; exact at2) eled
      · obtain ⟨h', g', d', tk', os'⟩ := s'
        obtain ⟨m1, m2, m3, m4, _⟩ := mv
        simp only at m1 m2 m3 m4 z
        subst m2 m3 m4
        show wpAny _ _ _ _ _ _
        refine wpAny_pure (show wpAny _ _ (ret Value.none) _ _ _ from wpAny_pure ⟨rfl, h', tk', rfl, z, fun b o lt e => m1 b o ?_ (Heap.get?_push_of_some _ (Heap.get?_push_of_some _ e))⟩)
        rw [szS]
        simp only [List.mem_cons, List.not_mem_nil, or_false, not_or]
        exact ⟨Nat.ne_of_lt lt, Nat.ne_of_lt (Nat.lt_succ_of_lt lt)⟩
    · obtain ⟨⟨a1, a2, a3, a4⟩, ho, e1, n1, e2⟩ := hl
      simp only at e1 e2; subst e1 e2
      have lS : @LT.lt Nat _ l S := by rw [← hp]; exact Heap.lt_size ho
      have hl1 : (s.heap.push newS).IsTuple l xs := ⟨_, Heap.get?_push_of_some _ ho, rfl, n1, rfl⟩
      have f1 := PySem.F.sub_tuple_set; have f2 := PySem.F.sub_tuple_frozenset
      have f3 : (Value.type "tuple" == Value.type "dict") = false := by decide
      have ho1 := Heap.get?_push_of_some newS ho
      unfold Builtin.«set.__init__» noKeywords Builtin.Frozenset.updateFrom
      generalize hPI : pyIter = PI
      wp_walk
      rw [show newS.data = .set #[] 0 (.fresh 0 0 led) from by rw [← hob]]
      wp_walk
      subst hPI
      refine wpAny_pyIter_tuple hl1 ?_; refine wpAny_bind (wpAny_runValue ?_)
      have nI : l ≠ (s.heap.push newS).objs.size := by rw [szS]; exact Nat.ne_of_lt (Nat.lt_succ_of_lt lS)
      refine run_up (e := e) (ks := ks) ((Walks.tuple (show A.in1.in1.in1.handled = none by simp [quiet]) _ l nI xs).toS) (S := S) (by rw [szS]; simp only [List.mem_cons, List.not_mem_nil, or_false, not_or]; exact ⟨Nat.ne_of_lt (Nat.lt_succ_self _), Nat.ne_of_gt lS⟩) lk few hu (fun p hp2 => ?_) val (xs.size - 0) 0 _ (by omega) (Nat.zero_le _) ⟨⟨_, Heap.get?_push_size _ rfl, rfl, rfl⟩, hl1.push _⟩ (fun p hp2 => e.stays (al p hp2) fun o x => Heap.get?_push_of_some _ (Heap.get?_push_of_some _ x)) ?_ fun s' mv z => ?_
      · have := low p hp2
        rw [szS]
        simp only [List.mem_cons, List.not_mem_nil, or_false, not_or]
        exact ⟨Nat.ne_of_lt this, Nat.ne_of_lt (Nat.lt_succ_of_lt this)⟩
      · have at2 : ((s.heap.push newS).push { cls := .type "tuple_iterator", data := .fields #[.ref l, .int 0 0] }).get? S = some newS := Heap.get?_push_of_some _ atS
        exact Up.fresh (led := led) (by rw [hob]; exact at2) eled
      · obtain ⟨h', g', d', tk', os'⟩ := s'
        obtain ⟨m1, m2, m3, m4, _⟩ := mv
        simp only at m1 m2 m3 m4 z
        subst m2 m3 m4
        show wpAny _ _ _ _ _ _
        refine wpAny_pure (show wpAny _ _ (ret Value.none) _ _ _ from wpAny_pure ⟨rfl, h', tk', rfl, z, fun b o lt e => m1 b o ?_ (Heap.get?_push_of_some _ (Heap.get?_push_of_some _ e))⟩)
        rw [szS]
        simp only [List.mem_cons, List.not_mem_nil, or_false, not_or]
        exact ⟨Nat.ne_of_lt lt, Nat.ne_of_lt (Nat.lt_succ_of_lt lt)⟩
  · match r2, hr2 with
    | .error e, hr2 => exact hr2
    | .ok .next, hr2 | .ok .brk, hr2 | .ok .cont, hr2 => exact hr2.elim
    | .ok (.ret _), ⟨e1, h', tk, e2, e3, e4⟩ =>
      subst e1 e2
      repeat (any_goals (first | assumption | wp_step))
      exact q h' tk e3 e4
end Xts
set_option Elab.async false
set_option linter.all false
set_option maxRecDepth 100000
set_option maxHeartbeats 4000000
set_option pp.maxSteps 400
set_option pp.deepTerms false
/-! Tuples of numbers and texts as things that a set may hold; len(set(x)) of a list or tuple of such. -/
namespace Xts
open PySem PySem.Spec PyProof.Rows L2
section
variable {P : Program} {w : World} {A : Around} {E : Value → Shared → Prop} {s : Shared}
def Flat (v : Value) : Prop := (∃ i t, v = .int i t) ∨ ∃ x t, v = .str x t
theorem flat_all {k : List Key} {vs : List Value} (h : ItemsAre (mixKind P w) k vs) : ∀ v ∈ vs, Flat v := by
  induction h with
  | nil => intro v hv; cases hv
  | cons h1 _ ih =>
    intro v hv
    rcases List.mem_cons.mp hv with z | z
    · rw [z]
      rcases keyIs_shape h1 with ⟨i, t, _, e⟩ | ⟨x, t, _, e⟩
      · exact .inl ⟨i, t, e⟩
      · exact .inr ⟨x, t, e⟩
    · exact ih v z
theorem flat_cls {v : Value} (h : Flat v) (n : Nat) : ofAClassStatement n v = pure false := by
  rcases h with ⟨i, t, rfl⟩ | ⟨x, t, rfl⟩ <;> cases n <;> rfl
theorem flat_val {v : Value} (h : Flat v) (n : Nat) : ∃ c : Bool, hashByValue n v = pure c := by
  rcases h with ⟨i, t, rfl⟩ | ⟨x, t, rfl⟩
  · exact ⟨true, by cases n <;> rfl⟩
  · exact ⟨false, by cases n <;> rfl⟩
theorem tup_cls {k : List Key} {b : Addr} {Q : Bool → Shared → Prop} (hk : IsTupleKey (mixKind P w) s.heap k b) (q : Q false s) : wpAny (model P w) A (ofAClassStatement 8 (.ref b)) Q E s := by
  have hT := IsTupleKey.typeIs hk
  obtain ⟨o, items, n, ho, _, hd, hi⟩ := hk
  unfold ofAClassStatement
  refine wpAny_bind (wpAny_typeOf hT ?_)
  dsimp only
  simp only [show (("tuple" : String) == "tuple") = true by decide, if_true, Bool.not_true, Bool.false_eq_true, if_false]
  try refine wpAny_bind (wpAny_pure ?_)
  try simp only [Bool.not_true, Bool.false_eq_true, if_false]
  refine wpAny_bind (wpAny_seqItems ho hd ?_)
  dsimp only
  refine wpAny_bind ?_
  show wpAny _ _ (forIn items _ _) _ _ s
  rw [← Array.forIn_toList]
  refine wpAny_forIn_list _ (fun rest r s' => r.1 = none ∧ s' = s ∧ ∀ v ∈ rest, Flat v) _ ?_ ?_ _ _ ⟨rfl, rfl, flat_all hi⟩
  · rintro v rest r s' ⟨hr, rfl, al⟩
    rw [flat_cls (al v List.mem_cons_self)]
    refine wpAny_bind (wpAny_pure ?_)
    simp only [Bool.false_eq_true, if_false]
    exact wpAny_pure ⟨rfl, rfl, fun u hu => al u (List.mem_cons_of_mem _ hu)⟩
  · rintro ⟨r1, r2⟩ s' ⟨hr, rfl, _⟩
    simp only at hr
    subst hr
    exact wpAny_pure q
theorem tup_val {k : List Key} {b : Addr} {Q : Bool → Shared → Prop} (hk : IsTupleKey (mixKind P w) s.heap k b) (q : ∀ c, Q c s) : wpAny (model P w) A (hashByValue 8 (.ref b)) Q E s := by
  have hT := IsTupleKey.typeIs hk
  obtain ⟨o, items, n, ho, _, hd, hi⟩ := hk
  unfold hashByValue
  refine wpAny_bind (wpAny_specialOf hT PySem.F.slot_tuple_hash.lookup ?_)
  refine wpAny_bind (wpAny_seqItems ho hd ?_)
  refine wpAny_bind ?_
  show wpAny _ _ (forIn items _ _) _ _ s
  rw [← Array.forIn_toList]
  refine wpAny_forIn_list _ (fun rest r s' => r.1 = none ∧ s' = s ∧ ∀ v ∈ rest, Flat v) _ ?_ ?_ _ _ ⟨rfl, rfl, flat_all hi⟩
  · rintro v rest r s' ⟨hr, rfl, al⟩
    obtain ⟨c, hc⟩ := flat_val (al v List.mem_cons_self) 7
    rw [hc]
    refine wpAny_bind (wpAny_pure ?_)
    cases c with
    | true =>
      simp only [Bool.not_true, Bool.false_eq_true, if_false]
      exact wpAny_pure ⟨rfl, rfl, fun u hu => al u (List.mem_cons_of_mem _ hu)⟩
    | false =>
      simp only [Bool.not_false, if_true]
      exact wpAny_pure (wpAny_pure (q false))
  · rintro ⟨r1, r2⟩ s' ⟨hr, rfl, _⟩
    simp only at hr
    subst hr
    exact wpAny_pure (q true)
theorem tup_unseen {k : List Key} {b : Addr} {ys : List Value} {Q : Bool → Shared → Prop} (hk : IsTupleKey (mixKind P w) s.heap k b) (hy : ∀ y ∈ ys, ∃ k' c, y = Value.ref c ∧ IsTupleKey (mixKind P w) s.heap k' c) (q : Q false s) :
    wpAny (model P w) A (searchCouldBeSeen (.ref b) ys) Q E s := by
  unfold searchCouldBeSeen
  refine wpAny_bind ?_
  refine wpAny_forIn_list _ (fun rest r s' => r.1 = none ∧ s' = s ∧ ∀ y ∈ rest, ∃ k' c, y = Value.ref c ∧ IsTupleKey (mixKind P w) s.heap k' c) _ ?_ ?_ _ _ ⟨rfl, rfl, hy⟩
  · rintro v rest r s' ⟨hr, rfl, al⟩
    obtain ⟨k', c, rfl, hc⟩ := al v List.mem_cons_self
    have al' : ∀ y ∈ rest, ∃ k' c, y = Value.ref c ∧ IsTupleKey (mixKind P w) s'.heap k' c := fun y z => al y (List.mem_cons_of_mem _ z)
    dsimp only
    by_cases same : (b == c || (carriedByValue (.ref b) && carriedByValue (.ref c))) = true
    · exact wp_if_pos same (wpAny_pure ⟨rfl, rfl, al'⟩)
    · refine wp_if_neg same (wpAny_bind (wpAny_eqIsQuiet_tuple hk ?_))
      simp only [Bool.not_true, Bool.false_eq_true, if_false]
      refine wpAny_bind (wpAny_eqIsQuiet_tuple hc ?_)
      simp only [Bool.not_true, Bool.false_eq_true, if_false]
      refine wpAny_bind (tup_cls hk ?_)
      simp only [Bool.false_eq_true, if_false]
      refine wpAny_bind (tup_cls hc ?_)
      simp only [Bool.false_eq_true, if_false]
      exact wpAny_pure ⟨rfl, rfl, al'⟩
  · rintro ⟨r1, r2⟩ s' ⟨hr, rfl, _⟩
    simp only at hr
    subst hr
    exact wpAny_pure q
end
/-- tuples of numbers and texts -/
def tupE (P : Program) (w : World) : Elt P w (List Key) where
  is := IsTupleKey (mixKind P w)
  hash := tupleKeyHash (mixKind P w)
  draws := fun ks => ks.length + 1
  room := fun A => A.units < cLine
  hashes := fun hu hk q => wpAny_pyHash_tuple hu hk q
  equals := fun hu hx hy q => wpAny_eqBool_tuple hu hx hy q
  unseen := fun hk hy q => tup_unseen hk hy q
  byVal := fun hk q => tup_val hk q
  seq := fun ⟨o, items, n, ho, _, hd, _⟩ => ⟨o, items, n, ho, hd⟩
  stays := fun ⟨o, items, n, ho, r⟩ k => ⟨o, items, n, k o ho, r⟩
section
variable {X : Cx}
theorem tup_is {pins : List (Addr × Obj)} {σ : L2.St} {H : Hp} {s : Shared} {b : Addr} {k : List Key} (I : L2.Inv X pins σ H s) (h : SqT X.K H b (k.map kV)) : (tupE X.prog X.w).is s.heap k b := by
  obtain ⟨its, r, pl, hz⟩ := I.tuple h
  obtain ⟨o, a1, a2, a3, a4⟩ := pl
  have := items_are (P := X.prog) (w := X.w) r
  first
    | exact ⟨o, its.toArray, _, a1, a2, a4, by simpa using this⟩
    | exact ⟨o, its.toArray, _, a1, a2, a3, by simpa using this⟩
    | exact ⟨o, its.toArray, _, a1, a2.1, a3, by simpa using this⟩
/-- how many unlike keys there are -/
def unlikeK (ks : List (List Key)) : Nat := Xset.cn ks
theorem unlikeK_nodup (ks : List (List Key)) : unlikeK ks = ks.length ↔ ks.Nodup := Xset.cn_nodup ks
def tLenSetK (K : PySem.W.Frag) (ta : TE) : TE := fun σ H Q => ta σ H fun x H1 => ∃ (l : Addr) (ks : List (Addr × List Key)), x = .ref l ∧ (SqL K H1 l (ks.map fun p => V.ref p.1) ∨ SqT K H1 l (ks.map fun p => V.ref p.1)) ∧ (∀ p ∈ ks, SqT K H1 p.1 (p.2.map kV)) ∧ ks.length < 64 ∧ Q (.int (unlikeK (ks.map (·.2)))) H1
theorem pe_lenSetK {a : Expr} {ta : TE} {p p2 q pos : Pos} (hc : X.calm = true) (hu : X.A.units + 64 < cLine) (hg : Gl X "len") (hm : X.mg "len" = none) (hg2 : Gl X "set") (hm2 : X.mg "set" = none) (ha : PE X a ta)
    (na : starEach [a] X.env = (false, eval a X.env) :: starEach [] X.env := by rfl) : PE X (.Call (.Name "len" p) [.Call (.Name "set" p2) [a] [] q] [] pos) (tLenSetK X.K ta) := by
  refine ⟨fun pins s σ H Q I h => ?_⟩
  refine Call_ (ld_blt I hg hm boot_len ?_); refine PyProof.Rows.callWith_builtin1 (PyProof.Rows.args_cons ?_ rfl) rfl rfl
  refine Call_ (ld_blt I hg2 hm2 boot_set ?_); refine PyProof.Rows.callWith_type1 (PyProof.Rows.args_cons (thn (ha.run pins s σ H _ I h) fun v s1 ⟨x, H1, I1, r1, q1⟩ => PyProof.Rows.args_nil ?_) na) na rfl
  obtain ⟨l, ks, rfl, hq, al, h64, q1⟩ := q1
  cases r1
  have isk : ∀ p ∈ ks, (tupE X.prog X.w).is s1.heap p.2 p.1 := fun p hp => tup_is I1 (al p hp)
  have val : ∀ (its : List Value), Vals (ks.map fun p => V.ref p.1) its → ∀ (i : Nat) (v : Value), its.toArray[i]? = some v → ∃ p, ks[i]? = some p ∧ v = Value.ref p.1 := fun its r i v e => by
    rw [List.getElem?_toArray] at e
    have hl : its.length = ks.length := by rw [← r.length, List.length_map]
    have lt : i < ks.length := by rw [← hl]; exact (List.getElem?_eq_some_iff.mp e).1
    obtain ⟨w2, hw, hr⟩ := r.get (i := i) (x := .ref ks[i].1) (by simp [lt])
    rw [hw] at e
    cases e
    exact ⟨ks[i], List.getElem?_eq_getElem lt, hr⟩
  have fin : ∀ (its : List Value), Vals (ks.map fun p => V.ref p.1) its → (s1.heap.IsList l its.toArray ∨ s1.heap.IsTuple l its.toArray) →
      wpAny (model X.prog X.w) X.A (call (.type "set") [.ref l]) (fun v s₂ => wpAny (model X.prog X.w) X.A (spliced (backTo pos (starEach [] X.env))) (fun vs s₂ => wpAny (model X.prog X.w) X.A (call (.builtin "len") (v :: vs)) (EP X pins σ Q) X.xe s₂) X.xe s₂) X.xe s1 := fun its r pl => by
    have hl : its.toArray.size = ks.length := by rw [List.size_toArray, ← r.length, List.length_map]
    refine set_up (tupE X.prog X.w) (I1.ok.hd hc) pl (ks := ks) hl.symm (by rw [hl]; exact h64) (show X.A.units + 1 + 1 + 1 < cLine by omega) isk (val its r) fun h' tk hS hk => ?_
    refine PyProof.Rows.args_nil ?_
    rw [hl] at hS
    obtain ⟨L, es, ep, t, R, _, iff_, len⟩ := hS
    rw [List.take_length] at iff_
    have I2 : Inv X pins σ H1 { s1 with heap := h', toks := tk } := I1.kept fun b o e => hk b o (Heap.lt_size e) e
    obtain ⟨o, ho, hex, hd⟩ := R.at_
    have n1 : es.size = unlikeK (ks.map (·.2)) := by
      rw [rows_size R.rows, ← List.length_map (f := fun p : Addr × List Key => p.2)]
      exact cn_of R.nd iff_
    have n2 := R.few
    rw [← rows_size R.rows] at n2
    refine call_len_set ho hex hd (Holds.fits (s := { s1 with heap := h', toks := tk }) R) (by omega) ⟨.int (unlikeK (ks.map (·.2))), H1, I2.tok _, ⟨_, by rw [n1]⟩, q1⟩
  rcases hq with hq | hq
  · obtain ⟨its, r, pl, hz⟩ := I1.list hq
    exact fin its r (.inl pl.isList)
  · obtain ⟨its, r, pl, hz⟩ := I1.tuple hq
    obtain ⟨o, a1, a2, a3, a4⟩ := pl
    exact fin its r (.inr ⟨o, a1, a2, a3, a4⟩)
end
end Xts
set_option Elab.async false
set_option linter.all false
set_option maxRecDepth 100000
set_option maxHeartbeats 4000000
set_option pp.maxSteps 400
set_option pp.deepTerms false
/-! list.extend(tuple); o.m(a=e) by keywords alone -/
namespace Xex
open PySem PySem.Spec PyProof.Rows L2
theorem ext_tup (p : Addr) (us : Array Value) (k : Nat) (r : Addr) (ws : Array Value) (j : Nat) (di : Option Addr) (so : Array (Option Value)) (e0 : ¬(!us.isEmpty && Builtin.List.listTooLong (us.size + ws.size)) = true) (e1 : us.size ≤ sizeLine) (e2 : us.size + ws.size ≤ sizeLine + 1) :
    Meets (Builtin.«list.extend» ⟨[Value.ref p, Value.ref r], []⟩) (fun _ R z => z.heap.get? p = some { cls := .type "list", dict := none, data := .seq us k, slots := #[] } ∧ z.heap.get? r = some { cls := .type "tuple", dict := di, data := .seq ws j, slots := so } ∧ R (.ok (.ret Value.none)) { z with heap := z.heap.update p (Obj.mapSeq fun y => y ++ ws), toks := z.toks }) :=
  .of_wp fun prog w A R z h => by
    obtain ⟨hp, g, d, tk, os⟩ := z
    obtain ⟨h1, h2, h⟩ := h
    have fa := AutoSeq1.idx_int
    have fb := AutoSeq1.sub_tuple_tuple
    have fc := AutoSeq1.sub_list_list
    have fd := AutoSeq1.sub_tuple_list
    have fe := AutoSeq1.sub_list_tuple
    have big : (us ++ ws).size ≤ sizeLine + 1 := by
      rw [Array.size_append]
      exact e2
    wp_walk using (wpAny_updateSeq h1 rfl (hz := e1) (_hz' := big)), wpAny_loadPart' h1, wpAny_loadPart' h2
    exact ⟨_, rfl, h⟩
section
variable {X : Cx}
def rExtT : V → List V → Hp → VK → Prop := fun x ys H Q => ∃ p r as bs, x = .ref p ∧ ys = [.ref r] ∧ H p = some (.lst as) ∧ H r = some (.tup bs) ∧ as.length + bs.length ≤ sizeLine ∧ Q .non (upd H p (.lst (as ++ bs)))
theorem mt_extT : MtM X "list.extend" rExtT := by
  intro pins s σ H x ys v us Q I rx rv h
  obtain ⟨p, r, as, bs, rfl, rfl, eP, eR, hz, q⟩ := h
  cases rx
  obtain ⟨u, rfl, ru⟩ := rv.one
  cases ru
  obtain ⟨z, its, n, ra, hl, e⟩ := I.lstM eP
  have okR : ObjOk X.prog X.w H s.heap r (.tup bs) := I.hok r _ eR
  obtain ⟨_, jts, rb, ⟨oc, od, oda, osl⟩, eh, ec, m, ed⟩ := okR
  dsimp only at ec ed
  subst ec ed
  have lb := rb.length
  have fits : its.toArray.size + jts.toArray.size ≤ sizeLine := by
    rw [List.size_toArray, List.size_toArray]
    omega
  have few : ¬ (!its.toArray.isEmpty && Builtin.List.listTooLong (its.toArray.size + jts.toArray.size)) = true := by
    rw [notLongL fits, Bool.and_false]
    exact Bool.false_ne_true
  refine call_meets F.slot_list_extend ⟨_, e, rfl⟩ F.entry_list_extend (F.args_list_extend_2 _ _) (ext_tup p its.toArray n r jts.toArray m od osl few (by rw [List.size_toArray]; omega) (by omega)) ⟨e, eh, ?_⟩
  refine ⟨.non, _, I.lset (its' := its ++ jts) eP e (by simp) (ra.append rb) ?_, rfl, q⟩
  rw [List.length_append]
  omega
end
section
variable {X : Cx} {CX : CXT} {k : Nat} {f C : Addr} {fd : FuncData} {ps ks : List Str} {sp : Sp} {E : XK} {m : Str} {o : Expr} {apos pos : Pos} {kws : List Keyword} {ta : TE} {tk : TA} {g : List Value → List Value → List Value} {gV : List V → List V → List V}
def tMethK (C : Addr) (m : Str) (n : Nat) (sp : Sp) (gV : List V → List V → List V) (E : XK) (ta : TE) (tk : TA) : TE := fun σ H Q => ta σ H fun x H1 => ∃ a dx fs, x = .ref a ∧ H1 a = some (.ins C dx fs) ∧ fs.lookup m = none ∧ tk σ H1 fun zs H2 => zs.length = n ∧ sp (gV [x] zs) H2 Q E
theorem pe_methK {pl : Sem Bool} (he : PE X o ta) (c : Cls X.K C) (hm : Meth X.K C m f) (F : FnOk X.prog X.w X.K X.mg X.base CX k f fd ps sp) (room : Room k X.A) (kb : KBn X.K fd ps 1 ks g gV) (px : Passes CX X E) (pk : PK X kws tk)
    (hall : (backToKw pos (keywordEach kws X.env)).all (·.1.isSome) = true := by rfl) (hks : (backToKw pos (keywordEach kws X.env)).filterMap (·.1) = ks := by rfl)
    (hpl : ((backTo pos (starEach [] X.env)).any (·.1) || (backToKw pos (keywordEach kws X.env)).any (·.1.isNone)) = false := by rfl)
    (ht : eval (.Call (.Attribute o m apos) [] kws pos) X.env = (do
      let ov ← eval o X.env
      standAt apos.atName
      let (fn, fst) ← holding [ov] (getMethod ov m pl)
      callWith pos fn fst (backTo pos (starEach [] X.env)) (backToKw pos (keywordEach kws X.env))) := by rfl) :
    PE X (.Call (.Attribute o m apos) [] kws pos) (tMethK C m ks.length sp gV E ta tk) := by
  refine ⟨fun pins s σ H Q I h => ?_⟩
  refine PySem.W.methodCall_KW (pl := pl) (thn (he.run pins s σ H _ I h) fun u s1 ⟨x, H1, I1, rx, a, dx, fs, ex, ea, l, q⟩ => ?_) ht
  subst ex
  obtain rfl : u = Value.ref a := rx
  refine getmeth_ok I1 ea c hm l ?_
  refine PySem.W.callWith_KW0 (first := [.ref a]) (h₀ := X.base) I.ok.mod.kin hm.kp hall (thn (pk.run pos pins s1 σ H1 _ I1 q) fun ws s2 z => ?_) hpl
  obtain ⟨zs, H2, I2, rz, l2, q2⟩ := z
  refine ⟨I2.kIn, ?_⟩
  rw [hks]
  exact run_fnN (us := [.ref a]) (vs := [.ref a]) F room kb px I2 (.cons rfl .nil) rz rfl l2 q2
end
end Xex
set_option Elab.async false
set_option linter.all false
set_option maxRecDepth 100000
set_option maxHeartbeats 4000000
set_option pp.maxSteps 400
set_option pp.deepTerms false
/-! sorted(xs, key=o.m): the key a bound method; o.m as a value -/
namespace Xsm
open PySem PySem.Spec PyProof.Rows L2
/-! ## sorted(xs, key=f), f a def of the text, xs a list or a tuple -/
/-- the items that list() would give: of a list, of a tuple -/
theorem collect_seq {prog : Program} {w : World} {A : Around} {E : Value → Shared → Prop} {s : Shared} {l : Addr} {o : Obj} {vs : List Value} {n : Nat} {T : String} {Q : List Value → Shared → Prop}
    (ho : s.heap.get? l = some o) (hT : T = "list" ∨ T = "tuple") (hc : o.cls = .type T) (hd : o.data = .seq vs.toArray n) (hz : vs.length ≤ sizeLine)
    (h : Q vs { s with heap := (s.heap.push (seqObj "list" #[] 0)).update s.heap.objs.size (Obj.mapSeq (· ++ vs.toArray)) }) : wpAny (model prog w) A (collect (.ref l)) Q E s := by
  unfold collect
  refine wpAny_bind (wpAny_runValue (codeAny_builtin entry_proto_collect' ?_))
  show wpAny _ _ (do again (.builtin "list.__iadd__" ⟨[← newList [], .ref l], []⟩)) _ _ s
  refine wpAny_bind (wpAny_newList (wpAny_pure ⟨Code.quiet_builtin _ (by decide +kernel), codeAny_builtin entry_list_iadd' ?_⟩))
  show wpAny _ _ (Builtin.List.listExtendWith (.ref s.heap.objs.size) (.ref l) (.ref s.heap.objs.size)) _ _ { s with heap := s.heap.push (seqObj "list" #[] 0) }
  unfold Builtin.List.listExtendWith
  have at_l : (s.heap.push (seqObj "list" #[] 0)).get? l = some o := Heap.get?_push_of_some _ ho
  have at_n : (s.heap.push (seqObj "list" #[] 0)).get? s.heap.objs.size = some (seqObj "list" #[] 0) := Heap.get?_push_size _ rfl
  refine wpAny_bind (wpAny_typeOf (T := T) ⟨o, at_l, hc⟩ ?_)
  have yes : (Builtin.List.listSameRef (.ref s.heap.objs.size) (.ref l) || Value.type T == Value.type "list" || Value.type T == Value.type "tuple") = true := by
    rcases hT with rfl | rfl
    · rw [show (Value.type "list" == Value.type "list") = true from rfl]
      simp
    · rw [show (Value.type "tuple" == Value.type "tuple") = true from rfl]
      simp
  rw [if_pos yes]
  refine wpAny_bind (listItems_at at_l hd ?_)
  refine wpAny_bind (listItems_at (xs := #[]) (n := 0) at_n rfl ?_)
  rw [if_neg (by simp)]
  refine wpAny_bind (listUpdate_at (xs := #[]) (n := 0) at_n rfl ?_ (Nat.zero_le _) ?_)
  · refine wpAny_pure ?_
    show wpAny (model prog w) A (do
        let ob ← load s.heap.objs.size
        match ob.data with
        | .seq xs _ => pure xs.toList
        | _ => unsupported "internal:collect") Q E { s with heap := (s.heap.push (seqObj "list" #[] 0)).update s.heap.objs.size (Obj.mapSeq (· ++ vs.toArray)) }
    refine wpAny_bind (wpAny_load (get?_update_seq at_n _) ?_)
    have e : ((#[] : Array Value) ++ vs.toArray).toList = vs := by simp
    show wpAny _ _ (pure ((#[] : Array Value) ++ vs.toArray).toList) Q E _
    rw [e]
    exact wpAny_pure h
  · show (#[] ++ vs.toArray).size ≤ sizeLine + 1
    simp only [Array.size_append, List.size_toArray, List.length_nil]
    omega
/-- sorted(xs, ..) is the sort of a new list -/
theorem sorted_seq {prog : Program} {w : World} {A : Around} {E : Value → Shared → Prop} {s : Shared} {l : Addr} {o : Obj} {vs : List Value} {n : Nat} {T : String} {kw : List (Str × Value)} {Q : Value → Shared → Prop}
    (ho : s.heap.get? l = some o) (hT : T = "list" ∨ T = "tuple") (hc : o.cls = .type T) (hd : o.data = .seq vs.toArray n) (hz : vs.length ≤ sizeLine)
    (ha1 : argsOk "sorted" ⟨[.ref l], kw⟩) (ha2 : ∀ x, argsOk "list.sort" ⟨[.ref x], kw⟩)
    (body : ∀ E' : Value → Shared → Prop, wpAny (model prog w) A.in1.in1 (Builtin.«list.sort» ⟨[.ref (s.heap.objs.size + 1)], kw⟩)
      (fun f s' => f = .done (.ret .none) ∧ Q (.ref (s.heap.objs.size + 1)) s') E' { s with heap := PySem.W.copyHeap s.heap vs }) :
    wpAny (model prog w) A (call (.builtin "sorted") [.ref l] kw) Q E s := by
  refine PyProof.Rows.call_function_entry_kw kind_sorted plain_sorted entry_sorted ha1 ?_
  unfold Builtin.«sorted»
  refine wpAny_bind (m := checkCount "sorted" 1 1 _) (wpAny_pure ?_)
  refine wpAny_bind (collect_seq ho hT hc hd hz (wpAny_bind (wpAny_newList ?_ hz)))
  have sz : ((s.heap.push (seqObj "list" #[] 0)).update s.heap.objs.size (Obj.mapSeq (· ++ vs.toArray))).objs.size = s.heap.objs.size + 1 := by
    rw [Heap.size_update, size_push']
  show wpAny _ _ _ _ _ { s with heap := PySem.W.copyHeap s.heap vs }
  rw [sz]
  refine wpAny_bind (wpAny_holding (wpAny_call_entry_kw slot_list_sort ⟨_, PySem.W.copyHeap_at s.heap vs, rfl⟩ entry_list_sort ?body (ha2 _)))
  case body =>
    refine wpAny_mono (body _) (fun f s' hf => ?_) fun _ _ e => e
    obtain ⟨rfl, hq⟩ := hf
    exact ⟨_, rfl, wpAny_pure ⟨_, rfl, hq⟩⟩
theorem sqT_same {K : PySem.W.Frag} {H H' : Hp} (s : Same H H') {t : Addr} {xs : List V} (q : SqT K H t xs) : SqT K H' t xs := by
  rcases q with (q | ⟨o, q⟩) | q
  · exact .inl (.inl (s _ _ q))
  · exact .inl (.inr ⟨o, s _ _ q⟩)
  · exact .inr q
section
variable {K : PySem.W.Frag} {H H' : Hp}
mutual
theorem dp_same (s : Same H H') : ∀ (d : PyData) (v : V), Dp K H v d → Dp K H' v d
  | .none, _, h => by
    cases h
    exact .non
  | .bool b, _, h => by
    cases h
    exact .bl b
  | .int i, _, h => by
    cases h
    exact .int i
  | .str x, _, h => by
    cases h
    exact .str x
  | .list ds, _, h => by
    cases h with
    | lst q r => exact .lst (s.seq q) (dpAll_same s ds _ r)
  | .tuple ds, _, h => by
    cases h with
    | tup q r => exact .tup (sqT_same s q) (dpAll_same s ds _ r)
  | .dict _, _, h => by cases h
theorem dpAll_same (s : Same H H') : ∀ (ds : List PyData) (vs : List V), DpAll K H vs ds → DpAll K H' vs ds
  | [], _, h => by
    cases h
    exact .nil
  | d :: ds, _, h => by
    cases h with
    | cons q r => exact .cons (dp_same s d _ q) (dpAll_same s ds _ r)
end
end
section
variable {X : Cx} {pins : List (Addr × Obj)} {σ : L2.St} {H : Hp}
/-- what stands beside the heap's own things, behind a call -/
theorem fp_on {H' : Hp} {b : Addr} (f : FpOk X pins H b) (n : H' b = none) : FpOk X pins H' b := ⟨n, f.2⟩
theorem fp_stack {s : Shared} {b : Addr} (I : Inv X pins σ H s) (f : FpOk X pins H b) : b ∉ frs X.stack := fun z => by
  rcases List.mem_cons.mp (I.stkSub b z) with e | e
  · exact f.2.1 e
  · exact f.2.2.1 e
/-- an object of nobody's becomes a list of ours, another is let go -/
theorem Inv.take {s : Shared} {h' : Heap} {a kS : Addr} {ys : List V} {out : List Value} {c t' : Nat} (I : Inv X pins σ H s) (fa : FpOk X pins H a) (fk : FpOk X pins H kS) (keep : ∀ b o, b ≠ a → b ≠ kS → s.heap.get? b = some o → h'.get? b = some o)
    (hz : ys.length ≤ sizeLine) (rv : Vals ys out) (na : h'.get? a = some (seqObj "list" out.toArray c)) : Inv X pins σ (upd H a (.lst ys)) { s with heap := h', toks := t' } := by
  have ne : ∀ b o, H b = some o → b ≠ a ∧ b ≠ kS := fun b o e => ⟨ne_of_none e fa.1, ne_of_none e fk.1⟩
  have off : ∀ {b : Addr}, b ∉ [a, kS] → b ≠ a ∧ b ≠ kS := fun {b} z => ⟨fun q => z (by simp [q]), fun q => z (by simp [q])⟩
  have u : Un (frs X.stack) [a, kS] H (upd H a (.lst ys)) s.heap h' := by
    refine ⟨fun b o e n _ hx => keep b o (off hx).1 (off hx).2 e, fun b o e n _ hx => ⟨o.slots, keep b o (off hx).1 (off hx).2 e⟩, fun b o e n hx => ?_, fun b o e hx => ⟨o, keep b o (off hx).1 (off hx).2 e⟩, fun b zs e => ?_, fun b o z e => ?_, fun b ps e => ⟨#[], ?_⟩⟩
    · rw [upd_ne (off hx).1]
      exact n
    · rw [upd_ne (ne _ _ e).1]
      exact e
    · rw [upd_ne (ne _ _ e).1]
      exact e
    · rw [upd_ne (ne _ _ e).1, e]
      simp
  have ok : HOk X.prog X.w (upd H a (.lst ys)) h' := fun b o e => by
    by_cases hb : b = a
    · subst hb
      rw [upd_same] at e
      cases e
      exact ⟨hz, out, c, rv, na⟩
    · rw [upd_ne hb] at e
      refine (I.hok b o e).stay (fun z v hz' q => ?_) (fun z q => ?_) fun z zs q => ?_
      · have nz : z ≠ a ∧ z ≠ kS := by
          rcases hz' with e1 | e1
          · rw [e1]
            exact ne _ _ e
          · exact ne _ _ e1
        exact keep z v nz.1 nz.2 q
      · rw [upd_ne (ne _ _ q).1]
        exact q
      · rw [upd_ne (ne _ _ q).1]
        exact q
  refine I.call (g' := s.gens) (d' := s.drawn) (t' := t') (ch := [a, kS]) u ok I.bare fun b hb => ?_
  rcases List.mem_cons.mp hb with e | e
  · rw [e]
    exact ⟨fa.2.2.2.1, fa.2.1, fa.2.2.2.2.1, fa.2.2.2.2.2⟩
  · rw [List.mem_singleton.mp e]
    exact ⟨fk.2.2.2.1, fk.2.1, fk.2.2.2.2.1, fk.2.2.2.2.2⟩
theorem vals_each : ∀ {xs : List V} {vs : List Value}, Vals xs vs → PySem.W.EachIs (fun v x => RelV x v) vs xs
  | _, _, .nil => .nil
  | _, _, .cons r t => .cons r (vals_each t)
theorem each_vals : ∀ {xs : List V} {vs : List Value}, PySem.W.EachIs (fun v x => RelV x v) vs xs → Vals xs vs
  | _, _, .nil => .nil
  | _, _, .cons r t => .cons r (each_vals t)
end
section
variable {X : Cx} {f g sf : Addr} {pins : List (Addr × Obj)} {σ : L2.St} {H : Hp} {k : Nat} {fd : FuncData} {ps : List Str} {sp : Sp} {kd : V → PyData} {xs : List V}
/-- what the key's def promises of the items -/
def KeyOk (X : Cx) (sf : Addr) (sp : Sp) (H : Hp) (xs : List V) (kd : V → PyData) : Prop :=
  ∀ (H' : Hp) (Q : VK), Same H H' → ∀ x ∈ xs, (∀ v H2, Same H' H2 → Dp X.K H2 v (kd x) → Q v H2) → sp [.ref sf, x] H' Q E0
theorem each_get {α β : Type} {R : α → β → Prop} : ∀ {as : List α} {bs : List β} {i : Nat} {a : α}, PySem.W.EachIs R as bs → as[i]? = some a → ∃ b, bs[i]? = some b ∧ R a b
  | _, _, _, _, .nil, e => by simp at e
  | _, _, 0, _, .cons r _, e => by
    simp at e
    subst e
    exact ⟨_, rfl, r⟩
  | _, _, i + 1, a, .cons _ t, e => by
    obtain ⟨b, h1, h2⟩ := each_get (i := i) (a := a) t (by simpa using e)
    exact ⟨b, by simpa using h1, h2⟩
theorem each_more {α β : Type} {R : α → β → Prop} : ∀ {as : List α} {bs : List β} {a : α} {b : β}, PySem.W.EachIs R as bs → R a b → PySem.W.EachIs R (as ++ [a]) (bs ++ [b])
  | _, _, _, _, .nil, r => .cons r .nil
  | _, _, _, _, .cons q t, r => .cons q (each_more t r)
theorem each_mono {α β : Type} {R S : α → β → Prop} (h : ∀ a b, R a b → S a b) : ∀ {as : List α} {bs : List β}, PySem.W.EachIs R as bs → PySem.W.EachIs S as bs
  | _, _, .nil => .nil
  | _, _, .cons r t => .cons (h _ _ r) (each_mono h t)
theorem each_len {α β : Type} {R : α → β → Prop} : ∀ {as : List α} {bs : List β}, PySem.W.EachIs R as bs → as.length = bs.length
  | _, _, .nil => rfl
  | _, _, .cons _ t => congrArg Nat.succ (each_len t)
theorem keyI_rest {A : Around} {E : Value → Shared → Prop} {s : Shared} {a kS : Addr} {e1 : Nat} {vs : List Value} {P : PySem.Fin → Shared → Prop} (fr : A.frames = some X.stack) (room : Room k A)
    (F : FnOk X.prog X.w X.K X.mg X.base CX0 k g fd ps sp) (eq_ : H f = some (.met g sf)) (bd : Binds X.K fd ps []) (ok : KeyOk X sf sp H xs kd) (I : Inv X pins σ H s) (fa : FpOk X pins H a) (fk : FpOk X pins H kS) (hka : kS ≠ a) (rv : Vals xs vs)
    (nk : s.heap.get? kS = some (seqObj "list" #[] 0)) (na : s.heap.get? a = some (seqObj "list" #[] e1)) (hz : vs.length ≤ sizeLine)
    (hal : PySem.W.AllAlike (xs.map kd)) (hsk : PySem.W.Sortable (xs.map kd)) (hu : ∀ d, d ∈ xs.map kd → A.units + d.depth < cLine)
    (h : ∀ s' H', Inv X pins σ (upd H' a (.lst (xs.mergeSort (PySem.W.dataLe false kd)))) s' → Same H H' → H' a = none → P (.done (.ret .none)) s') :
    wpAny (model X.prog X.w) A (ksk_rest a (.ref f) false vs.toArray e1 (.ref kS)) P E s := by
  have hlen : xs.length = vs.length := rv.length
  unfold ksk_rest
  refine wpAny_bind (wpAny_rule ?_)
  rw [List.forIn_toArray]
  refine wpAny_bind (ksk_fold (fun i s' => ∃ (H' : Hp) (kA : Array Value) (e : Nat), Inv X pins σ H' s' ∧ Same H H' ∧ H' kS = none ∧ H' a = none ∧ s'.heap.get? kS = some (seqObj "list" kA e) ∧ s'.heap.get? a = some (seqObj "list" #[] e1) ∧
    PySem.W.EachIs (fun v d => ∃ y, RelV y v ∧ Dp X.K H' y d) kA.toList ((xs.map kd).take i)) vs 0 s ⟨H, #[], 0, I, Same.refl H, fk.1, fa.1, nk, na, by rw [List.take_zero]; exact .nil⟩ ?step ?done)
  case step =>
    rintro j u s1 hx ⟨H1, kA, e, I1, sm, hk0, ha0, nk1, na1, hks⟩
    simp only [Nat.zero_add] at hks ⊢
    obtain ⟨x, hxj, rx⟩ := each_get (vals_each rv) hx
    have hxm : x ∈ xs := List.mem_of_getElem? hxj
    have fk1 := fp_on fk hk0
    have fa1 := fp_on fa ha0
    have hsp := ok H1 (fun v H2 => Same H1 H2 ∧ Dp X.K H2 v (kd x)) sm x hxm fun v H2 s2 d2 => ⟨s2, d2⟩
    have en : Env0 X.prog X.w X.K X.mg X.base A X.stack s1 H1 := by
      have z := I1.env0
      exact ⟨fr, z.mod, z.bs, z.bsz, z.funs, z.frf, z.hok, z.bare⟩
    have hl1 : [V.ref sf, x].length = ps.length := F.len _ _ _ _ hsp
    have b1 := bd s1 [.ref sf, u] I1.kIn (by simpa using hl1)
    rw [List.append_nil] at b1
    have hkz : kA.size ≤ vs.length := by
      have z := each_len hks
      rw [Array.length_toList, List.length_take, List.length_map] at z
      omega
    refine wpAny_bind (wpAny_attempt (wpAny_call (codeAny_mono (call_met I1 (sm _ _ eq_) (F.run A X.stack s1 H1 ⟨[.ref sf, u], []⟩ [.ref sf, u] [.ref sf, x] _ E0 room en b1 (.cons rfl (.cons rx .nil)) hsp)) fun r s2 hr => ?_)))
    match r, hr with
    | .error z, hr => exact False.elim hr
    | .ok .next, hr => exact False.elim hr
    | .ok .brk, hr => exact False.elim hr
    | .ok .cont, hr => exact False.elim hr
    | .ok (.ret v), hr =>
      obtain ⟨y, H2, os, bare, un, hok, ry, sm2, dp2⟩ := hr
      obtain ⟨h2, g2, d2, t2, os2⟩ := s2
      obtain rfl : os2 = s1.os := os
      have I2 : Inv X pins σ H2 _ := I1.call (h' := h2) (g' := g2) (d' := d2) (t' := t2) (ch := []) un hok bare fun b z => absurd z List.not_mem_nil
      have nk2 : h2.get? kS = some (seqObj "list" kA e) := un.keep _ _ nk1 hk0 (fp_stack I1 fk1) List.not_mem_nil
      have na2 : h2.get? a = some (seqObj "list" #[] e1) := un.keep _ _ na1 ha0 (fp_stack I1 fa1) List.not_mem_nil
      have hk2 : H2 kS = none := un.free _ _ nk1 hk0 List.not_mem_nil
      have ha2 : H2 a = none := un.free _ _ na1 ha0 List.not_mem_nil
      have sb := Heap.SameBut.update h2 kS (Obj.mapSeq (·.push v))
      obtain ⟨c2, hc2⟩ : ∃ c2, (h2.update kS (Obj.mapSeq (·.push v))).get? kS = some (seqObj "list" (kA.push v) c2) := ⟨_, get?_update_seq nk2 (·.push v)⟩
      refine wpAny_bind (listUpdate_at (s := ⟨h2, g2, d2, t2, s1.os⟩) nk2 rfl ?_ (Nat.le_trans hkz hz) (by rw [Array.size_push]; omega))
      refine wpAny_pure ⟨rfl, H2, kA.push v, c2, ?_, sm.trans sm2, hk2, ha2, hc2, (sb.2 a hka.symm).trans na2, ?_⟩
      · refine Inv.turnedL (ch := [kS]) (t' := t2) I2 (fun b o hb q => (sb.2 b fun z => hb (by simp [z])).trans q) fun b hb => ?_
        rw [List.mem_singleton.mp hb]
        exact fp_on fk1 hk2
      · have ek : (xs.map kd).take (j + 1) = (xs.map kd).take j ++ [kd x] := by
          rw [List.take_add_one, List.getElem?_map, hxj]
          rfl
        rw [ek, Array.toList_push]
        refine each_more (each_mono (fun w d q => ?_) hks) ⟨y, ry, dp2⟩
        obtain ⟨z, rz, dz⟩ := q
        exact ⟨z, rz, dp_same sm2 _ _ dz⟩
  case done =>
    rintro s1 ⟨H1, kA, e, I1, sm, hk0, ha0, nk1, na1, hks⟩
    rw [Nat.zero_add, List.take_of_length_le (by rw [List.length_map]; omega)] at hks
    have hk' : PySem.W.EachIs (fun v d => ∃ as, Reads s1.heap v d as) kA.toList (xs.map kd) := each_mono (fun v d q => by
      obtain ⟨y, ry, dy⟩ := q
      exact Dp.reads I1 d y v dy ry) hks
    have hsz : kA.size = vs.length := by
      have z := each_len hk'
      rw [Array.length_toList, List.length_map] at z
      omega
    -- all but the list of the keys
    let Hk : Hp := upd (fun _ => none) kS (.lst [])
    have hidK : (hidT s1.heap Hk).get? kS = none := by
      cases q : (hidT s1.heap Hk).get? kS with
      | none => rfl
      | some o =>
        have z := (of_hidT q).2
        rw [show Hk kS = some (.lst []) from upd_same] at z
        cases z
    refine wpAny_bind (listItems_at nk1 rfl ?_)
    refine PySem.W.keyH_end (κ := PySem.W.dataKind s1.heap (xs.map kd)) (h₁ := hidT s1.heap Hk) (fun b o _ q => (of_hidT q).1) hidK nk1 na1 hka (PySem.W.SortsAt.data hk' hal hsk hu) hsz hz fun h3 tk3 c k3 n3 => ?_
    have each := PySem.W.keyedOut_each (rev := false) (out := PySem.W.sortVals (PySem.W.dataKind s1.heap (xs.map kd)) false kA.toList vs) kd (vs := vs) ⟨s1.heap, kA.toList, hal, rfl, hk'⟩ (vals_each rv)
    have I3 := Inv.take (t' := tk3) (kS := kS) (h' := h3) (c := c) I1 (fp_on fa ha0) (fp_on fk hk0) (fun b o hb hb2 q => k3 b o hb (hidT_get q (by rw [show Hk b = none from by show upd _ _ _ _ = _; rw [upd_ne hb2]]))) ?_ (each_vals each) n3
    · exact h _ H1 I3 sm ha0
    · rw [List.length_mergeSort]
      omega
end
section
variable {X : Cx} {k : Nat} {g sf : Addr} {fd : FuncData} {ps : List Str} {sp : Sp}
def rSortM (X : Cx) (g : Addr) (sp : Sp) : List V → List V → Hp → VK → Prop := fun vs zs H Q => ∃ (l f sf : Addr) (xs : List V) (kd : V → PyData), vs = [.ref l] ∧ zs = [.ref f] ∧ H f = some (.met g sf) ∧ (SqL X.K H l xs ∨ SqT X.K H l xs) ∧
  KeyOk X sf sp H xs kd ∧ PySem.W.AllAlike (xs.map kd) ∧ PySem.W.Sortable (xs.map kd) ∧ (∀ x ∈ xs, (kd x).depth ≤ 50) ∧ ∀ H' a, Same H H' → H' a = none → Q (.ref a) (upd H' a (.lst (xs.mergeSort (PySem.W.dataLe false kd))))
theorem cr_sortM (room : Room (k + 2) X.A) (F : FnOk X.prog X.w X.K X.mg X.base CX0 k g fd ps sp) (bd : Binds X.K fd ps []) : CallRK X (.builtin "sorted") [Str.ofString "key"] (rSortM X g sp) := by
  intro pins s σ H vs zs us ws Q I rv rz h
  obtain ⟨l, f, sf, xs, kd, rfl, rfl, em, hq, ok, hal, hsk, hdp, q⟩ := h
  obtain ⟨u, rfl, ru⟩ := vals1 rv
  obtain ⟨w, rfl, rw'⟩ := vals1 rz
  cases ru
  cases rw'
  obtain ⟨T, o, its, n, hT, ho, hc, hd, rx, hz⟩ : ∃ (T : String) (o : Obj) (its : List Value) (n : Nat), (T = "list" ∨ T = "tuple") ∧ s.heap.get? l = some o ∧ o.cls = .type T ∧ o.data = .seq its.toArray n ∧ Vals xs its ∧ its.length ≤ sizeLine := by
    rcases hq with hq | hq
    · obtain ⟨its, r, ⟨o, n, ho, hc, _, hd⟩, hz⟩ := I.list hq
      exact ⟨"list", o, its, n, .inl rfl, ho, hc, hd, r, by rw [← r.length]; exact hz⟩
    · obtain ⟨its, r, ⟨o, ho, hc, n, hd⟩, hz⟩ := I.tuple hq
      exact ⟨"tuple", o, its, n, .inr rfl, ho, hc, hd, r, by rw [← r.length]; exact hz⟩
  have hu := room.units
  refine sorted_seq ho hT hc hd hz (ksk_s1 _ _) (fun _ => ksk_l1 _ _) fun E' => ?_
  show wpAny _ _ (Builtin.«list.sort» ⟨[.ref (s.heap.objs.size + 1)], [(Str.ofString "key", .ref f)]⟩) _ _ _
  rw [ksk_t1]
  unfold ksk_tree
  have na0 := PySem.W.copyHeap_at s.heap its
  obtain ⟨e1, na1⟩ : ∃ e1, ((PySem.W.copyHeap s.heap its).update (s.heap.objs.size + 1) (Obj.mapSeq fun _ => (#[] : Array Value))).get? (s.heap.objs.size + 1) = some (seqObj "list" #[] e1) := ⟨_, get?_update_seq na0 fun _ => #[]⟩
  have sb := Heap.SameBut.update (PySem.W.copyHeap s.heap its) (s.heap.objs.size + 1) (Obj.mapSeq fun _ => (#[] : Array Value))
  refine wpAny_bind (listItems_at na0 rfl ?_)
  refine wpAny_bind (listUpdate_at na0 rfl ?_ (by rw [List.size_toArray]; exact hz) (Nat.zero_le _))
  refine wpAny_bind (seqEpoch_at na1 rfl ?_)
  refine wpAny_bind (wpAny_newTuple ?_ (by show its.length ≤ _; exact hz))
  refine wpAny_bind (wpAny_newList ?_ (Nat.zero_le _))
  refine wpAny_holding ?_
  have old : ∀ b o, s.heap.get? b = some o → ((((PySem.W.copyHeap s.heap its).update (s.heap.objs.size + 1) (Obj.mapSeq fun _ => (#[] : Array Value))).push (seqObj "tuple" its.toArray 0)).push (seqObj "list" #[] 0)).get? b = some o := fun b o e =>
    Heap.get?_push_of_some _ (Heap.get?_push_of_some _ ((sb.2 b (Nat.ne_of_lt (Nat.lt_succ_of_lt (Heap.lt_size e)))).trans (PySem.W.copyHeap_old e)))
  have big : s.heap.objs.size + 1 < (PySem.W.copyHeap s.heap its).objs.size := Heap.lt_size na0
  have hkS : (((PySem.W.copyHeap s.heap its).update (s.heap.objs.size + 1) (Obj.mapSeq fun _ => (#[] : Array Value))).push (seqObj "tuple" its.toArray 0)).objs.size = (PySem.W.copyHeap s.heap its).objs.size + 1 := by rw [size_push', Heap.size_update]
  have ltS : s.heap.objs.size + 1 < (((PySem.W.copyHeap s.heap its).update (s.heap.objs.size + 1) (Obj.mapSeq fun _ => (#[] : Array Value))).push (seqObj "tuple" its.toArray 0)).objs.size := by
    rw [hkS]
    omega
  have le1 : s.heap.objs.size ≤ s.heap.objs.size + 1 := Nat.le_succ _
  have le2 : s.heap.objs.size ≤ (((PySem.W.copyHeap s.heap its).update (s.heap.objs.size + 1) (Obj.mapSeq fun _ => (#[] : Array Value))).push (seqObj "tuple" its.toArray 0)).objs.size := by rw [hkS]; omega
  refine keyI_rest (A := X.A.in1.in1) (E := E') (by show X.A.frames = some X.stack; exact I.ok.frames) room.in1.in1 F em bd ok (I.kept (t' := s.toks) old) (I.fpOk le1 (I.hok.fresh le1)) (I.fpOk le2 (I.hok.fresh le2)) (Nat.ne_of_gt ltS) rx
    (Heap.get?_push_size _ rfl) (Heap.get?_push_of_some _ (Heap.get?_push_of_some _ na1)) hz hal hsk (fun d hd' => ?_) fun s' H' I' sm ha => ⟨rfl, ?_⟩
  · obtain ⟨x, hx, rfl⟩ := List.mem_map.mp hd'
    have := hdp x hx
    show X.A.units + 1 + 1 + (kd x).depth < cLine
    omega
  · exact ⟨.ref _, _, I', rfl, q H' _ sm ha⟩
end
section
variable {X : Cx} {e : Expr} {ta : TE} {C g : Addr} {m : Str} {pos : Pos}
/-- o.m as a value -/
def tBound (C : Addr) (m : Str) (g : Addr) (ta : TE) : TE := fun σ H Q => ta σ H fun x H1 => ∃ a dx fs, x = .ref a ∧ H1 a = some (.ins C dx fs) ∧ fs.lookup m = none ∧ ∀ q, H1 q = none → Q (.ref q) (upd H1 q (.met g a))
theorem pe_bound (he : PE X e ta) (c : Cls X.K C) (k : BMeth X.K C m g) (hb : attributeBase e m X.env (eval e X.env) = eval e X.env) : PE X (.Attribute e m pos) (tBound C m g ta) := by
  refine ⟨fun pins s σ H Q I h => ?_⟩
  refine attr_of hb (thn (he.run pins s σ H _ I h) fun u s1 ⟨x, H1, I1, rx, a, dx, fs, ex, ea, l, q⟩ => ?_)
  subst ex
  exact op_getbound I1 ea c k l rx q
end
end Xsm
set_option Elab.async false
set_option linter.all false
set_option maxRecDepth 100000
set_option maxHeartbeats 4000000
set_option pp.maxSteps 400
set_option pp.deepTerms false
/-! sorted of data of any one kind: of a list, of a tuple, of a dict's key tuples -/
namespace Xsd
open PySem PySem.Spec PyProof.Rows L2 Xsm
theorem each_pairs {h : Heap} {R : V → Value → Prop} {xs : List V} {vs : List Value} (r : Vals xs vs) : PySem.W.EachIs (fun v x => RelV x v) vs xs := vals_each r
theorem each_fst {α : Type} (f : α → V) : ∀ {bs : List α} {vs : List Value}, Vals (bs.map f) vs → PySem.W.EachIs (fun v b => RelV (f b) v) vs bs
  | [], _, h => by cases h; exact .nil
  | b :: bs, _, h => by cases h with | cons r t => exact .cons r (each_fst f t)
theorem fst_each {α : Type} (f : α → V) : ∀ {bs : List α} {vs : List Value}, PySem.W.EachIs (fun v b => RelV (f b) v) vs bs → Vals (bs.map f) vs
  | _, _, .nil => .nil
  | _, _, .cons r t => .cons r (fst_each f t)
theorem each_and {α : Type} {R S : Value → α → Prop} : ∀ {bs : List α} {vs : List Value}, PySem.W.EachIs R vs bs → (∀ v b, b ∈ bs → R v b → S v b) → PySem.W.EachIs S vs bs
  | _, _, .nil, _ => .nil
  | _, _, .cons r t, h => .cons (h _ _ List.mem_cons_self r) (each_and t fun v b m q => h v b (List.mem_cons_of_mem _ m) q)
section
variable {X : Cx} {k : Nat}
/-- what a pair's second says of its first -/
abbrev Pd := V × PyData
def rSortD (K : PySem.W.Frag) : List V → Hp → VK → Prop := fun vs H Q => ∃ (l : Addr) (bs : List Pd), vs = [.ref l] ∧ (SqL K H l (bs.map (·.1)) ∨ SqT K H l (bs.map (·.1))) ∧ (∀ b ∈ bs, Dp K H b.1 b.2) ∧ PySem.W.AllAlike (bs.map (·.2)) ∧ PySem.W.Sortable (bs.map (·.2)) ∧ (∀ b ∈ bs, b.2.depth ≤ 50) ∧
  ∀ a, H a = none → Q (.ref a) (upd H a (.lst ((bs.mergeSort (PySem.W.dataLe false fun b : Pd => b.2)).map (·.1))))
theorem cr_sortD (room : Room (k + 2) X.A) : CallR X (.builtin "sorted") (rSortD X.K) := by
  intro pins s σ H vs us Q I r h
  obtain ⟨l, bs, rfl, hq, hdp, hal, hsk, hde, q⟩ := h
  obtain ⟨u, rfl, ru⟩ := vals1 r
  cases ru
  obtain ⟨T, o, its, n, hT, ho, hc, hd, rx, hz⟩ : ∃ (T : String) (o : Obj) (its : List Value) (n : Nat), (T = "list" ∨ T = "tuple") ∧ s.heap.get? l = some o ∧ o.cls = .type T ∧ o.data = .seq its.toArray n ∧ Vals (bs.map (·.1)) its ∧ its.length ≤ sizeLine := by
    rcases hq with hq | hq
    · obtain ⟨its, r, ⟨o, n, ho, hc, _, hd⟩, hz⟩ := I.list hq
      exact ⟨"list", o, its, n, .inl rfl, ho, hc, hd, r, by rw [← r.length]; exact hz⟩
    · obtain ⟨its, r, ⟨o, ho, hc, n, hd⟩, hz⟩ := I.tuple hq
      exact ⟨"tuple", o, its, n, .inr rfl, ho, hc, hd, r, by rw [← r.length]; exact hz⟩
  have hu := room.units
  have old : ∀ b o, s.heap.get? b = some o → (PySem.W.sortingHeap (PySem.W.copyHeap s.heap its) (s.heap.objs.size + 1) its).get? b = some o := fun b o e => PySem.W.sorting_copy_old e
  have I2 := I.kept (t' := s.toks) old
  have er : PySem.W.EachIs (fun v b => ∃ as, Reads (PySem.W.sortingHeap (PySem.W.copyHeap s.heap its) (s.heap.objs.size + 1) its) v b.2 as) its bs := each_and (each_fst (·.1) rx) fun v b m rb => Dp.reads I2 b.2 b.1 v (hdp b m) rb
  refine sorted_seq ho hT hc hd hz (args_sorted1 _) (fun _ => args_list_sort _) fun E' => ?_
  refine PySem.W.list_sort_vals (s := { s with heap := PySem.W.copyHeap s.heap its }) (PySem.W.copyHeap_at s.heap its) (PySem.W.SortsAt.data (ds := bs.map (·.2)) (PySem.W.each_map (R := fun v d => ∃ as, Reads (PySem.W.sortingHeap (PySem.W.copyHeap s.heap its) (s.heap.objs.size + 1) its) v d as) (fun b : Pd => b.2) er) hal hsk fun d hd' => ?_) hz ⟨rfl, ?_⟩
  · obtain ⟨x, hx, rfl⟩ := List.mem_map.mp hd'
    have := hde x hx
    show X.A.units + 1 + 1 + x.2.depth < cLine
    omega
  have out := PySem.W.sortVals_data (enc := fun b : Pd => b.2) false (each_fst (·.1) rx) er hal
  obtain ⟨ep, hat⟩ := PyProof.Rows.sortedAll_at s.heap its (PySem.W.sortVals (PySem.W.dataKind (PySem.W.sortingHeap (PySem.W.copyHeap s.heap its) (s.heap.objs.size + 1) its) (bs.map (·.2))) false its its).toArray
  have le1 : s.heap.objs.size ≤ s.heap.objs.size + 1 := Nat.le_succ _
  have lz : ((bs.mergeSort (PySem.W.dataLe false fun b : Pd => b.2)).map (·.1)).length ≤ sizeLine := by
    rw [List.length_map, List.length_mergeSort]
    have := rx.length
    rw [List.length_map] at this
    omega
  exact ⟨.ref _, _, I.laid (o := .lst ((bs.mergeSort (PySem.W.dataLe false fun b : Pd => b.2)).map fun b : Pd => b.1)) (t' := s.toks) (fun b o e => PyProof.Rows.sortedAll_old e) le1 ⟨lz, _, ep, fst_each (fun b : Pd => b.1) out, hat⟩, rfl, q _ (I.hok.fresh le1)⟩
/-! ### of a dict's key tuples -/
def kyD : Key → PyData
  | .inl i => .int i
  | .inr x => .str x
def kyT (k : List Key) : PyData := .tuple (k.map kyD)
theorem dp_key {K : PySem.W.Frag} {H : Hp} : ∀ k : List Key, DpAll K H (k.map kV) (k.map kyD)
  | [] => .nil
  | .inl i :: r => .cons (.int i) (dp_key r)
  | .inr x :: r => .cons (.str x) (dp_key r)
/-- sorted of what a dict gives -/
theorem sorted_src {prog : Program} {w : World} {A : Around} {E : Value → Shared → Prop} {s : Shared} {T : String} {r d : Addr} {n : Nat} {P : Nat → Value → Prop} {OK : Heap → Prop} {Q : Value → Shared → Prop}
    (K : PySem.W.KdlSrc prog w T r d n P OK) (hh : A.handled = none) (hok : OK s.heap) (hn : n ≤ sizeLine)
    (body : ∀ (h' : Heap) (tk : Nat) (acc : List Value), (∀ b o, s.heap.get? b = some o → h'.get? b = some o) → acc.length = n → (∀ j v, acc[j]? = some v → P j v) → ∀ E' : Value → Shared → Prop,
      wpAny (model prog w) A.in1.in1 (Builtin.«list.sort» ⟨[.ref h'.objs.size], []⟩) (fun f s' => f = .done (.ret .none) ∧ Q (.ref h'.objs.size) s') E' { s with heap := h'.push (seqObj "list" acc.toArray 0), toks := tk }) :
    wpAny (model prog w) A (call (.builtin "sorted") [.ref r]) Q E s := by
  refine PySem.Calls.call_function_entry kind_sorted plain_sorted entry_sorted (args_sorted1 _) ?_
  unfold Builtin.«sorted»
  refine wpAny_bind (m := checkCount "sorted" 1 1 _) (wpAny_pure ?_)
  refine wpAny_bind (PySem.W.kdu_collect (A := A.in1) K hh hok hn fun h' tk acc hk it => ?_)
  have la : acc.toList.length = n := by rw [Array.length_toList]; exact it.1
  refine wpAny_bind (wpAny_newList ?_ (by rw [la]; exact hn))
  have at_ : (h'.push (seqObj "list" acc.toList.toArray 0)).get? h'.objs.size = some (seqObj "list" acc.toList.toArray 0) := Heap.get?_push_size _ rfl
  refine wpAny_bind (wpAny_holding (wpAny_call_entry_kw (kw := []) slot_list_sort ⟨_, at_, rfl⟩ entry_list_sort ?b (args_list_sort _)))
  case b =>
    refine wpAny_mono (body h' tk acc.toList hk la (fun j v e => it.2 j v (by rw [← Array.getElem?_toList]; exact e)) _) (fun f s' hf => ?_) fun _ _ e => e
    obtain ⟨rfl, hq⟩ := hf
    exact ⟨_, rfl, wpAny_pure ⟨_, rfl, hq⟩⟩
/-- what is tracked is there -/
theorem is_there {P : Program} {w : World} {H : Hp} {h : Heap} {a : Addr} : ∀ {u : HO}, ObjOk P w H h a u → ∃ o, h.get? a = some o
  | .lst _, y => (fun ⟨_, _, _, _, e⟩ => ⟨_, e⟩) y
  | .tup _, y => (fun ⟨_, _, _, o, e, _⟩ => ⟨o, e⟩) y
  | .dK _, y => (fun ⟨_, _, _, _, o, _, _, e, _⟩ => ⟨o, e⟩) y
  | .dT _, y => (fun ⟨_, _, _, _, o, _, _, e, _⟩ => ⟨o, e⟩) y
  | .set _ _, y => (fun ⟨o, _, _, _, e, _⟩ => ⟨o, e⟩) y
  | .ins _ _ _, y => (fun ⟨_, _, _, e, _⟩ => ⟨_, e⟩) y
  | .own _, y => y
  | .xd _, y => (fun ⟨_, ⟨o, _, _, e, _⟩, _⟩ => ⟨o, e⟩) y
  | .met _ _, y => ⟨_, y⟩
  | .rng _ _, y => (fun ⟨_, _, _, e⟩ => ⟨_, e⟩) y
  | .frz _ _, y => ⟨_, y.1⟩
  | .tbl _, y => ⟨_, y⟩
  | .ext _, y => y.2.1
theorem paired_mem {α β : Type} {F : α → β → Prop} : ∀ {as : List α} {bs : List β}, Paired F as bs → ∀ b ∈ bs, ∃ a ∈ as, F a b
  | _, _, .nil, b, m => by cases m
  | _, _, .cons h t, b, m => by
    rcases List.mem_cons.mp m with rfl | m
    · exact ⟨_, List.mem_cons_self, h⟩
    · obtain ⟨a, ma, f⟩ := paired_mem t b m
      exact ⟨a, List.mem_cons_of_mem _ ma, f⟩
theorem paired_map {α β γ : Type} {F : α → β → Prop} {f : α → γ} {g : β → γ} (h : ∀ a b, F a b → f a = g b) : ∀ {as : List α} {bs : List β}, Paired F as bs → as.map f = bs.map g
  | _, _, .nil => rfl
  | _, _, .cons p t => by rw [List.map_cons, List.map_cons, h _ _ p, paired_map h t]
abbrev Kb := List Key × Addr
def rSortK : List V → Hp → VK → Prop := fun vs H Q => ∃ (d : Addr) (kvs : List (List Key × V)), vs = [.ref d] ∧ Rd H d (.dT kvs) ∧ PySem.W.AllAlike (kvs.map fun p => kyT p.1) ∧ PySem.W.Sortable (kvs.map fun p => kyT p.1) ∧ (∀ p ∈ kvs, (kyT p.1).depth ≤ 50) ∧
  ∀ (a : Addr) (bs : List Kb), H a = none → (∀ b ∈ bs, H b.2 = some (.tup (b.1.map kV))) → bs.map (·.1) = (kvs.map (·.1)).mergeSort (PySem.W.dataLe false kyT) → Q (.ref a) (upd H a (.lst (bs.map fun b => .ref b.2)))
theorem cr_sortK (hc : X.calm = true) (room : Room (k + 2) X.A) : CallR X (.builtin "sorted") rSortK := by
  intro pins s σ H vs us Q I r h
  obtain ⟨d, kvs, rfl, hd, hal, hsk, hde, q⟩ := h
  obtain ⟨u, rfl, ru⟩ := vals1 r
  cases ru
  have hu := room.units
  obtain ⟨z, hs, ks, pr, o, es, ep, ho, hx, hdt, he, hn⟩ := (show ObjOk X.prog X.w H s.heap d (.dT kvs) from hd.ok I.hok)
  have l1 : es.size = ks.length := size_of_entries he
  have l2 : kvs.length = ks.length := Paired.length pr
  obtain ⟨b0, eb0⟩ : ∃ b0 : List Kb, b0 = ks.map fun x => (x.1, x.2.1) := ⟨_, rfl⟩
  have lb : b0.length = ks.length := by rw [eb0, List.length_map]
  have ek : kvs.map (·.1) = b0.map (·.1) := by
    rw [eb0, List.map_map]
    exact paired_map (fun a b f => f.1) pr
  have eky : (kvs.map fun p => kyT p.1) = b0.map fun b => kyT b.1 := by
    have := congrArg (List.map kyT) ek
    rw [List.map_map, List.map_map] at this
    exact this
  have hb0 : ∀ b ∈ b0, H b.2 = some (.tup (b.1.map kV)) := fun b mb => by
    rw [eb0] at mb
    obtain ⟨x, mx, rfl⟩ := List.mem_map.mp mb
    obtain ⟨p, _, f1, f2, _⟩ := paired_mem pr x mx
    show H x.2.1 = some (.tup (x.1.map kV))
    rw [← f1]
    exact f2
  refine sorted_src (kdl_raw hs hx hdt) (I.ok.hd hc) ho (by omega) fun h' tk acc old la hP E' => ?_
  have rx : Vals (b0.map fun b => V.ref b.2) acc := by
    have e : acc = (b0.map fun b : Kb => b.2).map Value.ref := by
      refine List.ext_getElem? fun j => ?_
      by_cases hj : j < acc.length
      · have hj2 : j < ks.length := by omega
        obtain ⟨en, h1, h2⟩ := hP j acc[j] (List.getElem?_eq_getElem hj)
        have h3 := entry_at he j
        rw [h1, List.getElem?_eq_getElem hj2] at h3
        rw [List.getElem?_eq_getElem hj, h2, Option.some.inj h3, eb0, List.map_map, List.getElem?_map, List.getElem?_map, List.getElem?_eq_getElem hj2]
        rfl
      · rw [List.getElem?_eq_none (by omega), List.getElem?_eq_none (by rw [List.length_map, List.length_map]; omega)]
    rw [e, show (b0.map fun b : Kb => V.ref b.2) = (b0.map fun b : Kb => b.2).map V.ref by rw [List.map_map]; rfl]
    exact vals_refs _
  have at_ : (h'.push (seqObj "list" acc.toArray 0)).get? h'.objs.size = some (seqObj "list" acc.toArray 0) := Heap.get?_push_size _ rfl
  have old1 : ∀ b o, s.heap.get? b = some o → (h'.push (seqObj "list" acc.toArray 0)).get? b = some o := fun b o e => Heap.get?_push_of_some _ (old b o e)
  have old2 : ∀ b o, s.heap.get? b = some o → (PySem.W.sortingHeap (h'.push (seqObj "list" acc.toArray 0)) h'.objs.size acc).get? b = some o := fun b o e => PySem.W.sortingHeap_old (Nat.ne_of_lt (Heap.lt_size (old b o e))) (old1 b o e)
  have I2 := I.kept (t' := s.toks) old2
  have dp0 : ∀ b ∈ b0, Dp X.K H (.ref b.2) (kyT b.1) := fun b mb => .tup (SqT.of (hb0 b mb)) (dp_key b.1)
  have er : PySem.W.EachIs (fun v (b : Kb) => ∃ as, Reads (PySem.W.sortingHeap (h'.push (seqObj "list" acc.toArray 0)) h'.objs.size acc) v (kyT b.1) as) acc b0 := each_and (each_fst (fun b : Kb => V.ref b.2) rx) fun v b m rb => Dp.reads I2 (kyT b.1) (.ref b.2) v (dp0 b m) rb
  rw [eky] at hal hsk
  have hz : acc.length ≤ sizeLine := by omega
  refine PySem.W.list_sort_vals (s := { s with heap := h'.push (seqObj "list" acc.toArray 0), toks := tk }) at_ (PySem.W.SortsAt.data (ds := b0.map fun b => kyT b.1) (PySem.W.each_map (R := fun v d => ∃ as, Reads (PySem.W.sortingHeap (h'.push (seqObj "list" acc.toArray 0)) h'.objs.size acc) v d as) (fun b : Kb => kyT b.1) er) hal hsk fun d hd' => ?_) hz ⟨rfl, ?_⟩
  · rw [← eky] at hd'
    obtain ⟨x, hx, rfl⟩ := List.mem_map.mp hd'
    have := hde x hx
    show X.A.units + 1 + 1 + (kyT x.1).depth < cLine
    omega
  have out := PySem.W.sortVals_data (enc := fun b : Kb => kyT b.1) false (each_fst (fun b : Kb => V.ref b.2) rx) er hal
  obtain ⟨ep2, hat⟩ := PyProof.Rows.sortedHeap_at (out := (PySem.W.sortVals (PySem.W.dataKind (PySem.W.sortingHeap (h'.push (seqObj "list" acc.toArray 0)) h'.objs.size acc) (b0.map fun b => kyT b.1)) false acc acc).toArray) at_
  have gone : s.heap.get? h'.objs.size = none := by
    cases e' : s.heap.get? h'.objs.size with
    | none => rfl
    | some o' => exact absurd (Heap.lt_size (old _ _ e')) (Nat.lt_irrefl _)
  have free : H h'.objs.size = none := by
    cases e' : H h'.objs.size with
    | none => rfl
    | some u' =>
      obtain ⟨o', e2⟩ := is_there (I.hok _ _ e')
      rw [gone] at e2
      cases e2
  have lz : ((b0.mergeSort (PySem.W.dataLe false fun b : Kb => kyT b.1)).map fun b : Kb => V.ref b.2).length ≤ sizeLine := by
    rw [List.length_map, List.length_mergeSort]
    omega
  refine ⟨.ref _, _, I.laidN (o := .lst ((b0.mergeSort (PySem.W.dataLe false fun b : Kb => kyT b.1)).map fun b : Kb => V.ref b.2)) (t' := tk) (fun b o e => ?_) gone free ⟨lz, _, ep2, fst_each (fun b : Kb => V.ref b.2) out, hat⟩, rfl, q _ _ free (fun b mb => hb0 b (List.mem_mergeSort.mp mb)) ?_⟩
  · have lt := Heap.lt_size (old1 b o e)
    rw [PyProof.Rows.sortedHeap_old (Nat.ne_of_lt (Heap.lt_size (old b o e))) lt]
    exact old1 b o e
  · rw [ek]
    exact List.map_mergeSort fun a _ b _ => rfl
/-! ### in, of a tuple of data -/
def rInTD (K : PySem.W.Frag) : R2 := fun x y H Q => ∃ d ds, Dp K H x d ∧ Dp K H y (.tuple ds) ∧ SeqAt.shaped d = true ∧ SeqAt.shaped (.tuple ds) = true ∧ Q (.bl (ds.any fun z => PyData.eqv z d)) H
theorem op_inTD (hu : X.A.units + 65 < cLine) : OpR X (compareOp .In) (rInTD X.K) := fun pins s σ H x y v u Q I rx ry ⟨d, ds, hd, he, sd, se, q⟩ =>
  let ⟨_, r1⟩ := Dp.reads I d x v hd rx
  let ⟨_, r2⟩ := Dp.reads I (.tuple ds) y u he ry
  SeqAt.in_tuple_reads r2 r1 (SeqAt.canLay_of_shaped se) (SeqAt.canLay_of_shaped sd) (room_in_shaped sd hu) ⟨.bl _, H, I, rfl, q⟩
end
end Xsd
set_option Elab.async false
set_option linter.all false
set_option maxRecDepth 100000
set_option maxHeartbeats 8000000
set_option pp.maxSteps 400
set_option pp.deepTerms false
/-! sorted(set(x)), x a list or a tuple of tuples of numbers and texts. -/
namespace Xts
open PySem PySem.Spec PyProof.Rows L2 Xsm Xsd
/-- an order of the addresses is an order of the rows -/
theorem rows_of {L : List (Addr × List Key)} (one : ∀ q ∈ L, ∀ r ∈ L, q.1 = r.1 → q = r) (nd : (L.map (·.2)).Nodup) {vs : List Value} (pm : vs.Perm (L.map fun q => Value.ref q.1)) :
    ∃ b0 : List Kb, vs = b0.map (fun b => Value.ref b.2) ∧ (∀ b ∈ b0, (b.2, b.1) ∈ L) ∧ (b0.map (·.1)).Nodup ∧ ∀ k, k ∈ b0.map (·.1) ↔ k ∈ L.map (·.2) := by
  have ord : ∀ vs : List Value, (∀ v ∈ vs, ∃ q ∈ L, v = Value.ref q.1) → ∃ b0 : List Kb, vs = b0.map (fun b => Value.ref b.2) ∧ ∀ b ∈ b0, (b.2, b.1) ∈ L := by
    intro vs
    induction vs with
    | nil => intro _; exact ⟨[], rfl, fun b hb => by cases hb⟩
    | cons v vs ih =>
      intro h
      obtain ⟨q, hq, e⟩ := h v List.mem_cons_self
      obtain ⟨b0, e1, hs⟩ := ih fun u hu => h u (List.mem_cons_of_mem _ hu)
      exact ⟨(q.2, q.1) :: b0, by rw [List.map_cons, e, e1], fun b hb => (List.mem_cons.mp hb).elim (fun z => by rw [z]; exact hq) (hs b)⟩
  obtain ⟨b0, e0, h0⟩ := ord vs fun v hv => by
    obtain ⟨q, hq, e⟩ := List.mem_map.mp (pm.mem_iff.mp hv)
    exact ⟨q, hq, e.symm⟩
  have nL : (L.map fun q => Value.ref q.1).Nodup := by
    refine List.pairwise_map.mpr (List.Pairwise.imp_of_mem (fun {q r} hq hr ne z => ne ?_) (List.pairwise_map.mp nd))
    injection z with z
    rw [one q hq r hr z]
  have n0 : (b0.map fun b => Value.ref b.2).Nodup := by rw [← e0]; exact pm.nodup_iff.mpr nL
  refine ⟨b0, e0, h0, ?_, fun k => ⟨fun hk => ?_, fun hk => ?_⟩⟩
  · refine List.pairwise_map.mpr (List.Pairwise.imp_of_mem (fun {a b} ha hb ne z => ne ?_) (List.pairwise_map.mp n0))
    have nd2 := nd
    have : (a.2, a.1) = (b.2, b.1) := by
      have i1 := h0 a ha
      have i2 := h0 b hb
      have key : ∀ {L : List (Addr × List Key)}, (L.map (·.2)).Nodup → ∀ {p q}, p ∈ L → q ∈ L → p.2 = q.2 → p = q := by
        intro L
        induction L with
        | nil => intro _ p q hp; cases hp
        | cons x r ih =>
          intro nd p q hp hq e
          rw [List.map_cons, List.nodup_cons] at nd
          rcases List.mem_cons.mp hp with z1 | z1 <;> rcases List.mem_cons.mp hq with z2 | z2
          · rw [z1, z2]
          · exact absurd (List.mem_map.mpr ⟨q, z2, by rw [← e, z1]⟩) nd.1
          · exact absurd (List.mem_map.mpr ⟨p, z1, by rw [e, z2]⟩) nd.1
          · exact ih nd.2 z1 z2 e
      exact key nd2 i1 i2 z
    injection this with z1 z2
    rw [z1]
  · obtain ⟨b, hb, rfl⟩ := List.mem_map.mp hk
    exact List.mem_map.mpr ⟨_, h0 b hb, rfl⟩
  · obtain ⟨q, hq, rfl⟩ := List.mem_map.mp hk
    have m : Value.ref q.1 ∈ vs := pm.mem_iff.mpr (List.mem_map.mpr ⟨q, hq, rfl⟩)
    rw [e0] at m
    obtain ⟨b, hb, e⟩ := List.mem_map.mp m
    injection e with e
    have := one _ (h0 b hb) _ hq e
    exact List.mem_map.mpr ⟨b, hb, by rw [← this]⟩
section
variable {X : Cx}
def tSortSetK (K : PySem.W.Frag) (ta : TE) : TE := fun σ H Q => ta σ H fun x H1 => ∃ (l : Addr) (ks : List (Addr × List Key)), x = .ref l ∧ (SqL K H1 l (ks.map fun p => V.ref p.1) ∨ SqT K H1 l (ks.map fun p => V.ref p.1)) ∧ (∀ p ∈ ks, SqT K H1 p.1 (p.2.map kV)) ∧ ks.length < 64 ∧
  (∀ b0 : List Kb, (∀ b ∈ b0, (b.2, b.1) ∈ ks) → PySem.W.AllAlike (b0.map fun b => kyT b.1) ∧ PySem.W.Sortable (b0.map fun b => kyT b.1)) ∧ (∀ p ∈ ks, (kyT p.2).depth ≤ 50) ∧
  ∀ (a : Addr) (l0 : List (List Key)) (bs : List Kb), H1 a = none → l0.Nodup → (∀ k, k ∈ l0 ↔ k ∈ ks.map (·.2)) → (∀ b ∈ bs, (b.2, b.1) ∈ ks) → bs.map (·.1) = l0.mergeSort (PySem.W.dataLe false kyT) → Q (.ref a) (upd H1 a (.lst (bs.map fun b => .ref b.2)))
theorem pe_sortSetK {k : Nat} {a : Expr} {ta : TE} {p p2 q pos : Pos} (hc : X.calm = true) (room : Room (k + 2) X.A) (hg : Gl X "sorted") (hm : X.mg "sorted" = none) (hg2 : Gl X "set") (hm2 : X.mg "set" = none) (ha : PE X a ta)
    (na : starEach [a] X.env = (false, eval a X.env) :: starEach [] X.env := by rfl) : PE X (.Call (.Name "sorted" p) [.Call (.Name "set" p2) [a] [] q] [] pos) (tSortSetK X.K ta) := by
  have hu := room.units
  refine ⟨fun pins s σ H Q I h => ?_⟩
  refine Call_ (ld_blt (u := .builtin "sorted") I hg hm (by decide +kernel) ?_); refine PyProof.Rows.callWith_builtin1 (PyProof.Rows.args_cons ?_ rfl) rfl rfl
  refine Call_ (ld_blt I hg2 hm2 boot_set ?_); refine PyProof.Rows.callWith_type1 (PyProof.Rows.args_cons (thn (ha.run pins s σ H _ I h) fun v s1 ⟨x, H1, I1, r1, q1⟩ => PyProof.Rows.args_nil ?_) na) na rfl
  obtain ⟨l, ks, rfl, hq, al, h64, alike, hde, q1⟩ := q1
  cases r1
  have isk : ∀ p ∈ ks, (tupE X.prog X.w).is s1.heap p.2 p.1 := fun p hp => tup_is I1 (al p hp)
  have val : ∀ (its : List Value), Vals (ks.map fun p => V.ref p.1) its → ∀ (i : Nat) (v : Value), its.toArray[i]? = some v → ∃ p, ks[i]? = some p ∧ v = Value.ref p.1 := fun its r i v e => by
    rw [List.getElem?_toArray] at e
    have hl : its.length = ks.length := by rw [← r.length, List.length_map]
    have lt : i < ks.length := by rw [← hl]; exact (List.getElem?_eq_some_iff.mp e).1
    obtain ⟨w2, hw, hr⟩ := r.get (i := i) (x := .ref ks[i].1) (by simp [lt])
    rw [hw] at e
    cases e
    exact ⟨ks[i], List.getElem?_eq_getElem lt, hr⟩
  have fin : ∀ (its : List Value), Vals (ks.map fun p => V.ref p.1) its → (s1.heap.IsList l its.toArray ∨ s1.heap.IsTuple l its.toArray) →
      wpAny (model X.prog X.w) X.A (call (.type "set") [.ref l]) (fun v s₂ => wpAny (model X.prog X.w) X.A (spliced (backTo pos (starEach [] X.env))) (fun vs s₂ => wpAny (model X.prog X.w) X.A (call (.builtin "sorted") (v :: vs)) (EP X pins σ Q) X.xe s₂) X.xe s₂) X.xe s1 := fun its r pl => by
    have hl : its.toArray.size = ks.length := by rw [List.size_toArray, ← r.length, List.length_map]
    refine set_up (tupE X.prog X.w) (I1.ok.hd hc) pl (ks := ks) hl.symm (by rw [hl]; exact h64) (show X.A.units + 1 + 1 + 1 < cLine by omega) isk (val its r) fun h' tk hS hk => ?_
    refine PyProof.Rows.args_nil ?_
    rw [hl] at hS
    obtain ⟨L, es, ep, t, R, sub, iff_, len⟩ := hS
    rw [List.take_length] at iff_
    have I2 : Inv X pins σ H1 { s1 with heap := h', toks := tk } := I1.kept fun b o e => hk b o (Heap.lt_size e) e
    obtain ⟨o, ho, hex, hd⟩ := R.at_
    have few := R.few
    have sE := rows_size R.rows
    refine PySem.Calls.call_function_entry kind_sorted plain_sorted entry_sorted (args_sorted1 _) ?_
    unfold Builtin.«sorted»
    refine wpAny_bind (m := checkCount "sorted" 1 1 _) (wpAny_pure ?_)
    refine wpAny_bind (collect_set (A := X.A.in1) (s := { s1 with heap := h', toks := tk }) (I1.ok.hd hc) ⟨o, ho, hex.1, hd⟩ (Holds.fits (s := { s1 with heap := h', toks := tk }) R) (by unfold scanBound; omega) R.tab.ris R.led fun s3 vs k1 hz g1 o1 pm => ?_)
    have hes : es.toList.map (·.2) = L.map fun q => Value.ref q.1 := by
      rw [R.rows, List.map_map]
      rfl
    rw [hes] at pm
    obtain ⟨b0, e0, h0, n0, m0⟩ := rows_of (fun q hq r hr e => by
      have a1 := R.mem q hq
      have a2 := R.mem r hr
      rw [e] at a1
      exact Prod.ext e ((tupleKind (mixKind X.prog X.w)).inj a1 a2)) R.nd pm
    obtain ⟨hal, hsk⟩ := alike b0 fun b hb => sub _ (h0 b hb)
    have lv : vs.length < 64 := by rw [pm.length_eq, List.length_map]; exact few
    have rx : Vals (b0.map fun b => V.ref b.2) vs := by
      rw [e0, show (b0.map fun b : Kb => Value.ref b.2) = (b0.map fun b : Kb => b.2).map Value.ref by rw [List.map_map]; rfl, show (b0.map fun b : Kb => V.ref b.2) = (b0.map fun b : Kb => b.2).map V.ref by rw [List.map_map]; rfl]
      exact vals_refs _
    refine wpAny_bind (wpAny_newList ?_ (by rw [sizeLine_eq]; omega))
    have at_ : (s3.heap.push (seqObj "list" vs.toArray 0)).get? s3.heap.objs.size = some (seqObj "list" vs.toArray 0) := Heap.get?_push_size _ rfl
    have old1 : ∀ b o, h'.get? b = some o → (s3.heap.push (seqObj "list" vs.toArray 0)).get? b = some o := fun b o e => Heap.get?_push_of_some _ (k1 b o e)
    have old2 : ∀ b o, h'.get? b = some o → (PySem.W.sortingHeap (s3.heap.push (seqObj "list" vs.toArray 0)) s3.heap.objs.size vs).get? b = some o := fun b o e => PySem.W.sortingHeap_old (Nat.ne_of_lt (Heap.lt_size (k1 b o e))) (old1 b o e)
    have I3 := I2.kept (t' := tk) old2
    have dp0 : ∀ b ∈ b0, Dp X.K H1 (.ref b.2) (kyT b.1) := fun b mb => .tup (al _ (sub _ (h0 b mb))) (dp_key b.1)
    have er : PySem.W.EachIs (fun v (b : Kb) => ∃ as, Reads (PySem.W.sortingHeap (s3.heap.push (seqObj "list" vs.toArray 0)) s3.heap.objs.size vs) v (kyT b.1) as) vs b0 := each_and (each_fst (fun b : Kb => V.ref b.2) rx) fun v b m rb => Dp.reads I3 (kyT b.1) (.ref b.2) v (dp0 b m) rb
    have core : ∀ E' : Value → Shared → Prop, wpAny (model X.prog X.w) X.A.in1.in1 (Builtin.«list.sort» ⟨[.ref s3.heap.objs.size], []⟩) (fun f s' => f = .done (.ret .none) ∧ EP X pins σ Q (.ref s3.heap.objs.size) s') E' { s3 with heap := s3.heap.push (seqObj "list" vs.toArray 0) } := fun E' => by
      refine PySem.W.list_sort_vals (s := { s3 with heap := s3.heap.push (seqObj "list" vs.toArray 0) }) at_ (PySem.W.SortsAt.data (ds := b0.map fun b => kyT b.1) (PySem.W.each_map (R := fun v d => ∃ as, Reads (PySem.W.sortingHeap (s3.heap.push (seqObj "list" vs.toArray 0)) s3.heap.objs.size vs) v d as) (fun b : Kb => kyT b.1) er) hal hsk fun d hd' => ?_) (by rw [sizeLine_eq]; omega) ⟨rfl, ?_⟩
      · obtain ⟨x, hx, rfl⟩ := List.mem_map.mp hd'
        have := hde _ (sub _ (h0 x hx))
        have : (kyT x.1).depth ≤ 50 := this
        show X.A.units + 1 + 1 + (kyT x.1).depth < cLine
        omega
      have out := PySem.W.sortVals_data (enc := fun b : Kb => kyT b.1) false (each_fst (fun b : Kb => V.ref b.2) rx) er hal
      obtain ⟨ep2, hat⟩ := PyProof.Rows.sortedHeap_at (out := (PySem.W.sortVals (PySem.W.dataKind (PySem.W.sortingHeap (s3.heap.push (seqObj "list" vs.toArray 0)) s3.heap.objs.size vs) (b0.map fun b => kyT b.1)) false vs vs).toArray) at_
      have hn : H1 s3.heap.objs.size = none := I2.hok.fresh hz
      have lz : ((b0.mergeSort (PySem.W.dataLe false fun b : Kb => kyT b.1)).map fun b : Kb => V.ref b.2).length ≤ sizeLine := by
        rw [List.length_map, List.length_mergeSort, sizeLine_eq]
        have := rx.length
        rw [List.length_map] at this
        omega
      refine ⟨.ref _, _, I2.call' (ch := []) o1 (Un.laid (fun b o e => ?_) hz hn) (I2.hok.laid (o := .lst ((b0.mergeSort (PySem.W.dataLe false fun b : Kb => kyT b.1)).map fun b : Kb => V.ref b.2)) (fun b o e => ?_) hz ⟨lz, _, ep2, fst_each (fun b : Kb => V.ref b.2) out, hat⟩) (by rw [show _ = _ from g1]; exact I2.bare) (fun _ z => nomatch z), rfl, q1 _ (b0.map (·.1)) _ hn n0 (fun k => (m0 k).trans (iff_ k)) (fun b hb => sub _ (h0 b (List.mem_mergeSort.mp hb))) ?_⟩
      · have lt := Heap.lt_size (old1 b o e)
        show (sortedHeap _ _ _ _).get? b = some o
        rw [PyProof.Rows.sortedHeap_old (Nat.ne_of_lt (Heap.lt_size (k1 b o e))) lt]
        exact old1 b o e
      · have lt := Heap.lt_size (old1 b o e)
        show (sortedHeap _ _ _ _).get? b = some o
        rw [PyProof.Rows.sortedHeap_old (Nat.ne_of_lt (Heap.lt_size (k1 b o e))) lt]
        exact old1 b o e
      · exact List.map_mergeSort fun a _ b _ => rfl
    refine wpAny_bind (wpAny_holding (wpAny_call_entry_kw (kw := []) slot_list_sort ⟨_, at_, rfl⟩ entry_list_sort ?b (args_list_sort _)))
    case b =>
      refine wpAny_mono (core _) (fun f s' hf => ?_) fun _ _ e => e
      obtain ⟨rfl, hq⟩ := hf
      exact ⟨_, rfl, wpAny_pure ⟨_, rfl, hq⟩⟩
  rcases hq with hq | hq
  · obtain ⟨its, r, pl, hz⟩ := I1.list hq
    exact fin its r (.inl pl.isList)
  · obtain ⟨its, r, pl, hz⟩ := I1.tuple hq
    obtain ⟨o, a1, a2, a3, a4⟩ := pl
    exact fin its r (.inr ⟨o, a1, a2, a3, a4⟩)
end
end Xts
set_option Elab.async false
set_option linter.all false
set_option maxRecDepth 100000
set_option maxHeartbeats 4000000
set_option pp.maxSteps 400
set_option pp.deepTerms false
/-! Things of texts, numbers, truths, tuples, lists and dicts: a weight that bounds how long they are shown, how deep and how many they are. -/
namespace W08
open PySem PySem.Spec PyProof.Rows L2 Az
mutual
def sw : PyData → Nat
  | .none => 4
  | .bool _ => 5
  | .int _ => 6
  | .str x => 10 * x.length + 2
  | .tuple ds => sws ds + 4
  | .list ds => sws ds + 4
  | .dict kvs => swk kvs + 4
def sws : List PyData → Nat
  | [] => 0
  | d :: r => sw d + 2 + sws r
def swk : List (PyData × PyData) → Nat
  | [] => 0
  | (k, v) :: r => sw k + sw v + 4 + swk r
end
mutual
def dw : PyData → Nat
  | .tuple ds => dws ds + 1
  | .list ds => dws ds + 1
  | .dict kvs => dwk kvs + 1
  | _ => 0
def dws : List PyData → Nat
  | [] => 0
  | d :: r => max (dw d) (dws r)
def dwk : List (PyData × PyData) → Nat
  | [] => 0
  | (k, v) :: r => max (max (dw k) (dw v)) (dwk r)
end
mutual
/-- small numbers, texts of few signs -/
def ok : PyData → Prop
  | .int i => i = 0 ∨ i = 1
  | .str x => ∀ c ∈ x.cps.toList, c < 128
  | .tuple ds => oks ds
  | .list ds => oks ds
  | .dict kvs => okk kvs
  | _ => True
def oks : List PyData → Prop
  | [] => True
  | d :: r => ok d ∧ oks r
def okk : List (PyData × PyData) → Prop
  | [] => True
  | (k, v) :: r => ok k ∧ ok v ∧ okk r
end
mutual
/-- how many things there are in all -/
def nc : PyData → Nat
  | .tuple ds => ncs ds + 1
  | .list ds => ncs ds + 1
  | .dict kvs => nck kvs + 1
  | _ => 1
def ncs : List PyData → Nat
  | [] => 0
  | d :: r => nc d + ncs r
def nck : List (PyData × PyData) → Nat
  | [] => 0
  | (k, v) :: r => nc k + nc v + nck r
end
theorem nc_pos : ∀ d : PyData, 1 ≤ nc d
  | .none | .bool _ | .int _ | .str _ => Nat.le_refl _
  | .tuple _ | .list _ | .dict _ => by rw [nc]; omega
theorem ncs_app : ∀ xs ys : List PyData, ncs (xs ++ ys) = ncs xs + ncs ys
  | [], ys => by simp [ncs]
  | x :: xs, ys => by
    rw [List.cons_append, ncs, ncs, ncs_app xs ys]
    omega
theorem len_ncs : ∀ ds : List PyData, ds.length ≤ ncs ds
  | [] => by simp [ncs]
  | d :: r => by
    have := len_ncs r
    have := nc_pos d
    rw [List.length_cons, ncs]
    omega
theorem ncs_mem : ∀ {ds : List PyData} {d : PyData}, d ∈ ds → nc d ≤ ncs ds
  | e :: r, d, h => by
    rw [ncs]
    rcases List.mem_cons.mp h with z | z
    · rw [z]; omega
    · have := ncs_mem z
      omega
theorem oks_iff : ∀ {ds : List PyData}, oks ds ↔ ∀ d ∈ ds, ok d
  | [] => by simp [oks]
  | d :: r => by simp [oks, oks_iff (ds := r)]
theorem sws_app : ∀ xs ys : List PyData, sws (xs ++ ys) = sws xs + sws ys
  | [], ys => by simp [sws]
  | x :: xs, ys => by
    rw [List.cons_append, sws, sws, sws_app xs ys]
    omega
theorem dws_app : ∀ xs ys : List PyData, dws (xs ++ ys) = max (dws xs) (dws ys)
  | [], ys => by simp [dws]
  | x :: xs, ys => by
    rw [List.cons_append, dws, dws, dws_app xs ys]
    omega
theorem len_sws : ∀ ds : List PyData, 2 * ds.length ≤ sws ds
  | [] => by simp [sws]
  | d :: r => by
    have := len_sws r
    rw [List.length_cons, sws]
    omega
theorem sws_mem : ∀ {ds : List PyData} {d : PyData}, d ∈ ds → sw d + 2 ≤ sws ds
  | e :: r, d, h => by
    rw [sws]
    rcases List.mem_cons.mp h with z | z
    · rw [z]; omega
    · have := sws_mem z
      omega
theorem dws_mem : ∀ {ds : List PyData} {d : PyData}, d ∈ ds → dw d ≤ dws ds
  | e :: r, d, h => by
    rw [dws]
    rcases List.mem_cons.mp h with z | z
    · rw [z]; omega
    · have := dws_mem z
      omega
theorem repr_le' {x : Str} (h : ∀ c ∈ x.cps.toList, c < 128) : (reprText x).length ≤ 10 * x.length + 2 :=
  PySem.StrLaws.reprText_len x fun c hc => Nat.lt_of_lt_of_le (h c hc) (by decide)
mutual
theorem shown_le : ∀ (d : PyData), ok d → d.showable = true ∧ d.shown.length ≤ sw d ∧ d.depth ≤ dw d
  | .none, _ => ⟨nice_none.sh, nice_none.sz, nice_none.dp⟩
  | .bool b, _ => ⟨(nice_bool b).sh, (nice_bool b).sz, (nice_bool b).dp⟩
  | .int i, h => by
    have n : Nice (.int i) 0 6 := by
      rcases h with h | h
      · subst h; exact nice_int (by decide) (by decide +kernel)
      · subst h; exact nice_int (by decide) (by decide +kernel)
    exact ⟨n.sh, n.sz, n.dp⟩
  | .str x, h => ⟨(nice_str (Nat.le_refl _)).sh, (nice_str (n := 10 * x.length + 2) (repr_le' h)).sz, by simp [PyData.depth]⟩
  | .tuple ds, h => by
    obtain ⟨a, b, c⟩ := shown_les ds h
    refine ⟨by simp [PyData.showable, a], ?_, ?_⟩
    · simp only [PyData.shown, sw]
      have := fmt_text (PyData.shownAll ds)
      omega
    · simp only [PyData.depth, dw]
      omega
  | .list ds, h => by
    obtain ⟨a, b, c⟩ := shown_les ds h
    refine ⟨by simp [PyData.showable, a], ?_, ?_⟩
    · simp only [PyData.shown, sw]
      have := list_le (PyData.shownAll ds)
      omega
    · simp only [PyData.depth, dw]
      omega
  | .dict kvs, h => by
    obtain ⟨a, b, c⟩ := shown_lek kvs h
    refine ⟨by simp [PyData.showable, a], ?_, ?_⟩
    · simp only [PyData.shown, sw]
      have := dict_le (PyData.shownKv kvs)
      omega
    · simp only [PyData.depth, dw]
      omega
theorem shown_les : ∀ (ds : List PyData), oks ds → PyData.showableAll ds = true ∧ piled (PyData.shownAll ds) ≤ sws ds ∧ PyData.depthAll ds ≤ dws ds
  | [], _ => by simp [PyData.showableAll, PyData.shownAll, PyData.depthAll, piled]
  | d :: r, h => by
    obtain ⟨a, b, c⟩ := shown_le d h.1
    obtain ⟨a2, b2, c2⟩ := shown_les r h.2
    refine ⟨by simp [PyData.showableAll, a, a2], ?_, ?_⟩
    · simp only [PyData.shownAll, piled_cons, sws]
      omega
    · simp only [PyData.depthAll, dws]
      omega
theorem shown_lek : ∀ (ds : List (PyData × PyData)), okk ds → PyData.showableKv ds = true ∧ piled (PyData.shownKv ds) ≤ swk ds ∧ PyData.depthKv ds ≤ dwk ds
  | [], _ => by simp [PyData.showableKv, PyData.shownKv, PyData.depthKv, piled]
  | (k, v) :: r, h => by
    obtain ⟨a, b, c⟩ := shown_le k h.1
    obtain ⟨a2, b2, c2⟩ := shown_le v h.2.1
    obtain ⟨a3, b3, c3⟩ := shown_lek r h.2.2
    refine ⟨by simp [PyData.showableKv, a, a2, a3], ?_, ?_⟩
    · have e : ((": " : Str)).length = 2 := by decide +kernel
      simp only [PyData.shownKv, piled_cons, swk, strLen_append]
      omega
    · simp only [PyData.depthKv, dwk]
      omega
end
/-- a thing within bounds -/
structure Bd (d : PyData) (n m k : Nat) : Prop where
  o : ok d
  n : nc d ≤ n
  s : sw d ≤ m
  d : dw d ≤ k
theorem Bd.mono {d : PyData} {n m k n' m' k' : Nat} (h : Bd d n m k) (a : n ≤ n') (b : m ≤ m') (c : k ≤ k') : Bd d n' m' k' := ⟨h.o, Nat.le_trans h.n a, Nat.le_trans h.s b, Nat.le_trans h.d c⟩
theorem Bd.nice {d : PyData} {n m k : Nat} (h : Bd d n m k) : Nice d k m := let ⟨a, b, c⟩ := shown_le d h.o; ⟨a, Nat.le_trans c h.d, Nat.le_trans b h.s⟩
theorem bd_none : Bd .none 1 4 0 := ⟨trivial, Nat.le_refl _, Nat.le_refl _, Nat.le_refl _⟩
theorem bd_bool (b : Bool) : Bd (.bool b) 1 5 0 := ⟨trivial, Nat.le_refl _, Nat.le_refl _, Nat.le_refl _⟩
theorem bd_str {x : Str} (h : ∀ c ∈ x.cps.toList, c < 128) : Bd (.str x) 1 (10 * x.length + 2) 0 := ⟨h, Nat.le_refl _, Nat.le_refl _, Nat.le_refl _⟩
theorem bd_tup {ds : List PyData} {n m k : Nat} (h : oks ds) (a : ncs ds ≤ n) (b : sws ds ≤ m) (c : dws ds ≤ k) : Bd (.tuple ds) (n + 1) (m + 4) (k + 1) := ⟨h, Nat.succ_le_succ a, Nat.add_le_add_right b 4, Nat.succ_le_succ c⟩
theorem bd_lst {ds : List PyData} {n m k : Nat} (h : oks ds) (a : ncs ds ≤ n) (b : sws ds ≤ m) (c : dws ds ≤ k) : Bd (.list ds) (n + 1) (m + 4) (k + 1) := ⟨h, Nat.succ_le_succ a, Nat.add_le_add_right b 4, Nat.succ_le_succ c⟩
theorem bd_tup1 {d : PyData} {n m k : Nat} (h : Bd d n m k) : Bd (.tuple [d]) (n + 1) (m + 6) (k + 1) :=
  ⟨⟨h.o, trivial⟩, by have := h.n; simp only [nc, ncs]; omega, by have := h.s; simp only [sw, sws]; omega, by have := h.d; simp only [dw, dws]; omega⟩
theorem bd_lst1 {d : PyData} {n m k : Nat} (h : Bd d n m k) : Bd (.list [d]) (n + 1) (m + 6) (k + 1) :=
  ⟨⟨h.o, trivial⟩, by have := h.n; simp only [nc, ncs]; omega, by have := h.s; simp only [sw, sws]; omega, by have := h.d; simp only [dw, dws]; omega⟩
theorem bd_dct1 {d : PyData} {n m k : Nat} (h : Bd d n m k) : Bd (.dict [(.str "a", d)]) (n + 2) (m + 20) (k + 1) := by
  have e : ((("a" : Str)).length) = 1 := by decide +kernel
  have o : ok (.str "a") := fun c hc => by
    have : ("a" : Str).cps.toList = [97] := by decide +kernel
    rw [this] at hc
    rw [List.mem_singleton.mp hc]; decide
  exact ⟨⟨o, h.o, trivial⟩, by have := h.n; simp only [nc, nck]; omega, by have := h.s; simp only [sw, swk, e]; omega, by have := h.d; simp only [dw, dwk]; omega⟩
theorem oks_sub {xs ys : List PyData} (h : oks ys) (s : ∀ d ∈ xs, d ∈ ys) : oks xs := oks_iff.mpr fun d hd => oks_iff.mp h d (s d hd)
theorem ncs_take (k : Nat) (ds : List PyData) : ncs (ds.take k) + ncs (ds.drop k) = ncs ds := by rw [← ncs_app, List.take_append_drop]
theorem sws_take (k : Nat) (ds : List PyData) : sws (ds.take k) + sws (ds.drop k) = sws ds := by rw [← sws_app, List.take_append_drop]
theorem dws_take (k : Nat) (ds : List PyData) : max (dws (ds.take k)) (dws (ds.drop k)) = dws ds := by rw [← dws_app, List.take_append_drop]
end W08
set_option Elab.async false
set_option linter.all false
set_option maxRecDepth 100000
set_option maxHeartbeats 4000000
set_option pp.maxSteps 400
set_option pp.deepTerms false
namespace K20
open PySem PySem.Spec PyProof.Rows L2
open Xk Az
section
variable {P : Program} {w : World} {K : PySem.W.Frag} {mg : Str → Option Value} {base : Heap} {C CL : Addr}
def offS (A : List Addr) (H : Hp) : Hp := fun b => if b ∈ A then none else H b
theorem offS_all {A : List Addr} {H : Hp} : L2.Same (offS A H) H := fun b o e => by
  unfold offS at e
  split at e
  · cases e
  · exact e
theorem offS_at {A : List Addr} {H : Hp} {p : Addr} {o : HO} (n : p ∉ A) (e : H p = some o) : offS A H p = some o := by
  unfold offS
  rw [if_neg n, e]
theorem offS_upd {A : List Addr} {H : Hp} {p : Addr} {o : HO} (m : p ∈ A) : L2.Same (offS A H) (offS A (upd H p o)) := fun b x e => by
  unfold offS at e
  split at e
  · cases e
  · rename_i n
    exact offS_at n (by rw [upd_ne (show b ≠ p from fun z => n (by rw [z]; exact m))]; exact e)
theorem offS_less {A B : List Addr} {H : Hp} (s : ∀ b ∈ B, b ∈ A) : L2.Same (offS A H) (offS B H) := fun b x e => by
  unfold offS at e
  split at e
  · cases e
  · rename_i n
    exact offS_at (fun m => n (s b m)) e
theorem new_off {A : List Addr} {H : Hp} {p : Addr} (ex : ∀ a ∈ A, H a ≠ none) (np : H p = none) : p ∉ A := fun m => ex p m np
theorem exS {A : List Addr} {H H' : Hp} (ex : ∀ a ∈ A, H a ≠ none) (s : L2.Same H H') : ∀ a ∈ A, H' a ≠ none := fun a m z => by
  cases e : H a with
  | none => exact ex a m e
  | some o =>
    rw [s a o e] at z
    cases z
def Bt (A : List Addr) (H H' : Hp) : Prop := ∀ b x, b ∉ A → H b = some x → H' b = some x
theorem Bt.refl (A : List Addr) (H : Hp) : Bt A H H := fun _ _ _ e => e
theorem Bt.trans {A : List Addr} {H H1 H2 : Hp} (p : Bt A H H1) (q : Bt A H1 H2) : Bt A H H2 := fun b o n e => q b o n (p b o n e)
theorem Bt.of {A : List Addr} {H H' : Hp} (s : L2.Same H H') : Bt A H H' := fun b o _ e => s b o e
theorem Bt.off {A : List Addr} {H H' : Hp} (s : Bt A H H') : L2.Same (offS A H) (offS A H') := fun b o e => by
  unfold offS at e
  split at e
  · cases e
  · rename_i n
    exact offS_at n (s b o n e)
/-- a hand: where it stands, where its own numbers stand -/
def Hd (h o : Addr) (n : Int) (H : Hp) : Prop := ∃ (gs : List Int) (m c : Int), H h = some (.lst [.ref o, .int m, .int c]) ∧ H o = some (.lst (gs.map V.int)) ∧ o ≠ h ∧ (∀ g ∈ gs, 0 ≤ g) ∧ gs.length ≤ 63 ∧ 0 ≤ m ∧ m < 2305843009213693951 ∧ 0 ≤ c ∧ c ≤ n
theorem Hd.mono {h o : Addr} {n n' : Int} {H : Hp} (a : Hd h o n H) (l : n ≤ n') : Hd h o n' H := by
  obtain ⟨gs, m, c, r1, r2, r3, r4, r5, r6, r7, r8, r9⟩ := a
  exact ⟨gs, m, c, r1, r2, r3, r4, r5, r6, r7, r8, Int.le_trans r9 l⟩
theorem Hd.same {h o : Addr} {n : Int} {H H' : Hp} (a : Hd h o n H) (s : L2.Same H H') : Hd h o n H' := by
  obtain ⟨gs, m, c, r1, r2, r⟩ := a
  exact ⟨gs, m, c, s _ _ r1, s _ _ r2, r⟩
theorem Hd.upd {h o p : Addr} {n : Int} {H : Hp} {x : HO} (a : Hd h o n H) (np : p ∉ [h, o]) : Hd h o n (L2.upd H p x) := by
  obtain ⟨gs, m, c, r1, r2, r⟩ := a
  have q1 : h ≠ p := fun z => np (by rw [z]; simp)
  have q2 : o ≠ p := fun z => np (by rw [z]; simp)
  exact ⟨gs, m, c, by rw [upd_ne q1]; exact r1, by rw [upd_ne q2]; exact r2, r⟩
theorem Hd.here {h o : Addr} {n : Int} {H : Hp} (a : Hd h o n H) : ∀ b ∈ [h, o], H b ≠ none := fun b mb z => by
  obtain ⟨gs, m, c, r1, r2, r⟩ := a
  simp only [List.mem_cons, List.not_mem_nil, or_false] at mb
  rcases mb with e | e
  · rw [e, r1] at z; cases z
  · rw [e, r2] at z; cases z
theorem Hd.fresh {h o p : Addr} {n : Int} {H : Hp} (a : Hd h o n H) (np : H p = none) : p ∉ [h, o] := fun m => a.here p m np
abbrev far : Int := 1000000
def spHand (K : PySem.W.Frag) : Sp := fun vs H Q _ => ∃ (a : Addr) (ns : List Int), vs = [.ref a] ∧ SqL K H a (ns.map V.int) ∧ ns.length ≤ 63 ∧ ∀ h o H', Hd h o 0 H' → L2.Same H H' → H h = none → H o = none → Q (.ref h) H'
def spTake : Sp := fun vs H Q _ => ∃ (h o : Addr) (many n : Int), vs = [.ref h, .int many] ∧ 0 < many ∧ many < 1000000 ∧ Hd h o n H ∧ n ≤ far ∧
  ∀ d H', 0 ≤ d → d < many → Hd h o (n + 1) H' → Bt [h, o] H H' → Q (.int d) H'
theorem dpAll_ints {H : Hp} : ∀ gs : List Int, DpAll K H (gs.map V.int) (gs.map PyData.int)
  | [] => .nil
  | g :: r => .cons (.int g) (dpAll_ints r)
theorem lay_ints : ∀ gs : List Int, PyData.canLayAll0 (gs.map PyData.int) = true
  | [] => by simp [PyData.canLayAll0]
  | g :: r => by simp [PyData.canLayAll0, PyData.canLay0, lay_ints r]
theorem depth_ints : ∀ gs : List Int, PyData.depthAll (gs.map PyData.int) ≤ 1
  | [] => by simp [PyData.depthAll]
  | g :: r => by
    have := depth_ints r
    simp only [List.map_cons, PyData.depthAll, PyData.depth]
    omega
theorem shaped_ints (gs : List Int) : SeqAt.shaped (.list (gs.map PyData.int)) = true := by
  unfold SeqAt.shaped
  have := depth_ints gs
  have h1 : (PyData.list (gs.map PyData.int)).canLay0 = true := by simp only [PyData.canLay0]; exact lay_ints gs
  have h2 : (PyData.list (gs.map PyData.int)).depth ≤ 64 := by simp only [PyData.depth]; omega
  rw [h1, decide_eq_true h2]
  rfl
theorem eqv_nil : PyData.eqv (.list (([] : List Int).map PyData.int)) (.list []) = true := by simp [PyData.eqv, PyData.eqvAll]
theorem eqv_cons (g : Int) (r : List Int) : PyData.eqv (.list ((g :: r).map PyData.int)) (.list []) = false := by simp [PyData.eqv, PyData.eqvAll]
theorem ixN_nat {n j : Nat} (h : j < n) : ixN n (j : Int) = some j := by
  unfold ixN
  rw [if_pos (by omega), if_pos (by omega)]
  simp
theorem wide30 {g many : Int} (m1 : 0 < many) (m2 : many < 1000000) : CDivW g many := by
  have h : (1000000 : Int) < 2 ^ 110 := by decide
  exact wide_div (b := 110) m1 (by omega) (by decide) (by decide)
theorem ok_take {f : Addr} {fd : FuncData} (D : Df K mg "_law_take" ["_law_hand_here", "_law_many"] sTake f fd)  : FnOk P w K mg base CX0 1 f fd ["_law_hand_here", "_law_many"] spTake := by
  refine D.fn.ok scTake (fun vs H Q E h => ?_) (fun cdv A outer s H vs Q E hr h => ?_)
  · obtain ⟨h, o, many, n, rfl, m1, m2, hd, hn, q⟩ := h
    rfl
  · obtain ⟨h, o, many, n, rfl, m1, m2, hd, hn, q⟩ := h
    refine ⟨_, (pss_cons (ps_asg (pe_op op_add (pe_ix ix_list (pv 0) pe_int (fun _ _ => rfl)) pe_int) (pg_sub (pv 0) pe_int set_list))
      (pss_cons (ps_while PassesOwn.never (PW.pt (pw_and (pt_cmpR (op_neD hr.units) (pe_ix ix_list (pv 0) pe_int (fun _ _ => rfl)) (pe_lst pa_nil) (nomark _)) (pw_and1 (pt_cmpR op_eq (pe_ix ix_list (pe_ix ix_list (pv 0) pe_int (fun _ _ => rfl)) pe_int (fun _ _ => rfl)) pe_int (nomark _))))) (pss_one (ps_expr (pe_bm PySem.F.plainAttrs_list PySem.F.slot_list_pop PySem.F.type_list_pop mt_popAt (pe_ix ix_list (pv 0) pe_int (fun _ _ => rfl)) (pa_cons pe_int pa_nil)))))
      (pss_cons (ps_if (pt_cmpR (op_neD hr.units) (pe_ix ix_list (pv 0) pe_int (fun _ _ => rfl)) (pe_lst pa_nil) (nomark _)) (pss_cons (ps_set (i := 2) scTake.nd rfl (.inl rfl) (pe_op op_mod (pe_ix ix_list (pe_ix ix_list (pv 0) pe_int (fun _ _ => rfl)) pe_int (fun _ _ => rfl)) (pv 1)))
      (pss_cons (ps_asg (pe_op op_fdivW (pe_ix ix_list (pe_ix ix_list (pv 0) pe_int (fun _ _ => rfl)) pe_int (fun _ _ => rfl)) (pv 1)) (pg_sub (pe_ix ix_list (pv 0) pe_int (fun _ _ => rfl)) pe_int set_list))
      (pss_one (ps_ret (pv 2))))) pss_nil)
      (pss_cons (ps_set (i := 3) scTake.nd rfl (.inl rfl) (pe_op op_mod (pe_op op_mul (pe_op op_add (pe_ix ix_list (pv 0) pe_int (fun _ _ => rfl)) (pe_op op_mul pe_int (pe_ix ix_list (pv 0) pe_int (fun _ _ => rfl)))) pe_int) pe_int))
      (pss_cons (ps_set (i := 4) scTake.nd rfl (.inl rfl) (pe_op op_add (pe_op op_mul (pv 3) (pe_op op_add (pe_op op_fdiv (pv 3) pe_int) pe_int)) (pe_op op_mul (pe_ix ix_list (pv 0) pe_int (fun _ _ => rfl)) (pe_ix ix_list (pv 0) pe_int (fun _ _ => rfl)))))
      (pss_one (ps_ret (pe_op op_mod (pe_op op_fdiv (pe_op op_mod (pv 4) pe_int) pe_int) (pv 1))))))))), ?_⟩
    obtain ⟨gs, m, c, eh, eo, oh, g0, gl, k0, k1, c0, c1⟩ := hd
    have far' : n ≤ 1000000 := hn
    refine ⟨_, rfl, h, _, 2, _, rfl, rfl, SqL.of eh, atI_nat (j := 2) rfl, c, 1, rfl, rfl, _, rfl, h, _, 2, 2, rfl, rfl, eh, rfl, ?_⟩
    have eh2 : (upd H h (.lst [.ref o, .int m, .int (c + 1)])) h = some (.lst [.ref o, .int m, .int (c + 1)]) := upd_same
    have eo2 : (upd H h (.lst [.ref o, .int m, .int (c + 1)])) o = some (.lst (gs.map V.int)) := by rw [upd_ne oh]; exact eo
    have b2 : Bt [h, o] H (upd H h (.lst [.ref o, .int m, .int (c + 1)])) := fun b x nb e => by
      rw [upd_ne (fun z => nb (by rw [z]; simp))]
      exact e
    have dl : ∀ {Hi : Hp} {gs : List Int}, Hi o = some (.lst (gs.map V.int)) → Dp K Hi (.ref o) (.list (gs.map PyData.int)) := fun {Hi gs} e => .lst (SqL.of e) (dpAll_ints gs)
    refine ⟨fun k σ Hi => ∃ gs' : List Int, σ = [some (.ref h), some (.int many), none, none, none] ∧ Hi h = some (.lst [.ref o, .int m, .int (c + 1)]) ∧ Hi o = some (.lst (gs'.map V.int)) ∧ (∀ g ∈ gs', 0 ≤ g) ∧ gs'.length ≤ 63 ∧ gs'.length = k ∧ Bt [h, o] H Hi, ⟨_, gs, rfl, eh2, eo2, g0, gl, rfl, b2⟩, ?_⟩
    rintro k σ Hi ⟨gs', rfl, ehi, eoi, gi0, gil, gik, bi⟩
    refine ⟨_, rfl, h, _, 0, .ref o, rfl, rfl, SqL.of ehi, atI_nat (j := 0) rfl, (by show 0 ≤ sizeLine; decide), fun l nl => ?_⟩
    have s1 := same_upd nl (o := .lst [])
    refine ⟨_, _, dl (s1 _ _ eoi), .lst (SqL.of upd_same) .nil, shaped_ints _, rfl, ?_⟩
    have ehl := s1 _ _ ehi
    have eol := s1 _ _ eoi
    have bl := bi.trans (Bt.of s1)
    clear eh eo eh2 eo2 b2 ehi eoi
    generalize upd Hi l (.lst []) = Hl at ehl eol bl ⊢
    cases gs' with
    | nil =>
      refine ⟨false, by rw [eqv_nil]; rfl, iteF ?_⟩
      refine ⟨_, rfl, h, _, 0, .ref o, rfl, rfl, SqL.of ehl, atI_nat (j := 0) rfl, (by show 0 ≤ sizeLine; decide), fun l2 nl2 => ?_⟩
      have s2 := same_upd nl2 (o := .lst [])
      have eh3 := s2 _ _ ehl
      have eo3 := s2 _ _ eol
      have b3 := bl.trans (Bt.of s2)
      refine ⟨_, _, dl eo3, .lst (SqL.of upd_same) .nil, shaped_ints _, rfl, false, by rw [eqv_nil]; rfl, iteF ?_⟩
      generalize upd Hl l2 (.lst []) = H3 at eh3 eo3 b3 ⊢
      have sq := SqL.of (K := K) eh3
      refine ⟨_, rfl, h, _, 1, _, rfl, rfl, sq, atI_nat (j := 1) rfl, _, rfl, h, _, 2, _, rfl, rfl, sq, atI_nat (j := 2) rfl, 104729, c + 1, rfl, rfl, .inl (by decide), m, _, rfl, rfl, _, 6364136223846793005, rfl, rfl, .inr (by decide), _, 2305843009213693921, rfl, rfl, (by show (0 : Int) < 2305843009213693921; decide), ?_⟩
      generalize (m + 104729 * (c + 1)) * 6364136223846793005 = z
      have z0 : 0 ≤ z % 2305843009213693921 := Int.emod_nonneg _ (by decide)
      have z1 : z % 2305843009213693921 < 2305843009213693921 := Int.emod_lt_of_pos _ (by decide)
      refine ⟨_, rfl, _, rfl, _, 1000003, rfl, rfl, ⟨by decide, by decide⟩, _, 3, rfl, rfl, _, _, rfl, rfl, .inl (by omega), _, rfl, h, _, 2, _, rfl, rfl, sq, atI_nat (j := 2) rfl, _, rfl, h, _, 2, _, rfl, rfl, sq, atI_nat (j := 2) rfl, c + 1, c + 1, rfl, rfl, .inl (by omega), _, _, rfl, rfl, ?_⟩
      refine ⟨_, rfl, _, 2305843009213693907, rfl, rfl, (by show (0 : Int) < 2305843009213693907; decide), _, 8191, rfl, rfl, ⟨by decide, by decide⟩, _, rfl, _, many, rfl, rfl, m1, ?_⟩
      exact q _ _ (Int.emod_nonneg _ (by omega)) (Int.emod_lt_of_pos _ m1) ⟨[], m, c + 1, eh3, eo3, oh, gi0, by simp, k0, k1, by omega, by omega⟩ b3
    | cons g r =>
      refine ⟨true, by rw [eqv_cons]; rfl, iteT ?_⟩
      refine ⟨_, rfl, h, _, 0, .ref o, rfl, rfl, SqL.of ehl, atI_nat (j := 0) rfl, o, _, 0, .int g, rfl, rfl, SqL.of eol, atI_nat (j := 0) rfl, rfl, _, rfl, ite2 (fun e => ?_) (fun e => ?_)⟩
      · refine ⟨fun σ' H' => ∃ gs' : List Int, σ' = [some (.ref h), some (.int many), none, none, none] ∧ H' h = some (.lst [.ref o, .int m, .int (c + 1)]) ∧ H' o = some (.lst (gs'.map V.int)) ∧ (∀ g ∈ gs', 0 ≤ g) ∧ gs'.length ≤ 63 ∧ gs'.length = r.length ∧ Bt [h, o] H H', fun σ' H' w => ⟨r.length, by rw [← gik]; simp, w⟩, ?_⟩
        refine ⟨_, rfl, h, _, 0, .ref o, rfl, rfl, SqL.of ehl, atI_nat (j := 0) rfl, (.inl ⟨rfl, _, SqL.of eol⟩), ?_⟩
        refine ⟨o, _, 0, 0, .int g, rfl, rfl, eol, by decide, by decide, seqIndex_of (by decide) (by simp), rfl, ?_⟩
        refine ⟨r, rfl, by rw [upd_ne (Ne.symm oh)]; exact ehl, upd_same, fun x hx => gi0 x (List.mem_cons_of_mem _ hx), by simp at gil; omega, rfl, fun b x nb e => ?_⟩
        rw [upd_ne (fun z => nb (by rw [z]; simp))]
        exact bl b x nb e
      · refine ⟨_, rfl, h, _, 0, .ref o, rfl, rfl, SqL.of ehl, atI_nat (j := 0) rfl, (by show 0 ≤ sizeLine; decide), fun l2 nl2 => ?_⟩
        have s2 := same_upd nl2 (o := .lst [])
        have eh3 := s2 _ _ ehl
        have eo3 := s2 _ _ eol
        have b3 := bl.trans (Bt.of s2)
        refine ⟨_, _, dl eo3, .lst (SqL.of upd_same) .nil, shaped_ints _, rfl, true, by rw [eqv_cons]; rfl, iteT ?_⟩
        generalize upd Hl l2 (.lst []) = H3 at eh3 eo3 b3 ⊢
        have sq := SqL.of (K := K) eh3
        have so := SqL.of (K := K) eo3
        refine ⟨_, rfl, h, _, 0, .ref o, rfl, rfl, sq, atI_nat (j := 0) rfl, o, _, 0, .int g, rfl, rfl, so, atI_nat (j := 0) rfl, _, rfl, g, many, rfl, rfl, m1, ?_⟩
        refine ⟨_, rfl, h, _, 0, .ref o, rfl, rfl, sq, atI_nat (j := 0) rfl, o, _, 0, .int g, rfl, rfl, so, atI_nat (j := 0) rfl, _, rfl, g, many, rfl, rfl, wide30 m1 m2, ?_⟩
        refine ⟨_, rfl, h, _, 0, .ref o, rfl, rfl, sq, atI_nat (j := 0) rfl, o, _, 0, 0, rfl, rfl, eo3, ixN_nat (j := 0) (by simp), ?_⟩
        refine ⟨_, rfl, q _ _ (Int.emod_nonneg _ (by omega)) (Int.emod_lt_of_pos _ m1) ⟨g / many :: r, m, c + 1, by rw [upd_ne (Ne.symm oh)]; exact eh3, upd_same, oh, ?_, by simp at gil ⊢; omega, k0, k1, by omega, by omega⟩ fun b x nb e => ?_⟩
        · intro x hx
          rcases List.mem_cons.mp hx with e | e
          · rw [e]
            exact Int.ediv_nonneg (gi0 g List.mem_cons_self) (by omega)
          · exact gi0 x (List.mem_cons_of_mem _ e)
        · rw [upd_ne (fun z => nb (by rw [z]; simp))]
          exact b3 b x nb e
theorem cut_ints (ns : List Int) (lo hi : Option Int) : cutV (ns.map V.int) lo hi = ((ns.drop (HT.sIx ns.length 0 lo)).take (HT.sIx ns.length ns.length hi - HT.sIx ns.length 0 lo)).map V.int := by
  unfold cutV
  rw [List.length_map, List.map_take, List.map_drop]
theorem cut_len (ns : List Int) (lo hi : Option Int) : ((ns.drop (HT.sIx ns.length 0 lo)).take (HT.sIx ns.length ns.length hi - HT.sIx ns.length 0 lo)).length ≤ ns.length := by
  rw [List.length_take, List.length_drop]
  omega
theorem ok_hand {f : Addr} {fd : FuncData} (D : Df K mg "_law_hand" ["_law_script"] sHand f fd) (T : Txt K mg C CL) : FnOk P w K mg base CX0 1 f fd ["_law_script"] (spHand K) := by
  refine D.fn.ok scHand (fun vs H Q E h => ?_) (fun cdv A outer s H vs Q E hr h => ?_)
  · obtain ⟨a, ns, rfl, hS, nl, q⟩ := h
    rfl
  · obtain ⟨a, ns, rfl, hS, nl, q⟩ := h
    refine ⟨_, (pss_cons (ps_par (i := 1) (j := 2) (by rfl) scHand.nd rfl rfl (by decide) rfl rfl (pa_cons (pe_lst pa_nil) (pa_cons (pe_op op_add pe_int (pe_op op_mul pe_int (pe_callB call_len_seq (by rfl) T.len PySem.boot_len (pa_cons (pv 0) pa_nil)))) pa_nil)) (by rfl))
      (pss_cons (ps_for PassesOwn.never rfl (pi_list (pe_slice sl_list (pv 0) po_none (po_some pe_int))) (pg_name (i := 3) scHand.nd rfl (.inl rfl)) (pss_cons (ps_set (i := 2) scHand.nd rfl (.inl rfl) (pe_op op_mod (pe_op op_add (pe_op op_add (pe_op op_mul (pv 2) pe_int) (pe_op op_mod (pv 3) pe_int)) pe_int) pe_int))
      (pss_one (ps_if (pt_cmpR op_ge (pv 3) (pe_op op_pow pe_int pe_int) (nomark _)) (pss_one (ps_expr (pe_bm PySem.F.plainAttrs_list PySem.F.slot_list_append PySem.F.type_list_append mt_append (pv 1) (pa_cons (pv 3) pa_nil)))) pss_nil))))
      (pss_one (ps_ret (pe_lst (pa_cons (pv 1) (pa_cons (pv 2) (pa_cons pe_int pa_nil)))))))), ?_⟩
    refine ⟨(by show 0 ≤ sizeLine; decide), fun o no => ?_⟩
    have s0 := same_upd no (o := .lst [])
    refine ⟨_, rfl, a, _, rfl, .inl (Same.seq s0 hS), 31, _, rfl, rfl, .inl (by decide), 7, _, rfl, rfl, _, _, rfl, ?_⟩
    refine ⟨_, rfl, 60, rfl, a, _, rfl, Same.seq s0 hS, fun l nl2 => ⟨l, rfl, ⟨_, SqL.of upd_same⟩, ?_⟩⟩
    have s1 := same_upd nl2 (o := .lst (cutV (ns.map V.int) none (some 60)))
    have el : (upd (upd H o (.lst [])) l (.lst (cutV (ns.map V.int) none (some 60)))) l = some (.lst (cutV (ns.map V.int) none (some 60))) := upd_same
    have eo : (upd (upd H o (.lst [])) l (.lst (cutV (ns.map V.int) none (some 60)))) o = some (.lst []) := s1 _ _ upd_same
    have sA := s0.trans s1
    have ol : l ≠ o := fun z => by
      rw [z, upd_same] at nl2
      cases nl2
    obtain ⟨ms, ems, lms⟩ : ∃ ms : List Int, cutV (ns.map V.int) none (some 60) = ms.map V.int ∧ ms.length ≤ 63 := ⟨_, cut_ints ns none (some 60), Nat.le_trans (cut_len ns none (some 60)) nl⟩
    rw [ems] at el eo sA ⊢
    generalize upd (upd H o (.lst [])) l (.lst (ms.map V.int)) = H1 at el eo sA ⊢
    refine for_list (K := K) (a := l) (xs := ms.map V.int) (fun i σ Hi => ∃ (gs : List Int) (m : Int) (c3 : Option V), σ = [some (.ref a), some (.ref o), some (.int m), c3] ∧ Hi o = some (.lst (gs.map V.int)) ∧ gs.length ≤ i ∧ (∀ g ∈ gs, 0 ≤ g) ∧ 0 ≤ m ∧ m < 2305843009213693951 ∧ (∀ b x, b ≠ o → H1 b = some x → Hi b = some x)) ?_ ?_ ?_ ?_
    · refine ⟨[], _, none, rfl, eo, Nat.le_refl _, by simp, ?_, ?_, fun b x _ e => e⟩
      · rw [List.length_map]; omega
      · rw [List.length_map]; omega
    · rintro i σ Hi _ ⟨gs, m, c3, _, _, _, _, _, _, k⟩
      exact SqL.of (k _ _ ol el)
    · rintro i x σ Hi hx ⟨gs, m, c3, rfl, eoi, gl, g0, m0, m1, k⟩
      rw [List.getElem?_map] at hx
      obtain ⟨g, eg, rfl⟩ := Option.map_eq_some_iff.mp hx
      have il : i < ms.length := (List.getElem?_eq_some_iff.mp eg).1
      refine ⟨_, rfl, m, 1000003, rfl, rfl, .inr (by decide), _, rfl, g, 2305843009213693907, rfl, rfl, (by show (0 : Int) < 2305843009213693907; decide), _, _, rfl, rfl, _, 11, rfl, rfl, _, 2305843009213693951, rfl, rfl, (by show (0 : Int) < 2305843009213693951; decide), ?_⟩
      have p0 := Int.emod_nonneg (m * 1000003 + g % 2305843009213693907 + 11) (b := 2305843009213693951) (by decide)
      have p1 := Int.emod_lt_of_pos (m * 1000003 + g % 2305843009213693907 + 11) (b := 2305843009213693951) (by decide)
      refine ⟨_, rfl, 10, 18, rfl, rfl, ⟨by decide, by decide, by decide⟩, g, _, rfl, rfl, _, rfl, ite2 (fun e => ?_) (fun e => ?_)⟩
      · have e' : (10 : Int) ^ (18 : Int).toNat ≤ g := of_decide_eq_true e
        have g00 : 0 ≤ g := Int.le_trans (by decide) e'
        refine ⟨_, rfl, .inl ⟨rfl, _, SqL.of eoi⟩, _, rfl, o, _, _, rfl, rfl, eoi, ?_, ?_⟩
        · rw [List.length_map]
          exact Nat.lt_of_le_of_lt (show gs.length ≤ 100 by omega) (by decide)
        · refine ⟨gs ++ [g], _, _, rfl, by rw [upd_same, List.map_append]; rfl, by rw [List.length_append]; exact Nat.add_le_add_right gl 1, ?_, p0, p1, fun b x nb e => by rw [upd_ne nb]; exact k b x nb e⟩
          intro x hx
          rcases List.mem_append.mp hx with h | h
          · exact g0 x h
          · rw [List.mem_singleton.mp h]; exact g00
      · exact ⟨gs, _, _, rfl, eoi, Nat.le_succ_of_le gl, g0, p0, p1, k⟩
    · rintro σ Hi ⟨gs, m, c3, rfl, eoi, gl, g0, m0, m1, k⟩
      refine ⟨_, rfl, _, rfl, (by show 3 ≤ sizeLine; decide), fun h nh => ?_⟩
      have oh : o ≠ h := fun z => by
        rw [← z, eoi] at nh
        cases nh
      rw [List.length_map] at gl
      have sF : L2.Same H (upd Hi h (.lst [.ref o, .int m, .int 0])) := fun b x e => by
        have bo : b ≠ o := ne_of_none e no
        exact same_upd nh _ _ (k b x bo (sA b x e))
      refine q h o _ ⟨gs, m, 0, upd_same, by rw [upd_ne oh]; exact eoi, oh, g0, by omega, m0, m1, by omega, by omega⟩ sF ?_ no
      cases z : H h with
      | none => rfl
      | some x =>
        have w := k h x (Ne.symm oh) (sA h x z)
        rw [w] at nh
        cases nh
end
end K20
set_option Elab.async false
set_option linter.all false
set_option maxRecDepth 100000
set_option maxHeartbeats 4000000
set_option pp.maxSteps 400
set_option pp.deepTerms false
namespace K20
open PySem PySem.Spec PyProof.Rows L2
open Xk Az
section
variable {P : Program} {w : World} {K : PySem.W.Frag} {mg : Str → Option Value} {base : Heap} {C CL : Addr}
def spPick : Sp := fun vs H Q _ => ∃ (h o : Addr) (n : Int) (s : V), vs = [.ref h, s] ∧ Hd h o n H ∧ n ≤ far ∧
  ((∃ (l : Addr) (xs : List V), s = .ref l ∧ H l = some (.lst xs) ∧ l ∉ [h, o] ∧ xs ≠ [] ∧ xs.length < 1000 ∧ ∀ v H', v ∈ xs → Hd h o (n + 1) H' → Bt [h, o] H H' → Q v H') ∨
   (∃ x : Str, s = .str x ∧ 0 < x.length ∧ x.length < 1000 ∧ ∀ c H', c ∈ x.cps.toList → Hd h o (n + 1) H' → Bt [h, o] H H' → Q (.str ⟨#[c]⟩) H'))
theorem ok_pick {f : Addr} {fd : FuncData} (D : Df K mg "_law_pick" ["_law_hand_here", "_law_some_here"] sPick f fd) (T : Txt K mg C CL) (cT : Ca P w K mg base 1 "_law_take" ["_law_hand_here", "_law_many"] spTake) : FnOk P w K mg base CX0 2 f fd ["_law_hand_here", "_law_some_here"] spPick := by
  refine D.fn.ok scPick (fun vs H Q E h => ?_) (fun cdv A outer s H vs Q E hr h => ?_)
  · obtain ⟨h, o, n, s, rfl, hd, hn, q⟩ := h
    rfl
  · obtain ⟨h, o, n, s, rfl, hd, hn, q⟩ := h
    refine ⟨_, (pss_one (ps_ret (pe_ix ix_seq (pv 1) (pe_ca cT hr (by decide) (by rfl) (pa_cons (pv 0) (pa_cons (pe_callB (cr_alt call_len_seq call_len_str) (by rfl) T.len PySem.boot_len (pa_cons (pv 1) pa_nil)) pa_nil))) (fun _ _ => rfl)))), ?_⟩
    refine ⟨_, rfl, _, rfl, _, rfl, ?_⟩
    rcases q with ⟨l, xs, rfl, hl, nl, ne, few, q⟩ | ⟨x, rfl, pos, few, q⟩
    · have pos : 0 < xs.length := List.length_pos_iff.mpr ne
      refine .inl ⟨l, xs, rfl, .inl (SqL.of hl), h, o, (xs.length : Int), n, rfl, by omega, by omega, hd, hn, fun d H' d0 d1 hh' bt => ?_⟩
      obtain ⟨j, rfl⟩ : ∃ j : Nat, d = (j : Int) := ⟨d.toNat, by omega⟩
      have hj : j < xs.length := by omega
      refine .inl ⟨l, xs, _, xs[j], rfl, rfl, SqL.of (bt _ _ nl hl), atI_nat (List.getElem?_eq_getElem hj), ?_⟩
      exact q _ H' (List.getElem_mem hj) hh' bt
    · have sz : x.length ≤ sizeLine := Nat.le_trans (show x.length ≤ 1000 by omega) (by decide)
      refine .inr ⟨x, rfl, sz, h, o, (x.length : Int), n, rfl, by omega, by omega, hd, hn, fun d H' d0 d1 hh' bt => ?_⟩
      obtain ⟨j, rfl⟩ : ∃ j : Nat, d = (j : Int) := ⟨d.toNat, by omega⟩
      have hj : j < x.cps.toList.length := by
        have : x.length = x.cps.toList.length := by rw [Array.length_toList]; rfl
        omega
      refine .inr (.inr ⟨x, _, x.cps.toList[j], rfl, rfl, sz, atI_nat (List.getElem?_eq_getElem hj), ?_⟩)
      exact q _ H' (List.getElem_mem hj) hh' bt
theorem join_cps' : ∀ ys : List Str, (Str.join "" ys).cps.toList = (ys.map fun y => y.cps.toList).flatten
  | [] => rfl
  | [x] => by simp [Str.join]
  | x :: z :: r => by
    show (x ++ "" ++ Str.join "" (z :: r)).cps.toList = _
    rw [Str.cps_append, Array.toList_append, Str.cps_append, Array.toList_append, join_cps' (z :: r)]
    have e0 : (("" : Str)).cps.toList = [] := rfl
    rw [e0, List.append_nil]
    rfl
theorem join_cps (ys : List Str) : (Txt.join "" ys).cps.toList = (ys.map fun y => y.cps.toList).flatten := by
  rw [TL.join_eq]
  exact join_cps' ys
theorem join_len (ys : List Str) : (Txt.join "" ys).length = (ys.map (·.length)).sum := by
  rw [len_cps, join_cps, List.length_flatten, List.map_map]
  congr 1
theorem ones_sum : ∀ ys : List Str, (∀ y ∈ ys, y.length = 1) → (ys.map (·.length)).sum = ys.length
  | [], _ => rfl
  | y :: r, h => by
    rw [List.map_cons, List.sum_cons, h y List.mem_cons_self, ones_sum r (fun z hz => h z (List.mem_cons_of_mem _ hz)), List.length_cons]
    omega
def letts (x : Str) : Prop := ∀ c ∈ x.cps.toList, c ∈ small.cps.toList
def spWord : Sp := fun vs H Q _ => ∃ (h o : Addr) (n a b : Int), vs = [.ref h, .int a, .int b] ∧ 0 ≤ a ∧ a ≤ b ∧ b ≤ 50 ∧ Hd h o n H ∧ n + 100 ≤ far ∧
  ∀ (x : Str) H', a ≤ x.length → x.length ≤ b → letts x → Hd h o (n + 60) H' → Bt [h, o] H H' → Q (.str x) H'
theorem ok_word {f : Addr} {fd : FuncData} (D : Df K mg "_law_word" ["_law_hand_here", "_law_least", "_law_most"] sWord f fd) (T : Txt K mg C CL) (cT : Ca P w K mg base 1 "_law_take" ["_law_hand_here", "_law_many"] spTake) (cP : Ca P w K mg base 2 "_law_pick" ["_law_hand_here", "_law_some_here"] spPick) : FnOk P w K mg base CX0 3 f fd ["_law_hand_here", "_law_least", "_law_most"] spWord := by
  refine D.fn.ok scWord (fun vs H Q E h => ?_) (fun cdv A outer s H vs Q E hr h => ?_)
  · obtain ⟨h, o, n, a, b, rfl, a0, ab, b50, hd, hn, q⟩ := h
    rfl
  · obtain ⟨h, o, n, a, b, rfl, a0, ab, b50, hd, hn, q⟩ := h
    refine ⟨_, (pss_cons (ps_set (i := 3) scWord.nd rfl (.inr rfl) pe_str)
      (pss_one (ps_ret (pe_m1 F.slot_str_join F.type_str_join mt_join pe_str (pe_lc (own := [("_law_k", 4)]) (g := gName 4) (tt := tYes) (by rfl) scWord.nd (pi_range1 (by rfl) T.range (pa_cons (pe_op op_add (pv 1) (pe_ca cT hr (by decide) (by rfl) (pa_cons (pv 0) (pa_cons (pe_op op_add (pe_op op_sub (pv 2) (pv 1)) pe_int) pa_nil)))) pa_nil)) (blkOk_by (own := [("_law_k", 4)]) (N := ["_law_hand_here", "_law_least", "_law_most", "_law_letters", "_law_k"]) (sc := defScope sWord) (by decide +kernel)) (fun _ _ _ _ _ => pg_name (i := 4) scWord.nd rfl (.inl rfl)) (fun _ _ _ _ _ => pts_nil) (fun _ _ _ _ _ => pe_ca cP hr (by decide) (by rfl) (pa_cons (pv 0) (pa_cons (pv 3) pa_nil)))))))), ?_⟩
    have fr : n + 100 ≤ 1000000 := hn
    have lf : small.length = 26 := by decide +kernel
    refine ⟨⟨_, rfl⟩, ?_⟩
    refine ⟨_, rfl, _, rfl, _, rfl, _, rfl, b, a, rfl, rfl, _, 1, rfl, rfl, h, o, b - a + 1, n, rfl, by omega, by omega, hd, by show n ≤ 1000000; omega, fun d H1 d0 d1 h1 b1 => ?_⟩
    refine ⟨a, d, rfl, rfl, _, rfl, by omega, by omega, fun L nL => ?_⟩
    have s1 := same_upd nL (o := .lst [])
    refine lc_range (lo := 0) (fun i Hi => ∃ ys : List Str, Hi L = some (.lst (ys.map V.str)) ∧ ys.length = i ∧ (∀ y ∈ ys, ∃ c ∈ small.cps.toList, y = ⟨#[c]⟩) ∧ Hd h o (n + 1 + i) Hi ∧ Bt [h, o] H1 Hi) ?_ ?_ ?_
    · exact ⟨[], upd_same, rfl, by simp, (h1.same s1).mono (by omega), Bt.of s1⟩
    · rintro i Hi hi ⟨ys, eL, ly, cy, hdi, bi⟩
      have hi' : i < (a + d).toNat := hi
      refine ⟨rfl, ?_⟩
      unfold tYes
      refine iteT ?_
      refine ⟨_, rfl, _, rfl, h, o, n + 1 + i, _, rfl, hdi, by show n + 1 + (i : Int) ≤ 1000000; omega, .inr ⟨small, rfl, by rw [lf]; decide, by rw [lf]; decide, fun c H2 mc h2 b2 => ?_⟩⟩
      have nLo : L ∉ [h, o] := h1.fresh nL
      have oth : ∀ b ∈ [h, o], b ≠ L := fun b mb z => nLo (by rw [← z]; exact mb)
      refine ⟨_, b2 _ _ nLo eL, ?_, ys ++ [⟨#[c]⟩], ?_, by rw [List.length_append, ly]; rfl, ?_, ?_, ?_⟩
      · rw [List.length_map, ly]
        exact Nat.lt_of_le_of_lt (show i ≤ 100 by omega) (by decide)
      · rw [upd_same, List.map_append]
        rfl
      · intro y hy
        rcases List.mem_append.mp hy with z | z
        · exact cy y z
        · exact ⟨c, mc, List.mem_singleton.mp z⟩
      · exact (h2.upd nLo).mono (by omega)
      · intro b x nb e
        have bL : b ≠ L := ne_of_none e nL
        rw [upd_ne bL]
        exact b2 b x nb (bi b x nb e)
    · rintro He ⟨ys, eL, ly, cy, hde, be⟩
      have le : (ys.map (·.length)).sum = ys.length := ones_sum ys (fun y hy => by obtain ⟨c, _, e⟩ := cy y hy; rw [e]; rfl)
      have ly' : (ys.length : Int) = a + d := by
        have : ys.length = (a + d).toNat := ly
        omega
      refine ⟨_, L, ys, rfl, rfl, .inl (SqL.of eL), ?_, ?_⟩
      · rw [le]
        have e0 : (("" : Str)).length = 0 := rfl
        rw [e0]
        omega
      · have jl : (Txt.join "" ys).length = ys.length := by rw [join_len, le]
        refine q _ _ (by rw [jl]; omega) (by rw [jl]; omega) ?_ (hde.mono ?_) (b1.trans be)
        · intro c hc
          rw [join_cps] at hc
          obtain ⟨l, ml, hcl⟩ := List.mem_flatten.mp hc
          obtain ⟨y, my, rfl⟩ := List.mem_map.mp ml
          obtain ⟨c', mc', e⟩ := cy y my
          rw [e] at hcl
          have : c = c' := by simpa using hcl
          rw [this]
          exact mc'
        · have : (((a + d).toNat : Nat) : Int) ≤ 50 := by omega
          show n + 1 + (((a + d).toNat : Nat) : Int) ≤ n + 60
          omega
end
end K20
set_option Elab.async false
set_option linter.all false
set_option maxRecDepth 100000
set_option maxHeartbeats 4000000
set_option pp.maxSteps 400
set_option pp.deepTerms false
namespace K20
open PySem PySem.Spec PyProof.Rows L2
open Xk Az
section
variable {P : Program} {w : World} {K : PySem.W.Frag} {mg : Str → Option Value} {base : Heap} {C CL : Addr}
def lawSigns : Str := "abcdefghijklmnopqrstuvwxyzABCDEFGHIJKLMNOPQRSTUVWXYZ0123456789'-.     "
theorem lawSigns_in : ∀ c ∈ lawSigns.cps.toList, c ∈ signs.cps.toList := by decide +kernel
/-- a text of a name as far as it is written -/
def Half (l : List Nat) : Prop := (∀ c ∈ l, c ∈ signs.cps.toList) ∧ l.head? ≠ some 32 ∧ ∀ i, ¬ (l[i]? = some 32 ∧ l[i + 1]? = some 32)
def Clean (l : List Nat) : Prop := Half l ∧ l.getLast? ≠ some 32
theorem half_nil : Half [] := ⟨by simp, by simp, by simp⟩
theorem Half.snoc {l : List Nat} {c : Nat} (h : Half l) (m : c ∈ signs.cps.toList) (e : c = 32 → l ≠ [] ∧ l.getLast? ≠ some 32) : Half (l ++ [c]) := by
  obtain ⟨h1, h2, h3⟩ := h
  refine ⟨fun d hd => ?_, ?_, fun i => ?_⟩
  · rcases List.mem_append.mp hd with z | z
    · exact h1 d z
    · rw [List.mem_singleton.mp z]; exact m
  · cases l with
    | nil =>
      intro z
      have : c = 32 := by simpa using z
      exact (e this).1 rfl
    | cons a r => simpa using h2
  · rintro ⟨e1, e2⟩
    by_cases il : i + 1 < l.length
    · rw [List.getElem?_append_left (by omega)] at e1
      rw [List.getElem?_append_left il] at e2
      exact h3 i ⟨e1, e2⟩
    · by_cases ie : i + 1 = l.length
      · rw [List.getElem?_append_right (by omega)] at e2
        rw [List.getElem?_append_left (by omega)] at e1
        have z : i + 1 - l.length = 0 := by omega
        rw [z] at e2
        have : c = 32 := by simpa using e2
        refine (e this).2 ?_
        rw [List.getLast?_eq_getElem?, show l.length - 1 = i by omega]
        exact e1
      · rw [List.getElem?_eq_none (by simp; omega)] at e2
        cases e2
theorem at_last {l : List Nat} (h : l ≠ []) : atI l (-1) = l.getLast? := by
  have p : 0 < l.length := List.length_pos_iff.mpr h
  unfold atI ixN
  rw [if_neg (by omega), if_pos (by omega)]
  rw [List.getLast?_eq_getElem?]
  simp only [Option.bind_some]
  congr 1
  omega
theorem one_inj {c d : Nat} (h : (⟨#[c]⟩ : Str) = ⟨#[d]⟩) : c = d := by
  injection h with h
  simpa using h
theorem str_nil {x : Str} (h : x.cps.toList = []) : x = "" := by
  obtain ⟨a⟩ := x
  have : a = #[] := by simpa using h
  rw [this]
  rfl
def spText : Sp := fun vs H Q _ => ∃ (h o : Addr) (n many : Int), vs = [.ref h, .int many] ∧ 0 ≤ many ∧ many ≤ 60 ∧ Hd h o n H ∧ n + 200 ≤ far ∧
  ∀ (x : Str) H', (x.length : Int) = many → Clean x.cps.toList → Hd h o (n + 60) H' → Bt [h, o] H H' → Q (.str x) H'
theorem ok_text {f : Addr} {fd : FuncData} (D : Df K mg "_law_text" ["_law_hand_here", "_law_many"] sText f fd) (T : Txt K mg C CL) (cT : Ca P w K mg base 1 "_law_take" ["_law_hand_here", "_law_many"] spTake) (cP : Ca P w K mg base 2 "_law_pick" ["_law_hand_here", "_law_some_here"] spPick) : FnOk P w K mg base CX0 3 f fd ["_law_hand_here", "_law_many"] spText := by
  refine D.fn.ok scText (fun vs H Q E h => ?_) (fun cdv A outer s H vs Q E hr h => ?_)
  · obtain ⟨h, o, n, many, rfl, m0, m60, hd, hn, q⟩ := h
    rfl
  · obtain ⟨h, o, n, many, rfl, m0, m60, hd, hn, q⟩ := h
    refine ⟨_, (pss_cons (ps_set (i := 2) scText.nd rfl (.inl rfl) pe_str)
      (pss_cons (ps_set (i := 3) scText.nd rfl (.inl rfl) pe_str)
      (pss_cons (ps_for PassesOwn.never rfl (pi_range1 (by rfl) T.range (pa_cons (pv 1) pa_nil)) (pg_name (i := 4) scText.nd rfl (.inl rfl)) (pss_cons (ps_set (i := 5) scText.nd rfl (.inl rfl) (pe_ca cP hr (by decide) (by rfl) (pa_cons (pv 0) (pa_cons (pv 2) pa_nil))))
      (pss_cons (ps_if (PW.pt (pw_and (pt_cmpR op_eq (pv 5) pe_str (nomark _)) (pw_and1 (PW.pt (pw_or (pt_cmpR op_eq (pv 3) pe_str (nomark _)) (pw_or (pt_cmpR op_eq (pe_ix ix_str (pv 3) (pe_un un_neg pe_int) (fun _ _ => rfl)) pe_str (nomark _)) (pw_or1 (pt_cmpR op_eq (pv 4) (pe_op op_sub (pv 1) pe_int) (nomark _))))))))) (pss_one (ps_set (i := 5) scText.nd rfl (.inl rfl) pe_str)) pss_nil)
      (pss_one (ps_set (i := 3) scText.nd rfl (.inl rfl) (pe_op op_add_str (pv 3) (pv 5)))))))
      (pss_one (ps_ret (pv 3)))))), ?_⟩
    have fr : n + 200 ≤ 1000000 := hn
    refine ⟨_, rfl, many, rfl, by omega, by omega, for_range (lo := 0) (n := many.toNat) (fun k σ Hi => ∃ (x : Str) (c4 c5 : Option V), σ = [some (.ref h), some (.int many), some (.str lawSigns), some (.str x), c4, c5] ∧ x.length = k ∧ Half x.cps.toList ∧ ((k : Int) = many → x.cps.toList.getLast? ≠ some 32) ∧ Hd h o (n + k) Hi ∧ Bt [h, o] H Hi) ?_ ?_ ?_⟩
    · exact ⟨"", none, none, rfl, rfl, half_nil, fun _ => by decide, hd.mono (by omega), Bt.refl _ _⟩
    · rintro k σ Hi hk ⟨x, c4, c5, rfl, lx, hf, _, hdi, bi⟩
      have km : (k : Int) < many := by omega
      refine ⟨_, rfl, _, rfl, h, o, n + k, _, rfl, hdi, by show n + (k : Int) ≤ 1000000; omega, .inr ⟨lawSigns, rfl, by decide +kernel, by decide +kernel, fun c H2 mc h2 b2 => ?_⟩⟩
      have sx : x.length ≤ 100 := by omega
      have fit : x.length + 1 ≤ sizeLine := Nat.le_trans (show x.length + 1 ≤ 200 by omega) (by decide)
      have bt := bi.trans b2
      have nx : ∀ (c' : Nat), c' ∈ signs.cps.toList → (c' = 32 → x.cps.toList ≠ [] ∧ x.cps.toList.getLast? ≠ some 32 ∧ (k : Int) ≠ many - 1) → ∀ c4 c5 : Option V, ∃ (x' : Str) (c4' c5' : Option V), [some (V.ref h), some (.int many), some (.str lawSigns), some (.str (x ++ ⟨#[c']⟩)), c4, c5] = [some (V.ref h), some (.int many), some (.str lawSigns), some (.str x'), c4', c5'] ∧ x'.length = k + 1 ∧ Half x'.cps.toList ∧ (((k + 1 : Nat) : Int) = many → x'.cps.toList.getLast? ≠ some 32) ∧ Hd h o (n + ((k + 1 : Nat) : Int)) H2 ∧ Bt [h, o] H H2 := fun c' m1 m2 c4 c5 => by
        refine ⟨x ++ ⟨#[c']⟩, c4, c5, rfl, ?_, ?_, fun ek => ?_, h2.mono (by omega), bt⟩
        · rw [strLen_append, lx]; rfl
        · rw [Str.cps_append, Array.toList_append]
          exact hf.snoc m1 (fun e => ⟨(m2 e).1, (m2 e).2.1⟩)
        · rw [Str.cps_append, Array.toList_append]
          intro e
          have : c' = 32 := by simpa using e
          exact (m2 this).2.2 (by omega)
      have qm : (113 : Nat) ∈ signs.cps.toList := by decide +kernel
      have mc' : c ∈ signs.cps.toList := lawSigns_in c mc
      refine ⟨_, rfl, rfl, _, rfl, ite2 (fun e => ?_) (fun e => ?_)⟩
      · have ec : c = 32 := one_inj (V.str.inj (of_decide_eq_true e))
        have go : ∀ c5 : Option V, _ := fun c5 => nx 113 qm (fun z => by cases z) (some (.int (0 + (k : Int)))) c5
        refine ⟨_, rfl, rfl, _, rfl, ite2 (fun e1 => ?_) (fun e1 => ?_)⟩
        · exact ⟨_, rfl, _, rfl, x, "q", rfl, rfl, fit, go _⟩
        · have xn : x.cps.toList ≠ [] := fun z => e1 (decide_eq_true (by rw [str_nil z]))
          obtain ⟨d, ed⟩ : ∃ d, x.cps.toList.getLast? = some d := by
            cases z : x.cps.toList.getLast? with
            | none => exact absurd (List.getLast?_eq_none_iff.mp z) xn
            | some d => exact ⟨d, rfl⟩
          refine ⟨_, rfl, 1, rfl, x, -1, d, rfl, rfl, Nat.le_trans (Nat.le_succ _) fit, (at_last xn).trans ed, rfl, _, rfl, ite2 (fun e2 => ?_) (fun e2 => ?_)⟩
          · exact ⟨_, rfl, _, rfl, x, "q", rfl, rfl, fit, go _⟩
          · refine ⟨_, rfl, _, rfl, many, 1, rfl, rfl, rfl, _, rfl, ite2 (fun e3 => ?_) (fun e3 => ?_)⟩
            · exact ⟨_, rfl, _, rfl, x, "q", rfl, rfl, fit, go _⟩
            · refine ⟨_, rfl, _, rfl, x, _, rfl, rfl, fit, nx c mc' (fun _ => ⟨xn, fun z => e2 ?_, fun z => e3 ?_⟩) _ _⟩
              · rw [ed] at z
                exact decide_eq_true (by rw [Option.some.inj z]; rfl)
              · exact decide_eq_true (show V.int (0 + (k : Int)) = V.int (many - 1) by congr 1; omega)
      · refine ⟨_, rfl, _, rfl, x, _, rfl, rfl, fit, nx c mc' (fun z => absurd (decide_eq_true (by rw [z]; rfl)) e) _ _⟩
    rintro σ He ⟨x, c4, c5, rfl, lx, hf, la, hde, be⟩
    have lx' : (x.length : Int) = many := by
      have : x.length = many.toNat := lx
      omega
    refine ⟨_, rfl, q x He lx' ⟨hf, la (by omega)⟩ (hde.mono ?_) be⟩
    show n + ((many.toNat : Nat) : Int) ≤ n + 60
    omega
end
end K20
set_option Elab.async false
set_option linter.all false
set_option maxRecDepth 100000
set_option maxHeartbeats 4000000
set_option pp.maxSteps 400
set_option pp.deepTerms false
namespace K20
open PySem PySem.Spec PyProof.Rows L2
open Xk Az
section
variable {P : Program} {w : World} {K : PySem.W.Frag} {mg : Str → Option Value} {base : Heap} {C CL : Addr}
section
variable {X : Cx}
theorem vals_map {α : Type} (g : α → V) (R : α → Value → Prop) (hR : ∀ a v, R a v → RelV (g a) v) : ∀ (as : List α) (us : List Value), as.length = us.length → (∀ (i : Nat) (a : α) (u : Value), as[i]? = some a → us[i]? = some u → R a u) → Vals (as.map g) us
  | [], [], _, _ => .nil
  | a :: as, u :: us, hl, h => .cons (hR a u (h 0 a u rfl rfl)) (vals_map g R hR as us (by simpa using hl) fun i b v e1 e2 => h (i + 1) b v (by simpa using e1) (by simpa using e2))
  | [], _ :: _, hl, _ => by simp at hl
  | _ :: _, [], hl, _ => by simp at hl
def sg1 (c : Nat) : V := .str ⟨#[c]⟩
theorem cr_listS (hc : X.calm = true) : CallR X (.type "list") (fun xs H Q => ∃ x : Str, xs = [.str x] ∧ x.length ≤ sizeLine ∧ ∀ l, H l = none → Q (.ref l) (upd H l (.lst (x.cps.toList.map sg1)))) := by
  intro pins s σ H xs us Q I r h
  obtain ⟨x, rfl, hz, q⟩ := h
  obtain ⟨u, rfl, rx⟩ := vals1 r
  obtain ⟨t, rfl⟩ := rx
  refine call_list_str (I.ok.hd hc) x t (fun h' tk acc c kp e it => ?_) hz
  have v : Vals (x.cps.toList.map sg1) acc.toList := by
    refine vals_map sg1 (fun c u => ∃ t, u = Value.str ⟨#[c]⟩ t) (fun a v ⟨t, e⟩ => ⟨t, e⟩) _ _ (by rw [Array.length_toList, Array.length_toList, it.1]) fun i a u e1 e2 => ?_
    obtain ⟨c', t', q1, q2⟩ := it.2 i u (by rw [← Array.getElem?_toList]; exact e2)
    rw [← Array.getElem?_toList, e1] at q1
    exact ⟨t', by rw [Option.some.inj q1]; exact q2⟩
  have hl : (x.cps.toList.map sg1).length ≤ sizeLine := by rw [List.length_map, Array.length_toList]; exact hz
  exact ⟨.ref s.heap.objs.size, _, I.laid (t' := tk) kp (Nat.le_refl _) (show ObjOk X.prog X.w _ h' _ (.lst (x.cps.toList.map sg1)) from ⟨hl, acc.toList, c, v, by simpa using e⟩), rfl, q _ (I.hok.fresh (Nat.le_refl _))⟩
end
theorem Bt.none {A : List Addr} {H H' : Hp} {p : Addr} (b : Bt A H H') (m : p ∉ A) (e : H' p = none) : H p = none := by
  cases z : H p with
  | none => rfl
  | some x =>
    rw [b p x m z] at e
    cases e
/-- tuples stand -/
def Tp (H H' : Hp) : Prop := ∀ b xs, H b = some (.tup xs) → H' b = some (.tup xs)
theorem Hd.tp {h o : Addr} {n : Int} {H H' : Hp} (a : Hd h o n H) (s : Bt [h, o] H H') : Tp H H' := fun b xs e => by
  obtain ⟨gs, m, c, r1, r2, _⟩ := a
  refine s b _ (fun mb => ?_) e
  simp only [List.mem_cons, List.not_mem_nil, or_false] at mb
  rcases mb with z | z
  · rw [z, r1] at e; cases e
  · rw [z, r2] at e; cases e
theorem tp_upd {H : Hp} {p : Addr} {xs : List V} {x : HO} (e : H p = some (.lst xs)) : Tp H (upd H p x) := fun b ys eb => by
  rw [upd_ne (fun z => by rw [z, e] at eb; cases eb)]
  exact eb
theorem tp_same {H H' : Hp} (s : L2.Same H H') : Tp H H' := fun b ys e => s b _ e
theorem Tp.trans {H H1 H2 : Hp} (p : Tp H H1) (q : Tp H1 H2) : Tp H H2 := fun b xs e => q b xs (p b xs e)
def Nm (H : Hp) (v : V) : Prop := ∃ (t : Addr) (a b : Str), v = .ref t ∧ H t = some (.tup [.str a, .str b]) ∧ letts a ∧ 2 ≤ a.length ∧ a.length ≤ 3 ∧ Clean b.cps.toList ∧ 1 ≤ b.length ∧ b.length ≤ 40
theorem Nm.tp {H H' : Hp} {v : V} (a : Nm H v) (s : Tp H H') : Nm H' v := by
  obtain ⟨t, x, y, e, r1, r⟩ := a
  exact ⟨t, x, y, e, s _ _ r1, r⟩
def alnum : Str := "abcdefghijklmnopqrstuvwxyzABCDEFGHIJKLMNOPQRSTUVWXYZ0123456789"
theorem alnum_ok : ∀ c ∈ alnum.cps.toList, c ∈ signs.cps.toList ∧ c ≠ 32 := by decide +kernel
theorem ins_cps {st : Str} {k c : Nat} (h : k ≤ st.cps.toList.length) : (cutS st none (some (k : Int)) ++ ⟨#[c]⟩ ++ cutS st (some (k : Int)) none).cps.toList = st.cps.toList.take k ++ c :: st.cps.toList.drop k := by
  rw [len_cps st |>.symm] at h
  rw [Str.cps_append, Array.toList_append, Str.cps_append, Array.toList_append]
  have e1 : HT.sIx st.length 0 (some (k : Int)) = k := by rw [HT.sIx_nat]; omega
  have e2 : HT.sIx st.length st.length (some (k : Int)) = k := by rw [HT.sIx_nat]; omega
  have e3 : HT.sIx st.length 0 none = 0 := rfl
  have e4 : HT.sIx st.length st.length none = st.length := rfl
  unfold cutS
  rw [e1, e2, e3, e4]
  simp only [List.drop_zero, Nat.sub_zero, List.append_assoc, List.singleton_append]
  congr 2
  rw [List.take_of_length_le (by rw [List.length_drop, ← len_cps]; omega)]
theorem ins_len {st : Str} {k c : Nat} (h : k ≤ st.cps.toList.length) : (cutS st none (some (k : Int))).length + (cutS st (some (k : Int)) none).length ≤ st.length ∧ (cutS st none (some (k : Int))).length ≤ st.length ∧ (cutS st none (some (k : Int)) ++ ⟨#[c]⟩ ++ cutS st (some (k : Int)) none).length = st.length + 1 := by
  have e := congrArg List.length (ins_cps (c := c) h)
  have l1 : (cutS st none (some (k : Int)) ++ ⟨#[c]⟩ ++ cutS st (some (k : Int)) none).length = st.length + 1 := by
    rw [len_cps, e, List.length_append, List.length_cons, List.length_take, List.length_drop, len_cps st]
    omega
  rw [strLen_append, strLen_append] at l1
  have o1 : (⟨#[c]⟩ : Str).length = 1 := rfl
  rw [strLen_append, strLen_append]
  omega
theorem ins_at {l : List Nat} {k c : Nat} (hk : k ≤ l.length) (i : Nat) : (l.take k ++ c :: l.drop k)[i]? = if i < k then l[i]? else if i = k then some c else l[i - 1]? := by
  rw [List.getElem?_append, List.length_take, Nat.min_eq_left hk]
  split
  · rename_i h
    rw [List.getElem?_take, if_pos h]
  · split
    · rename_i h
      rw [h, Nat.sub_self]
      rfl
    · rw [show i - k = (i - 1 - k) + 1 by omega, List.getElem?_cons_succ, List.getElem?_drop]
      congr 1
      omega
theorem Clean.ins {l : List Nat} {k c : Nat} (h : Clean l) (hk : k ≤ l.length) (m : c ∈ signs.cps.toList) (ne : c ≠ 32) : Clean (l.take k ++ c :: l.drop k) := by
  obtain ⟨⟨h1, h2, h3⟩, h4⟩ := h
  have nc : some c ≠ some 32 := fun z => ne (Option.some.inj z)
  refine ⟨⟨fun d hd => ?_, ?_, fun i => ?_⟩, ?_⟩
  · rcases List.mem_append.mp hd with z | z
    · exact h1 d (List.mem_of_mem_take z)
    · rcases List.mem_cons.mp z with z | z
      · rw [z]; exact m
      · exact h1 d (List.mem_of_mem_drop z)
  · rw [List.head?_eq_getElem?, ins_at hk]
    rw [List.head?_eq_getElem?] at h2
    split
    · exact h2
    · split
      · exact nc
      · omega
  · rw [ins_at hk, ins_at hk]
    rintro ⟨e1, e2⟩
    by_cases a : i + 1 < k
    · rw [if_pos (by omega)] at e1
      rw [if_pos a] at e2
      exact h3 i ⟨e1, e2⟩
    · by_cases b : i + 1 = k
      · rw [if_neg (by omega), if_pos b] at e2
        exact nc e2
      · by_cases d : i = k
        · rw [if_neg (by omega), if_pos d] at e1
          exact nc e1
        · rw [if_neg (by omega), if_neg d] at e1
          rw [if_neg (by omega), if_neg (by omega), show i + 1 - 1 = (i - 1) + 1 by omega] at e2
          exact h3 (i - 1) ⟨e1, e2⟩
  · rw [List.getLast?_eq_getElem?, List.length_append, List.length_cons, List.length_take, List.length_drop, Nat.min_eq_left hk, show k + (l.length - k + 1) - 1 = l.length by omega, ins_at hk]
    rw [List.getLast?_eq_getElem?] at h4
    rw [if_neg (by omega)]
    split
    · exact nc
    · exact h4
theorem erase_map {α β : Type} (f : α → β) : ∀ (l : List α) (j : Nat), (l.map f).eraseIdx j = (l.eraseIdx j).map f
  | [], _ => rfl
  | _ :: _, 0 => rfl
  | a :: r, j + 1 => by
    show f a :: (r.map f).eraseIdx j = f a :: (r.eraseIdx j).map f
    rw [erase_map f r j]
def Asc7 (x : Str) : Prop := ∀ c ∈ x.cps.toList, c < 128
theorem Asc7.ok {x : Str} (h : Asc7 x) : PyData.strOk x = true := by
  unfold PyData.strOk
  rw [← Array.all_toList, List.all_eq_true]
  intro c hc
  exact decide_eq_true (Nat.lt_of_lt_of_le (h c hc) (by decide))
theorem small7 : ∀ c ∈ small.cps.toList, c < 128 := by decide +kernel
theorem signs7 : ∀ c ∈ signs.cps.toList, c < 128 := by decide +kernel
theorem letts.asc {x : Str} (h : letts x) : Asc7 x := fun c hc => small7 c (h c hc)
theorem Clean.asc {x : Str} (h : Clean x.cps.toList) : Asc7 x := fun c hc => signs7 c (h.1.1 c hc)
theorem names_dp {H : Hp} : ∀ xs : List V, (∀ v ∈ xs, Nm H v) → ∃ ds, DpAll K H xs ds ∧ PyData.canLayAll0 ds = true ∧ PyData.depthAll ds ≤ 3
  | [], _ => ⟨[], .nil, by simp [PyData.canLayAll0], by simp [PyData.depthAll]⟩
  | v :: r, h => by
    obtain ⟨ds, q1, q2, q3⟩ := names_dp r (fun w hw => h w (List.mem_cons_of_mem _ hw))
    obtain ⟨t, a, b, rfl, e, la, _, _, lb, _⟩ := h v List.mem_cons_self
    refine ⟨.tuple [.str a, .str b] :: ds, .cons (.tup (SqT.of e) (.cons (.str a) (.cons (.str b) .nil))) q1, ?_, ?_⟩
    · simp [PyData.canLayAll0, PyData.canLay0, q2, la.asc.ok, lb.asc.ok]
    · simp only [PyData.depthAll, PyData.depth]
      omega
theorem shaped_two {a b : Str} (ha : Asc7 a) (hb : Asc7 b) : SeqAt.shaped (.tuple [.str a, .str b]) = true := by
  unfold SeqAt.shaped
  have h1 : (PyData.tuple [.str a, .str b]).canLay0 = true := by simp [PyData.canLay0, PyData.canLayAll0, ha.ok, hb.ok]
  have h2 : (PyData.tuple [.str a, .str b]).depth ≤ 64 := by simp only [PyData.depth, PyData.depthAll]; omega
  rw [h1, decide_eq_true h2]
  rfl
theorem shaped_list {ds : List PyData} (q1 : PyData.canLayAll0 ds = true) (q2 : PyData.depthAll ds ≤ 3) : SeqAt.shaped (.list ds) = true := by
  unfold SeqAt.shaped
  have h1 : (PyData.list ds).canLay0 = true := by simp only [PyData.canLay0]; exact q1
  have h2 : (PyData.list ds).depth ≤ 64 := by simp only [PyData.depth]; omega
  rw [h1, decide_eq_true h2]
  rfl
theorem r65 {k : Nat} {A : Around} (r : Room k A) : A.units + 65 < cLine := by have := r.un; omega
def spNames : Sp := fun vs H Q _ => ∃ (h o : Addr) (n : Int) (M : Nat), vs = [.ref h, .int (M : Int)] ∧ 1 ≤ M ∧ M ≤ 10 ∧ Hd h o n H ∧ n + 1000 ≤ far ∧
  ∀ (L : Addr) (xs : List V) H', H' L = some (.lst xs) → L ∉ [h, o] → xs.length = M → (∀ v ∈ xs, Nm H' v) → Hd h o (n + 700) H' → Bt [h, o] H H' → Q (.ref L) H'
theorem ok_names {f : Addr} {fd : FuncData} (D : Df K mg "_law_names" ["_law_hand_here", "_law_many"] sNames f fd) (T : Txt K mg C CL) (cT : Ca P w K mg base 1 "_law_take" ["_law_hand_here", "_law_many"] spTake) (cP : Ca P w K mg base 2 "_law_pick" ["_law_hand_here", "_law_some_here"] spPick) (cW : Ca P w K mg base 3 "_law_word" ["_law_hand_here", "_law_least", "_law_most"] spWord) (cX : Ca P w K mg base 3 "_law_text" ["_law_hand_here", "_law_many"] spText) : FnOk P w K mg base CX0 4 f fd ["_law_hand_here", "_law_many"] spNames := by
  refine D.fn.ok scNames (fun vs H Q E h => ?_) (fun cdv A outer s H vs Q E hr h => ?_)
  · obtain ⟨h, o, n, M, rfl, M1, M10, hd, hn, q⟩ := h
    rfl
  · obtain ⟨h, o, n, M, rfl, M1, M10, hd, hn, q⟩ := h
    refine ⟨_, (pss_cons (ps_set (i := 2) scNames.nd rfl (.inl rfl) (pe_callTy (cr_listS (by rfl)) (by rfl) T.list (by decide +kernel) (pa_cons pe_str pa_nil)))
      (pss_cons (ps_setLc (i := 4) (own := [("_law_k", 3)]) (g := gName 3) (tt := tYes) (by rfl) scNames.nd rfl rfl (sw_true rfl rfl rfl (by decide +kernel)) (pi_range1 (by rfl) T.range (pa_cons (pe_op op_add pe_int (pe_ca cT hr (by decide) (by rfl) (pa_cons (pv 0) (pa_cons pe_int pa_nil)))) pa_nil)) (blkOk_by (own := [("_law_k", 3)]) (N := ["_law_hand_here", "_law_many", "_law_signs", "_law_k", "_law_tongues", "_law_stem", "_law_at", "_law_found", "_law_name", "_law_twin"]) (sc := defScope sNames) (by decide +kernel)) (fun _ _ _ _ _ => pg_name (i := 3) scNames.nd rfl (.inl rfl)) (fun _ _ _ _ _ => pts_nil) (fun _ _ _ _ _ => pe_ca cW hr (by decide) (by rfl) (pa_cons (pv 0) (pa_cons pe_int (pa_cons pe_int pa_nil)))))
      (pss_cons (ps_set (i := 5) scNames.nd rfl (.inl rfl) (pe_ca cX hr (by decide) (by rfl) (pa_cons (pv 0) (pa_cons (pe_ca cP hr (by decide) (by rfl) (pa_cons (pv 0) (pa_cons (pe_lst (pa_cons pe_int (pa_cons pe_int (pa_cons pe_int (pa_cons pe_int (pa_cons pe_int pa_nil)))))) pa_nil))) pa_nil))))
      (pss_cons (ps_par (i := 6) (j := 7) (by rfl) scNames.nd rfl rfl (by decide) rfl rfl (pa_cons (pe_ca cT hr (by decide) (by rfl) (pa_cons (pv 0) (pa_cons (pe_op op_add (pe_callB call_len_str (by rfl) T.len PySem.boot_len (pa_cons (pv 5) pa_nil)) pe_int) pa_nil))) (pa_cons (pe_lst pa_nil) pa_nil)) (by rfl))
      (pss_cons (ps_for PassesOwn.never rfl (pi_range1 (by rfl) T.range (pa_cons (pv 1) pa_nil)) (pg_name (i := 3) scNames.nd rfl (.inl rfl)) (pss_cons (ps_set (i := 8) scNames.nd rfl (.inl rfl) (pe_tup (pa_cons (pe_ca cP hr (by decide) (by rfl) (pa_cons (pv 0) (pa_cons (pv 4) pa_nil))) (pa_cons (pe_op op_add_str (pe_op op_add_str (pe_slice sl_str (pv 5) po_none (po_some (pv 6))) (pe_bm PySem.F.plainAttrs_list PySem.F.slot_list_pop PySem.F.type_list_pop mt_popAt (pv 2) (pa_cons (pe_ca cT hr (by decide) (by rfl) (pa_cons (pv 0) (pa_cons (pe_callB call_len_seq (by rfl) T.len PySem.boot_len (pa_cons (pv 2) pa_nil)) pa_nil))) pa_nil))) (pe_slice sl_str (pv 5) (po_some (pv 6)) po_none)) pa_nil))))
      (pss_cons (ps_if (PW.pt (pw_and (pt_cmpR op_gt (pv 3) pe_int (nomark _)) (pw_and1 (pt_cmpR op_eq (pe_ca cT hr (by decide) (by rfl) (pa_cons (pv 0) (pa_cons pe_int pa_nil))) pe_int (nomark _))))) (pss_cons (ps_set (i := 9) scNames.nd rfl (.inl rfl) (pe_tup (pa_cons (pe_ca cP hr (by decide) (by rfl) (pa_cons (pv 0) (pa_cons (pv 4) pa_nil))) (pa_cons (pe_ix ix_tup (pe_ca cP hr (by decide) (by rfl) (pa_cons (pv 0) (pa_cons (pv 7) pa_nil))) pe_int (fun _ _ => rfl)) pa_nil))))
      (pss_one (ps_set (i := 8) scNames.nd rfl (.inl rfl) (pe_ifExp (pt_cmpR (op_notInD (r65 hr)) (pv 9) (pv 7) (by rfl)) (pv 9) (pv 8))))) pss_nil)
      (pss_one (ps_expr (pe_bm PySem.F.plainAttrs_list PySem.F.slot_list_insert PySem.F.type_list_insert mt_insert (pv 7) (pa_cons (pe_ca cT hr (by decide) (by rfl) (pa_cons (pv 0) (pa_cons (pe_op op_add (pv 3) pe_int) pa_nil))) (pa_cons (pv 8) pa_nil))))))))
      (pss_one (ps_ret (pv 7)))))))), ?_⟩
    have fr : n + 1000 ≤ 1000000 := hn
    refine ⟨alnum, rfl, (Nat.le_trans (show alnum.length ≤ 100 by decide +kernel) (by decide)), fun S nS => ?_⟩
    have sS := same_upd nS (o := .lst (alnum.cps.toList.map sg1))
    have eS : (upd H S (.lst (alnum.cps.toList.map sg1))) S = some (.lst (alnum.cps.toList.map sg1)) := upd_same
    have hS := hd.same sS
    have So := hd.fresh nS
    have bS : Bt [h, o] H (upd H S (.lst (alnum.cps.toList.map sg1))) := Bt.of sS
    generalize upd H S (.lst (alnum.cps.toList.map sg1)) = H1 at eS hS bS ⊢
    -- tongues
    refine ⟨_, rfl, h, o, 3, n, rfl, by decide, by decide, hS, by show n ≤ 1000000; omega, fun d H2 d0 d1 h2 b2 => ?_⟩
    refine ⟨1, d, rfl, rfl, _, rfl, by omega, by omega, fun T' nT => ?_⟩
    have To := h2.fresh nT
    have sT := same_upd nT (o := .lst [])
    have eS2 := b2 _ _ So eS
    have ST : S ≠ T' := ne_of_none eS2 nT
    refine lc_range (lo := 0) (fun i Hi => ∃ ts : List Str, Hi T' = some (.lst (ts.map V.str)) ∧ ts.length = i ∧ (∀ t ∈ ts, letts t ∧ 2 ≤ t.length ∧ t.length ≤ 3) ∧ Hd h o (n + 1 + 60 * i) Hi ∧ Bt [h, o] H2 Hi) ?_ ?_ ?_
    · exact ⟨[], upd_same, rfl, by simp, (h2.same sT).mono (by omega), Bt.of sT⟩
    · rintro i Hi hi ⟨ts, eT, lt, ct, hdi, bi⟩
      have hi' : i < (1 + d).toNat := hi
      refine ⟨rfl, ?_⟩
      unfold tYes
      refine iteT ?_
      refine ⟨_, rfl, h, o, n + 1 + 60 * i, 2, 3, rfl, by decide, by decide, by decide, hdi, by show n + 1 + 60 * (i : Int) + 100 ≤ 1000000; omega, fun x H3 x0 x1 lx h3 b3 => ?_⟩
      refine ⟨_, b3 _ _ To eT, ?_, ts ++ [x], ?_, by rw [List.length_append, lt]; rfl, ?_, ?_, ?_⟩
      · rw [List.length_map, lt]
        exact Nat.lt_of_le_of_lt (show i ≤ 100 by omega) (by decide)
      · rw [upd_same, List.map_append]
        rfl
      · intro y hy
        rcases List.mem_append.mp hy with z | z
        · exact ct y z
        · rw [List.mem_singleton.mp z]
          exact ⟨lx, by omega, by omega⟩
      · exact (h3.upd To).mono (by omega)
      · intro b x nb e
        rw [upd_ne (ne_of_none e nT)]
        exact b3 b x nb (bi b x nb e)
    rintro H3 ⟨ts, eT, lt, ct, h3, b3⟩
    have lt' : ts.length = (1 + d).toNat := lt
    have tne : ts ≠ [] := fun z => by rw [z] at lt'; simp at lt'; omega
    have h3' : Hd h o (n + 200) H3 := h3.mono (by
      show n + 1 + 60 * (((1 + d).toNat : Nat) : Int) ≤ n + 200
      omega)
    have eS3 := b3 _ _ So eS2
    have bH3 : Bt [h, o] H H3 := bS.trans (b2.trans b3)
    clear h3 b3 eS2 eS b2 bS sS sT h2 hS
    -- stem
    refine ⟨_, rfl, _, rfl, (by show 5 ≤ sizeLine; decide), fun l5 n5 => ?_⟩
    have s5 := same_upd n5 (o := .lst [.int 0, .int 1, .int 3, .int 8, .int 39])
    refine ⟨h, o, n + 200, _, rfl, h3'.same s5, by show n + 200 ≤ 1000000; omega, .inl ⟨l5, _, rfl, upd_same, h3'.fresh n5, by simp, by show 5 < 1000; decide, fun v H4 mv h4 b4 => ?_⟩⟩
    obtain ⟨r, rfl, r1, r2⟩ : ∃ r : Int, v = .int r ∧ 0 ≤ r ∧ r ≤ 39 := by
      simp only [List.mem_cons, List.not_mem_nil, or_false] at mv
      rcases mv with e | e | e | e | e
      · exact ⟨_, e, by decide, by decide⟩
      · exact ⟨_, e, by decide, by decide⟩
      · exact ⟨_, e, by decide, by decide⟩
      · exact ⟨_, e, by decide, by decide⟩
      · exact ⟨_, e, by decide, by decide⟩
    refine ⟨h, o, n + 200 + 1, r, rfl, r1, by omega, h4, by show n + 200 + 1 + 200 ≤ 1000000; omega, fun st H5 ls cl h5 b5 => ?_⟩
    have bb : Bt [h, o] H3 H5 := (Bt.of s5).trans (b4.trans b5)
    have eS5 := bb _ _ So eS3
    have eT5 := bb _ _ To eT
    have bH5 := bH3.trans bb
    have lsz : st.length ≤ sizeLine := Nat.le_trans (show st.length ≤ 100 by omega) (by decide)
    -- at, found
    refine ⟨_, rfl, _, rfl, st, rfl, lsz, _, 1, rfl, rfl, h, o, (st.length : Int) + 1, n + 261, rfl, by omega, by omega, h5.mono (by omega), by show n + 261 ≤ 1000000; omega, fun at' H6 a0 a1 h6 b6 => ?_⟩
    refine ⟨(by show 0 ≤ sizeLine; decide), fun F nF => ⟨_, _, rfl, ?_⟩⟩
    have sF := same_upd nF (o := .lst [])
    have eS6 := b6 _ _ So eS5
    have eT6 := b6 _ _ To eT5
    have bH6 := bH5.trans b6
    have Fo := h6.fresh nF
    have SF : S ≠ F := ne_of_none eS6 nF
    have TF : T' ≠ F := ne_of_none eT6 nF
    have HS : H S = none := nS
    have HF : H F = none := bH6.none Fo nF
    have eF : (upd H6 F (.lst [])) F = some (.lst []) := upd_same
    have eS7 := sF _ _ eS6
    have eT7 := sF _ _ eT6
    have h7 := h6.same sF
    have bH7 := bH6.trans (Bt.of (A := [h, o]) sF)
    generalize upd H6 F (.lst []) = H7 at eF eS7 eT7 h7 bH7 ⊢
    clear eS6 eT6 bH6 eS5 eT5 bH5 eS3 eT bH3 h3' h4 b4 h5 b5 b6 sF s5 h6
    obtain ⟨k0, rfl⟩ : ∃ k0 : Nat, at' = (k0 : Int) := ⟨at'.toNat, by omega⟩
    refine ⟨_, rfl, (M : Int), rfl, by omega, by omega, for_range (lo := 0) (n := ((M : Nat) : Int).toNat) (fun k σ Hi => ∃ (sg : List Nat) (xs : List V) (c3 c8 c9 : Option V), σ = [some (.ref h), some (.int (M : Int)), some (.ref S), c3, some (.ref T'), some (.str st), some (.int (k0 : Int)), some (.ref F), c8, c9] ∧
      Hi S = some (.lst (sg.map sg1)) ∧ sg.length + k = 62 ∧ (∀ c ∈ sg, c ∈ alnum.cps.toList) ∧ Hi T' = some (.lst (ts.map V.str)) ∧ Hi F = some (.lst xs) ∧ xs.length = k ∧ (∀ v ∈ xs, Nm Hi v) ∧ Hd h o (n + 262 + 6 * k) Hi ∧ Bt [h, o] H Hi) ?_ ?_ ?_⟩
    · exact ⟨_, [], none, none, none, rfl, eS7, (by decide +kernel), fun c hc => hc, eT7, eF, rfl, by simp, h7.mono (by omega), bH7⟩
    · rintro k σ Hi hk ⟨sg, xs, c3, c8, c9, rfl, eSi, lsg, csg, eTi, eFi, lxs, cxs, hdi, bi⟩
      have k10 : k < 10 := by
        have : k < ((M : Nat) : Int).toNat := hk
        omega
      have nkb : n + 262 + 6 * (k : Int) + 10 ≤ 1000000 := by omega
      have tl : (ts.map V.str).length < 1000 := by rw [List.length_map]; omega
      have tne' : ts.map V.str ≠ [] := fun z => tne (List.map_eq_nil_iff.mp z)
      have kst : k0 ≤ st.cps.toList.length := by rw [← len_cps]; omega
      -- what the turn leaves
      have fin : ∀ (v : V) (Hx : Hp) (i : Nat) (sg' : List Nat) (c3 c8 c9 : Option V), Hx S = some (.lst (sg'.map sg1)) → sg'.length + (k + 1) = 62 → (∀ c ∈ sg', c ∈ alnum.cps.toList) → Hx T' = some (.lst (ts.map V.str)) → Hx F = some (.lst xs) → Tp Hi Hx → Nm Hx v → Hd h o (n + 262 + 6 * ((k + 1 : Nat) : Int)) Hx → Bt [h, o] H Hx →
          ∃ (sg : List Nat) (xs' : List V) (c3' c8' c9' : Option V), [some (V.ref h), some (.int (M : Int)), some (.ref S), c3, some (.ref T'), some (.str st), some (.int (k0 : Int)), some (.ref F), c8, c9] = [some (V.ref h), some (.int (M : Int)), some (.ref S), c3', some (.ref T'), some (.str st), some (.int (k0 : Int)), some (.ref F), c8', c9'] ∧
            (upd Hx F (.lst (xs.take i ++ [v] ++ xs.drop i))) S = some (.lst (sg.map sg1)) ∧ sg.length + (k + 1) = 62 ∧ (∀ c ∈ sg, c ∈ alnum.cps.toList) ∧ (upd Hx F (.lst (xs.take i ++ [v] ++ xs.drop i))) T' = some (.lst (ts.map V.str)) ∧ (upd Hx F (.lst (xs.take i ++ [v] ++ xs.drop i))) F = some (.lst xs') ∧ xs'.length = k + 1 ∧
            (∀ v' ∈ xs', Nm (upd Hx F (.lst (xs.take i ++ [v] ++ xs.drop i))) v') ∧ Hd h o (n + 262 + 6 * ((k + 1 : Nat) : Int)) (upd Hx F (.lst (xs.take i ++ [v] ++ xs.drop i))) ∧ Bt [h, o] H (upd Hx F (.lst (xs.take i ++ [v] ++ xs.drop i))) := fun v Hx i sg' c3 c8 c9 q1 q2 q3 q4 q5 q6 q7 q8 q9 => by
        refine ⟨sg', _, _, _, _, rfl, by rw [upd_ne SF]; exact q1, q2, q3, by rw [upd_ne TF]; exact q4, upd_same, ?_, ?_, q8.upd Fo, fun b x nb e => ?_⟩
        · rw [List.length_append, List.length_append, List.length_take, List.length_drop, lxs]
          show min i k + 1 + (k - i) = k + 1
          omega
        · intro v' hv
          have : v' ∈ xs ∨ v' = v := by
            rcases List.mem_append.mp hv with z | z
            · rcases List.mem_append.mp z with z | z
              · exact .inl (List.mem_of_mem_take z)
              · exact .inr (List.mem_singleton.mp z)
            · exact .inl (List.mem_of_mem_drop z)
          rcases this with z | z
          · exact ((cxs v' z).tp q6).tp (tp_upd q5)
          · rw [z]
            exact q7.tp (tp_upd q5)
        · rw [upd_ne (ne_of_none e HF)]
          exact q9 b x nb e
      -- name
      refine ⟨_, rfl, _, rfl, h, o, n + 262 + 6 * k, _, rfl, hdi, by show n + 262 + 6 * (k : Int) ≤ 1000000; omega, .inl ⟨T', _, rfl, eTi, To, tne', tl, fun v1 Ha mv1 ha ba => ?_⟩⟩
      obtain ⟨t1, mt1, rfl⟩ := List.mem_map.mp mv1
      have eSa := ba _ _ So eSi
      have eTa := ba _ _ To eTi
      have eFa := ba _ _ Fo eFi
      have pa : Tp Hi Ha := hdi.tp ba
      have sgl : 0 < sg.length := by omega
      refine ⟨_, rfl, _, rfl, (k0 : Int), rfl, st, rfl, lsz, _, rfl, .inl ⟨rfl, _, SqL.of eSa⟩, _, rfl, _, rfl, S, _, rfl, .inl (SqL.of eSa), h, o, ((sg.map sg1).length : Int), n + 262 + 6 * k + 1, rfl, by rw [List.length_map]; omega, by rw [List.length_map]; omega, ha, by show n + 262 + 6 * (k : Int) + 1 ≤ 1000000; omega, fun j Hb j0 j1 hb bb => ?_⟩
      rw [List.length_map] at j1
      obtain ⟨jn, rfl⟩ : ∃ jn : Nat, j = (jn : Int) := ⟨j.toNat, by omega⟩
      have jl : jn < sg.length := by omega
      have eSb := bb _ _ So eSa
      have eTb := bb _ _ To eTa
      have eFb := bb _ _ Fo eFa
      refine ⟨S, _, (jn : Int), jn, sg1 sg[jn], rfl, rfl, eSb, by omega, by omega, by rw [List.length_map, seqIndex_of (by omega) (by omega)]; rfl, by rw [List.getElem?_map, List.getElem?_eq_getElem jl]; rfl, ?_⟩
      have er : (sg.map sg1).eraseIdx jn = (sg.eraseIdx jn).map sg1 := erase_map sg1 sg jn
      rw [er]
      have mj := csg _ (List.getElem_mem jl)
      generalize sg[jn] = cj at mj ⊢
      have eSc : (upd Hb S (.lst ((sg.eraseIdx jn).map sg1))) S = some (.lst ((sg.eraseIdx jn).map sg1)) := upd_same
      have eTc : (upd Hb S (.lst ((sg.eraseIdx jn).map sg1))) T' = some (.lst (ts.map V.str)) := by rw [upd_ne (Ne.symm ST)]; exact eTb
      have eFc : (upd Hb S (.lst ((sg.eraseIdx jn).map sg1))) F = some (.lst xs) := by rw [upd_ne (Ne.symm SF)]; exact eFb
      have hc := hb.upd So (x := .lst ((sg.eraseIdx jn).map sg1))
      have pc : Tp Hi (upd Hb S (.lst ((sg.eraseIdx jn).map sg1))) := (pa.trans (ha.tp bb)).trans (tp_upd eSb)
      have bc : Bt [h, o] H (upd Hb S (.lst ((sg.eraseIdx jn).map sg1))) := fun b x nb e => by
        rw [upd_ne (ne_of_none e HS)]
        exact bb b x nb (ba b x nb (bi b x nb e))
      have lsg' : (sg.eraseIdx jn).length + (k + 1) = 62 := by
        rw [List.length_eraseIdx_of_lt jl]
        omega
      have csg' : ∀ c ∈ sg.eraseIdx jn, c ∈ alnum.cps.toList := fun c hc => csg c (List.mem_of_mem_eraseIdx hc)
      generalize upd Hb S (.lst ((sg.eraseIdx jn).map sg1)) = Hc at eSc eTc eFc hc pc bc ⊢
      generalize sg.eraseIdx jn = sg' at eSc lsg' csg' ⊢
      clear eSb eTb eFb eSa eTa eFa ha hb bb ba pa er j0 j1
      have i1 := ins_cps (c := cj) kst
      obtain ⟨w1, w2, w3⟩ := ins_len (c := cj) kst
      have fitS : ∀ {a b : Nat}, a + b ≤ 200 → a + b ≤ sizeLine := fun h => Nat.le_trans h (by decide)
      have st40 : st.length ≤ 39 := by omega
      refine ⟨_, _, rfl, rfl, fitS (by show (cutS st none (some (k0 : Int))).length + 1 ≤ 200; omega), _, rfl, _, rfl, (k0 : Int), rfl, st, rfl, lsz, _, _, rfl, rfl, fitS (by rw [strLen_append]; show (cutS st none (some (k0 : Int))).length + 1 + (cutS st (some (k0 : Int)) none).length ≤ 200; omega), ?_⟩
      refine ⟨(by show 2 ≤ sizeLine; decide), fun p1 np1 => ?_⟩
      obtain ⟨bx, ebx⟩ : ∃ bx : Str, bx = cutS st none (some (k0 : Int)) ++ ⟨#[cj]⟩ ++ cutS st (some (k0 : Int)) none := ⟨_, rfl⟩
      rw [← ebx] at i1 w3 ⊢
      have sp := same_upd np1 (o := .tup [.str t1, .str bx])
      have nm1 : Nm (upd Hc p1 (.tup [.str t1, .str bx])) (.ref p1) := by
        obtain ⟨q1, q2, q3⟩ := ct t1 mt1
        refine ⟨p1, t1, bx, rfl, upd_same, q1, q2, q3, ?_, by omega, by omega⟩
        rw [i1]
        exact cl.ins kst (alnum_ok cj mj).1 (alnum_ok cj mj).2
      have eSd := sp _ _ eSc
      have eTd := sp _ _ eTc
      have eFd := sp _ _ eFc
      have hd' := hc.same sp
      have pd := pc.trans (tp_same sp)
      have bd := bc.trans (Bt.of (A := [h, o]) sp)
      generalize upd Hc p1 (.tup [.str t1, .str bx]) = Hd1 at nm1 eSd eTd eFd hd' pd bd ⊢
      clear eSc eTc eFc hc pc bc sp np1
      have xfit : xs.length < sizeLine := Nat.lt_of_le_of_lt (show xs.length ≤ 100 by omega) (by decide)
      refine ⟨_, rfl, _, 0, rfl, rfl, _, rfl, ite2 (fun e => ?_) (fun e => ?_)⟩
      · have kp : 0 < k := by
          have : (0 : Int) < 0 + (k : Int) := of_decide_eq_true e
          omega
        refine ⟨_, rfl, h, o, 4, n + 262 + 6 * (k : Int) + 1 + 1, rfl, by decide, by decide, hd', by show n + 262 + 6 * (k : Int) + 1 + 1 ≤ 1000000; omega, fun u He u0 u1 he be => ⟨rfl, _, rfl, ite2 (fun e2 => ?_) (fun e2 => ?_)⟩⟩
        · have eSe := be _ _ So eSd
          have eTe := be _ _ To eTd
          have eFe := be _ _ Fo eFd
          have pe := pd.trans (hd'.tp be)
          have nme := nm1.tp (hd'.tp be)
          have bte := bd.trans be
          refine ⟨_, rfl, _, rfl, h, o, n + 262 + 6 * (k : Int) + 1 + 1 + 1, _, rfl, he, by show n + 262 + 6 * (k : Int) + 1 + 1 + 1 ≤ 1000000; omega, .inl ⟨T', _, rfl, eTe, To, tne', tl, fun v2 Hf mv2 hf bf => ?_⟩⟩
          obtain ⟨t2, mt2, rfl⟩ := List.mem_map.mp mv2
          have eSf := bf _ _ So eSe
          have eTf := bf _ _ To eTe
          have eFf := bf _ _ Fo eFe
          have pf := pe.trans (he.tp bf)
          have nmf := nme.tp (he.tp bf)
          refine ⟨_, rfl, _, rfl, h, o, n + 262 + 6 * (k : Int) + 1 + 1 + 1 + 1, _, rfl, hf, by show n + 262 + 6 * (k : Int) + 1 + 1 + 1 + 1 ≤ 1000000; omega, .inl ⟨F, xs, rfl, eFf, Fo, fun z => by rw [z] at lxs; simp at lxs; omega, by omega, fun v3 Hg mv3 hg bg => ?_⟩⟩
          have eSg := bg _ _ So eSf
          have eTg := bg _ _ To eTf
          have eFg := bg _ _ Fo eFf
          have pg := pf.trans (hf.tp bg)
          have nmg := nmf.tp (hf.tp bg)
          have btg := (bte.trans bf).trans bg
          obtain ⟨t3, a3, b3, rfl, e3, _, _, _, q4, q5, q6⟩ := (cxs v3 mv3).tp pg
          refine ⟨t3, _, 1, .str b3, rfl, rfl, SqT.of e3, atI_nat (j := 1) rfl, (by show 2 ≤ sizeLine; decide), fun p2 np2 => ?_⟩
          have s2 := same_upd np2 (o := .tup [.str t2, .str b3])
          have nm2 : Nm (upd Hg p2 (.tup [.str t2, .str b3])) (.ref p2) := by
            obtain ⟨r1, r2, r3⟩ := ct t2 mt2
            exact ⟨p2, t2, b3, rfl, upd_same, r1, r2, r3, q4, q5, q6⟩
          have e2' : (upd Hg p2 (.tup [.str t2, .str b3])) p2 = some (.tup [.str t2, .str b3]) := upd_same
          have eSh := s2 _ _ eSg
          have eTh := s2 _ _ eTg
          have eFh := s2 _ _ eFg
          have hh := hg.same s2
          have ph := pg.trans (tp_same s2)
          have nmh := nmg.tp (tp_same s2)
          have bth := btg.trans (Bt.of (A := [h, o]) s2)
          generalize upd Hg p2 (.tup [.str t2, .str b3]) = Hh at nm2 e2' eSh eTh eFh hh ph nmh bth ⊢
          obtain ⟨ds, dq1, dq2, dq3⟩ := names_dp (K := K) xs (fun v hv => (cxs v hv).tp ph)
          refine ⟨_, rfl, _, rfl, _, ds, .tup (SqT.of e2') (.cons (.str t2) (.cons (.str b3) .nil)), .lst (SqL.of eFh) dq1, shaped_two (ct t2 mt2).1.asc q4.asc, shaped_list dq2 dq3, _, rfl, ite2 (fun e3 => ?_) (fun e3 => ?_)⟩
          · refine ⟨_, rfl, ?_⟩
            refine ⟨_, rfl, .inl ⟨rfl, _, SqL.of eFh⟩, _, rfl, _, rfl, _, 1, rfl, rfl, h, o, 0 + (k : Int) + 1, n + 262 + 6 * (k : Int) + 1 + 1 + 1 + 1 + 1, rfl, by omega, by omega, hh, by show n + 262 + 6 * (k : Int) + 1 + 1 + 1 + 1 + 1 ≤ 1000000; omega, fun i Hy i0 i1 hy yb => ?_⟩
            refine ⟨_, rfl, F, xs, i, _, rfl, rfl, yb _ _ Fo eFh, xfit, i0, by omega, ?_⟩
            exact fin _ Hy i.toNat sg' _ _ _ (yb _ _ So eSh) lsg' csg' (yb _ _ To eTh) (yb _ _ Fo eFh) (ph.trans (hh.tp yb)) (nm2.tp (hh.tp yb)) (hy.mono (by omega)) (bth.trans yb)
          · refine ⟨_, rfl, ?_⟩
            refine ⟨_, rfl, .inl ⟨rfl, _, SqL.of eFh⟩, _, rfl, _, rfl, _, 1, rfl, rfl, h, o, 0 + (k : Int) + 1, n + 262 + 6 * (k : Int) + 1 + 1 + 1 + 1 + 1, rfl, by omega, by omega, hh, by show n + 262 + 6 * (k : Int) + 1 + 1 + 1 + 1 + 1 ≤ 1000000; omega, fun i Hy i0 i1 hy yb => ?_⟩
            refine ⟨_, rfl, F, xs, i, _, rfl, rfl, yb _ _ Fo eFh, xfit, i0, by omega, ?_⟩
            exact fin _ Hy i.toNat sg' _ _ _ (yb _ _ So eSh) lsg' csg' (yb _ _ To eTh) (yb _ _ Fo eFh) (ph.trans (hh.tp yb)) (nmh.tp (hh.tp yb)) (hy.mono (by omega)) (bth.trans yb)
        · have eSe := be _ _ So eSd
          have eTe := be _ _ To eTd
          have eFe := be _ _ Fo eFd
          have pe := pd.trans (hd'.tp be)
          have nme := nm1.tp (hd'.tp be)
          have bte := bd.trans be
          refine ⟨_, rfl, .inl ⟨rfl, _, SqL.of eFe⟩, _, rfl, _, rfl, _, 1, rfl, rfl, h, o, 0 + (k : Int) + 1, n + 262 + 6 * (k : Int) + 1 + 1 + 1, rfl, by omega, by omega, he, by show n + 262 + 6 * (k : Int) + 1 + 1 + 1 ≤ 1000000; omega, fun i Hy i0 i1 hy yb => ?_⟩
          refine ⟨_, rfl, F, xs, i, _, rfl, rfl, yb _ _ Fo eFe, xfit, i0, by omega, ?_⟩
          exact fin _ Hy i.toNat sg' _ _ _ (yb _ _ So eSe) lsg' csg' (yb _ _ To eTe) (yb _ _ Fo eFe) (pe.trans (he.tp yb)) (nme.tp (he.tp yb)) (hy.mono (by omega)) (bte.trans yb)
      · skip
        refine ⟨_, rfl, .inl ⟨rfl, _, SqL.of eFd⟩, _, rfl, _, rfl, _, 1, rfl, rfl, h, o, 0 + (k : Int) + 1, n + 262 + 6 * (k : Int) + 1 + 1, rfl, by omega, by omega, hd', by show n + 262 + 6 * (k : Int) + 1 + 1 ≤ 1000000; omega, fun i Hy i0 i1 hy yb => ?_⟩
        refine ⟨_, rfl, F, xs, i, _, rfl, rfl, yb _ _ Fo eFd, xfit, i0, by omega, ?_⟩
        exact fin _ Hy i.toNat sg' _ _ _ (yb _ _ So eSd) lsg' csg' (yb _ _ To eTd) (yb _ _ Fo eFd) (pd.trans (hd'.tp yb)) (nm1.tp (hd'.tp yb)) (hy.mono (by omega)) (bd.trans yb)
    rintro σ He ⟨sg, xs, c3, c8, c9, rfl, eSe, lsg, csg, eTe, eFe, lxs, cxs, hde, be⟩
    have lM : xs.length = M := by
      rw [lxs]
      exact Int.toNat_natCast M
    refine ⟨_, rfl, q F xs He eFe Fo lM cxs (hde.mono ?_) be⟩
    show n + 262 + 6 * ((((M : Nat) : Int).toNat : Nat) : Int) ≤ n + 700
    rw [Int.toNat_natCast]
    omega
end
end K20
set_option Elab.async false
set_option linter.all false
set_option maxRecDepth 100000
set_option maxHeartbeats 4000000
set_option pp.maxSteps 400
set_option pp.deepTerms false
namespace K20
open PySem PySem.Spec PyProof.Rows L2
open Xk Th
section
variable {P : Program} {w : World} {K : PySem.W.Frag} {mg : Str → Option Value} {base : Heap} {C CL : Addr}
def chk (x sg : Str) : Bool := x.cps.toList.all fun c => decide (c ∈ sg.cps.toList)
def ofT (d : T) (sg : Str) (a b : Int) : Bool := match d with
  | .str x => decide (a ≤ (x.length : Int)) && decide ((x.length : Int) ≤ b) && chk x sg
  | _ => false
def spTextOf (K : PySem.W.Frag) : Sp := fun vs H Q _ => ∃ (v : V) (d : T) (sg : Str) (a b : Int), vs = [v, .str sg, .int a, .int b] ∧ Dz K H v d ∧ (∀ x, d = .str x → x.length ≤ 2000) ∧ ∀ H', L2.Same H H' → Q (.bl (ofT d sg a b)) H'
theorem ok_of {f : Addr} {fd : FuncData} (D : Df K mg "is_text_of" ["thing", "signs", "least", "most"] sIsTextOf f fd) (T : Txt K mg C CL) : FnOk P w K mg base CX0 1 f fd ["thing", "signs", "least", "most"] (spTextOf K) := by
  refine D.fn.ok scIsTextOf (fun vs H Q E h => ?_) (fun cdv A outer s H vs Q E hr h => ?_)
  · obtain ⟨v, d, sg, a, b, rfl, hz, sz, q⟩ := h
    rfl
  · obtain ⟨v, d, sg, a, b, rfl, hz, sz, q⟩ := h
    refine ⟨_, (pss_cons (ps_if (PW.pt (pw_or (pt_not (pt_val (pe_callB call_isi (by rfl) T.isi (by decide +kernel) (pa_cons (pv 0) (pa_cons (pe_bltn (v := .ty "str") (by rfl) T.str (by decide +kernel) rfl) pa_nil))))) (pw_or1 (pt_not (pt_chain op_le op_le (pv 2) (pe_callB call_len_str (by rfl) T.len PySem.boot_len (pa_cons (pv 0) pa_nil)) (pv 3)))))) (pss_one (ps_ret pe_bl)) pss_nil)
      (pss_one (ps_ret (pe_callB (cr_all (by rfl)) (by rfl) T.all (by decide +kernel) (pa_cons (pe_lc (own := [("sign", 4)]) (g := gName 4) (tt := tYes) (by rfl) scIsTextOf.nd (pi_str (pv 0)) (blkOk_by (own := [("sign", 4)]) (N := ["thing", "signs", "least", "most", "sign"]) (sc := defScope sIsTextOf) (by decide +kernel)) (fun _ _ _ _ _ => pg_name (i := 4) scIsTextOf.nd rfl (.inl rfl)) (fun _ _ _ _ _ => pts_nil) (fun _ _ _ _ _ => pe_cmpR op_in_sign (pv 4) (pv 1) (by rfl))) pa_nil))))), ?_⟩
    refine ⟨_, rfl, _, _, _, _, isStr d, rfl, .ty _, hz.ty, z_str hz, _, rfl, ?_⟩
    have qf : ofT d sg a b = false → Q (.bl false) H := fun e => by
      have w := q H (Same.refl H)
      rw [e] at w
      exact w
    cases hz with
    | str x =>
      have lx := sz x rfl
      have fit : x.length ≤ sizeLine := Nat.le_trans lx (by decide)
      refine iteF ⟨_, rfl, _, rfl, x, rfl, fit, a, _, rfl, rfl, _, rfl, ?_⟩
      have eo : ofT (.str x) sg a b = (decide (a ≤ (x.length : Int)) && decide ((x.length : Int) ≤ b) && chk x sg) := rfl
      cases c1 : decide (a ≤ (x.length : Int)) with
      | false => exact iteF ⟨_, rfl, iteT (qf (by rw [eo, c1]; rfl))⟩
      | true =>
        refine iteT ⟨_, rfl, _, b, rfl, rfl, _, rfl, ?_⟩
        cases c2 : decide ((x.length : Int) ≤ b) with
        | false => exact iteT (qf (by rw [eo, c1, c2]; rfl))
        | true =>
          refine iteF ⟨_, rfl, x, rfl, fun L nL => ?_⟩
          have sL := same_upd nL (o := .lst [])
          refine lc_it (walk_str (z := x)) (fun i Hi => ∃ bs : List Bool, bs = (x.cps.toList.take i).map (fun c => decide (c ∈ sg.cps.toList)) ∧ Hi L = some (.lst (bs.map V.bl)) ∧ L2.Same H Hi) ?_ (fun _ _ _ _ => trivial) ?_ ?_
          · exact ⟨[], rfl, upd_same, sL⟩
          · rintro i v Hi Hi' _ ⟨bs, eb, eL, sm⟩ ⟨rfl, c, ec, rfl⟩
            rw [← Array.getElem?_toList] at ec
            refine ⟨rfl, ?_⟩
            unfold tYes
            refine iteT ⟨_, rfl, _, rfl, c, sg, rfl, rfl, ?_⟩
            have il : i < x.cps.toList.length := (List.getElem?_eq_some_iff.mp ec).1
            refine ⟨_, eL, ?_, bs ++ [decide (c ∈ sg.cps.toList)], ?_, ?_, fun b o e => ?_⟩
            · rw [List.length_map, eb, List.length_map, List.length_take]
              refine Nat.lt_of_le_of_lt (show min i x.cps.toList.length ≤ 2000 from ?_) (by decide)
              rw [← len_cps]
              omega
            · rw [List.take_succ, ec, List.map_append, eb]
              rfl
            · rw [upd_same, List.map_append]
              rfl
            · rw [upd_ne (ne_of_none e nL)]
              exact sm _ _ e
          · rintro He ⟨bs, eb, eL, sm⟩
            refine ⟨L, _, rfl, SqL.of eL, ?_⟩
            have w := q He sm
            rw [eo, c1, c2] at w
            rw [eb, List.take_of_length_le (by rw [Array.length_toList]; exact Nat.le_refl _), List.all_map]
            exact w
    | _ => exact iteT (qf rfl)
end
end K20
set_option Elab.async false
set_option linter.all false
set_option maxRecDepth 100000
set_option maxHeartbeats 4000000
set_option pp.maxSteps 400
set_option pp.deepTerms false
namespace K20
open PySem PySem.Spec PyProof.Rows L2
open Xk Th
section
variable {P : Program} {w : World} {K : PySem.W.Frag} {mg : Str → Option Value} {base : Heap} {C CL : Addr}
def sk (x : Str) : Bool := decide (V.str x = V.str (Txt.stripChars x " "))
def db (x : Str) : Bool := !(Builtin.Str.occurrences x "  " 0 x.length 1).isEmpty
def ntx (d : T) : Bool := match d with
  | .str x => ofT (.str x) signs 1 40 && (sk x && !db x)
  | _ => false
def nmD (d : T) : Bool := match d with
  | .tuple [a, b] => ofT a small 2 3 && ntx b
  | _ => false
def Tx (d : T) : Prop := ∀ x, d = .str x → x.length ≤ 2000 ∧ Asc7 x
def T2 (d : T) : Prop := ∀ ds, d = .tuple ds → ∀ e ∈ ds, Tx e
theorem ofT_str {d : T} {sg : Str} {a b : Int} (h : ofT d sg a b = true) : ∃ x, d = .str x := by
  cases d with
  | str x => exact ⟨x, rfl⟩
  | _ => cases h
theorem ntx_no {d : T} (h : ofT d signs 1 40 = false) : ntx d = false := by
  cases d with
  | str x =>
    show (ofT (.str x) signs 1 40 && (sk x && !db x)) = false
    rw [h]
    rfl
  | _ => rfl
theorem len3 {α : Type} {a b c : α} {r : List α} (e : ¬(!decide (V.int (((a :: b :: c :: r).length : Nat) : Int) = V.int 2)) = true) : (0 : Nat) ≠ 0 := fun _ => by
  have n : ¬ V.int (((a :: b :: c :: r).length : Nat) : Int) = V.int 2 := fun z => by
    have := V.int.inj z
    simp at this
    omega
  rw [decide_eq_false n] at e
  exact e rfl
def spSmall (K : PySem.W.Frag) : Sp := fun vs H Q _ => ∃ (v : V) (d : T) (a b : Int), vs = [v, .int a, .int b] ∧ Dz K H v d ∧ (∀ x, d = .str x → x.length ≤ 2000) ∧ ∀ H', L2.Same H H' → Q (.bl (ofT d small a b)) H'
def spTongue (K : PySem.W.Frag) : Sp := fun vs H Q _ => ∃ (v : V) (d : T), vs = [v] ∧ Dz K H v d ∧ (∀ x, d = .str x → x.length ≤ 2000) ∧ ∀ H', L2.Same H H' → Q (.bl (ofT d small 2 3)) H'
def spNT (K : PySem.W.Frag) : Sp := fun vs H Q _ => ∃ (v : V) (d : T), vs = [v] ∧ Dz K H v d ∧ (∀ x, d = .str x → x.length ≤ 2000) ∧ ∀ H', L2.Same H H' → Q (.bl (ntx d)) H'
def spIsName (K : PySem.W.Frag) : Sp := fun vs H Q _ => ∃ (v : V) (d : T), vs = [v] ∧ Dz K H v d ∧ T2 d ∧ ∀ H', L2.Same H H' → Q (.bl (nmD d)) H'
theorem ok_small {f : Addr} {fd : FuncData} (D : Df K mg "is_small_text" ["thing", "least", "most"] sIsSmallText f fd) (T : Txt K mg C CL) (cO : Ca P w K mg base 1 "is_text_of" ["thing", "signs", "least", "most"] (spTextOf K)) : FnOk P w K mg base CX0 2 f fd ["thing", "least", "most"] (spSmall K) := by
  obtain ⟨_, gS⟩ := T.sm
  obtain ⟨_, gG⟩ := T.sg
  obtain ⟨_, gA⟩ := T.st
  obtain ⟨_, gB⟩ := T.lt
  obtain ⟨_, gX⟩ := T.lx
  refine D.fn.ok scIsSmallText (fun vs H Q E h => ?_) (fun cdv A outer s H vs Q E hr h => ?_)
  · obtain ⟨v, d, a, b, rfl, hz, sz, q⟩ := h
    rfl
  · obtain ⟨v, d, a, b, rfl, hz, sz, q⟩ := h
    refine ⟨_, (pss_one (ps_ret (pe_ca cO hr (by decide) (by rfl) (pa_cons (pv 0) (pa_cons (pe_glob (v := .str small) (by rfl) gS ⟨_, rfl⟩) (pa_cons (pv 1) (pa_cons (pv 2) pa_nil))))))), ?_⟩
    exact ⟨_, rfl, _, rfl, _, rfl, v, d, small, a, b, rfl, hz, sz, q⟩
theorem ok_tongue {f : Addr} {fd : FuncData} (D : Df K mg "is_tongue" ["thing"] sIsTongue f fd) (T : Txt K mg C CL) (cS : Ca P w K mg base 2 "is_small_text" ["thing", "least", "most"] (spSmall K)) : FnOk P w K mg base CX0 3 f fd ["thing"] (spTongue K) := by
  obtain ⟨_, gS⟩ := T.sm
  obtain ⟨_, gG⟩ := T.sg
  obtain ⟨_, gA⟩ := T.st
  obtain ⟨_, gB⟩ := T.lt
  obtain ⟨_, gX⟩ := T.lx
  refine D.fn.ok scIsTongue (fun vs H Q E h => ?_) (fun cdv A outer s H vs Q E hr h => ?_)
  · obtain ⟨v, d, rfl, hz, sz, q⟩ := h
    rfl
  · obtain ⟨v, d, rfl, hz, sz, q⟩ := h
    refine ⟨_, (pss_one (ps_ret (pe_ca cS hr (by decide) (by rfl) (pa_cons (pv 0) (pa_cons (pe_glob (v := .int 2) (by rfl) gA ⟨_, rfl⟩) (pa_cons (pe_glob (v := .int 3) (by rfl) gB ⟨_, rfl⟩) pa_nil)))))), ?_⟩
    exact ⟨_, rfl, v, d, 2, 3, rfl, hz, sz, q⟩
theorem ok_nt {f : Addr} {fd : FuncData} (D : Df K mg "is_name_text" ["thing"] sIsNameText f fd) (T : Txt K mg C CL) (cO : Ca P w K mg base 1 "is_text_of" ["thing", "signs", "least", "most"] (spTextOf K)) : FnOk P w K mg base CX0 2 f fd ["thing"] (spNT K) := by
  obtain ⟨_, gS⟩ := T.sm
  obtain ⟨_, gG⟩ := T.sg
  obtain ⟨_, gA⟩ := T.st
  obtain ⟨_, gB⟩ := T.lt
  obtain ⟨_, gX⟩ := T.lx
  refine D.fn.ok scIsNameText (fun vs H Q E h => ?_) (fun cdv A outer s H vs Q E hr h => ?_)
  · obtain ⟨v, d, rfl, hz, sz, q⟩ := h
    rfl
  · obtain ⟨v, d, rfl, hz, sz, q⟩ := h
    refine ⟨_, (pss_cons (ps_if (pt_not (pt_val (pe_ca cO hr (by decide) (by rfl) (pa_cons (pv 0) (pa_cons (pe_glob (v := .str signs) (by rfl) gG ⟨_, rfl⟩) (pa_cons pe_int (pa_cons (pe_glob (v := .int 40) (by rfl) gX ⟨_, rfl⟩) pa_nil))))))) (pss_one (ps_ret pe_bl)) pss_nil)
      (pss_one (ps_ret (pe_and (pe_cmpR op_eq (pv 0) (pe_m1 F.slot_str_strip F.type_str_strip mt_stripChars (pv 0) pe_str) (nomark _)) (pe_one (pe_cmpR op_notin_str pe_str (pv 0) (by rfl))))))), ?_⟩
    refine ⟨_, rfl, v, d, signs, 1, 40, rfl, hz, sz, fun H1 s1 => ⟨_, rfl, ?_⟩⟩
    have w := q H1 s1
    cases c : ofT d signs 1 40 with
    | false =>
      rw [ntx_no c] at w
      exact iteT w
    | true =>
      obtain ⟨x, rfl⟩ := ofT_str c
      obtain ⟨x', rfl⟩ : ∃ x', v = .str x' := by cases hz; exact ⟨_, rfl⟩
      have ex : x' = x := by cases hz; rfl
      subst ex
      have fit : x'.length ≤ sizeLine := Nat.le_trans (sz x' rfl) (by decide)
      have e : ntx (.str x') = (sk x' && !db x') := by
        show (ofT (.str x') signs 1 40 && (sk x' && !db x')) = _
        rw [c]
        rfl
      rw [e] at w
      refine iteF ⟨_, rfl, _, rfl, ⟨_, rfl⟩, x', " ", rfl, rfl, fit, rfl, _, rfl, ?_⟩
      refine ite2 (fun c2 => ?_) (fun c2 => ?_)
      · have cs : sk x' = true := c2
        rw [cs] at w
        exact ⟨_, rfl, "  ", x', rfl, rfl, w⟩
      · have cs : sk x' = false := Bool.eq_false_iff.mpr c2
        rw [cs] at w
        exact w
theorem ok_name {f : Addr} {fd : FuncData} (D : Df K mg "is_name" ["thing"] sIsName f fd) (T : Txt K mg C CL) (cTo : Ca P w K mg base 3 "is_tongue" ["thing"] (spTongue K)) (cN : Ca P w K mg base 2 "is_name_text" ["thing"] (spNT K)) : FnOk P w K mg base CX0 4 f fd ["thing"] (spIsName K) := by
  refine D.fn.ok scIsName (fun vs H Q E h => ?_) (fun cdv A outer s H vs Q E hr h => ?_)
  · obtain ⟨v, d, rfl, hz, t2, q⟩ := h
    rfl
  · obtain ⟨v, d, rfl, hz, t2, q⟩ := h
    refine ⟨_, (pss_cons (ps_if (PW.pt (pw_or (pt_not (pt_val (pe_callB call_isi (by rfl) T.isi (by decide +kernel) (pa_cons (pv 0) (pa_cons (pe_bltn (v := .ty "tuple") (by rfl) T.tuple (by decide +kernel) rfl) pa_nil))))) (pw_or1 (pt_cmpR op_ne (pe_callB call_len_seq (by rfl) T.len PySem.boot_len (pa_cons (pv 0) pa_nil)) pe_int (nomark _))))) (pss_one (ps_ret pe_bl)) pss_nil)
      (pss_one (ps_ret (pe_and (pe_ca cTo hr (by decide) (by rfl) (pa_cons (pe_ix ix_tup (pv 0) pe_int (fun _ _ => rfl)) pa_nil)) (pe_one (pe_ca cN hr (by decide) (by rfl) (pa_cons (pe_ix ix_tup (pv 0) pe_int (fun _ _ => rfl)) pa_nil))))))), ?_⟩
    refine ⟨_, rfl, _, _, _, _, isTup d, rfl, .ty _, hz.ty, z_tup hz, _, rfl, ?_⟩
    have qf : nmD d = false → Q (.bl false) H := fun e => by
      have w := q H (Same.refl H)
      rw [e] at w
      exact w
    cases hz with
    | @tup t xs ds et ra =>
      refine iteF ⟨_, rfl, t, xs, rfl, .inr (SqT.of et), rfl, _, rfl, ?_⟩
      match xs, ds, ra with
      | [], _, .nil => exact iteT (qf rfl)
      | [_], _, .cons _ .nil => exact iteT (qf rfl)
      | _ :: _ :: _ :: r, _, .cons _ (.cons _ (.cons _ _)) => exact ite2 (fun _ => qf rfl) (fun e => absurd rfl (len3 e))
      | [va, vb], _, .cons (d := a) ha (.cons (d := b) hb .nil) =>
        obtain ⟨ta, tb⟩ : Tx a ∧ Tx b := ⟨t2 _ rfl a (by simp), t2 _ rfl b (by simp)⟩
        refine iteF ⟨_, rfl, t, _, 0, va, rfl, rfl, SqT.of et, atI_nat (j := 0) rfl, va, a, rfl, ha, fun x e => (ta x e).1, fun H1 s1 => ⟨_, rfl, ?_⟩⟩
        have w := fun H' sm => q H' sm
        cases c : ofT a small 2 3 with
        | false =>
          have w := q H1 s1
          rw [show nmD (.tuple [a, b]) = false by show (ofT a small 2 3 && ntx b) = false; rw [c]; rfl] at w
          exact iteF w
        | true =>
          refine iteT ⟨_, rfl, t, _, 1, vb, rfl, rfl, SqT.of (s1 _ _ et), atI_nat (j := 1) rfl, vb, b, rfl, hb.same s1, fun x e => (tb x e).1, fun H2 s2 => ?_⟩
          have w := q H2 (s1.trans s2)
          rw [show nmD (.tuple [a, b]) = ntx b by show (ofT a small 2 3 && ntx b) = _; rw [c]; rfl] at w
          exact w
    | _ => exact iteT (qf rfl)
end
end K20
set_option Elab.async false
set_option linter.all false
set_option maxRecDepth 100000
set_option maxHeartbeats 4000000
set_option pp.maxSteps 400
set_option pp.deepTerms false
namespace K20
open PySem PySem.Spec PyProof.Rows L2
open Xk Th
section
variable {P : Program} {w : World} {K : PySem.W.Frag} {mg : Str → Option Value} {base : Heap} {C CL : Addr}
def spWd (K : PySem.W.Frag) : Sp := fun vs H Q _ => ∃ (v : V) (d : T), vs = [v] ∧ Dz K H v d ∧ (∀ x, d = .str x → x.length ≤ 2000) ∧ ∀ H', L2.Same H H' → Q (.bl (ofT d small 1 8)) H'
def spCd (K : PySem.W.Frag) : Sp := fun vs H Q _ => ∃ (v : V) (d : T), vs = [v] ∧ Dz K H v d ∧ (∀ x, d = .str x → x.length ≤ 2000) ∧ ∀ H', L2.Same H H' → Q (.bl (ofT d codes 1 12)) H'
def spWh (K : PySem.W.Frag) : Sp := fun vs H Q _ => ∃ (v : V) (d : T), vs = [v] ∧ Dz K H v d ∧ Q (.bl (isZ d)) H
theorem ok_wd {f : Addr} {fd : FuncData} (D : Df K mg "is_word" ["thing"] sIsWord f fd) (T : Txt K mg C CL) (cS : Ca P w K mg base 2 "is_small_text" ["thing", "least", "most"] (spSmall K)) : FnOk P w K mg base CX0 3 f fd ["thing"] (spWd K) := by
  obtain ⟨tW, gW⟩ := T.lw
  obtain ⟨tC, gC⟩ := T.cs
  obtain ⟨tL, gL⟩ := T.lc
  refine D.fn.ok scIsWord (fun vs H Q E h => ?_) (fun cdv A outer s H vs Q E hr h => ?_)
  · obtain ⟨v, d, rfl, hz, sz, q⟩ := h
    rfl
  · obtain ⟨v, d, rfl, hz, sz, q⟩ := h
    refine ⟨_, (pss_one (ps_ret (pe_ca cS hr (by decide) (by rfl) (pa_cons (pv 0) (pa_cons pe_int (pa_cons (pe_glob (v := .int 8) (by rfl) gW ⟨_, rfl⟩) pa_nil)))))), ?_⟩
    exact ⟨_, rfl, v, d, 1, 8, rfl, hz, sz, q⟩
theorem ok_cd {f : Addr} {fd : FuncData} (D : Df K mg "is_code" ["thing"] sIsCode f fd) (T : Txt K mg C CL) (cO : Ca P w K mg base 1 "is_text_of" ["thing", "signs", "least", "most"] (spTextOf K)) : FnOk P w K mg base CX0 2 f fd ["thing"] (spCd K) := by
  obtain ⟨tW, gW⟩ := T.lw
  obtain ⟨tC, gC⟩ := T.cs
  obtain ⟨tL, gL⟩ := T.lc
  refine D.fn.ok scIsCode (fun vs H Q E h => ?_) (fun cdv A outer s H vs Q E hr h => ?_)
  · obtain ⟨v, d, rfl, hz, sz, q⟩ := h
    rfl
  · obtain ⟨v, d, rfl, hz, sz, q⟩ := h
    refine ⟨_, (pss_one (ps_ret (pe_ca cO hr (by decide) (by rfl) (pa_cons (pv 0) (pa_cons (pe_glob (v := .str codes) (by rfl) gC ⟨_, rfl⟩) (pa_cons pe_int (pa_cons (pe_glob (v := .int 12) (by rfl) gL ⟨_, rfl⟩) pa_nil))))))), ?_⟩
    exact ⟨_, rfl, v, d, codes, 1, 12, rfl, hz, sz, q⟩
theorem ok_wh {f : Addr} {fd : FuncData} (D : Df K mg "is_whole" ["thing"] sIsWhole f fd) (T : Txt K mg C CL) : FnOk P w K mg base CX0 1 f fd ["thing"] (spWh K) := by
  refine D.fn.ok scIsWhole (fun vs H Q E h => ?_) (fun cdv A outer s H vs Q E hr h => ?_)
  · obtain ⟨v, d, rfl, hz, q⟩ := h
    rfl
  · obtain ⟨v, d, rfl, hz, q⟩ := h
    refine ⟨_, (pss_one (ps_ret (pe_and (pe_callB call_isi (by rfl) T.isi (by decide +kernel) (pa_cons (pv 0) (pa_cons (pe_bltn (v := .ty "int") (by rfl) T.int (by decide +kernel) rfl) pa_nil))) (pe_one (pe_not (pe_callB call_isi (by rfl) T.isi (by decide +kernel) (pa_cons (pv 0) (pa_cons (pe_bltn (v := .ty "bool") (by rfl) T.bool (by decide +kernel) rfl) pa_nil)))))))), ?_⟩
    refine ⟨_, rfl, _, _, _, _, isZ d || isBo d, rfl, .ty _, hz.ty, z_int hz, _, rfl, ?_⟩
    cases hb : (isZ d || isBo d) with
    | false =>
      have e : isZ d = false := by
        rw [Bool.or_eq_false_iff] at hb
        exact hb.1
      rw [e] at q
      exact iteF q
    | true =>
      have e : isZ d = !isBo d := by
        cases d <;> first | rfl | cases hb
      rw [e] at q
      exact iteT ⟨_, rfl, _, _, _, _, isBo d, rfl, .ty _, hz.ty, z_bool hz, _, rfl, q⟩
def numD : T → Bool
  | .int i => decide (0 ≤ i)
  | _ => false
def keyD : T → Bool
  | .tuple [a, b] => ofT a small 1 8 && numD b
  | _ => false
def spKy (K : PySem.W.Frag) : Sp := fun vs H Q _ => ∃ (v : V) (d : T), vs = [v] ∧ Dz K H v d ∧ (∀ ds, d = .tuple ds → ∀ e ∈ ds, ∀ x, e = .str x → x.length ≤ 2000) ∧ ∀ H', L2.Same H H' → Q (.bl (keyD d)) H'
theorem ok_ky {f : Addr} {fd : FuncData} (D : Df K mg "is_key" ["thing"] sIsKey f fd) (T : Txt K mg C CL) (cWd : Ca P w K mg base 3 "is_word" ["thing"] (spWd K)) (cWh : Ca P w K mg base 1 "is_whole" ["thing"] (spWh K)) : FnOk P w K mg base CX0 4 f fd ["thing"] (spKy K) := by
  obtain ⟨tK, gK⟩ := T.kp
  refine D.fn.ok scIsKey (fun vs H Q E h => ?_) (fun cdv A outer s H vs Q E hr h => ?_)
  · obtain ⟨v, d, rfl, hz, tx, q⟩ := h
    rfl
  · obtain ⟨v, d, rfl, hz, tx, q⟩ := h
    refine ⟨_, (pss_cons (ps_if (PW.pt (pw_or (pt_not (pt_val (pe_callB call_isi (by rfl) T.isi (by decide +kernel) (pa_cons (pv 0) (pa_cons (pe_bltn (v := .ty "tuple") (by rfl) T.tuple (by decide +kernel) rfl) pa_nil))))) (pw_or1 (pt_cmpR op_ne (pe_callB call_len_seq (by rfl) T.len PySem.boot_len (pa_cons (pv 0) pa_nil)) (pe_glob (v := .int 2) (by rfl) gK ⟨_, rfl⟩) (nomark _))))) (pss_one (ps_ret pe_bl)) pss_nil)
      (pss_cons (ps_asg (pv 0) (pg_tup (by rfl) (pgs_cons (pg_name (i := 1) scIsKey.nd rfl (.inl rfl)) (pgs_cons (pg_name (i := 2) scIsKey.nd rfl (.inl rfl)) pgs_nil))))
      (pss_one (ps_ret (pe_and (pe_ca cWd hr (by decide) (by rfl) (pa_cons (pv 1) pa_nil)) (pe_and (pe_ca cWh hr (by decide) (by rfl) (pa_cons (pv 2) pa_nil)) (pe_one (pe_cmpR op_ge (pv 2) pe_int (nomark _))))))))), ?_⟩
    refine ⟨_, rfl, _, _, _, _, isTup d, rfl, .ty _, hz.ty, z_tup hz, _, rfl, ?_⟩
    have qf : keyD d = false → ∀ H', L2.Same H H' → Q (.bl false) H' := fun e H' sm => by
      have w := q H' sm
      rw [e] at w
      exact w
    cases hz with
    | @tup t xs ds et ra =>
      refine iteF ⟨_, rfl, t, xs, rfl, .inr (SqT.of et), rfl, _, rfl, ?_⟩
      match xs, ds, ra with
      | [], _, .nil => exact iteT (qf rfl _ (Same.refl H))
      | [_], _, .cons _ .nil => exact iteT (qf rfl _ (Same.refl H))
      | _ :: _ :: _ :: r, _, .cons _ (.cons _ (.cons _ _)) => exact ite2 (fun _ => qf rfl _ (Same.refl H)) (fun e => absurd rfl (len3 e))
      | [va, vb], _, .cons (d := a) ha (.cons (d := b) hb .nil) =>
        have ta := tx _ rfl a (by simp)
        refine iteF ⟨_, rfl, t, _, rfl, SqT.of et, rfl, _, _, rfl, _, _, rfl, rfl, ?_⟩
        refine ⟨_, rfl, va, a, rfl, ha, ta, fun H1 s1 => ⟨_, rfl, ?_⟩⟩
        have kd : keyD (.tuple [a, b]) = (ofT a small 1 8 && numD b) := rfl
        cases c : ofT a small 1 8 with
        | false => exact iteF (qf (by rw [kd, c]; rfl) _ s1)
        | true =>
          refine iteT ⟨_, rfl, vb, b, rfl, hb.same s1, _, rfl, ?_⟩
          have w := q H1 s1
          rw [kd, c, Bool.true_and] at w
          cases hb with
          | int i => exact iteT ⟨_, rfl, _, _, rfl, rfl, w⟩
          | _ => exact iteF w
    | _ => exact iteT (qf rfl _ (Same.refl H))
end
end K20
set_option Elab.async false
set_option linter.all false
set_option maxRecDepth 100000
set_option maxHeartbeats 4000000
set_option pp.maxSteps 400
set_option pp.deepTerms false
/-! Pairs of texts: sorted, and one < the other. -/
namespace Xsp
open PySem PySem.Spec PyProof.Rows L2 Az
abbrev Nm := Str × Str
def NP (n : Nm) : PyData := .tuple [.str n.1, .str n.2]
/-- a pair of texts, where it stands -/
def NA (H : Hp) (v : V) (n : Nm) : Prop := ∃ t : Addr, v = .ref t ∧ H t = some (.tup [.str n.1, .str n.2])
inductive NAs (H : Hp) : List V → List Nm → Prop
  | nil : NAs H [] []
  | cons {v : V} {vs : List V} {n : Nm} {ns : List Nm} : NA H v n → NAs H vs ns → NAs H (v :: vs) (n :: ns)
theorem NA.dz {K : PySem.W.Frag} {H : Hp} {v : V} {n : Nm} (h : NA H v n) : Dz K H v (NP n) := by
  obtain ⟨t, rfl, e⟩ := h
  exact .tup e (.cons (.str _) (.cons (.str _) .nil))
theorem NA.tp {H H' : Hp} {v : V} {n : Nm} (h : NA H v n) (s : ∀ b xs, H b = some (.tup xs) → H' b = some (.tup xs)) : NA H' v n := by
  obtain ⟨t, e, et⟩ := h
  exact ⟨t, e, s _ _ et⟩
theorem NAs.tp {H H' : Hp} (s : ∀ b xs, H b = some (.tup xs) → H' b = some (.tup xs)) : ∀ {vs : List V} {ns : List Nm}, NAs H vs ns → NAs H' vs ns
  | _, _, .nil => .nil
  | _, _, .cons h r => .cons (h.tp s) (NAs.tp s r)
theorem NAs.len {H : Hp} : ∀ {vs : List V} {ns : List Nm}, NAs H vs ns → vs.length = ns.length
  | _, _, .nil => rfl
  | _, _, .cons _ r => congrArg Nat.succ r.len
theorem NAs.snoc {H : Hp} {v : V} {n : Nm} (h2 : NA H v n) : ∀ {vs : List V} {ns : List Nm}, NAs H vs ns → NAs H (vs ++ [v]) (ns ++ [n])
  | _, _, .nil => .cons h2 .nil
  | _, _, .cons h r => .cons h (NAs.snoc h2 r)
theorem NAs.get {H : Hp} : ∀ {vs : List V} {ns : List Nm} {i : Nat} {v : V}, NAs H vs ns → vs[i]? = some v → ∃ n, ns[i]? = some n ∧ NA H v n
  | _, _, _, _, .nil, e => by cases e
  | _, _, 0, _, .cons h _, e => by cases e; exact ⟨_, rfl, h⟩
  | _, _, i + 1, _, .cons _ r, e => NAs.get (i := i) r e
theorem NAs.dz {K : PySem.W.Frag} {H : Hp} : ∀ {vs : List V} {ns : List Nm}, NAs H vs ns → DzAll K H vs (ns.map NP)
  | _, _, .nil => .nil
  | _, _, .cons h r => .cons h.dz r.dz
theorem alike_NP (a b : Nm) : PySem.W.alike (NP a) (NP b) = true := by simp [NP, PySem.W.alike, PySem.W.alikeAll]
theorem depth_NP (a : Nm) : (NP a).depth ≤ 1 := by simp [NP, PyData.depth, PyData.depthAll]
/-- the lesser of two -/
def nlt (a b : Nm) : Bool := PySem.W.dataLt (NP a) (NP b)
def nle (a b : Nm) : Bool := PySem.W.dataLe false NP a b
theorem nle_iff (a b : Nm) : nle a b = !nlt b a := rfl
theorem nlt_eq (a b : Nm) : nlt a b = if a.1 = b.1 then (if a.2 = b.2 then false else decide (a.2.cps.toList < b.2.cps.toList)) else decide (a.1.cps.toList < b.1.cps.toList) := by
  unfold nlt NP
  rw [PySem.W.dataLt_pair (by simp [PySem.W.alike]) (by simp [PySem.W.alike])]
  have l : ∀ x y : Str, PySem.W.dataLt (.str x) (.str y) = decide (x.cps.toList < y.cps.toList) := fun x y => by
    have h := congrFun (congrFun (PySem.W.dataLe_str (fun z : Str => z)) y) x
    rw [PySem.W.dataLe_eq] at h
    simp only [cond_false] at h
    have h2 := PySem.W.not_lt_str y.cps.toList x.cps.toList
    rw [← h2] at h
    exact Bool.not_inj_iff.mp h
  simp only [PyData.eqv, l]
  by_cases h1 : a.1 = b.1
  · by_cases h2 : a.2 = b.2
    · simp [h1, h2]
    · simp [h1, h2]
  · simp [h1]
theorem nle_total : (∀ a b c, nle a b = true → nle b c = true → nle a c = true) ∧ ∀ a b, nle a b = true ∨ nle b a = true := by
  have so := PySem.W.sortLe_total (PyProof.Rows.listOrd PyProof.Rows.itemOrd) false fun x : Nm => PySem.W.keyToks (NP x)
  exact ⟨so.trans, so.total⟩
theorem nlt_of {a b : Nm} (h : nle a b = true) (ne : a ≠ b) : nlt a b = true := by
  rw [nle_iff, nlt_eq] at h
  rw [nlt_eq]
  by_cases h1 : a.1 = b.1
  · rw [if_pos h1]
    rw [if_pos h1.symm] at h
    have h2 : a.2 ≠ b.2 := fun z => ne (Prod.ext h1 z)
    rw [if_neg h2]
    rw [if_neg (Ne.symm h2)] at h
    have h3 : ¬ b.2.cps.toList < a.2.cps.toList := by simpa using h
    refine decide_eq_true (Decidable.byContradiction fun z => h2 ?_)
    exact PySem.W.str_of_cps (List.le_antisymm (List.not_lt.mp h3) (List.not_lt.mp z))
  · rw [if_neg h1]
    rw [if_neg (Ne.symm h1)] at h
    have h3 : ¬ b.1.cps.toList < a.1.cps.toList := by simpa using h
    refine decide_eq_true (Decidable.byContradiction fun z => h1 ?_)
    exact PySem.W.str_of_cps (List.le_antisymm (List.not_lt.mp h3) (List.not_lt.mp z))
/-- rising, none twice -/
def Ris (ns : List Nm) : Prop := ns.Pairwise fun a b => nlt a b = true
theorem sort_ris {ns : List Nm} (nd : ns.Nodup) : Ris (ns.mergeSort nle) := by
  have pw := List.pairwise_mergeSort (le := nle) nle_total.1 (fun a b => Bool.or_eq_true_iff.mpr (nle_total.2 a b)) ns
  have nd2 : (ns.mergeSort nle).Nodup := (List.mergeSort_perm ns nle).nodup_iff.mpr nd
  exact List.Pairwise.imp₂ (fun a b h1 h2 => nlt_of h1 h2) pw nd2
section
variable {X : Cx} {pins : List (Addr × Obj)} {σ : L2.St} {H : Hp} {s : Shared}
theorem each_raw (I : Inv X pins σ H s) : ∀ {vs : List V} {us : List Value} {ns : List Nm}, NAs H vs ns → Vals vs us →
    PySem.W.EachIs (fun u n => NA H (bkV u) n ∧ ∃ t, u = Value.ref t) us ns ∧ PySem.W.EachIs (fun u n => ∃ as, Reads s.heap u (NP n) as) us ns
  | _, _, _, .nil, .nil => ⟨.nil, .nil⟩
  | _, _, _, .cons h r, .cons rv rr => by
    obtain ⟨a, b⟩ := each_raw I r rr
    obtain ⟨t, rfl, et⟩ := id h
    cases (show _ = Value.ref t from rv)
    obtain ⟨as, rd, _⟩ := Dz.reads I _ _ _ (h.dz (K := X.K)) rv
    exact ⟨.cons ⟨⟨t, rfl, et⟩, t, rfl⟩ a, .cons ⟨as, rd⟩ b⟩
theorem each_back : ∀ {us : List Value} {ns : List Nm}, PySem.W.EachIs (fun u n => NA H (bkV u) n ∧ ∃ t, u = Value.ref t) us ns → NAs H (us.map bkV) ns ∧ ∀ u ∈ us, ∃ t, u = Value.ref t
  | _, _, .nil => ⟨.nil, fun _ h => by cases h⟩
  | _, _, .cons h r => by
    obtain ⟨a, b⟩ := each_back r
    exact ⟨.cons h.1 a, fun u hu => by
      rcases List.mem_cons.mp hu with z | z
      · rw [z]; exact h.2
      · exact b u z⟩
/-- sorted(pairs of texts) -/
def rSortN (K : PySem.W.Frag) : List V → Hp → VK → Prop := fun xs H Q => ∃ (a : Addr) (vs : List V) (ns : List Nm), xs = [.ref a] ∧ SqL K H a vs ∧ NAs H vs ns ∧
  ∀ (ws : List V) (p : Addr), NAs H ws (ns.mergeSort nle) → H p = none → Q (.ref p) (upd H p (.lst ws))
theorem cr_sortN {k : Nat} (room : Room k X.A) : CallR X (.builtin "sorted") (rSortN X.K) := by
  intro pins s σ H xs us Q I r h
  obtain ⟨a, vs, ns, rfl, hs, hn, q⟩ := h
  obtain ⟨its, rv, hl, hz⟩ := I.list hs
  rw [Vals.ref1 r]
  obtain ⟨e1, e2⟩ := each_raw I hn rv
  have hu := room.un
  refine PySem.W.sorted_data (enc := NP) hl.isList e1 e2 (PySem.W.AllAlike.of alike_NP) (PySem.W.Sortable.tuples fun b => ⟨_, _, rfl⟩) (by rw [← hn.len]; exact hz) (fun b _ => by have := depth_NP b; omega) fun out lo eo => ?_
  obtain ⟨b1, b2⟩ := each_back eo
  obtain ⟨ep, he'⟩ := PyProof.Rows.sortedAll_at s.heap its (List.toArray out)
  have lz : (out.map bkV).length ≤ sizeLine := by rw [List.length_map, lo, ← hn.len]; exact hz
  exact ⟨.ref _, upd H (s.heap.objs.size + 1) (.lst (out.map bkV)), I.laid (t' := s.toks) (fun _ _ => PyProof.Rows.sortedAll_old) (Nat.le_succ _) ⟨lz, out, ep, bkV_vals b2, by simpa using he'⟩, rfl, q _ _ b1 (I.hok.fresh (Nat.le_succ _))⟩
/-- one < other -/
def rLtN : R2 := fun x y H Q => ∃ a b, NA H x a ∧ NA H y b ∧ Q (.bl (nlt a b)) H
theorem op_ltN {k : Nat} (room : Room k X.A) : OpR X (compareOp .Lt) rLtN := by
  intro pins s σ H x y v u Q I rx ry h
  obtain ⟨a, b, ha, hb, q⟩ := h
  obtain ⟨as, rd, _⟩ := Dz.reads I _ _ _ (ha.dz (K := X.K)) rx
  obtain ⟨bs, re, _⟩ := Dz.reads I _ _ _ (hb.dz (K := X.K)) ry
  have hu := room.un
  have da := depth_NP a
  exact PySem.W.lt_data rd re (alike_NP a b) (by simp [NP]) (by have := Nat.min_le_left (NP a).depth (NP b).depth; omega) ⟨.bl _, H, I, rfl, q⟩
end
end Xsp
set_option Elab.async false
set_option linter.all false
set_option maxRecDepth 100000
set_option maxHeartbeats 4000000
set_option pp.maxSteps 400
set_option pp.deepTerms false
/-! Works: names and parts; how many things a thing has; what a work is. -/
namespace W37
open PySem PySem.Spec PyProof.Rows L2
open Az
abbrev Nm := Str × Str
def nD (n : Nm) : PyData := .tuple [.str n.1, .str n.2]
theorem nD_inj {n m : Nm} (h : nD n = nD m) : n = m := by
  obtain ⟨a, b⟩ := n
  obtain ⟨c, d⟩ := m
  unfold nD at h
  injection h with h
  injection h with h1 h2
  injection h2 with h2 _
  injection h1 with h1
  injection h2 with h2
  exact Prod.ext h1 h2
/-- a work -/
inductive W where
  | mk (n : Nm) (ps : List W)
mutual
def W.nms : W → List Nm
  | .mk n ps => n :: nmsL ps
def nmsL : List W → List Nm
  | [] => []
  | w :: r => w.nms ++ nmsL r
end
mutual
def W.dat : W → PyData
  | .mk n ps => .tuple [nD n, .tuple (datL ps)]
def datL : List W → List PyData
  | [] => []
  | w :: r => w.dat :: datL r
end
mutual
def W.dp : W → Nat
  | .mk _ ps => dpL ps + 1
def dpL : List W → Nat
  | [] => 0
  | w :: r => max w.dp (dpL r)
end
theorem nmsL_app : ∀ xs ys : List W, nmsL (xs ++ ys) = nmsL xs ++ nmsL ys
  | [], ys => by simp [nmsL]
  | w :: r, ys => by
    rw [List.cons_append, nmsL, nmsL_app r ys, nmsL, List.append_assoc]
theorem dpL_app : ∀ (xs : List W) (w : W) (k : Nat), dpL xs ≤ k → w.dp ≤ k → dpL (xs ++ [w]) ≤ k
  | [], w, k, _, h => by
    rw [List.nil_append, dpL, dpL]
    omega
  | x :: r, w, k, h, h' => by
    rw [dpL] at h
    rw [List.cons_append, dpL]
    have := dpL_app r w k (by omega) h'
    omega
theorem dpL_mem : ∀ {xs : List W} {w : W}, w ∈ xs → w.dp ≤ dpL xs
  | x :: r, w, h => by
    rw [dpL]
    rcases List.mem_cons.mp h with z | z
    · rw [z]; omega
    · have := dpL_mem z
      omega
theorem datL_map : ∀ ws : List W, datL ws = ws.map W.dat
  | [] => rfl
  | w :: r => by rw [datL, datL_map r, List.map_cons]
/-- a name as it stands -/
def NmV (H : Hp) (v : V) (n : Nm) : Prop := ∃ t, v = .ref t ∧ H t = some (.tup [.str n.1, .str n.2])
inductive NmL (H : Hp) : List V → List Nm → Prop
  | nil : NmL H [] []
  | cons {v : V} {vs : List V} {n : Nm} {ns : List Nm} : NmV H v n → NmL H vs ns → NmL H (v :: vs) (n :: ns)
/-- tuples stand -/
def Tp (H H' : Hp) : Prop := ∀ b xs, H b = some (.tup xs) → H' b = some (.tup xs)
theorem Tp.trans {H H1 H2 : Hp} (p : Tp H H1) (q : Tp H1 H2) : Tp H H2 := fun b xs e => q b xs (p b xs e)
theorem tp_same {H H' : Hp} (s : L2.Same H H') : Tp H H' := fun b ys e => s b _ e
theorem tp_upd {H : Hp} {p : Addr} {x : HO} (e : ∀ xs, H p ≠ some (.tup xs)) : Tp H (upd H p x) := fun b ys eb => by
  rw [upd_ne (fun z => e ys (by rw [← z]; exact eb))]
  exact eb
theorem NmV.tp {H H' : Hp} {v : V} {n : Nm} (h : NmV H v n) (s : Tp H H') : NmV H' v n := by
  obtain ⟨t, e, r⟩ := h
  exact ⟨t, e, s _ _ r⟩
theorem NmL.tp {H H' : Hp} (s : Tp H H') : ∀ {vs : List V} {ns : List Nm}, NmL H vs ns → NmL H' vs ns
  | _, _, .nil => .nil
  | _, _, .cons h r => .cons (h.tp s) (r.tp s)
theorem NmL.len {H : Hp} : ∀ {vs : List V} {ns : List Nm}, NmL H vs ns → vs.length = ns.length
  | _, _, .nil => rfl
  | _, _, .cons _ r => by rw [List.length_cons, List.length_cons, r.len]
theorem NmL.snoc {H : Hp} : ∀ {vs : List V} {ns : List Nm} {v : V} {n : Nm}, NmL H vs ns → NmV H v n → NmL H (vs ++ [v]) (ns ++ [n])
  | _, _, _, _, .nil, h => .cons h .nil
  | _, _, _, _, .cons h r, h' => .cons h (r.snoc h')
theorem NmL.app {H : Hp} : ∀ {vs ws : List V} {ns ms : List Nm}, NmL H vs ns → NmL H ws ms → NmL H (vs ++ ws) (ns ++ ms)
  | _, _, _, _, .nil, h => h
  | _, _, _, _, .cons h r, h' => .cons h (r.app h')
theorem NmL.take {H : Hp} : ∀ {vs : List V} {ns : List Nm} (k : Nat), NmL H vs ns → NmL H (vs.take k) (ns.take k)
  | _, _, 0, h => by rw [List.take_zero, List.take_zero]; exact .nil
  | _, _, _ + 1, .nil => .nil
  | _, _, k + 1, .cons h r => .cons h (r.take k)
theorem NmL.drop {H : Hp} : ∀ {vs : List V} {ns : List Nm} (k : Nat), NmL H vs ns → NmL H (vs.drop k) (ns.drop k)
  | _, _, 0, h => h
  | _, _, _ + 1, .nil => .nil
  | _, _, k + 1, .cons h r => r.drop k
theorem NmL.get {H : Hp} : ∀ {vs : List V} {ns : List Nm} {i : Nat} {v : V}, NmL H vs ns → vs[i]? = some v → ∃ n, ns[i]? = some n ∧ NmV H v n
  | _, _, _, _, .nil, e => by simp at e
  | _, _, 0, _, .cons h r, e => by
    rw [List.getElem?_cons_zero] at e
    cases e
    exact ⟨_, rfl, h⟩
  | _, _, i + 1, _, .cons h r, e => by
    rw [List.getElem?_cons_succ] at e
    obtain ⟨n, e1, q⟩ := r.get e
    exact ⟨n, by rw [List.getElem?_cons_succ]; exact e1, q⟩
theorem NmL.mem {H : Hp} {vs : List V} {ns : List Nm} (h : NmL H vs ns) {v : V} (m : v ∈ vs) : ∃ n ∈ ns, NmV H v n := by
  obtain ⟨i, hi⟩ := List.getElem?_of_mem m
  obtain ⟨n, e, q⟩ := h.get hi
  exact ⟨n, List.mem_of_getElem? e, q⟩
mutual
/-- a work as it stands -/
inductive Wk (H : Hp) : V → W → Prop
  | mk {t p : Addr} {v : V} {n : Nm} {xs : List V} {ps : List W} : H t = some (.tup [v, .ref p]) → NmV H v n → H p = some (.tup xs) → WkL H xs ps → Wk H (.ref t) (.mk n ps)
inductive WkL (H : Hp) : List V → List W → Prop
  | nil : WkL H [] []
  | cons {v : V} {vs : List V} {w : W} {ws : List W} : Wk H v w → WkL H vs ws → WkL H (v :: vs) (w :: ws)
end
mutual
theorem Wk.tp {H H' : Hp} (s : Tp H H') : ∀ {v : V} {w : W}, Wk H v w → Wk H' v w
  | _, _, .mk e1 n e2 r => .mk (s _ _ e1) (n.tp s) (s _ _ e2) (WkL.tp s r)
theorem WkL.tp {H H' : Hp} (s : Tp H H') : ∀ {vs : List V} {ws : List W}, WkL H vs ws → WkL H' vs ws
  | _, _, .nil => .nil
  | _, _, .cons h r => .cons (Wk.tp s h) (WkL.tp s r)
end
theorem WkL.len {H : Hp} : ∀ {vs : List V} {ws : List W}, WkL H vs ws → vs.length = ws.length
  | _, _, .nil => rfl
  | _, _, .cons _ r => by rw [List.length_cons, List.length_cons, r.len]
theorem WkL.snoc {H : Hp} : ∀ {vs : List V} {ws : List W} {v : V} {w : W}, WkL H vs ws → Wk H v w → WkL H (vs ++ [v]) (ws ++ [w])
  | _, _, _, _, .nil, h => .cons h .nil
  | _, _, _, _, .cons h r, h' => .cons h (r.snoc h')
theorem WkL.get {H : Hp} : ∀ {vs : List V} {ws : List W} {i : Nat} {v : V}, WkL H vs ws → vs[i]? = some v → ∃ w, ws[i]? = some w ∧ Wk H v w
  | _, _, _, _, .nil, e => by simp at e
  | _, _, 0, _, .cons h r, e => by
    rw [List.getElem?_cons_zero] at e
    cases e
    exact ⟨_, rfl, h⟩
  | _, _, i + 1, _, .cons h r, e => by
    rw [List.getElem?_cons_succ] at e
    obtain ⟨n, e1, q⟩ := r.get e
    exact ⟨n, by rw [List.getElem?_cons_succ]; exact e1, q⟩
section
variable {K : PySem.W.Frag}
theorem NmV.dz {H : Hp} {v : V} {n : Nm} (h : NmV H v n) : Dz K H v (nD n) := by
  obtain ⟨t, rfl, e⟩ := h
  exact .tup e (.cons (.str _) (.cons (.str _) .nil))
mutual
theorem Wk.dz {H : Hp} : ∀ {v : V} {w : W}, Wk H v w → Dz K H v w.dat
  | _, _, .mk e1 n e2 r => by
    rw [W.dat]
    exact .tup e1 (.cons n.dz (.cons (.tup e2 (WkL.dz r)) .nil))
theorem WkL.dz {H : Hp} : ∀ {vs : List V} {ws : List W}, WkL H vs ws → DzAll K H vs (datL ws)
  | _, _, .nil => by rw [datL]; exact .nil
  | _, _, .cons h r => by rw [datL]; exact .cons (Wk.dz h) (WkL.dz r)
end
end
/-! ## things: how many they have, how deep they are, their texts -/
def Ok7 (x : Str) : Prop := x.length ≤ 200 ∧ ∀ c ∈ x.cps.toList, c < 128
mutual
def wt : PyData → Nat
  | .tuple ds => wts ds + 1
  | _ => 1
def wts : List PyData → Nat
  | [] => 0
  | d :: r => wt d + wts r
end
mutual
def dt : PyData → Nat
  | .tuple ds => dts ds + 1
  | _ => 0
def dts : List PyData → Nat
  | [] => 0
  | d :: r => max (dt d) (dts r)
end
mutual
def gd : PyData → Prop
  | .str x => Ok7 x
  | .tuple ds => gds ds
  | _ => True
def gds : List PyData → Prop
  | [] => True
  | d :: r => gd d ∧ gds r
end
theorem wt_pos : ∀ d : PyData, 1 ≤ wt d
  | .tuple ds => by rw [wt]; omega
  | .none | .bool _ | .int _ | .str _ | .list _ | .dict _ => by simp [wt]
theorem wts_app : ∀ xs ys : List PyData, wts (xs ++ ys) = wts xs + wts ys
  | [], ys => by simp [wts]
  | d :: r, ys => by
    rw [List.cons_append, wts, wts_app r ys, wts]
    omega
theorem len_wts : ∀ ds : List PyData, ds.length ≤ wts ds
  | [] => by simp
  | d :: r => by
    have := len_wts r
    have := wt_pos d
    rw [List.length_cons, wts]
    omega
theorem wts_mem : ∀ {ds : List PyData} {d : PyData}, d ∈ ds → wt d ≤ wts ds
  | d :: r, e, h => by
    rw [wts]
    rcases List.mem_cons.mp h with z | z
    · rw [z]; omega
    · have := wts_mem z
      omega
theorem dts_app : ∀ xs ys : List PyData, dts (xs ++ ys) = max (dts xs) (dts ys)
  | [], ys => by simp [dts]
  | d :: r, ys => by
    rw [List.cons_append, dts, dts_app r ys, dts]
    omega
theorem dts_mem : ∀ {ds : List PyData} {d : PyData}, d ∈ ds → dt d ≤ dts ds
  | d :: r, e, h => by
    rw [dts]
    rcases List.mem_cons.mp h with z | z
    · rw [z]; omega
    · have := dts_mem z
      omega
theorem gds_iff : ∀ {ds : List PyData}, gds ds ↔ ∀ d ∈ ds, gd d
  | [] => by simp [gds]
  | d :: r => by rw [gds, gds_iff (ds := r)]; simp
theorem gds_app {xs ys : List PyData} : gds (xs ++ ys) ↔ gds xs ∧ gds ys := by
  rw [gds_iff, gds_iff, gds_iff]
  constructor
  · intro h
    exact ⟨fun d m => h d (List.mem_append_left _ m), fun d m => h d (List.mem_append_right _ m)⟩
  · rintro ⟨h1, h2⟩ d m
    rcases List.mem_append.mp m with z | z
    · exact h1 d z
    · exact h2 d z
/-! ## what a work is -/
section
variable (nm : PyData → Bool)
def form : Nat → PyData → Bool
  | 0, _ => false
  | k + 1, d => match d with
    | .tuple [n, .tuple ps] => nm n && ps.all (form k)
    | _ => false
def names : Nat → PyData → List PyData
  | 0, _ => []
  | k + 1, d => match d with
    | .tuple [n, .tuple ps] => n :: ps.flatMap (names k)
    | _ => []
/-- a name beside a tuple -/
def nwp (d : PyData) : Bool := match d with
  | .tuple [n, .tuple _] => nm n
  | _ => false
theorem form_nwp {k : Nat} {d : PyData} (h : nwp nm d = false) : form nm k d = false := by
  cases k with
  | zero => rfl
  | succ k =>
    unfold form
    unfold nwp at h
    split
    · rename_i n ps
      simp only at h
      rw [h]
      rfl
    · rfl
theorem nwp_mk {d : PyData} (h : nwp nm d = true) : ∃ n ps, d = .tuple [n, .tuple ps] ∧ nm n = true := by
  unfold nwp at h
  split at h
  · rename_i n ps
    exact ⟨n, ps, rfl, h⟩
  · cases h
def IsW (d : PyData) : Prop := form nm 5 d = true ∧ (names 5 d).Nodup
/-- a stack of things, the first to be taken at the end: how many levels each may have yet, and what was seen -/
def Ans (st : List (PyData × Nat)) (seen : List PyData) : Prop := (∀ p ∈ st, form nm p.2 p.1 = true) ∧ (seen ++ st.flatMap fun p => names p.2 p.1).Nodup
theorem ans_nil {seen : List PyData} (h : seen.Nodup) : Ans nm [] seen := ⟨by simp, by simpa using h⟩
theorem ans_one {d : PyData} : Ans nm [(d, 5)] [] ↔ IsW nm d := by
  unfold Ans IsW
  simp
theorem ans_bad {st : List (PyData × Nat)} {p : PyData × Nat} {seen : List PyData} (h : form nm p.2 p.1 = false) : ¬ Ans nm (st ++ [p]) seen := fun a => by
  have := a.1 p (by simp)
  rw [h] at this
  cases this
theorem ans_zero {st : List (PyData × Nat)} {d : PyData} {seen : List PyData} : ¬ Ans nm (st ++ [(d, 0)]) seen := ans_bad nm rfl
theorem ans_seen {st : List (PyData × Nat)} {n : PyData} {ps : List PyData} {k : Nat} {seen : List PyData} (h : n ∈ seen) : ¬ Ans nm (st ++ [(.tuple [n, .tuple ps], k + 1)]) seen := fun a => by
  have q := a.2
  rw [List.nodup_append] at q
  refine q.2.2 n h n ?_ rfl
  rw [List.mem_flatMap]
  exact ⟨(.tuple [n, .tuple ps], k + 1), by simp, by simp [names]⟩
theorem ans_step {st : List (PyData × Nat)} {n : PyData} {ps : List PyData} {k : Nat} {seen : List PyData} (hn : nm n = true) :
    Ans nm (st ++ [(.tuple [n, .tuple ps], k + 1)]) seen ↔ Ans nm (st ++ ps.map fun q => (q, k)) (seen ++ [n]) := by
  unfold Ans
  constructor
  · rintro ⟨a, b⟩
    constructor
    · intro p hp
      rcases List.mem_append.mp hp with z | z
      · exact a p (List.mem_append_left _ z)
      · obtain ⟨q, hq, rfl⟩ := List.mem_map.mp z
        have := a (.tuple [n, .tuple ps], k + 1) (by simp)
        simp only [form, hn, Bool.true_and, List.all_eq_true] at this
        exact this q hq
    · refine (List.Perm.nodup_iff ?_).mp b
      simp only [List.flatMap_append, List.flatMap_cons, List.flatMap_nil, names, List.append_nil, List.flatMap_map, List.append_assoc]
      refine List.Perm.append_left _ ?_
      show (_ ++ n :: _).Perm ([n] ++ _)
      exact List.perm_middle
  · rintro ⟨a, b⟩
    constructor
    · intro p hp
      rcases List.mem_append.mp hp with z | z
      · exact a p (List.mem_append_left _ z)
      · rw [List.mem_singleton.mp z]
        simp only [form, hn, Bool.true_and, List.all_eq_true]
        intro q hq
        exact a (q, k) (List.mem_append_right _ (List.mem_map.mpr ⟨q, hq, rfl⟩))
    · refine (List.Perm.nodup_iff ?_).mpr b
      simp only [List.flatMap_append, List.flatMap_cons, List.flatMap_nil, names, List.append_nil, List.flatMap_map, List.append_assoc]
      refine List.Perm.append_left _ ?_
      show (_ ++ n :: _).Perm ([n] ++ _)
      exact List.perm_middle
end
end W37
set_option Elab.async false
set_option linter.all false
set_option maxRecDepth 100000
set_option maxHeartbeats 4000000
/-! names in order; pairs of names, and whom they lead to -/
namespace Xnp
open PySem PySem.Spec PyProof.Rows L2 W37
/-! ## names in order -/
def nmLe : Nm → Nm → Bool := PySem.W.dataLe false nD
theorem toks_nD (a : Nm) : PySem.W.keyToks (nD a) = [.inl 1, .inr a.1.cps.toList, .inl 1, .inr a.2.cps.toList, .inl 0] := by
  simp [nD, PySem.W.keyToks, PySem.W.keyToksAll]
theorem nm_anti {a b : Nm} (h1 : nmLe a b = true) (h2 : nmLe b a = true) : a = b := by
  have k1 : (listOrd itemOrd).blt (PySem.W.keyToks (nD b)) (PySem.W.keyToks (nD a)) = false := by
    have : (!(listOrd itemOrd).blt (PySem.W.keyToks (nD b)) (PySem.W.keyToks (nD a))) = true := h1
    simpa using this
  have k2 : (listOrd itemOrd).blt (PySem.W.keyToks (nD a)) (PySem.W.keyToks (nD b)) = false := by
    have : (!(listOrd itemOrd).blt (PySem.W.keyToks (nD a)) (PySem.W.keyToks (nD b))) = true := h2
    simpa using this
  have e := (listOrd itemOrd).total _ _ k2 k1
  rw [toks_nD, toks_nD] at e
  simp only [List.cons.injEq, Sum.inr.injEq, true_and, and_true] at e
  obtain ⟨⟨x1⟩, ⟨y1⟩⟩ := a
  obtain ⟨⟨x2⟩, ⟨y2⟩⟩ := b
  have e1 : x1 = x2 := Array.toList_inj.mp e.1
  have e2 : y1 = y2 := Array.toList_inj.mp e.2
  rw [e1, e2]
theorem nm_tot : PySem.W.TotalLe nmLe := PySem.W.sortLe_total (listOrd itemOrd) false fun b => PySem.W.keyToks (nD b)
abbrev Rise (l : List Nm) : Prop := l.Pairwise fun a b => nmLe a b = true
theorem rise_uniq : ∀ {l m : List Nm}, l.Nodup → m.Nodup → (∀ a, a ∈ l ↔ a ∈ m) → Rise l → Rise m → l = m
  | [], [], _, _, _, _, _ => rfl
  | [], y :: _, _, _, h, _, _ => absurd ((h y).mpr List.mem_cons_self) (by simp)
  | x :: _, [], _, _, h, _, _ => absurd ((h x).mp List.mem_cons_self) (by simp)
  | x :: l, y :: m, nl, nm, h, rl, rm => by
    have nl2 := List.nodup_cons.mp nl
    have nm2 := List.nodup_cons.mp nm
    have rl2 := List.pairwise_cons.mp rl
    have rm2 := List.pairwise_cons.mp rm
    have e : x = y := by
      rcases List.mem_cons.mp ((h x).mp List.mem_cons_self) with z | z
      · exact z
      · rcases List.mem_cons.mp ((h y).mpr List.mem_cons_self) with u | u
        · exact u.symm
        · exact nm_anti (rl2.1 y u) (rm2.1 x z)
    subst e
    congr 1
    refine rise_uniq nl2.2 nm2.2 (fun a => ⟨fun ha => ?_, fun ha => ?_⟩) rl2.2 rm2.2
    · rcases List.mem_cons.mp ((h a).mp (List.mem_cons_of_mem _ ha)) with z | z
      · exact absurd (z ▸ ha) nl2.1
      · exact z
    · rcases List.mem_cons.mp ((h a).mpr (List.mem_cons_of_mem _ ha)) with z | z
      · exact absurd (z ▸ ha) nm2.1
      · exact z
theorem rise_sort (l : List Nm) : Rise (l.mergeSort nmLe) := List.pairwise_mergeSort (fun a b c h1 h2 => nm_tot.trans a b c h1 h2) (fun a b => by rcases nm_tot.total a b with h | h <;> simp [h]) l
/-! ## pairs of names -/
abbrev Pair := Nm × Nm
def Adj (es : List Pair) (a b : Nm) : Prop := (a, b) ∈ es ∨ (b, a) ∈ es
theorem Adj.symm {es : List Pair} {a b : Nm} (h : Adj es a b) : Adj es b a := h.elim .inr .inl
inductive Rch (es : List Pair) : Nm → Nm → Prop
  | refl (a : Nm) : Rch es a a
  | step {a b c : Nm} : Rch es a b → Adj es b c → Rch es a c
theorem Rch.trans {es : List Pair} {a b c : Nm} (h : Rch es a b) (k : Rch es b c) : Rch es a c := by
  induction k with
  | refl => exact h
  | step _ j ih => exact .step ih j
theorem Rch.symm {es : List Pair} {a b : Nm} (h : Rch es a b) : Rch es b a := by
  induction h with
  | refl => exact .refl _
  | step _ j ih => exact (Rch.step (.refl _) j.symm).trans ih
/-- what is shut and holds a holds all that a leads to -/
theorem Rch.shut {es : List Pair} {a b : Nm} (h : Rch es a b) {S : Nm → Prop} (s0 : S a) (sh : ∀ x y, S x → Adj es x y → S y) : S b := by
  induction h with
  | refl => exact s0
  | step _ j ih => exact sh _ _ ih j
/-- the class of a name, in order -/
structure Cls (es : List Pair) (a : Nm) (l : List Nm) : Prop where
  nd : l.Nodup
  mem : ∀ b, b ∈ l ↔ Rch es a b
  rise : Rise l
theorem Cls.uniq {es : List Pair} {a : Nm} {l m : List Nm} (h : Cls es a l) (k : Cls es a m) : l = m := rise_uniq h.nd k.nd (fun b => (h.mem b).trans (k.mem b).symm) h.rise k.rise
theorem Cls.of {es : List Pair} {a b : Nm} {l : List Nm} (h : Cls es a l) (r : Rch es a b) : Cls es b l := ⟨h.nd, fun c => (h.mem c).trans ⟨fun q => r.symm.trans q, fun q => r.trans q⟩, h.rise⟩
theorem Cls.self {es : List Pair} {a : Nm} {l : List Nm} (h : Cls es a l) : a ∈ l := (h.mem a).mpr (.refl a)
/-- all names of the pairs -/
def nodes (es : List Pair) : List Nm := es.flatMap fun p => [p.1, p.2]
theorem mem_nodes {es : List Pair} {a : Nm} : a ∈ nodes es ↔ ∃ b, Adj es a b := by
  unfold nodes
  rw [List.mem_flatMap]
  constructor
  · rintro ⟨⟨x, y⟩, hp, ha⟩
    simp only [List.mem_cons, List.not_mem_nil, or_false] at ha
    rcases ha with rfl | rfl
    · exact ⟨_, .inl hp⟩
    · exact ⟨_, .inr hp⟩
  · rintro ⟨b, h | h⟩
    · exact ⟨_, h, by simp⟩
    · exact ⟨_, h, by simp⟩
theorem Cls.alone {es : List Pair} {a : Nm} (h : a ∉ nodes es) : Cls es a [a] := ⟨by simp, fun b => ⟨fun m => by rw [List.mem_singleton.mp m]; exact .refl a, fun r => by
  have : a = b ∨ ∃ c, Adj es a c := by
    have : b = a ∨ ∃ c, Adj es a c := by
      induction r with
      | refl => exact .inl rfl
      | step r j ih =>
        rcases ih with rfl | q
        · exact .inr ⟨_, j⟩
        · exact .inr q
    exact this.imp Eq.symm id
  rcases this with rfl | q
  · simp
  · exact absurd (mem_nodes.mpr q) h⟩, by simp⟩
/-- whom a name stands beside, in the order of the pairs -/
def nb (es : List Pair) (a : Nm) : List Nm := es.flatMap fun p => (if p.1 = a then [p.2] else []) ++ if p.2 = a then [p.1] else []
theorem mem_nb {es : List Pair} {a b : Nm} : b ∈ nb es a ↔ Adj es a b := by
  unfold nb
  rw [List.mem_flatMap]
  constructor
  · rintro ⟨⟨x, y⟩, hp, hb⟩
    simp only [List.mem_append] at hb
    rcases hb with hb | hb
    · split at hb
      · rename_i q
        have q : x = a := q
        rw [List.mem_singleton.mp hb]
        exact .inl (q ▸ hp)
      · cases hb
    · split at hb
      · rename_i q
        have q : y = a := q
        rw [List.mem_singleton.mp hb]
        exact .inr (q ▸ hp)
      · cases hb
  · rintro (h | h)
    · exact ⟨_, h, by simp⟩
    · exact ⟨_, h, by simp⟩
theorem nb_snoc (es : List Pair) (p : Pair) (a : Nm) : nb (es ++ [p]) a = nb es a ++ ((if p.1 = a then [p.2] else []) ++ if p.2 = a then [p.1] else []) := by
  unfold nb
  rw [List.flatMap_append]
  simp
end Xnp
set_option Elab.async false
set_option linter.all false
set_option maxRecDepth 100000
set_option maxHeartbeats 8000000
set_option pp.maxSteps 400
set_option pp.deepTerms false
/-! sorted(set(x)), x a list or a tuple of pairs of texts; rising pairs of texts. -/
namespace Xtn
open PySem PySem.Spec PyProof.Rows L2 Xsp
theorem nlt_trans {a b c : Nm} (h1 : nlt a b = true) (h2 : nlt b c = true) : nlt a c = true := by
  have ab : nle a b = true := (nle_total.2 a b).resolve_right fun z => by
    rw [nle_iff, h1] at z
    cases z
  cases h : nlt a c with
  | true => rfl
  | false =>
    have ca : nle c a = true := by rw [nle_iff, h]; rfl
    have cb := nle_total.1 c a b ca ab
    rw [nle_iff, h2] at cb
    cases cb
theorem nlt_self (a : Nm) : nlt a a = false := by
  rw [nlt_eq]
  simp
theorem ris_nodup {l : List Nm} (h : Ris l) : l.Nodup := List.Pairwise.imp (fun {a b} h e => by
  rw [e, nlt_self] at h
  cases h) h
theorem ris_uniq {l m : List Nm} (h : Ris l) (k : Ris m) (e : ∀ a, a ∈ l ↔ a ∈ m) : l = m := by
  have le : ∀ {a b : Nm}, nlt a b = true → Xnp.nmLe a b = true := fun {a b} z => by
    show nle a b = true
    refine (nle_total.2 a b).resolve_right fun y => ?_
    rw [nle_iff, z] at y
    cases y
  exact Xnp.rise_uniq (ris_nodup h) (ris_nodup k) e (List.Pairwise.imp (fun z => le z) h) (List.Pairwise.imp (fun z => le z) k)
def bsN (ps : List Nm) : List Bool := (List.range (ps.length - 1)).map fun i => nlt (ps.getD i ("", "")) (ps.getD (i + 1) ("", ""))
def risN (ps : List Nm) : Bool := (bsN ps).all id
theorem bsN_at {ps : List Nm} {i : Nat} {x y : Nm} (e1 : ps[i]? = some x) (e2 : ps[i + 1]? = some y) : (bsN ps)[i]? = some (nlt x y) := by
  obtain ⟨l, _⟩ := List.getElem?_eq_some_iff.mp e2
  unfold bsN
  rw [List.getElem?_map, List.getElem?_range (by omega)]
  simp only [Option.map_some, List.getD_eq_getElem?_getD, e1, e2, Option.getD_some]
theorem bsN_len (ps : List Nm) : (bsN ps).length = ps.length - 1 := by
  unfold bsN
  rw [List.length_map, List.length_range]
theorem risN_cons (x y : Nm) (r : List Nm) : risN (x :: y :: r) = (nlt x y && risN (y :: r)) := by
  unfold risN bsN
  simp only [List.length_cons, Nat.add_sub_cancel]
  rw [List.range_succ_eq_map, List.map_cons, List.all_cons, List.map_map]
  rfl
theorem risN_iff : ∀ ps : List Nm, risN ps = true ↔ Ris ps
  | [] => by simp [risN, bsN, Xsp.Ris]
  | [x] => by simp [risN, bsN, Xsp.Ris]
  | x :: y :: r => by
    have ih := risN_iff (y :: r)
    rw [risN_cons, Bool.and_eq_true, ih]
    unfold Xsp.Ris at ih ⊢
    rw [List.pairwise_cons (a := x)]
    constructor
    · rintro ⟨h1, h2⟩
      refine ⟨fun z hz => ?_, h2⟩
      rcases List.mem_cons.mp hz with e | e
      · rw [e]; exact h1
      · exact nlt_trans h1 ((List.pairwise_cons.mp h2).1 z e)
    · rintro ⟨h1, h2⟩
      exact ⟨h1 y List.mem_cons_self, h2⟩
/-- a row is rising just where it is its own sorted set -/
theorem risN_sorted {ps qs : List Nm} (h : Ris qs) (m : ∀ a, a ∈ qs ↔ a ∈ ps) : risN ps = decide (ps = qs) := by
  rw [Bool.eq_iff_iff, decide_eq_true_eq, risN_iff]
  constructor
  · exact fun k => ris_uniq k h fun a => (m a).symm
  · intro e
    rw [e]
    exact h
/-! ## the pairs as keys -/
def nk (n : Nm) : List Key := [.inr n.1, .inr n.2]
def unk : List Key → Nm
  | [.inr a, .inr b] => (a, b)
  | _ => ("", "")
theorem kyT_nk (n : Nm) : Xsd.kyT (nk n) = NP n := rfl
theorem nas_keys {K : PySem.W.Frag} {H : Hp} : ∀ {vs : List V} {ps : List Nm}, NAs H vs ps → ∃ ks : List (Addr × List Key), vs = ks.map (fun p => V.ref p.1) ∧ ks.map (·.2) = ps.map nk ∧ ∀ p ∈ ks, H p.1 = some (.tup (p.2.map kV))
  | _, _, .nil => ⟨[], rfl, rfl, fun p hp => by cases hp⟩
  | _, _, .cons (n := n) h r => by
    obtain ⟨t, rfl, et⟩ := h
    obtain ⟨ks, e1, e2, e3⟩ := nas_keys (K := K) r
    refine ⟨(t, nk n) :: ks, by rw [e1]; rfl, by rw [List.map_cons, List.map_cons, e2], fun p hp => ?_⟩
    rcases List.mem_cons.mp hp with z | z
    · rw [z]; exact et
    · exact e3 p z
theorem nas_of {H : Hp} : ∀ {bs : List Xsd.Kb}, (∀ b ∈ bs, ∃ n, b.1 = nk n ∧ H b.2 = some (.tup (b.1.map kV))) → NAs H (bs.map fun b => V.ref b.2) (bs.map fun b => unk b.1)
  | [], _ => .nil
  | b :: r, h => by
    obtain ⟨n, e1, e2⟩ := h b List.mem_cons_self
    refine .cons ⟨b.2, rfl, ?_⟩ (nas_of fun c hc => h c (List.mem_cons_of_mem _ hc))
    show H b.2 = some (.tup [.str (unk b.1).1, .str (unk b.1).2])
    rw [e2, e1]
    rfl
/-- what sorted(set(x)) asks, for pairs of texts -/
theorem sort_names {K : PySem.W.Frag} {H : Hp} {l : Addr} {vs : List V} {ps : List Nm} (na : NAs H vs ps) (at_ : SqL K H l vs ∨ SqT K H l vs) (few : ps.length < 64) :
    ∃ (ks : List (Addr × List Key)), (SqL K H l (ks.map fun p => V.ref p.1) ∨ SqT K H l (ks.map fun p => V.ref p.1)) ∧ (∀ p ∈ ks, SqT K H p.1 (p.2.map kV)) ∧ ks.length < 64 ∧
  (∀ b0 : List Xsd.Kb, (∀ b ∈ b0, (b.2, b.1) ∈ ks) → PySem.W.AllAlike (b0.map fun b => Xsd.kyT b.1) ∧ PySem.W.Sortable (b0.map fun b => Xsd.kyT b.1)) ∧ (∀ p ∈ ks, (Xsd.kyT p.2).depth ≤ 50) ∧
  ∀ (l0 : List (List Key)) (bs : List Xsd.Kb), l0.Nodup → (∀ k, k ∈ l0 ↔ k ∈ ks.map (·.2)) → (∀ b ∈ bs, (b.2, b.1) ∈ ks) → bs.map (·.1) = l0.mergeSort (PySem.W.dataLe false Xsd.kyT) → ∃ qs, NAs H (bs.map fun b => V.ref b.2) qs ∧ Ris qs ∧ ∀ n, n ∈ qs ↔ n ∈ ps := by
  obtain ⟨ks, e1, e2, e3⟩ := nas_keys (K := K) na
  have isn : ∀ p ∈ ks, ∃ n, p.2 = nk n := fun p hp => by
    have : p.2 ∈ ps.map nk := by rw [← e2]; exact List.mem_map.mpr ⟨p, hp, rfl⟩
    obtain ⟨n, _, e⟩ := List.mem_map.mp this
    exact ⟨n, e.symm⟩
  have kl : ks.length = ps.length := by
    have := congrArg List.length e2
    simpa using this
  have enc : ∀ b0 : List Xsd.Kb, (∀ b ∈ b0, (b.2, b.1) ∈ ks) → (b0.map fun b => Xsd.kyT b.1) = (b0.map fun b => unk b.1).map NP := fun b0 h => by
    rw [List.map_map]
    refine List.map_congr_left fun b hb => ?_
    obtain ⟨n, e⟩ := isn _ (h b hb)
    have e : b.1 = nk n := e
    show Xsd.kyT b.1 = NP (unk b.1)
    rw [e]
    rfl
  refine ⟨ks, by rw [← e1]; exact at_, fun p hp => SqT.of (e3 p hp), by omega, fun b0 h => ?_, fun p hp => ?_, fun l0 bs nd mem sub srt => ?_⟩
  · rw [enc b0 h]
    exact ⟨PySem.W.AllAlike.of alike_NP, PySem.W.Sortable.tuples fun b => ⟨_, _, rfl⟩⟩
  · obtain ⟨n, e⟩ := isn p hp
    rw [e, kyT_nk]
    have := depth_NP n
    omega
  · have bn : ∀ b ∈ bs, ∃ n, b.1 = nk n ∧ H b.2 = some (.tup (b.1.map kV)) := fun b hb => by
      obtain ⟨n, e⟩ := isn _ (sub b hb)
      exact ⟨n, e, e3 _ (sub b hb)⟩
    have bnd : (bs.map (·.1)).Nodup := by
      rw [srt]
      exact (List.mergeSort_perm l0 _).nodup_iff.mpr nd
    have so := PySem.W.sortLe_total (PyProof.Rows.listOrd PyProof.Rows.itemOrd) false fun x : List Key => PySem.W.keyToks (Xsd.kyT x)
    have pw : (bs.map (·.1)).Pairwise fun a b => PySem.W.dataLe false Xsd.kyT a b = true := by
      rw [srt]
      exact List.pairwise_mergeSort (fun a b c h1 h2 => so.trans a b c h1 h2) (fun a b => Bool.or_eq_true_iff.mpr (so.total a b)) l0
    have two := List.Pairwise.and pw bnd
    rw [List.pairwise_map] at two
    refine ⟨bs.map fun b => unk b.1, nas_of bn, ?_, fun n => ?_⟩
    · show List.Pairwise _ _
      rw [List.pairwise_map]
      refine List.Pairwise.imp_of_mem (fun {b c} hb hc h => ?_) two
      obtain ⟨n, en, _⟩ := bn b hb
      obtain ⟨m, em, _⟩ := bn c hc
      obtain ⟨h1, h2⟩ := h
      rw [en, em] at h1 h2
      rw [en, em]
      exact nlt_of h1 fun z => h2 (congrArg nk z)
    · have m1 : ∀ k, k ∈ bs.map (·.1) ↔ k ∈ ps.map nk := fun k => by
        rw [srt, (List.mergeSort_perm l0 _).mem_iff, mem, e2]
      constructor
      · intro h
        obtain ⟨b, hb, rfl⟩ := List.mem_map.mp h
        obtain ⟨m, hm, e⟩ := List.mem_map.mp ((m1 b.1).mp (List.mem_map.mpr ⟨b, hb, rfl⟩))
        rw [← e]
        exact hm
      · intro h
        obtain ⟨b, hb, e⟩ := List.mem_map.mp ((m1 (nk n)).mpr (List.mem_map.mpr ⟨n, h, rfl⟩))
        exact List.mem_map.mpr ⟨b, hb, by rw [e]; rfl⟩
/-! ## lists of pairs as data -/
theorem dp_names {K : PySem.W.Frag} {H : Hp} : ∀ {vs : List V} {ps : List Nm}, NAs H vs ps → DpAll K H vs (ps.map NP)
  | _, _, .nil => .nil
  | _, _, .cons h r => by
    obtain ⟨t, rfl, et⟩ := h
    exact .cons (.tup (.of et) (.cons (.str _) (.cons (.str _) .nil))) (dp_names r)
theorem NP_inj {a b : Nm} : NP a = NP b ↔ a = b := by
  constructor
  · intro h
    unfold NP at h
    simp only [PyData.tuple.injEq, List.cons.injEq, PyData.str.injEq, and_true] at h
    exact Prod.ext h.1 h.2
  · exact fun h => by rw [h]
theorem eqv_NP (a b : Nm) : PyData.eqv (NP a) (NP b) = decide (a = b) := by
  unfold NP
  simp only [PyData.eqv, PyData.eqvAll]
  rw [Bool.eq_iff_iff]
  simp [Prod.ext_iff]
theorem eqvAll_NP : ∀ xs ys : List Nm, PyData.eqvAll (xs.map NP) (ys.map NP) = decide (xs = ys)
  | [], [] => by simp [PyData.eqvAll]
  | [], _ :: _ => by simp [PyData.eqvAll]
  | _ :: _, [] => by simp [PyData.eqvAll]
  | x :: xs, y :: ys => by
    rw [List.map_cons, List.map_cons, PyData.eqvAll, eqvAll_NP xs ys, eqv_NP, ← Bool.decide_and]
    exact decide_eq_decide.mpr (by rw [List.cons.injEq])
theorem eqv_names (xs ys : List Nm) : PyData.eqv (.list (xs.map NP)) (.list (ys.map NP)) = decide (xs = ys) := by
  rw [PyData.eqv]
  exact eqvAll_NP xs ys
def Pln (n : Nm) : Prop := (∀ c ∈ n.1.cps.toList, c < 128) ∧ ∀ c ∈ n.2.cps.toList, c < 128
theorem plain_ok {x : Str} (h : ∀ c ∈ x.cps.toList, c < 128) : PyData.strOk x = true := by
  unfold PyData.strOk
  rw [← Array.all_toList, List.all_eq_true]
  intro c hc
  exact decide_eq_true (Nat.lt_of_lt_of_le (h c hc) (by decide))
theorem lay_names : ∀ {ps : List Nm}, (∀ n ∈ ps, Pln n) → PyData.canLayAll0 (ps.map NP) = true
  | [], _ => by simp [PyData.canLayAll0]
  | x :: r, h => by
    obtain ⟨h1, h2⟩ := h x List.mem_cons_self
    simp [NP, PyData.canLayAll0, PyData.canLay0, plain_ok h1, plain_ok h2, lay_names fun y hy => h y (List.mem_cons_of_mem _ hy)]
theorem dep_names : ∀ ps : List Nm, PyData.depthAll (ps.map NP) ≤ 3
  | [] => by simp [PyData.depthAll]
  | x :: r => by
    have := dep_names r
    have := depth_NP x
    simp only [List.map_cons, PyData.depthAll]
    omega
theorem shaped_names {ps : List Nm} (h : ∀ n ∈ ps, Pln n) : SeqAt.shaped (.list (ps.map NP)) = true := by
  unfold SeqAt.shaped
  have h1 : (PyData.list (ps.map NP)).canLay0 = true := by simp only [PyData.canLay0]; exact lay_names h
  have h2 : (PyData.list (ps.map NP)).depth ≤ 64 := by
    simp only [PyData.depth]
    have := dep_names ps
    omega
  rw [h1, decide_eq_true h2]
  rfl
end Xtn
set_option Elab.async false
set_option linter.all false
set_option maxRecDepth 100000
set_option maxHeartbeats 4000000
set_option pp.maxSteps 400
set_option pp.deepTerms false
namespace K20
open PySem PySem.Spec PyProof.Rows L2
open Xk Th Xtn
section
variable {P : Program} {w : World} {K : PySem.W.Frag} {mg : Str → Option Value} {base : Heap} {C CL : Addr}
theorem walk_zipM {a b : Addr} {xs ys : List V} {n : Nat} (l1 : n ≤ xs.length) (hn : n = ys.length) : Walk (RZ.ItzT K a b) n (fun H => SqT K H a xs ∧ SqT K H b ys) (YPair (fun i => xs[i]?) (fun i => ys[i]?)) := by
  refine ⟨fun i H hi s => ?_, fun H s => ⟨xs, ys, s.1, s.2, .inr (by omega)⟩, fun i H v H' hi s y => ?_⟩
  · exact ⟨xs, ys, xs[i]'(by omega), ys[i]'(by omega), s.1, s.2, List.getElem?_eq_getElem (by omega), List.getElem?_eq_getElem (by omega)⟩
  · obtain ⟨T, x, z, h1, h2, h3, h4, h5⟩ := y
    exact ⟨T, x, z, h1, h2, h3, h4 xs s.1, h5 ys s.2⟩
theorem cut1 (xs : List V) : cutV xs (some 1) none = xs.drop 1 := by
  unfold cutV
  have e1 : HT.sIx xs.length 0 (some 1) = min 1 xs.length := HT.sIx_nat xs.length 0 1
  have e2 : HT.sIx xs.length xs.length none = xs.length := rfl
  rw [e1, e2]
  cases xs with
  | nil => rfl
  | cons x r =>
    rw [show min 1 (x :: r).length = 1 by simp]
    exact List.take_of_length_le (by simp)
def nmOf : T → Str × Str
  | .tuple [.str a, .str b] => (a, b)
  | _ => ("", "")
def plD : T → Bool
  | .tuple ds => decide (1 ≤ (ds.length : Int)) && decide ((ds.length : Int) ≤ 8) && (ds.all nmD && risN (ds.map nmOf))
  | _ => false
def cdD (d : T) : Bool := ofT d codes 1 12
def entD (C CL : Addr) : T → Bool
  | .tuple [a, b, c, d, e, g, h] => keyD (.tuple [a, b]) && ((isNone c || cdD c) && ((isNone d || nmD d) && ((isNone e || plD e) && ((isNone g || isOwn C g) && (isNone h || isOwn CL h)))))
  | _ => false
theorem nm_at {K : PySem.W.Frag} {H : Hp} {v : V} {d : T} (h : Dz K H v d) (n : nmD d = true) : Xsp.NA H v (nmOf d) := by
  cases h with
  | @tup a xs ds e r =>
    match xs, ds, r with
    | [], _, .nil => cases n
    | [_], _, .cons _ .nil => cases n
    | _ :: _ :: _ :: r, _, .cons _ (.cons _ (.cons _ _)) => cases n
    | [va, vb], _, .cons (d := p) ha (.cons (d := q) hb .nil) =>
      have n : (ofT p small 2 3 && ntx q) = true := n
      rw [Bool.and_eq_true] at n
      obtain ⟨n1, n2⟩ := n
      cases ha with
      | str x =>
        cases hb with
        | str y => exact ⟨a, rfl, e⟩
        | _ => cases n2
      | _ => cases n1
  | _ => cases n
theorem nms_at {K : PySem.W.Frag} {H : Hp} : ∀ {xs : List V} {ds : List T}, DzAll K H xs ds → ds.all nmD = true → Xsp.NAs H xs (ds.map nmOf)
  | _, _, .nil, _ => .nil
  | _, _, .cons h r, al => by
    rw [List.all_cons, Bool.and_eq_true] at al
    exact .cons (nm_at h al.1) (nms_at r al.2)
def spRis : Sp := fun vs H Q _ => ∃ (p : Addr) (xs : List V) (ps : List (Str × Str)), vs = [.ref p] ∧ H p = some (.tup xs) ∧ Xsp.NAs H xs ps ∧ ps.length ≤ 1000 ∧ ∀ H', L2.Same H H' → Q (.bl (risN ps)) H'
def spPl (K : PySem.W.Frag) : Sp := fun vs H Q _ => ∃ (v : V) (d : T) (cs : List Addr) (n : Nat), vs = [v] ∧ Dz K H v d ∧ ok cs n d ∧ ∀ H', L2.Same H H' → Q (.bl (plD d)) H'
def spIe (K : PySem.W.Frag) (C CL : Addr) : Sp := fun vs H Q _ => ∃ (v : V) (d : T) (n : Nat), vs = [v] ∧ Dz K H v d ∧ ok [C, CL] n d ∧ ∀ H', L2.Same H H' → Q (.bl (entD C CL d)) H'
theorem ok_tx {cs : List Addr} {n : Nat} {d : T} (h : ok cs n d) : Tx d := fun x e => by
  subst e
  exact h
theorem ok_t2 {cs : List Addr} {n : Nat} {d : T} (h : ok cs n d) : T2 d := fun ds e y hy => by
  subst e
  exact ok_tx (oks_mem.mp h.2 y hy)
theorem ent_len {C CL : Addr} : ∀ {ds : List T}, ds.length ≠ 7 → entD C CL (.tuple ds) = false
  | [], _ => rfl
  | [_], _ => rfl
  | [_, _], _ => rfl
  | [_, _, _], _ => rfl
  | [_, _, _, _], _ => rfl
  | [_, _, _, _, _], _ => rfl
  | [_, _, _, _, _, _], _ => rfl
  | [_, _, _, _, _, _, _], h => absurd rfl h
  | _ :: _ :: _ :: _ :: _ :: _ :: _ :: _ :: _, _ => rfl
theorem dz7 {K : PySem.W.Frag} {H : Hp} : ∀ {xs : List V} {ds : List T}, DzAll K H xs ds → ds.length = 7 → ∃ v0 v1 v2 v3 v4 v5 v6 d0 d1 d2 d3 d4 d5 d6, xs = [v0, v1, v2, v3, v4, v5, v6] ∧ ds = [d0, d1, d2, d3, d4, d5, d6] ∧ Dz K H v0 d0 ∧ Dz K H v1 d1 ∧ Dz K H v2 d2 ∧ Dz K H v3 d3 ∧ Dz K H v4 d4 ∧ Dz K H v5 d5 ∧ Dz K H v6 d6
  | _, _, .nil, h => by cases h
  | _, _, .cons _ .nil, h => by cases h
  | _, _, .cons _ (.cons _ .nil), h => by cases h
  | _, _, .cons _ (.cons _ (.cons _ .nil)), h => by cases h
  | _, _, .cons _ (.cons _ (.cons _ (.cons _ .nil))), h => by cases h
  | _, _, .cons _ (.cons _ (.cons _ (.cons _ (.cons _ .nil)))), h => by cases h
  | _, _, .cons _ (.cons _ (.cons _ (.cons _ (.cons _ (.cons _ .nil))))), h => by cases h
  | _, _, .cons h0 (.cons h1 (.cons h2 (.cons h3 (.cons h4 (.cons h5 (.cons h6 .nil)))))), _ => ⟨_, _, _, _, _, _, _, _, _, _, _, _, _, _, rfl, rfl, h0, h1, h2, h3, h4, h5, h6⟩
  | _, _, .cons _ (.cons _ (.cons _ (.cons _ (.cons _ (.cons _ (.cons _ (.cons _ _))))))), h => by simp at h
theorem ret_of {t : TE} {k : Ends} {σ : L2.St} {H : Hp} (h : t σ H k.rt) : tRet t k σ H := h
theorem and_b {ta tb : TE} {σ : L2.St} {H : Hp} {Q : VK} (b : Bool) (a : ∀ Q' : VK, (∀ H', L2.Same H H' → Q' (.bl b) H') → ta σ H Q') (no : b = false → ∀ H', L2.Same H H' → Q (.bl false) H') (yes : b = true → ∀ H', L2.Same H H' → tb σ H' Q) : tAndV ta tb σ H Q :=
  a _ fun H' s => ⟨b, rfl, ite2 (fun c => yes c H' s) (fun c => no (Bool.eq_false_iff.mpr c) H' s)⟩
theorem non_is {K : PySem.W.Frag} {H : Hp} {v : V} {d : T} (h : Dz K H v d) : decide (v = .non) = isNone d := by
  cases h <;> simp [isNone]
theorem or_none {K : PySem.W.Frag} {b : TE} {σ : L2.St} {H : Hp} {Q : VK} {i : Nat} {v : V} {d : T} (e : σ[i]? = some (some v)) (hz : Dz K H v d) (r : T → Bool) (call : ∀ Q' : VK, (∀ H', L2.Same H H' → Q' (.bl (r d)) H') → b σ H Q') (q : ∀ H', L2.Same H H' → Q (.bl (isNone d || r d)) H') : tOrV (tOp (fun x y H Q => y = .non ∧ Q (.bl (decide (x = .non))) H) (tVar i) (tC .non)) b σ H Q := by
  refine ⟨v, e, rfl, _, rfl, ?_⟩
  rw [non_is hz]
  cases c : isNone d with
  | true =>
    have w := q H (Same.refl H)
    rw [c] at w
    exact iteT w
  | false =>
    refine iteF (call _ fun H' s => ?_)
    have w := q H' s
    rw [c] at w
    exact w
theorem ok_ris {f : Addr} {fd : FuncData} (D : Df K mg "are_rising" ["things"] sAreRising f fd) (T : Txt K mg C CL) : FnOk P w K mg base CX0 1 f fd ["things"] spRis := by
  refine D.fn.ok scAreRising (fun vs H Q E h => ?_) (fun cdv A outer s H vs Q E hr h => ?_)
  · obtain ⟨a, xs, ps, rfl, e, na, l1000, q⟩ := h
    rfl
  · obtain ⟨a, xs, ps, rfl, e, na, l1000, q⟩ := h
    refine ⟨_, (pss_one (ps_ret (pe_callB (cr_all (by rfl)) (by rfl) T.all (by decide +kernel) (pa_cons (pe_lc (own := [("one", 1), ("other", 2)]) (g := (gTup K 2 (gCons (gName 1) (gCons (gName 2) gNil)))) (tt := tYes) (by rfl) scAreRising.nd (RZ.pi_zipA (by rfl) T.zip (pa_cons (pv 0) (pa_cons (pe_slice Xtu.sl_tupU (pv 0) (po_some pe_int) po_none) pa_nil))) (blkOk_by (own := [("one", 1), ("other", 2)]) (N := ["things", "one", "other"]) (sc := defScope sAreRising) (by decide +kernel)) (fun _ _ _ _ _ => pg_tup (by rfl) (pgs_cons (pg_name (i := 1) scAreRising.nd rfl (.inl rfl)) (pgs_cons (pg_name (i := 2) scAreRising.nd rfl (.inl rfl)) pgs_nil))) (fun _ _ _ _ _ => pts_nil) (fun _ _ _ _ _ => pe_cmpR (Xsp.op_ltN hr) (pv 1) (pv 2) (nomark _))) pa_nil)))), ?_⟩
    have xl := na.len
    refine ⟨_, rfl, _, rfl, 1, rfl, a, _, rfl, e, fun pz Hz sz ez => ?_⟩
    rw [cut1] at ez
    refine ⟨a, pz, _, _, rfl, .inr ⟨SqT.of (sz _ _ e), SqT.of ez, fun Lz nLz => ?_⟩⟩
    refine lc_it (walk_zipM (K := K) (a := a) (b := pz) (xs := xs) (ys := xs.drop 1) (n := xs.length - 1) (by omega) (by rw [List.length_drop])) (fun i Hi => L2.Same Hz Hi ∧ Hi Lz = some (.lst (((bsN ps).take i).map V.bl))) ⟨same_upd nLz, upd_same⟩ (fun i Hi _ p => ⟨SqT.of (p.1 _ _ (sz _ _ e)), SqT.of (p.1 _ _ ez)⟩) ?_ ?_
    · rintro i v Hi H' hi ⟨sm, hL⟩ ⟨t, x, z, rfl, nt, rfl, ex, ez'⟩
      have sm2 : L2.Same Hz (upd Hi t (.tup [x, z])) := sm.trans (same_upd nt)
      have hL2 : (upd Hi t (.tup [x, z])) Lz = some (.lst (((bsN ps).take i).map V.bl)) := same_upd nt _ _ hL
      replace ex : xs[i]? = some x := ex
      replace ez' : (xs.drop 1)[i]? = some z := ez'
      rw [List.getElem?_drop, Nat.add_comm] at ez'
      have na2 : Xsp.NAs (upd Hi t (.tup [x, z])) xs ps := na.tp fun b ys eb => (sz.trans sm2) _ _ eb
      obtain ⟨p, ep, np⟩ := na2.get ex
      obtain ⟨r, er, nr⟩ := na2.get ez'
      refine ⟨t, _, rfl, SqT.of upd_same, rfl, _, _, rfl, _, _, rfl, rfl, rfl, ?_⟩
      unfold tYes
      refine iteT ⟨_, rfl, _, rfl, p, r, np, nr, _, hL2, ?_, fun c o eb => ?_, ?_⟩
      · rw [List.length_map, List.length_take]
        exact Nat.lt_of_le_of_lt (Nat.le_trans (Nat.min_le_left _ _) (show i ≤ 1000 by omega)) (by decide)
      · rw [upd_ne (ne_of_none eb nLz)]
        exact sm2 _ _ eb
      · rw [upd_same, List.take_add_one, bsN_at ep er, List.map_append]
        rfl
    · rintro He ⟨sm, hL⟩
      have tk : (bsN ps).take (xs.length - 1) = bsN ps := List.take_of_length_le (by unfold bsN; rw [List.length_map, List.length_range]; omega)
      rw [tk] at hL
      refine ⟨Lz, bsN ps, rfl, SqL.of hL, ?_⟩
      exact q He (sz.trans sm)
theorem ok_pl {f : Addr} {fd : FuncData} (D : Df K mg "are_players" ["thing"] sArePlayers f fd) (T : Txt K mg C CL) (cIs : Ca P w K mg base 4 "is_name" ["thing"] (spIsName K)) (cRi : Ca P w K mg base 1 "are_rising" ["things"] spRis) : FnOk P w K mg base CX0 5 f fd ["thing"] (spPl K) := by
  obtain ⟨tMP, gMP⟩ := T.mp
  refine D.fn.ok scArePlayers (fun vs H Q E h => ?_) (fun cdv A outer s H vs Q E hr h => ?_)
  · obtain ⟨v, d, cs, n, rfl, hz, hok, q⟩ := h
    rfl
  · obtain ⟨v, d, cs, n, rfl, hz, hok, q⟩ := h
    refine ⟨_, (pss_cons (ps_if (PW.pt (pw_or (pt_not (pt_val (pe_callB call_isi (by rfl) T.isi (by decide +kernel) (pa_cons (pv 0) (pa_cons (pe_bltn (v := .ty "tuple") (by rfl) T.tuple (by decide +kernel) rfl) pa_nil))))) (pw_or1 (pt_not (pt_chain op_le op_le pe_int (pe_callB call_len_seq (by rfl) T.len PySem.boot_len (pa_cons (pv 0) pa_nil)) (pe_glob (v := .int 8) (by rfl) gMP ⟨_, rfl⟩)))))) (pss_one (ps_ret pe_bl)) pss_nil)
      (pss_one (ps_ret (pe_and (pe_callB (cr_all (by rfl)) (by rfl) T.all (by decide +kernel) (pa_cons (pe_lc (own := [("player", 1)]) (g := gName 1) (tt := tYes) (te := tCall (spIsName K) [] E0 (tCons (tVar 1) tNil)) (by rfl) scArePlayers.nd (pi_tup (pv 0)) (blkOk_by (own := [("player", 1)]) (N := ["thing", "player"]) (sc := defScope sArePlayers) (by decide +kernel)) (fun _ _ _ _ _ => pg_name (i := 1) scArePlayers.nd rfl (.inl rfl)) (fun _ _ _ _ _ => pts_nil) (fun _ _ _ _ _ => pe_ca cIs hr (by decide) (by rfl) (pa_cons (pv 1) pa_nil))) pa_nil)) (pe_one (pe_ca cRi hr (by decide) (by rfl) (pa_cons (pv 0) pa_nil))))))), ?_⟩
    refine ⟨_, rfl, _, _, _, _, isTup d, rfl, .ty _, hz.ty, z_tup hz, _, rfl, ?_⟩
    have qf : plD d = false → ∀ H', L2.Same H H' → Q (.bl false) H' := fun e H' sm => by
      have w := q H' sm
      rw [e] at w
      exact w
    cases hz with
    | @tup t xs ds et ra =>
      have lx := dz_len ra
      refine iteF ⟨_, rfl, t, xs, rfl, .inr (SqT.of et), 1, _, rfl, rfl, _, rfl, ?_⟩
      have kd : plD (.tuple ds) = (decide (1 ≤ (ds.length : Int)) && decide ((ds.length : Int) ≤ 8) && (ds.all nmD && risN (ds.map nmOf))) := rfl
      rw [lx]
      cases c1 : decide (1 ≤ (ds.length : Int)) with
      | false => exact iteF ⟨_, rfl, iteT (qf (by rw [kd, c1]; rfl) _ (Same.refl H))⟩
      | true =>
        refine iteT ⟨_, 8, rfl, rfl, _, rfl, ?_⟩
        cases c2 : decide ((ds.length : Int) ≤ 8) with
        | false => exact iteT (qf (by rw [kd, c1, c2]; rfl) _ (Same.refl H))
        | true =>
          have l8 := of_decide_eq_true c2
          refine iteF ⟨_, rfl, t, rfl, ⟨_, SqT.of et⟩, fun L nL => ?_⟩
          refine lc_tup (K := K) (a := t) (xs := xs) (fun i Hi => L2.Same H Hi ∧ Hi L = some (.lst (((ds.take i).map nmD).map V.bl))) ⟨same_upd nL, upd_same⟩ (fun i Hi _ z => SqT.of (z.1 _ _ et)) ?_ ?_
          · rintro i x Hi hx ⟨sm, hL⟩
            obtain ⟨e1, he, dz⟩ := dz_get ra hx
            have il := (List.getElem?_eq_some_iff.mp he).1
            refine ⟨rfl, ?_⟩
            unfold tYes
            refine iteT ⟨_, rfl, x, e1, rfl, dz.same sm, ok_t2 (oks_mem.mp hok.2 e1 (List.mem_of_getElem? he)), fun H1 s1 => ⟨_, s1 _ _ hL, ?_, fun b o e => ?_, ?_⟩⟩
            · rw [List.length_map, List.length_map, List.length_take]
              exact Nat.lt_of_le_of_lt (show min i ds.length ≤ 1000 by omega) (by decide)
            · rw [upd_ne (ne_of_none e nL)]
              exact s1 _ _ (sm _ _ e)
            · rw [upd_same, List.take_add_one, he, List.map_append, List.map_append]
              rfl
          rintro H1 ⟨s1, hL⟩
          rw [lx, List.take_length] at hL
          refine ⟨L, _, rfl, SqL.of hL, _, rfl, ?_⟩
          have ea : ((ds.map nmD).all id) = ds.all nmD := by rw [List.all_map]; rfl
          rw [ea]
          cases al : ds.all nmD with
          | false => exact iteF (qf (by rw [kd, c1, c2, al]; rfl) _ s1)
          | true =>
            refine iteT ⟨_, rfl, t, xs, ds.map nmOf, rfl, s1 _ _ et, (nms_at ra al).tp fun b zs e => s1 _ _ e, by rw [List.length_map]; omega, fun H2 s2 => ?_⟩
            have w := q H2 (s1.trans s2)
            rw [kd, c1, c2, al] at w
            exact w
    | _ => exact iteT (qf rfl _ (Same.refl H))
theorem ok_ie {f : Addr} {fd : FuncData} (D : Df K mg "is_entry" ["thing"] sIsEntry f fd) (T : Txt K mg C CL) (cKy : Ca P w K mg base 4 "is_key" ["thing"] (spKy K)) (cCd : Ca P w K mg base 2 "is_code" ["thing"] (spCd K)) (cIs : Ca P w K mg base 4 "is_name" ["thing"] (spIsName K)) (cPl : Ca P w K mg base 5 "are_players" ["thing"] (spPl K)) : FnOk P w K mg base CX0 6 f fd ["thing"] (spIe K C CL) := by
  obtain ⟨gF, gf, gl, sf⟩ := T.fd
  obtain ⟨tK, gK⟩ := T.kp
  refine D.fn.ok scIsEntry (fun vs H Q E h => ?_) (fun cdv A outer s H vs Q E hr h => ?_)
  · obtain ⟨v, d, n, rfl, hz, hok, q⟩ := h
    rfl
  · obtain ⟨v, d, n, rfl, hz, hok, q⟩ := h
    refine ⟨_, (pss_cons (ps_if (PW.pt (pw_or (pt_not (pt_val (pe_callB call_isi (by rfl) T.isi (by decide +kernel) (pa_cons (pv 0) (pa_cons (pe_bltn (v := .ty "tuple") (by rfl) T.tuple (by decide +kernel) rfl) pa_nil))))) (pw_or1 (pt_cmpR op_ne (pe_callB call_len_seq (by rfl) T.len PySem.boot_len (pa_cons (pv 0) pa_nil)) (pe_op op_add (pe_glob (v := .int 2) (by rfl) gK ⟨_, rfl⟩) (pe_callB call_len_seq (by rfl) T.len PySem.boot_len (pa_cons (pe_glob (v := .ref gF) (by rfl) gf rfl) pa_nil))) (nomark _))))) (pss_one (ps_ret pe_bl)) pss_nil)
      (pss_cons (ps_asg (pv 0) (pg_tup (by rfl) (pgs_cons (pg_name (i := 1) scIsEntry.nd rfl (.inl rfl)) (pgs_cons (pg_name (i := 2) scIsEntry.nd rfl (.inl rfl)) (pgs_cons (pg_name (i := 3) scIsEntry.nd rfl (.inl rfl)) (pgs_cons (pg_name (i := 4) scIsEntry.nd rfl (.inl rfl)) (pgs_cons (pg_name (i := 5) scIsEntry.nd rfl (.inl rfl)) (pgs_cons (pg_name (i := 6) scIsEntry.nd rfl (.inl rfl)) (pgs_cons (pg_name (i := 7) scIsEntry.nd rfl (.inl rfl)) pgs_nil)))))))))
      (pss_one (ps_ret (pe_and (pe_ca cKy hr (by decide) (by rfl) (pa_cons (pe_tup (pa_cons (pv 1) (pa_cons (pv 2) pa_nil))) pa_nil)) (pe_and (pe_or (pe_cmpR op_isN (pv 3) pe_non (nomark _)) (pe_one (pe_ca cCd hr (by decide) (by rfl) (pa_cons (pv 3) pa_nil)))) (pe_and (pe_or (pe_cmpR op_isN (pv 4) pe_non (nomark _)) (pe_one (pe_ca cIs hr (by decide) (by rfl) (pa_cons (pv 4) pa_nil)))) (pe_and (pe_or (pe_cmpR op_isN (pv 5) pe_non (nomark _)) (pe_one (pe_ca cPl hr (by decide) (by rfl) (pa_cons (pv 5) pa_nil)))) (pe_and (pe_or (pe_cmpR op_isN (pv 6) pe_non (nomark _)) (pe_one (pe_callB call_isi (by rfl) T.isi (by decide +kernel) (pa_cons (pv 6) (pa_cons (pe_glob (v := .ref C) (by rfl) T.mgC rfl) pa_nil))))) (pe_one (pe_or (pe_cmpR op_isN (pv 7) pe_non (nomark _)) (pe_one (pe_callB call_isi (by rfl) T.isi (by decide +kernel) (pa_cons (pv 7) (pa_cons (pe_glob (v := .ref CL) (by rfl) T.mgL rfl) pa_nil))))))))))))))), ?_⟩
    refine ⟨_, rfl, _, _, _, _, isTup d, rfl, .ty _, hz.ty, z_tup hz, _, rfl, ?_⟩
    have qf : entD C CL d = false → ∀ H', L2.Same H H' → Q (.bl false) H' := fun e H' sm => by
      have w := q H' sm
      rw [e] at w
      exact w
    cases hz with
    | @tup t xs ds et ra =>
      have lx := dz_len ra
      refine iteF ⟨_, rfl, t, xs, rfl, .inr (SqT.of et), gF, flds.map V.str, rfl, .inr (sf H), 2, 5, rfl, rfl, rfl, _, rfl, ite2 (fun c => qf (ent_len fun z => ?_) _ (Same.refl H)) (fun c => ?_)⟩
      · rw [lx, z] at c
        exact absurd c (by decide)
      have l7 : ds.length = 7 := by
        have c2 : V.int ((xs.length : Nat) : Int) = V.int (2 + 5) := by
          by_cases h : V.int ((xs.length : Nat) : Int) = V.int (2 + 5)
          · exact h
          · exact absurd (by rw [decide_eq_false h]; rfl) c
        have := V.int.inj c2
        omega
      obtain ⟨va, vb, vc, vd, ve, vg, vh, a, b, cc, dd, e, g, h, rfl, rfl, ha, hb, hc, hd, he, hg, hh⟩ := dz7 ra l7
      have o := oks_mem.mp hok.2
      have kd : entD C CL (.tuple [a, b, cc, dd, e, g, h]) = (keyD (.tuple [a, b]) && ((isNone cc || cdD cc) && ((isNone dd || nmD dd) && ((isNone e || plD e) && ((isNone g || isOwn C g) && (isNone h || isOwn CL h)))))) := rfl
      rw [kd] at q qf
      refine ⟨_, rfl, t, _, rfl, SqT.of et, rfl, _, _, rfl, _, _, rfl, _, _, rfl, _, _, rfl, _, _, rfl, _, _, rfl, _, _, rfl, rfl, ?_⟩
      dsimp only
      refine ret_of ?_
      refine and_b (keyD (.tuple [a, b])) (fun Q' q' => ⟨_, rfl, _, rfl, (by show 2 ≤ sizeLine; decide), fun p np => ⟨.ref p, .tuple [a, b], rfl, .tup upd_same (.cons (ha.same (same_upd np)) (.cons (hb.same (same_upd np)) .nil)), fun ds ed y hy x ex => ?_, fun H1 s1 => q' _ ((same_upd np).trans s1)⟩⟩) (fun z H1 s1 => qf (by rw [z]; rfl) _ s1) (fun k1 H1 s1 => ?_)
      · cases ed
        refine (ok_tx (o y ?_) x ex).1
        simp only [List.mem_cons, List.not_mem_nil, or_false] at hy ⊢
        rcases hy with z | z
        · exact .inl z
        · exact .inr (.inl z)
      rw [k1, Bool.true_and] at q qf
      refine and_b (isNone cc || cdD cc) (fun Q' q' => or_none (i := 3) rfl (hc.same s1) cdD (fun Q2 q2 => ⟨_, rfl, vc, cc, rfl, hc.same s1, fun x ex => (ok_tx (o cc (by simp)) x ex).1, q2⟩) q') (fun z H2 s2 => qf (by rw [z]; rfl) _ (s1.trans s2)) (fun k2 H2 s2' => ?_)
      have s2 := s1.trans s2'
      rw [k2, Bool.true_and] at q qf
      refine and_b (isNone dd || nmD dd) (fun Q' q' => or_none (i := 4) rfl (hd.same s2) nmD (fun Q2 q2 => ⟨_, rfl, vd, dd, rfl, hd.same s2, ok_t2 (o dd (by simp)), q2⟩) q') (fun z H3 s3 => qf (by rw [z]; rfl) _ (s2.trans s3)) (fun k3 H3 s3' => ?_)
      have s3 := s2.trans s3'
      rw [k3, Bool.true_and] at q qf
      refine and_b (isNone e || plD e) (fun Q' q' => or_none (i := 5) rfl (he.same s3) plD (fun Q2 q2 => ⟨_, rfl, ve, e, [C, CL], n, rfl, he.same s3, o e (by simp), q2⟩) q') (fun z H4 s4 => qf (by rw [z]; rfl) _ (s3.trans s4)) (fun k4 H4 s4' => ?_)
      have s4 := s3.trans s4'
      rw [k4, Bool.true_and] at q qf
      have ow : ∀ y ∈ [a, b, cc, dd, e, g, h], ∀ z, y = .own z → z ∈ [C, CL] := fun y hy z ez => by
        have w := o y hy
        rw [ez] at w
        exact w
      refine and_b (isNone g || isOwn C g) (fun Q' q' => or_none (i := 6) rfl (hg.same s4) (isOwn C) (fun Q2 q2 => ⟨_, rfl, _, _, _, _, isOwn C g, rfl, .own C, (hg.same s4).ty, z_own T.iD g (ow g (by simp)), q2 _ (Same.refl _)⟩) q') (fun z H5 s5 => qf (by rw [z]; rfl) _ (s4.trans s5)) (fun k5 H5 s5' => ?_)
      have s5 := s4.trans s5'
      rw [k5, Bool.true_and] at q qf
      exact or_none (i := 7) rfl (hh.same s5) (isOwn CL) (fun Q2 q2 => ⟨_, rfl, _, _, _, _, isOwn CL h, rfl, .own CL, (hh.same s5).ty, z_own T.iL h (ow h (by simp)), q2 _ (Same.refl _)⟩) (fun H6 s6 => q _ (s5.trans s6))
    | _ => exact iteT (qf rfl _ (Same.refl H))
end
end K20
set_option Elab.async false
set_option linter.all false
set_option maxRecDepth 100000
set_option maxHeartbeats 4000000
set_option pp.maxSteps 400
set_option pp.deepTerms false
namespace K20
open PySem PySem.Spec PyProof.Rows L2
open Xk Th Xtn
section
variable {P : Program} {w : World} {K : PySem.W.Frag} {mg : Str → Option Value} {base : Heap} {C CL : Addr}
theorem in23 (n : Nat) : inV (V.int (n : Int)) [.int 2, .int 3] = (decide ((2 : Int) ≤ n) && decide ((n : Int) ≤ 3)) := by
  rw [Bool.eq_iff_iff]
  simp [inV, eqV]
  omega
theorem sk_comm (y : Str) : sk y = decide (V.str (Txt.stripChars y " ") = V.str y) := by
  unfold sk
  exact decide_eq_decide.mpr eq_comm
def low (c : Nat) : Nat := if 65 ≤ c ∧ c ≤ 90 then c + 32 else c
theorem low_ok : ∀ c : Nat, c < 128 → Txt.lower ⟨#[c]⟩ = ⟨#[low c]⟩ := by decide +kernel
def wide : Str := "abcdefghijklmnopqrstuvwxyz0123456789'-. "
theorem low_in : ∀ c : Nat, c < 128 → decide (low c ∈ wide.cps.toList) = decide (c ∈ signs.cps.toList) := by decide +kernel
theorem ok_lname {f : Addr} {fd : FuncData} (D : Df K mg "_law_is_name" ["_law_thing"] sLawIsName f fd) (T : Txt K mg C CL) : FnOk P w K mg base CX0 1 f fd ["_law_thing"] (spIsName K) := by
  refine D.fn.ok scLawIsName (fun vs H Q E h => ?_) (fun cdv A outer s H vs Q E hr h => ?_)
  · obtain ⟨v, d, rfl, hz, t2, q⟩ := h
    rfl
  · obtain ⟨v, d, rfl, hz, t2, q⟩ := h
    refine ⟨_, (pss_cons (ps_if (PW.pt (pw_or (pt_not (pt_val (pe_callB call_isi (by rfl) T.isi (by decide +kernel) (pa_cons (pv 0) (pa_cons (pe_bltn (v := .ty "tuple") (by rfl) T.tuple (by decide +kernel) rfl) pa_nil))))) (pw_or (pt_cmpR op_ne (pe_callB call_len_seq (by rfl) T.len PySem.boot_len (pa_cons (pv 0) pa_nil)) pe_int (nomark _)) (pw_or1 (pt_not (pt_val (pe_callB (cr_all (by rfl)) (by rfl) T.all (by decide +kernel) (pa_cons (pe_lc (own := [("_law_part", 1)]) (g := gName 1) (tt := tYes) (te := tCB (rIsi K) (tCons (tVar 1) (tCons (tC (V.ty "str")) tNil))) (by rfl) scLawIsName.nd (pi_tup (pv 0)) (blkOk_by (own := [("_law_part", 1)]) (N := ["_law_thing", "_law_part", "_law_sign"]) (sc := defScope sLawIsName) (by decide +kernel)) (fun _ _ _ _ _ => pg_name (i := 1) scLawIsName.nd rfl (.inl rfl)) (fun _ _ _ _ _ => pts_nil) (fun _ _ _ _ _ => pe_callB call_isi (by rfl) T.isi (by decide +kernel) (pa_cons (pv 1) (pa_cons (pe_bltn (v := .ty "str") (by rfl) T.str (by decide +kernel) rfl) pa_nil)))) pa_nil)))))))) (pss_one (ps_ret pe_bl)) pss_nil)
      (pss_cons (ps_if (PW.pt (pw_or (pt_cmpR op_notIn_seq (pe_callB call_len_str (by rfl) T.len PySem.boot_len (pa_cons (pe_ix ix_tup (pv 0) pe_int (fun _ _ => rfl)) pa_nil)) (pe_tup (pa_cons pe_int (pa_cons pe_int pa_nil))) (by rfl)) (pw_or1 (pt_not (pt_val (pe_callB (cr_all (by rfl)) (by rfl) T.all (by decide +kernel) (pa_cons (pe_lc (own := [("_law_sign", 2)]) (g := gName 2) (tt := tYes) (by rfl) scLawIsName.nd (pi_str (pe_ix ix_tup (pv 0) pe_int (fun _ _ => rfl))) (blkOk_by (own := [("_law_sign", 2)]) (N := ["_law_thing", "_law_part", "_law_sign"]) (sc := defScope sLawIsName) (by decide +kernel)) (fun _ _ _ _ _ => pg_name (i := 2) scLawIsName.nd rfl (.inl rfl)) (fun _ _ _ _ _ => pts_nil) (fun _ _ _ _ _ => pe_cmpR op_in_sign (pv 2) pe_str (by rfl))) pa_nil))))))) (pss_one (ps_ret pe_bl)) pss_nil)
      (pss_cons (ps_if (PW.pt (pw_or (pt_not (pt_chain op_le op_le pe_int (pe_callB call_len_str (by rfl) T.len PySem.boot_len (pa_cons (pe_ix ix_tup (pv 0) pe_int (fun _ _ => rfl)) pa_nil)) pe_int)) (pw_or (pt_cmpR op_ne (pe_m1 F.slot_str_strip F.type_str_strip mt_stripChars (pe_ix ix_tup (pv 0) pe_int (fun _ _ => rfl)) pe_str) (pe_ix ix_tup (pv 0) pe_int (fun _ _ => rfl)) (nomark _)) (pw_or1 (pt_cmpR op_in_str pe_str (pe_ix ix_tup (pv 0) pe_int (fun _ _ => rfl)) (by rfl)))))) (pss_one (ps_ret pe_bl)) pss_nil)
      (pss_one (ps_ret (pe_callB (cr_all (by rfl)) (by rfl) T.all (by decide +kernel) (pa_cons (pe_lc (own := [("_law_sign", 2)]) (g := gName 2) (tt := tYes) (by rfl) scLawIsName.nd (pi_str (pe_ix ix_tup (pv 0) pe_int (fun _ _ => rfl))) (blkOk_by (own := [("_law_sign", 2)]) (N := ["_law_thing", "_law_part", "_law_sign"]) (sc := defScope sLawIsName) (by decide +kernel)) (fun _ _ _ _ _ => pg_name (i := 2) scLawIsName.nd rfl (.inl rfl)) (fun _ _ _ _ _ => pts_nil) (fun _ _ _ _ _ => pe_cmpR op_in_sign (pe_m0 F.slot_str_lower F.type_str_lower mt_lower (pv 2)) pe_str (by rfl))) pa_nil))))))), ?_⟩
    refine ⟨_, rfl, _, _, _, _, isTup d, rfl, .ty _, hz.ty, z_tup hz, _, rfl, ?_⟩
    have qf : nmD d = false → ∀ H', L2.Same H H' → Q (.bl false) H' := fun e H' sm => by
      have w := q H' sm
      rw [e] at w
      exact w
    cases hz with
    | @tup t xs ds et ra =>
      refine iteF ⟨_, rfl, t, xs, rfl, .inr (SqT.of et), rfl, _, rfl, ?_⟩
      match xs, ds, ra with
      | [], _, .nil => exact iteT (qf rfl _ (Same.refl H))
      | [_], _, .cons _ .nil => exact iteT (qf rfl _ (Same.refl H))
      | _ :: _ :: _ :: r, _, .cons _ (.cons _ (.cons _ _)) => exact ite2 (fun _ => qf rfl _ (Same.refl H)) (fun e => absurd rfl (len3 e))
      | [va, vb], _, .cons (d := a) ha (.cons (d := b) hb .nil) =>
        obtain ⟨ta, tb⟩ : Tx a ∧ Tx b := ⟨t2 _ rfl a (by simp), t2 _ rfl b (by simp)⟩
        refine iteF ⟨_, rfl, t, rfl, ⟨_, SqT.of et⟩, fun L nL => ?_⟩
        have sL := same_upd nL (o := .lst [])
        refine lc_tup (K := K) (a := t) (xs := [va, vb]) (fun i Hi => ∃ bs : List Bool, bs = ([a, b].take i).map isStr ∧ Hi L = some (.lst (bs.map V.bl)) ∧ L2.Same H Hi) ⟨[], rfl, upd_same, sL⟩ (fun i Hi _ pv => SqT.of (pv.choose_spec.2.2 _ _ et)) ?_ ?_
        · rintro i x Hi ec ⟨bs, eb, eL, sm⟩
          obtain ⟨d', ed, zd⟩ : ∃ d', [a, b][i]? = some d' ∧ Dz K Hi x d' := by
            match i, ec with
            | 0, ec => cases ec; exact ⟨a, rfl, ha.same sm⟩
            | 1, ec => cases ec; exact ⟨b, rfl, hb.same sm⟩
          refine ⟨rfl, ?_⟩
          unfold tYes
          refine iteT ⟨_, rfl, _, _, _, _, isStr d', rfl, .ty _, zd.ty, z_str zd, ?_⟩
          refine ⟨_, eL, ?_, bs ++ [isStr d'], ?_, ?_, fun b o e => ?_⟩
          · rw [List.length_map, eb, List.length_map, List.length_take]
            exact Nat.lt_of_le_of_lt (show min i [a, b].length ≤ 2 from Nat.min_le_right _ _) (by decide)
          · rw [List.take_succ, ed, List.map_append, eb]
            rfl
          · rw [upd_same, List.map_append]
            rfl
          · rw [upd_ne (ne_of_none e nL)]
            exact sm _ _ e
        rintro H1 ⟨bs, eb, eL, s1⟩
        refine ⟨L, _, rfl, SqL.of eL, _, rfl, ?_⟩
        rw [eb]
        have et1 := s1 _ _ et
        cases cab : (([a, b].take [va, vb].length).map isStr).all id with
        | false =>
          refine iteT (qf ?_ _ s1)
          show (ofT a small 2 3 && ntx b) = false
          cases a with
          | str x =>
            cases b with
            | str y => cases cab
            | _ => exact Bool.and_false _
          | _ => rfl
        | true =>
          obtain ⟨x, rfl⟩ : ∃ x, a = .str x := by
            cases a with
            | str x => exact ⟨x, rfl⟩
            | _ => cases cab
          obtain ⟨y, rfl⟩ : ∃ y, b = .str y := by
            cases b with
            | str y => exact ⟨y, rfl⟩
            | _ => cases cab
          cases ha
          cases hb
          obtain ⟨lx, ax⟩ := ta x rfl
          obtain ⟨ly, ay⟩ := tb y rfl
          have fx : x.length ≤ sizeLine := Nat.le_trans lx (by decide)
          have fy : y.length ≤ sizeLine := Nat.le_trans ly (by decide)
          have en : nmD (.tuple [.str x, .str y]) = ((decide ((2 : Int) ≤ x.length) && decide ((x.length : Int) ≤ 3) && chk x small) && ((decide ((1 : Int) ≤ y.length) && decide ((y.length : Int) ≤ 40) && chk y signs) && (sk y && !db y))) := rfl
          refine iteF ⟨_, rfl, t, _, 0, .str x, rfl, rfl, SqT.of et1, atI_nat (j := 0) rfl, x, rfl, fx, (by show 2 ≤ sizeLine; decide), fun tp ntp => ?_⟩
          have s2 := s1.trans (same_upd ntp (o := .tup [.int 2, .int 3]))
          have et2 := s2 _ _ et
          refine ⟨tp, _, rfl, .inr (SqT.of upd_same), rfl, rfl, _, rfl, ?_⟩
          generalize upd H1 tp (.tup [.int 2, .int 3]) = H2 at s2 et2 ⊢
          have e23 : inV (V.int (x.length : Int)) [.int 2, .int 3] = (decide ((2 : Int) ≤ x.length) && decide ((x.length : Int) ≤ 3)) := in23 _
          refine ite2 (fun c => ?_) (fun c => ?_)
          · refine qf ?_ _ s2
            have z : (!inV (V.int (x.length : Int)) [.int 2, .int 3]) = true := c
            rw [e23] at z
            rw [en, (Bool.not_eq_true' _).mp z]
            rfl
          have z : ¬ (!inV (V.int (x.length : Int)) [.int 2, .int 3]) = true := c
          rw [e23] at z
          have z2 : (decide ((2 : Int) ≤ x.length) && decide ((x.length : Int) ≤ 3)) = true := by simpa using z
          rw [z2, Bool.true_and] at en
          refine ⟨_, rfl, t, _, 0, .str x, rfl, rfl, SqT.of et2, atI_nat (j := 0) rfl, x, rfl, fun L2' nL2 => ?_⟩
          have nH := same_upd nL2 (o := .lst [])
          refine lc_it (walk_str (z := x)) (fun i Hi => ∃ bs : List Bool, bs = (x.cps.toList.take i).map (fun c => decide (c ∈ small.cps.toList)) ∧ Hi L2' = some (.lst (bs.map V.bl)) ∧ L2.Same H2 Hi) ⟨[], rfl, upd_same, nH⟩ (fun _ _ _ _ => trivial) ?_ ?_
          · rintro i v Hi Hi' _ ⟨bs, eb, eL, sm⟩ ⟨rfl, c, ec, rfl⟩
            rw [← Array.getElem?_toList] at ec
            refine ⟨rfl, ?_⟩
            unfold tYes
            have il : i < x.cps.toList.length := (List.getElem?_eq_some_iff.mp ec).1
            have mc : c ∈ x.cps.toList := List.mem_of_getElem? ec
            refine iteT ⟨_, rfl, c, small, rfl, rfl, ?_⟩
            refine ⟨_, eL, ?_, bs ++ [decide (c ∈ small.cps.toList)], ?_, ?_, fun b o e => ?_⟩
            · rw [List.length_map, eb, List.length_map, List.length_take]
              refine Nat.lt_of_le_of_lt (show min i x.cps.toList.length ≤ 2000 from ?_) (by decide)
              rw [← len_cps]
              omega
            · rw [List.take_succ, ec, List.map_append, eb]
              rfl
            · rw [upd_same, List.map_append]
              rfl
            · rw [upd_ne (ne_of_none e nL2)]
              exact sm _ _ e
          rintro H3 ⟨bs, eb, eL, s3⟩
          rw [List.take_of_length_le (by rw [Array.length_toList]; exact Nat.le_refl _)] at eb
          refine ⟨L2', _, rfl, SqL.of eL, ?_⟩
          rw [eb, List.all_map]
          have s23 := s2.trans s3
          have et3 := s23 _ _ et
          refine ⟨_, rfl, ?_⟩
          cases k5 : x.cps.toList.all ((fun b => id b) ∘ fun c => decide (c ∈ small.cps.toList)) with
          | false => exact iteT (qf (by rw [en, show chk x small = false from k5]; rfl) _ s23)
          | true =>
            rw [show chk x small = true from k5, Bool.true_and] at en
            refine iteF ⟨_, rfl, t, _, 1, .str y, rfl, rfl, SqT.of et3, atI_nat (j := 1) rfl, y, rfl, fy, 1, _, rfl, rfl, _, rfl, ?_⟩
            refine ite2 (fun c1 => ?_) (fun c1 => ?_)
            · refine ⟨_, 40, rfl, rfl, _, rfl, ite2 (fun c2 => ?_) (fun c2 => ?_)⟩
              · refine qf ?_ _ s23
                have d2 : decide ((y.length : Int) ≤ 40) = false := (Bool.not_eq_true' _).mp c2
                rw [en, d2]
                simp
              · have d1 : decide ((1 : Int) ≤ y.length) = true := c1
                have d2 : decide ((y.length : Int) ≤ 40) = true := by simpa using c2
                rw [d1, d2, Bool.true_and, Bool.true_and] at en
                refine ⟨_, rfl, t, _, 1, .str y, rfl, rfl, SqT.of et3, atI_nat (j := 1) rfl, ⟨_, rfl⟩, y, " ", rfl, rfl, fy, _, rfl, t, _, 1, .str y, rfl, rfl, SqT.of et3, atI_nat (j := 1) rfl, rfl, _, rfl, ite2 (fun c3 => ?_) (fun c3 => ?_)⟩
                · refine qf ?_ _ s23
                  have k3 : sk y = false := by
                    rw [sk_comm]
                    exact (Bool.not_eq_true' _).mp c3
                  rw [en, k3]
                  simp
                · have k3 : sk y = true := by
                    rw [sk_comm]
                    simpa using c3
                  refine ⟨_, rfl, t, _, 1, .str y, rfl, rfl, SqT.of et3, atI_nat (j := 1) rfl, "  ", y, rfl, rfl, _, rfl, ite2 (fun c4 => ?_) (fun c4 => ?_)⟩
                  · refine qf ?_ _ s23
                    have k4 : db y = true := c4
                    rw [en, k4]
                    simp
                  · have k4 : db y = false := Bool.eq_false_iff.mpr c4
                    rw [k3, k4] at en
                    have en' : nmD (.tuple [.str x, .str y]) = chk y signs := by rw [en]; simp
                    clear eL eb
                    refine ⟨_, rfl, t, _, 1, .str y, rfl, rfl, SqT.of et3, atI_nat (j := 1) rfl, y, rfl, fun L2' nL2 => ?_⟩
                    have nH := same_upd nL2 (o := .lst [])
                    refine lc_it (walk_str (z := y)) (fun i Hi => ∃ bs : List Bool, bs = (y.cps.toList.take i).map (fun c => decide (c ∈ signs.cps.toList)) ∧ Hi L2' = some (.lst (bs.map V.bl)) ∧ L2.Same H3 Hi) ⟨[], rfl, upd_same, nH⟩ (fun _ _ _ _ => trivial) ?_ ?_
                    · rintro i v Hi Hi' _ ⟨bs, eb, eL, sm⟩ ⟨rfl, c, ec, rfl⟩
                      rw [← Array.getElem?_toList] at ec
                      refine ⟨rfl, ?_⟩
                      unfold tYes
                      have il : i < y.cps.toList.length := (List.getElem?_eq_some_iff.mp ec).1
                      have mc : c ∈ y.cps.toList := List.mem_of_getElem? ec
                      have c7 := ay c mc
                      refine iteT ⟨_, rfl, ⟨_, rfl⟩, _, rfl, rfl, (by show 1 ≤ 5592405; decide), low c, wide, by rw [low_ok c c7], rfl, ?_⟩
                      rw [low_in c c7]
                      refine ⟨_, eL, ?_, bs ++ [decide (c ∈ signs.cps.toList)], ?_, ?_, fun b o e => ?_⟩
                      · rw [List.length_map, eb, List.length_map, List.length_take]
                        refine Nat.lt_of_le_of_lt (show min i y.cps.toList.length ≤ 2000 from ?_) (by decide)
                        rw [← len_cps]
                        omega
                      · rw [List.take_succ, ec, List.map_append, eb]
                        rfl
                      · rw [upd_same, List.map_append]
                        rfl
                      · rw [upd_ne (ne_of_none e nL2)]
                        exact sm _ _ e
                    rintro H4 ⟨bs, eb, eL, s4⟩
                    rw [List.take_of_length_le (by rw [Array.length_toList]; exact Nat.le_refl _)] at eb
                    refine ⟨L2', _, rfl, SqL.of eL, ?_⟩
                    rw [eb, List.all_map]
                    have w := q H4 (s23.trans s4)
                    rw [en'] at w
                    exact w
            · refine ⟨_, rfl, qf ?_ _ s23⟩
              have d1 : decide ((1 : Int) ≤ y.length) = false := Bool.eq_false_iff.mpr c1
              rw [en, d1]
              simp
    | _ => exact iteT (qf rfl _ (Same.refl H))
def spFo : Sp := fun vs H Q _ => ∃ (t : Addr) (xs : List V) (k : Str) (i : Nat) (v : V), vs = [.ref t, .str k] ∧ H t = some (.tup xs) ∧ flds[i]? = some k ∧ (∀ m, m < i → flds[m]? ≠ some k) ∧ xs[2 + i]? = some v ∧ Q v H
def rIx (K : PySem.W.Frag) : V → List V → Hp → VK → Prop := fun x xs H Q => ∃ p, ∃ ys : List Str, ∃ z j, x = .ref p ∧ xs = [.str z] ∧ SqT K H p (ys.map V.str) ∧ ys[j]? = some z ∧ (∀ m, m < j → ys[m]? ≠ some z) ∧ Q (.int (j : Nat)) H
theorem ok_fo {f : Addr} {fd : FuncData} (D : Df K mg "field_of" ["entry", "field"] sFieldOf f fd) (T : Txt K mg C CL) : FnOk P w K mg base CX0 1 f fd ["entry", "field"] spFo := by
  obtain ⟨gF, gf, gl, sf⟩ := T.fd
  obtain ⟨tK, gK⟩ := T.kp
  refine D.fn.ok scFieldOf (fun vs H Q E h => ?_) (fun cdv A outer s H vs Q E hr h => ?_)
  · obtain ⟨t, xs, k, i, v, rfl, et, ek, em, ev, q⟩ := h
    rfl
  · obtain ⟨t, xs, k, i, v, rfl, et, ek, em, ev, q⟩ := h
    refine ⟨_, (pss_one (ps_ret (pe_ix ix_tup (pv 0) (pe_op op_add (pe_glob (v := .int 2) (by rfl) gK ⟨_, rfl⟩) (pe_bm PySem.F.plainAttrs_tuple PySem.F.slot_tuple_index PySem.F.type_tuple_index mt_tup_index (pe_glob (v := .ref gF) (by rfl) gf rfl) (pa_cons (pv 1) pa_nil))) (fun _ _ => rfl)))), ?_⟩
    refine ⟨_, rfl, .inr (.inl ⟨rfl, gl⟩), _, rfl, gF, flds, k, i, rfl, rfl, sf H, ek, em, 2, (i : Int), rfl, rfl, t, _, 2 + (i : Int), v, rfl, rfl, SqT.of et, ?_, q⟩
    have ee : 2 + (i : Int) = ((2 + i : Nat) : Int) := by push_cast; rfl
    rw [ee]
    exact atI_nat ev
end
end K20
set_option Elab.async false
set_option linter.all false
set_option maxRecDepth 100000
set_option maxHeartbeats 4000000
set_option pp.maxSteps 400
set_option pp.deepTerms false
namespace K20
open PySem PySem.Spec PyProof.Rows L2
open Xk Th Xtn
section
variable {P : Program} {w : World} {K : PySem.W.Frag} {mg : Str → Option Value} {base : Heap} {C CL : Addr}
section
variable {X : Cx}
theorem cr_listT : CallR X (.type "list") (fun xs H Q => ∃ p ys, xs = [.ref p] ∧ SqT X.K H p ys ∧ ∀ l, H l = none → l ≠ sysModules → Q (.ref l) (upd H l (.lst ys))) := by
  intro pins s σ H xs us Q I r h
  obtain ⟨p, ys, rfl, hq, q⟩ := h
  obtain ⟨u, rfl, rx⟩ := vals1 r; cases rx
  obtain ⟨its, r', ⟨o, ho, hc, n, hd⟩, hz⟩ := I.tuple hq
  have hlen := r'.length
  exact call_list_seq p (.inr rfl) ho hc hd (fun h' c' kp e => ⟨.ref s.heap.objs.size, _, I.laid (t' := s.toks) kp (Nat.le_refl _) (show ObjOk X.prog X.w _ h' _ (.lst ys) from ⟨hz, its, c', r', e⟩), rfl, q _ (I.hok.fresh (Nat.le_refl _)) (Nat.ne_of_gt I.big)⟩) (by simp only [List.size_toArray]; omega)
end
theorem alpha_small : ∀ c : Nat, c < 128 → (Unicode.isAlpha c && !(Unicode.isUpper c || Unicode.isTitle c)) = decide (c ∈ small.cps.toList) := by decide +kernel
theorem small_lower : ∀ c : Nat, c < 128 → c ∈ small.cps.toList → Unicode.isLower c = true := by decide +kernel
theorem word_chk {x : Str} (h : Asc7 x) (l : 1 ≤ x.length) : (Txt.isalpha x && Txt.islower x) = chk x small := by
  unfold Txt.isalpha Txt.islower chk
  have l0 : decide (x.length > 0) = true := decide_eq_true l
  rw [l0, Bool.true_and, ← Array.all_toList, ← Array.any_toList, ← Array.any_toList, Bool.eq_iff_iff]
  simp only [Bool.and_eq_true, List.all_eq_true, List.any_eq_true, Bool.not_eq_true', List.any_eq_false, decide_eq_true_eq]
  constructor
  · rintro ⟨h1, h2, h3⟩ c hc
    have w := alpha_small c (h c hc)
    rw [h1 c hc, Bool.eq_false_iff.mpr (h3 c hc)] at w
    exact of_decide_eq_true w.symm
  · intro k
    have al : ∀ c ∈ x.cps.toList, Unicode.isAlpha c = true ∧ (Unicode.isUpper c || Unicode.isTitle c) = false := fun c hc => by
      have w := alpha_small c (h c hc)
      rw [decide_eq_true (k c hc), Bool.and_eq_true, Bool.not_eq_true'] at w
      exact w
    have ne : x.cps.toList ≠ [] := fun z => by
      rw [len_cps, z] at l
      simp at l
    obtain ⟨c, hc⟩ := List.exists_mem_of_ne_nil _ ne
    exact ⟨fun c hc => (al c hc).1, ⟨c, hc, small_lower c (h c hc) (k c hc)⟩, fun c hc z => by rw [(al c hc).2] at z; cases z⟩
theorem pln_of {cs : List Addr} {n : Nat} {d : T} (h : nmD d = true) (o : ok cs n d) : Pln (nmOf d) := by
  have t2 := ok_t2 o
  match d, h with
  | .tuple [a, b], h =>
    have h : (ofT a small 2 3 && ntx b) = true := h
    rw [Bool.and_eq_true] at h
    obtain ⟨x, rfl⟩ := ofT_str h.1
    have h2 := h.2
    cases b with
    | str y => exact ⟨(t2 _ rfl (.str x) (by simp) x rfl).2, (t2 _ rfl (.str y) (by simp) y rfl).2⟩
    | _ => cases h2
def spLie (K : PySem.W.Frag) (C CL : Addr) : Sp := spIe K C CL
theorem ok_lie {f : Addr} {fd : FuncData} (D : Df K mg "_law_is_entry" ["_law_thing"] sLawIsEntry f fd) (T : Txt K mg C CL) (cLn : Ca P w K mg base 1 "_law_is_name" ["_law_thing"] (spIsName K)) : FnOk P w K mg base CX0 3 f fd ["_law_thing"] (spLie K C CL) := by
  refine D.fn.ok scLawIsEntry (fun vs H Q E h => ?_) (fun cdv A outer s H vs Q E hr h => ?_)
  · obtain ⟨v, d, n, rfl, hz, hok, q⟩ := h
    rfl
  · obtain ⟨v, d, n, rfl, hz, hok, q⟩ := h
    refine ⟨_, (pss_cons (ps_if (PW.pt (pw_or (pt_not (pt_val (pe_callB call_isi (by rfl) T.isi (by decide +kernel) (pa_cons (pv 0) (pa_cons (pe_bltn (v := .ty "tuple") (by rfl) T.tuple (by decide +kernel) rfl) pa_nil))))) (pw_or1 (pt_cmpR op_ne (pe_callB call_len_seq (by rfl) T.len PySem.boot_len (pa_cons (pv 0) pa_nil)) pe_int (nomark _))))) (pss_one (ps_ret pe_bl)) pss_nil)
      (pss_cons (ps_asg (pv 0) (pg_tup (by rfl) (pgs_cons (pg_name (i := 1) scLawIsEntry.nd rfl (.inl rfl)) (pgs_cons (pg_name (i := 2) scLawIsEntry.nd rfl (.inl rfl)) (pgs_cons (pg_name (i := 3) scLawIsEntry.nd rfl (.inl rfl)) (pgs_cons (pg_name (i := 4) scLawIsEntry.nd rfl (.inl rfl)) (pgs_cons (pg_name (i := 5) scLawIsEntry.nd rfl (.inl rfl)) (pgs_cons (pg_name (i := 6) scLawIsEntry.nd rfl (.inl rfl)) (pgs_cons (pg_name (i := 7) scLawIsEntry.nd rfl (.inl rfl)) pgs_nil)))))))))
      (pss_cons (ps_if (PW.pt (pw_or (pt_not (pt_val (pe_callB call_isi (by rfl) T.isi (by decide +kernel) (pa_cons (pv 1) (pa_cons (pe_bltn (v := .ty "str") (by rfl) T.str (by decide +kernel) rfl) pa_nil))))) (pw_or (pt_not (pt_chain op_le op_le pe_int (pe_callB call_len_str (by rfl) T.len PySem.boot_len (pa_cons (pv 1) pa_nil)) pe_int)) (pw_or (pt_not (pt_val (pe_m0 F.slot_str_isalpha F.type_str_isalpha mt_isalpha (pv 1)))) (pw_or1 (pt_not (pt_val (pe_m0 F.slot_str_islower F.type_str_islower mt_islower (pv 1))))))))) (pss_one (ps_ret pe_bl)) pss_nil)
      (pss_cons (ps_if (PW.pt (pw_or (pt_not (pt_val (pe_callB call_isi (by rfl) T.isi (by decide +kernel) (pa_cons (pv 2) (pa_cons (pe_bltn (v := .ty "int") (by rfl) T.int (by decide +kernel) rfl) pa_nil))))) (pw_or (pt_val (pe_callB call_isi (by rfl) T.isi (by decide +kernel) (pa_cons (pv 2) (pa_cons (pe_bltn (v := .ty "bool") (by rfl) T.bool (by decide +kernel) rfl) pa_nil)))) (pw_or1 (pt_cmpR op_lt (pv 2) pe_int (nomark _)))))) (pss_one (ps_ret pe_bl)) pss_nil)
      (C8.pss_cut (ps_if (PW.pt (pw_and (pt_cmpR op_notN (pv 3) pe_non (nomark _)) (pw_and1 (PW.pt (pw_or (pt_not (pt_val (pe_callB call_isi (by rfl) T.isi (by decide +kernel) (pa_cons (pv 3) (pa_cons (pe_bltn (v := .ty "str") (by rfl) T.str (by decide +kernel) rfl) pa_nil))))) (pw_or1 (pt_not (pt_chain op_le op_le pe_int (pe_callB call_len_str (by rfl) T.len PySem.boot_len (pa_cons (pv 3) pa_nil)) pe_int)))))))) (pss_one (ps_ret pe_bl)) pss_nil)
      (C8.pss_cut (ps_if (PW.pt (pw_and (pt_cmpR op_notN (pv 3) pe_non (nomark _)) (pw_and1 (pt_not (pt_val (pe_callB (cr_all (by rfl)) (by rfl) T.all (by decide +kernel) (pa_cons (pe_lc (own := [("_law_sign", 8)]) (g := gName 8) (tt := tYes) (by rfl) scLawIsEntry.nd (pi_str (pv 3)) (blkOk_by (own := [("_law_sign", 8)]) (N := ["_law_thing", "_law_house", "_law_number", "_law_code_here", "_law_title", "_law_players", "_law_here", "_law_long", "_law_sign", "_law_name"]) (sc := defScope sLawIsEntry) (by decide +kernel)) (fun _ _ _ _ _ => pg_name (i := 8) scLawIsEntry.nd rfl (.inl rfl)) (fun _ _ _ _ _ => pts_nil) (fun _ _ _ _ _ => pe_cmpR op_in_sign (pv 8) pe_str (by rfl))) pa_nil))))))) (pss_one (ps_ret pe_bl)) pss_nil)
      (C8.pss_cut (ps_if (PW.pt (pw_and (pt_cmpR op_notN (pv 4) pe_non (nomark _)) (pw_and1 (pt_not (pt_val (pe_ca cLn hr (by decide) (by rfl) (pa_cons (pv 4) pa_nil))))))) (pss_one (ps_ret pe_bl)) pss_nil)
      (C8.pss_cut (ps_if (pt_cmpR op_notN (pv 5) pe_non (nomark _)) (pss_cons (ps_if (PW.pt (pw_or (pt_not (pt_val (pe_callB call_isi (by rfl) T.isi (by decide +kernel) (pa_cons (pv 5) (pa_cons (pe_bltn (v := .ty "tuple") (by rfl) T.tuple (by decide +kernel) rfl) pa_nil))))) (pw_or1 (pt_not (pt_chain op_le op_le pe_int (pe_callB call_len_seq (by rfl) T.len PySem.boot_len (pa_cons (pv 5) pa_nil)) pe_int))))) (pss_one (ps_ret pe_bl)) pss_nil)
      (pss_one (ps_if (PW.pt (pw_or (pt_not (pt_val (pe_callB (cr_all (by rfl)) (by rfl) T.all (by decide +kernel) (pa_cons (pe_lc (own := [("_law_name", 9)]) (g := gName 9) (tt := tYes) (te := tCall (spIsName K) [] E0 (tCons (tVar 9) tNil)) (by rfl) scLawIsEntry.nd (pi_tup (pv 5)) (blkOk_by (own := [("_law_name", 9)]) (N := ["_law_thing", "_law_house", "_law_number", "_law_code_here", "_law_title", "_law_players", "_law_here", "_law_long", "_law_sign", "_law_name"]) (sc := defScope sLawIsEntry) (by decide +kernel)) (fun _ _ _ _ _ => pg_name (i := 9) scLawIsEntry.nd rfl (.inl rfl)) (fun _ _ _ _ _ => pts_nil) (fun _ _ _ _ _ => pe_ca cLn hr (by decide) (by rfl) (pa_cons (pv 9) pa_nil))) pa_nil)))) (pw_or1 (pt_cmpR (op_neD hr.units) (pe_callTy cr_listT (by rfl) T.list (by decide +kernel) (pa_cons (pv 5) pa_nil)) (Xts.pe_sortSetK (k := 0) (by rfl) (hr.mono (by decide)) (by rfl) T.sorted (by rfl) T.set (pv 5)) (nomark _))))) (pss_one (ps_ret pe_bl)) pss_nil))) pss_nil)
      (pss_one (ps_ret (pe_and (pe_or (pe_cmpR op_isN (pv 6) pe_non (nomark _)) (pe_one (pe_callB call_isi (by rfl) T.isi (by decide +kernel) (pa_cons (pv 6) (pa_cons (pe_glob (v := .ref C) (by rfl) T.mgC rfl) pa_nil))))) (pe_one (pe_or (pe_cmpR op_isN (pv 7) pe_non (nomark _)) (pe_one (pe_callB call_isi (by rfl) T.isi (by decide +kernel) (pa_cons (pv 7) (pa_cons (pe_glob (v := .ref CL) (by rfl) T.mgL rfl) pa_nil))))))))))))))))), ?_⟩
    refine ⟨_, rfl, _, _, _, _, isTup d, rfl, .ty _, hz.ty, z_tup hz, _, rfl, ?_⟩
    have qf : entD C CL d = false → ∀ H', L2.Same H H' → Q (.bl false) H' := fun e H' sm => by
      have w := q H' sm
      rw [e] at w
      exact w
    cases hz with
    | @tup t xs ds et ra =>
      have lx := dz_len ra
      refine iteF ⟨_, rfl, t, xs, rfl, .inr (SqT.of et), rfl, _, rfl, ite2 (fun c => qf (ent_len fun z => ?_) _ (Same.refl H)) (fun c => ?_)⟩
      · rw [lx, z] at c
        exact absurd c (by decide)
      have l7 : ds.length = 7 := by
        have c2 : V.int ((xs.length : Nat) : Int) = V.int 7 := by
          by_cases h : V.int ((xs.length : Nat) : Int) = V.int 7
          · exact h
          · exact absurd (by rw [decide_eq_false h]; rfl) c
        have := V.int.inj c2
        omega
      obtain ⟨va, vb, vc, vd, ve, vg, vh, a, b, cc, dd, e, g, h, rfl, rfl, ha, hb, hc, hd, he, hg, hh⟩ := dz7 ra l7
      have o := oks_mem.mp hok.2
      have kd : entD C CL (.tuple [a, b, cc, dd, e, g, h]) = ((ofT a small 1 8 && numD b) && ((isNone cc || cdD cc) && ((isNone dd || nmD dd) && ((isNone e || plD e) && ((isNone g || isOwn C g) && (isNone h || isOwn CL h)))))) := rfl
      rw [kd] at q qf
      refine ⟨_, rfl, t, _, rfl, SqT.of et, rfl, _, _, rfl, _, _, rfl, _, _, rfl, _, _, rfl, _, _, rfl, _, _, rfl, _, _, rfl, rfl, ?_⟩
      -- the house
      refine ⟨_, rfl, _, _, _, _, isStr a, rfl, .ty _, ha.ty, z_str ha, _, rfl, ?_⟩
      have oa := ok_tx (o a (by simp))
      cases ha with
      | str x =>
        obtain ⟨l2, asx⟩ := oa x rfl
        have fit : x.length ≤ sizeLine := Nat.le_trans l2 (by decide)
        have eo : ofT (.str x) small 1 8 = (decide (1 ≤ (x.length : Int)) && decide ((x.length : Int) ≤ 8) && chk x small) := rfl
        refine iteF ⟨_, rfl, x, rfl, fit, 1, _, rfl, rfl, _, rfl, ?_⟩
        cases c1 : decide (1 ≤ (x.length : Int)) with
        | false => exact iteF ⟨_, rfl, iteT (qf (by rw [eo, c1]; rfl) _ (Same.refl H))⟩
        | true =>
          refine iteT ⟨_, 8, rfl, rfl, _, rfl, ?_⟩
          cases c2 : decide ((x.length : Int) ≤ 8) with
          | false => exact iteT (qf (by rw [eo, c1, c2]; rfl) _ (Same.refl H))
          | true =>
            have wc := word_chk asx (by have := of_decide_eq_true c1; omega)
            refine iteF ⟨_, rfl, ⟨_, rfl⟩, x, rfl, rfl, trivial, _, rfl, ?_⟩
            cases c3 : Txt.isalpha x with
            | false =>
              rw [c3] at wc
              exact iteT (qf (by rw [eo, c1, c2, ← wc]; rfl) _ (Same.refl H))
            | true =>
              refine iteF ⟨_, rfl, ⟨_, rfl⟩, x, rfl, rfl, trivial, _, rfl, ?_⟩
              cases c4 : Txt.islower x with
              | false =>
                rw [c3, c4] at wc
                exact iteT (qf (by rw [eo, c1, c2, ← wc]; rfl) _ (Same.refl H))
              | true =>
                rw [c3, c4] at wc
                rw [eo, c1, c2, ← wc, show ((true && true && (true && true)) && numD b) = numD b from by cases numD b <;> rfl] at q qf
                -- the number
                refine iteF ⟨_, rfl, _, _, _, _, isZ b || isBo b, rfl, .ty _, hb.ty, z_int hb, _, rfl, ?_⟩
                have nb : numD b = false → Q (.bl false) H := fun z => qf (by rw [z]; rfl) _ (Same.refl H)
                cases hb with
                | int i =>
                  refine iteF ⟨_, rfl, _, _, _, _, false, rfl, .ty _, (Th.Dz.int (K := K) (H := H) i).ty, z_bool (Th.Dz.int (K := K) (H := H) i), _, rfl, iteF ⟨_, rfl, i, 0, rfl, rfl, _, rfl, ?_⟩⟩
                  refine ite2 (fun c5 => nb ?_) (fun c5 => ?_)
                  · have c5 : decide (i < 0) = true := c5
                    exact decide_eq_false fun z => by have := of_decide_eq_true c5; omega
                  have c6 : numD (.int i) = true := by
                    have c5 : ¬ decide (i < 0) = true := c5
                    rw [decide_eq_true_eq] at c5
                    exact decide_eq_true (by omega)
                  rw [c6, Bool.true_and] at q qf
                  clear nb
                  -- the code, how long it is
                  refine ⟨fun σ Hx => σ = [some (.ref t), some (.str x), some (.int i), some vc, some vd, some ve, some vg, some vh, none, none] ∧ Hx = H ∧ (isNone cc = true ∨ ∃ y, cc = .str y ∧ decide (1 ≤ (y.length : Int)) = true ∧ decide ((y.length : Int) ≤ 12) = true), ?_, ?_⟩
                  · refine ⟨_, rfl, rfl, _, rfl, ?_⟩
                    rw [non_is hc]
                    cases cn : isNone cc with
                    | true => exact iteF ⟨rfl, rfl, .inl rfl⟩
                    | false =>
                      have oc := ok_tx (o cc (by simp))
                      refine iteT ⟨_, rfl, _, _, _, _, isStr cc, rfl, .ty _, hc.ty, z_str hc, _, rfl, ?_⟩
                      cases hc with
                      | str y =>
                        have fy : y.length ≤ sizeLine := Nat.le_trans (oc y rfl).1 (by decide)
                        have eo : cdD (.str y) = (decide (1 ≤ (y.length : Int)) && decide ((y.length : Int) ≤ 12) && chk y codes) := rfl
                        refine iteF ⟨_, rfl, y, rfl, fy, 1, _, rfl, rfl, _, rfl, ?_⟩
                        cases d1 : decide (1 ≤ (y.length : Int)) with
                        | false => exact iteF ⟨_, rfl, iteT (qf (by rw [eo, d1]; rfl) _ (Same.refl H))⟩
                        | true =>
                          refine iteT ⟨_, 12, rfl, rfl, _, rfl, ?_⟩
                          cases d2 : decide ((y.length : Int) ≤ 12) with
                          | false => exact iteT (qf (by rw [eo, d1, d2]; rfl) _ (Same.refl H))
                          | true => exact iteF ⟨rfl, rfl, .inr ⟨y, rfl, d1, d2⟩⟩
                      | non => cases cn
                      | _ => exact iteT (qf rfl _ (Same.refl H))
                  rintro σ Hx ⟨rfl, rfl, p4⟩
                  -- the code, its signs
                  refine ⟨fun σ Hy => σ = [some (.ref t), some (.str x), some (.int i), some vc, some vd, some ve, some vg, some vh, none, none] ∧ L2.Same Hx Hy ∧ (isNone cc || cdD cc) = true, ?_, ?_⟩
                  · refine ⟨_, rfl, rfl, _, rfl, ?_⟩
                    rw [non_is hc]
                    rcases p4 with n4 | ⟨y, rfl, d1, d2⟩
                    · rw [n4]
                      exact iteF ⟨rfl, Same.refl _, rfl⟩
                    · have ly := (ok_tx (o _ (by simp)) y rfl).1
                      have eo : cdD (.str y) = (decide (1 ≤ (y.length : Int)) && decide ((y.length : Int) ≤ 12) && chk y codes) := rfl
                      cases hc
                      refine iteT ⟨_, rfl, y, rfl, fun L nL => ?_⟩
                      refine lc_it (walk_str (z := y)) (fun j Hj => ∃ bs : List Bool, bs = (y.cps.toList.take j).map (fun c => decide (c ∈ codes.cps.toList)) ∧ Hj L = some (.lst (bs.map V.bl)) ∧ L2.Same Hx Hj) ⟨[], rfl, upd_same, same_upd nL⟩ (fun _ _ _ _ => trivial) ?_ ?_
                      · rintro j v Hi Hi' _ ⟨bs, eb, eL, sm⟩ ⟨rfl, c, ec, rfl⟩
                        rw [← Array.getElem?_toList] at ec
                        refine ⟨rfl, ?_⟩
                        unfold tYes
                        refine iteT ⟨_, rfl, c, codes, rfl, rfl, ?_⟩
                        have il : j < y.cps.toList.length := (List.getElem?_eq_some_iff.mp ec).1
                        refine ⟨_, eL, ?_, bs ++ [decide (c ∈ codes.cps.toList)], ?_, ?_, fun b o e => ?_⟩
                        · rw [List.length_map, eb, List.length_map, List.length_take]
                          refine Nat.lt_of_le_of_lt (show min j y.cps.toList.length ≤ 2000 from ?_) (by decide)
                          rw [← len_cps]
                          omega
                        · rw [List.take_succ, ec, List.map_append, eb]
                          rfl
                        · rw [upd_same, List.map_append]
                          rfl
                        · rw [upd_ne (ne_of_none e nL)]
                          exact sm _ _ e
                      · rintro He ⟨bs, eb, eL, sm⟩
                        refine ⟨L, _, rfl, SqL.of eL, _, rfl, ?_⟩
                        rw [eb, List.take_of_length_le (by rw [Array.length_toList]; exact Nat.le_refl _), List.all_map]
                        cases k : y.cps.toList.all ((fun b => id b) ∘ fun c => decide (c ∈ codes.cps.toList)) with
                        | false => exact iteT (qf (by rw [eo, show chk y codes = false from k, d1, d2]; rfl) _ sm)
                        | true => exact iteF ⟨rfl, sm, by rw [eo, show chk y codes = true from k, d1, d2]; rfl⟩
                  rintro σ Hy ⟨rfl, s5, p5⟩
                  rw [p5, Bool.true_and] at q qf
                  -- the title
                  refine ⟨fun σ Hz => σ = [some (.ref t), some (.str x), some (.int i), some vc, some vd, some ve, some vg, some vh, none, none] ∧ L2.Same Hx Hz ∧ (isNone dd || nmD dd) = true, ?_, ?_⟩
                  · refine ⟨_, rfl, rfl, _, rfl, ?_⟩
                    rw [non_is hd]
                    cases dn : isNone dd with
                    | true => exact iteF ⟨rfl, s5, rfl⟩
                    | false =>
                      refine iteT ⟨_, rfl, vd, dd, rfl, hd.same s5, ok_t2 (o dd (by simp)), fun H6 s6 => ⟨_, rfl, ?_⟩⟩
                      cases k : nmD dd with
                      | false => exact iteT (qf (by rw [dn, k]; rfl) _ (s5.trans s6))
                      | true => exact iteF ⟨rfl, s5.trans s6, rfl⟩
                  rintro σ Hz ⟨rfl, s6, p6⟩
                  rw [p6, Bool.true_and] at q qf
                  clear s5
                  -- the players
                  refine ⟨fun σ Hw => σ = [some (.ref t), some (.str x), some (.int i), some vc, some vd, some ve, some vg, some vh, none, none] ∧ L2.Same Hx Hw ∧ (isNone e || plD e) = true, ?_, ?_⟩
                  · refine ⟨_, rfl, rfl, _, rfl, ?_⟩
                    rw [non_is he]
                    cases en : isNone e with
                    | true => exact iteF ⟨rfl, s6, rfl⟩
                    | false =>
                      have he6 := he.same s6
                      refine iteT ⟨_, rfl, _, _, _, _, isTup e, rfl, .ty _, he6.ty, z_tup he6, _, rfl, ?_⟩
                      have oe := o e (by simp)
                      have qe : plD e = false → ∀ H', L2.Same Hx H' → Q (.bl false) H' := fun z H' s => qf (by rw [en, z]; rfl) H' s
                      cases he6 with
                      | @tup p ys es ep rp =>
                        have ly := dz_len rp
                        have kp : plD (.tuple es) = (decide (1 ≤ (es.length : Int)) && decide ((es.length : Int) ≤ 8) && (es.all nmD && risN (es.map nmOf))) := rfl
                        refine iteF ⟨_, rfl, p, ys, rfl, .inr (SqT.of ep), 1, _, rfl, rfl, _, rfl, ?_⟩
                        rw [ly]
                        cases d1 : decide (1 ≤ (es.length : Int)) with
                        | false => exact iteF ⟨_, rfl, iteT (qe (by rw [kp, d1]; rfl) _ s6)⟩
                        | true =>
                          refine iteT ⟨_, 8, rfl, rfl, _, rfl, ?_⟩
                          cases d2 : decide ((es.length : Int) ≤ 8) with
                          | false => exact iteT (qe (by rw [kp, d1, d2]; rfl) _ s6)
                          | true =>
                            have l8 := of_decide_eq_true d2
                            rw [d1, d2, Bool.true_and, Bool.true_and] at kp
                            refine iteF ⟨_, rfl, p, rfl, ⟨_, SqT.of ep⟩, fun L nL => ?_⟩
                            refine lc_tup (K := K) (a := p) (xs := ys) (fun j Hj => L2.Same Hz Hj ∧ Hj L = some (.lst (((es.take j).map nmD).map V.bl))) ⟨same_upd nL, upd_same⟩ (fun j Hj _ z => SqT.of (z.1 _ _ ep)) ?_ ?_
                            · rintro j y Hj hy ⟨sm, hL⟩
                              obtain ⟨e1, he1, dz⟩ := dz_get rp hy
                              have il := (List.getElem?_eq_some_iff.mp he1).1
                              refine ⟨rfl, ?_⟩
                              unfold tYes
                              refine iteT ⟨_, rfl, y, e1, rfl, dz.same sm, ok_t2 (oks_mem.mp oe.2 e1 (List.mem_of_getElem? he1)), fun H1 s1 => ⟨_, s1 _ _ hL, ?_, fun b o e => ?_, ?_⟩⟩
                              · rw [List.length_map, List.length_map, List.length_take]
                                exact Nat.lt_of_le_of_lt (show min j es.length ≤ 1000 by omega) (by decide)
                              · rw [upd_ne (ne_of_none e nL)]
                                exact s1 _ _ (sm _ _ e)
                              · rw [upd_same, List.take_add_one, he1, List.map_append, List.map_append]
                                rfl
                            rintro H1 ⟨s1, hL⟩
                            rw [ly, List.take_length] at hL
                            refine ⟨L, _, rfl, SqL.of hL, _, rfl, ?_⟩
                            have ea : ((es.map nmD).all id) = es.all nmD := by rw [List.all_map]; rfl
                            rw [ea]
                            cases al : es.all nmD with
                            | false => exact iteT (qe (by rw [kp, al]; rfl) _ (s6.trans s1))
                            | true =>
                              have na := (nms_at rp al).tp fun b zs e => s1 _ _ e
                              rw [al, Bool.true_and] at kp
                              have pl : ∀ n ∈ es.map nmOf, Pln n := fun n hn => by
                                obtain ⟨d, hd1, rfl⟩ := List.mem_map.mp hn
                                exact pln_of (List.all_eq_true.mp al d hd1) (oks_mem.mp oe.2 d hd1)
                              refine iteF ⟨_, rfl, p, ys, rfl, SqT.of (s1 _ _ ep), fun M nM neM => ?_⟩
                              have sM := same_upd nM (o := .lst ys)
                              have eM : (L2.upd H1 M (.lst ys)) M = some (.lst ys) := upd_same
                              generalize L2.upd H1 M (.lst ys) = H2 at sM eM ⊢
                              have na2 := na.tp fun b zs e => sM _ _ e
                              obtain ⟨ks, g1, g2, g3, g4, g5, g6⟩ := sort_names (K := K) na2 (.inr (SqT.of (sM _ _ (s1 _ _ ep)))) (by rw [List.length_map]; omega)
                              refine ⟨_, rfl, p, ks, rfl, g1, g2, g3, g4, g5, fun a l0 bs nua nd mem0 sub srt => ?_⟩
                              obtain ⟨qs, nas, rs, mem⟩ := g6 l0 bs nd mem0 sub srt
                              have sA := same_upd nua (o := .lst (bs.map fun b => V.ref b.2))
                              refine ⟨.list ((es.map nmOf).map Xsp.NP), .list (qs.map Xsp.NP), .lst (SqL.of (sA _ _ eM)) (dp_names (na2.tp fun b zs e => sA _ _ e)), .lst (SqL.of upd_same) (dp_names (nas.tp fun b zs e => sA _ _ e)), shaped_names pl, shaped_names (fun n hn => pl n ((mem n).mp hn)), _, rfl, ?_⟩
                              rw [eqv_names, ← risN_sorted rs mem]
                              have sx := ((s6.trans s1).trans sM).trans sA
                              cases k : risN (es.map nmOf) with
                              | false => exact iteT (qe (by rw [kp, k]) _ sx)
                              | true => exact iteF ⟨rfl, sx, by rw [kp, k]; exact Bool.or_true _⟩
                      | non => cases en
                      | _ => exact iteT (qe rfl _ s6)
                  rintro σ Hw ⟨rfl, s7, p7⟩
                  rw [p7, Bool.true_and] at q qf
                  have ow : ∀ y ∈ [Th.T.str x, .int i, cc, dd, e, g, h], ∀ z, y = .own z → z ∈ [C, CL] := fun y hy z ez => by
                    have w := o y hy
                    rw [ez] at w
                    exact w
                  dsimp only
                  refine ret_of ?_
                  refine and_b (isNone g || isOwn C g) (fun Q' q' => or_none (i := 6) rfl (hg.same s7) (isOwn C) (fun Q2 q2 => ⟨_, rfl, _, _, _, _, isOwn C g, rfl, .own C, (hg.same s7).ty, z_own T.iD g (ow g (by simp)), q2 _ (Same.refl _)⟩) q') (fun z H5 s5 => qf (by rw [z]; rfl) _ (s7.trans s5)) (fun k5 H5 s5' => ?_)
                  have s8 := s7.trans s5'
                  rw [k5, Bool.true_and] at q qf
                  exact or_none (i := 7) rfl (hh.same s8) (isOwn CL) (fun Q2 q2 => ⟨_, rfl, _, _, _, _, isOwn CL h, rfl, .own CL, (hh.same s8).ty, z_own T.iL h (ow h (by simp)), q2 _ (Same.refl _)⟩) (fun H6 s6 => q _ (s8.trans s6))
                | bl z => exact iteF ⟨_, rfl, _, _, _, _, true, rfl, .ty _, (Th.Dz.bl (K := K) (H := H) z).ty, z_bool (Th.Dz.bl (K := K) (H := H) z), _, rfl, iteT (nb rfl)⟩
                | _ => exact iteT (nb rfl)
      | _ => exact iteT (qf rfl _ (Same.refl H))
    | _ => exact iteT (qf rfl _ (Same.refl H))
end
end K20
set_option Elab.async false
set_option linter.all false
set_option maxRecDepth 100000
set_option maxHeartbeats 4000000
set_option pp.maxSteps 400
set_option pp.deepTerms false
namespace K20
open PySem PySem.Spec PyProof.Rows L2
open Xk Th Xtn
section
variable {P : Program} {w : World} {K : PySem.W.Frag} {mg : Str → Option Value} {base : Heap} {C CL : Addr}
theorem tw0 {l : List Nat} {g : Nat → Bool} (h : ∀ c, l.head? = some c → g c = false) : l.takeWhile g = [] := by
  cases l with
  | nil => rfl
  | cons a r => rw [List.takeWhile_cons, h a rfl]; rfl
theorem sp32 (c : Nat) : ((" " : Str)).cps.contains c = decide (c = 32) := by
  have e : ((" " : Str)).cps = #[32] := by decide +kernel
  rw [e]
  by_cases h : c = 32
  · subst h; simp
  · rw [decide_eq_false h]
    simpa using h
theorem sk_clean {x : Str} (h : Clean x.cps.toList) : sk x = true := by
  obtain ⟨⟨_, h2, _⟩, h4⟩ := h
  have g : ∀ c : Nat, c ≠ 32 → ((" " : Str)).cps.contains c = false := fun c n => by rw [sp32, decide_eq_false n]
  have lo : stripLo ((" " : Str)).cps.contains true x = 0 := by
    unfold stripLo
    rw [if_pos rfl, tw0 (fun c e => g c (fun z => h2 (by rw [e, z])))]
    rfl
  have hi : stripHi ((" " : Str)).cps.contains true x 0 = x.length := by
    unfold stripHi
    rw [if_pos rfl, List.drop_zero, tw0 (fun c e => g c (fun z => h4 (by rw [List.head?_reverse] at e; rw [e, z])))]
    rfl
  have s : stripSame ((" " : Str)).cps.contains true true x = true := by
    unfold stripSame
    rw [lo, hi]
    simp
  unfold sk Txt.stripChars Txt.stripBy
  rw [if_pos s]
  exact decide_eq_true rfl
theorem db_clean {x : Str} (h : Clean x.cps.toList) : db x = false := by
  obtain ⟨⟨_, _, h3⟩, _⟩ := h
  unfold db
  rw [Bool.eq_false_iff]
  intro z
  obtain ⟨i, hi, hs⟩ := (PySem.StrLaws.found_iff x "  ").mp z
  have l2 : (("  " : Str)).length = 2 := by decide +kernel
  rw [l2] at hi
  unfold Builtin.Str.subAt at hs
  rw [l2] at hs
  have e : x.cps.extract i (i + 2) = #[32, 32] := by
    have : (("  " : Str)).cps = #[32, 32] := by decide +kernel
    rw [this] at hs
    exact eq_of_beq hs
  have e' : (x.cps.toList.drop i).take 2 = [32, 32] := by
    have := congrArg Array.toList e
    rw [Array.toList_extract] at this
    simpa [List.extract_eq_take_drop] using this
  have a0 : x.cps.toList[i]? = some 32 := by
    have := congrArg (fun l : List Nat => l[0]?) e'
    simpa [List.getElem?_take, List.getElem?_drop] using this
  have a1 : x.cps.toList[i + 1]? = some 32 := by
    have := congrArg (fun l : List Nat => l[1]?) e'
    simpa [List.getElem?_take, List.getElem?_drop] using this
  exact h3 i ⟨a0, a1⟩
theorem nm_true {a b : Str} (ha : letts a) (a2 : 2 ≤ a.length) (a3 : a.length ≤ 3) (hb : Clean b.cps.toList) (b1 : 1 ≤ b.length) (b4 : b.length ≤ 40) : nmD (.tuple [.str a, .str b]) = true := by
  have c1 : chk a small = true := List.all_eq_true.mpr fun c hc => decide_eq_true (ha c hc)
  have c2 : chk b signs = true := List.all_eq_true.mpr fun c hc => decide_eq_true (hb.1.1 c hc)
  show ((decide ((2 : Int) ≤ a.length) && decide ((a.length : Int) ≤ 3) && chk a small) && ((decide ((1 : Int) ≤ b.length) && decide ((b.length : Int) ≤ 40) && chk b signs) && (sk b && !db b))) = true
  rw [c1, c2, sk_clean hb, db_clean hb, decide_eq_true (show (2 : Int) ≤ a.length by omega), decide_eq_true (show (a.length : Int) ≤ 3 by omega), decide_eq_true (show (1 : Int) ≤ b.length by omega), decide_eq_true (show (b.length : Int) ≤ 40 by omega)]
  rfl
/-- Day, made -/
structure Dc (P : Program) (w : World) (K : PySem.W.Frag) (mg : Str → Option Value) (base : Heap) (C : Addr) (f : Addr) (fd : FuncData) : Prop where
  mm : Mk K C f
  ok : FnOk P w K mg base CX0 4 f fd ["self", "year", "month", "day"] (spInit C)
  bd : Binds K fd ["self", "year", "month", "day"] []
  b1 : ∃ ds, Vals [V.non, V.non] ds ∧ Binds K fd ["self", "year", "month", "day"] ds
/-- Length, made -/
structure Lc (P : Program) (w : World) (K : PySem.W.Frag) (mg : Str → Option Value) (base : Heap) (CL : Addr) (f : Addr) (fd : FuncData) : Prop where
  mm : Mk K CL f
  ok : FnOk P w K mg base CX0 3 f fd ["self", "seconds"] (spLen CL)
  bd : Binds K fd ["self", "seconds"] []
theorem init_binds1 {f : Addr} {fd : FuncData} (F : FunD K "__init__" "Day.__init__" (defArgs sDayInit) (defBody sDayInit) (defScope sDayInit) [.non, .non] [] f fd) : ∃ ds, Vals [V.non, V.non] ds ∧ Binds K fd ["self", "year", "month", "day"] ds := by
  obtain ⟨ds, r, b⟩ := F.binds1 (ps := ["self", "year", "month", "day"]) 2 0 (by simp) rfl fun T kV doc pm an cdv ct us its h1 h2 => by
    match us, its, h1, h2 with
    | [_, _], [_, _], _, _ => exact ⟨_, rfl, rfl⟩
  exact ⟨ds, r, b⟩
/-- a name as it is drawn -/
def GdN (n : Str × Str) : Prop := letts n.1 ∧ 2 ≤ n.1.length ∧ n.1.length ≤ 3 ∧ Clean n.2.cps.toList ∧ 1 ≤ n.2.length ∧ n.2.length ≤ 40
theorem nm_na {H : Hp} {v : V} (h : Nm H v) : ∃ n, Xsp.NA H v n ∧ GdN n := by
  obtain ⟨t, a, b, rfl, e, g⟩ := h
  exact ⟨(a, b), ⟨t, rfl, e⟩, g⟩
theorem nms_na {H : Hp} : ∀ {vs : List V}, (∀ v ∈ vs, Nm H v) → ∃ ns, Xsp.NAs H vs ns ∧ ∀ n ∈ ns, GdN n
  | [], _ => ⟨[], .nil, fun n h => by cases h⟩
  | v :: r, h => by
    obtain ⟨n, a, g⟩ := nm_na (h v List.mem_cons_self)
    obtain ⟨ns, b, k⟩ := nms_na fun u hu => h u (List.mem_cons_of_mem _ hu)
    exact ⟨n :: ns, .cons a b, fun m hm => (List.mem_cons.mp hm).elim (fun z => by rw [z]; exact g) (k m)⟩
theorem nodup_le {α : Type} [DecidableEq α] : ∀ {l m : List α}, l.Nodup → (∀ a ∈ l, a ∈ m) → l.length ≤ m.length
  | [], _, _, _ => Nat.zero_le _
  | a :: l, m, nd, sub => by
    obtain ⟨na, nd2⟩ := List.nodup_cons.mp nd
    have am := sub a List.mem_cons_self
    have w := nodup_le (l := l) (m := m.erase a) nd2 fun b hb => (List.mem_erase_of_ne (fun (e : b = a) => na (by rw [← e]; exact hb))).mpr (sub b (List.mem_cons_of_mem _ hb))
    rw [List.length_erase_of_mem am] at w
    have := List.length_pos_of_mem am
    rw [List.length_cons]
    omega
def GdD (m d : Option Int) : Prop := ∀ y : Int, 1 ≤ y → y ≤ 9999 → Good y m d
theorem gd_no : GdD none none := fun y a b => ⟨a, b, rfl⟩
theorem gd_m {i : Int} (a : 1 ≤ i) (b : i ≤ 12) : GdD (some i) none := fun y c d => ⟨c, d, a, b, trivial⟩
theorem gd_d {i j : Int} (a : 1 ≤ i) (b : i ≤ 12) (e : 1 ≤ j) (f : j ≤ 28) : GdD (some i) (some j) := fun y c d => ⟨c, d, a, b, e, by have := (lastDay_ge y i).1; omega⟩
def spSome : Sp := fun vs H Q _ => ∃ (h o L : Addr) (n : Int) (xs : List V), vs = [.ref h, .ref L] ∧ Hd h o n H ∧ n + 20 ≤ far ∧ H L = some (.lst xs) ∧ L ∉ [h, o] ∧ xs ≠ [] ∧ xs.length ≤ 10 ∧ (∀ v ∈ xs, Nm H v) ∧
  ∀ (t : Addr) (ws : List V) (qs : List (Str × Str)) H', H' t = some (.tup ws) → Xsp.NAs H' ws qs → Xsp.Ris qs → 1 ≤ qs.length → qs.length ≤ 8 → (∀ m ∈ qs, GdN m) → Hd h o (n + 12) H' → Bt [h, o] H H' → Q (.ref t) H'
def spCode : Sp := fun vs H Q _ => ∃ (h o : Addr) (n : Int), vs = [.ref h] ∧ Hd h o n H ∧ n + 30 ≤ far ∧
  ∀ (x : Str) H', cdD (.str x) = true → Hd h o (n + 14) H' → Bt [h, o] H H' → Q (.str x) H'
def spDay (C : Addr) : Sp := fun vs H Q _ => ∃ (h o : Addr) (n y : Int), vs = [.ref h, .int y] ∧ 1 ≤ y ∧ y ≤ 9998 ∧ Hd h o n H ∧ n + 20 ≤ far ∧
  ∀ (a : Addr) (y' : Int) (m d : Option Int) H', DayAt C H' a y' m d → Good y' m d → a ∉ [h, o] → Hd h o (n + 4) H' → Bt [h, o] H H' → Q (.ref a) H'
theorem ok_some {f : Addr} {fd : FuncData} (D : Df K mg "_law_some" ["_law_hand_here", "_law_names_here"] sSome f fd) (T : Txt K mg C CL) (cT : Ca P w K mg base 1 "_law_take" ["_law_hand_here", "_law_many"] spTake) (cP : Ca P w K mg base 2 "_law_pick" ["_law_hand_here", "_law_some_here"] spPick) : FnOk P w K mg base CX0 3 f fd ["_law_hand_here", "_law_names_here"] spSome := by
  refine D.fn.ok scSome (fun vs H Q E h => ?_) (fun cdv A outer s H vs Q E hr h => ?_)
  · obtain ⟨h, o, L, n, xs, rfl, hd, hn, eL, Lo, ne, l10, al, q⟩ := h
    rfl
  · obtain ⟨h, o, L, n, xs, rfl, hd, hn, eL, Lo, ne, l10, al, q⟩ := h
    refine ⟨_, (C8.pss_cut (ps_set (i := 2) scSome.nd rfl (.inl rfl) (pe_ifExp (pt_cmpR op_eq (pe_ca cT hr (by decide) (by rfl) (pa_cons (pv 0) (pa_cons pe_int pa_nil))) pe_int (nomark _)) pe_int (pe_op op_add pe_int (pe_ca cT hr (by decide) (by rfl) (pa_cons (pv 0) (pa_cons pe_int pa_nil))))))
      (pss_one (ps_ret (pe_callTy call_tuple_of (by rfl) T.tuple (by decide +kernel) (pa_cons (Xts.pe_sortSetK (k := 0) (by rfl) (hr.mono (by decide)) (by rfl) T.sorted (by rfl) T.set (pe_lc (own := [("_law_k", 3)]) (g := gName 3) (tt := tYes) (by rfl) scSome.nd (pi_range1 (by rfl) T.range (pa_cons (pv 2) pa_nil)) (blkOk_by (own := [("_law_k", 3)]) (N := ["_law_hand_here", "_law_names_here", "_law_many", "_law_k"]) (sc := defScope sSome) (by decide +kernel)) (fun _ _ _ _ _ => pg_name (i := 3) scSome.nd rfl (.inl rfl)) (fun _ _ _ _ _ => pts_nil) (fun _ _ _ _ _ => pe_ca cP hr (by decide) (by rfl) (pa_cons (pv 0) (pa_cons (pv 1) pa_nil))))) pa_nil))))), ?_⟩
    have fr : n + 20 ≤ 1000000 := hn
    refine ⟨fun σ Hx => ∃ m : Int, σ = [some (.ref h), some (.ref L), some (.int m), none] ∧ 1 ≤ m ∧ m ≤ 8 ∧ Hd h o (n + 2) Hx ∧ Bt [h, o] H Hx, ?_, ?_⟩
    · refine ⟨_, rfl, h, o, 8, n, rfl, by decide, by decide, hd, by show n ≤ 1000000; omega, fun u H1 u0 u1 h1 b1 => ⟨rfl, _, rfl, ite2 (fun e => ?_) (fun e => ?_)⟩⟩
      · exact ⟨8, rfl, by decide, by decide, h1.mono (by omega), b1⟩
      · exact ⟨_, rfl, h, o, 3, n + 1, rfl, by decide, by decide, h1, by show n + 1 ≤ 1000000; omega, fun w H2 w0 w1 h2 b2 => ⟨1, w, rfl, rfl, 1 + w, rfl, by omega, by omega, h2.mono (by omega), b1.trans b2⟩⟩
    rintro σ H1 ⟨m, rfl, m1, m8, h1, b1⟩
    have eL1 := b1 _ _ Lo eL
    have al1 : ∀ v ∈ xs, Nm H1 v := fun v hv => (al v hv).tp (hd.tp b1)
    refine ⟨_, rfl, m, rfl, by omega, by omega, fun N nN => ?_⟩
    have No := h1.fresh nN
    have sN := same_upd nN (o := .lst [])
    refine lc_range (lo := 0) (fun i Hi => ∃ (ys : List V) (ps : List (Str × Str)), Hi N = some (.lst ys) ∧ Xsp.NAs Hi ys ps ∧ ps.length = i ∧ (∀ p ∈ ps, GdN p) ∧ Hd h o (n + 2 + i) Hi ∧ Bt [h, o] H1 Hi) ?_ ?_ ?_
    · exact ⟨[], [], upd_same, .nil, rfl, by simp, (h1.same sN).mono (by omega), Bt.of sN⟩
    · rintro i Hi hi ⟨ys, ps, eN, na, lp, gp, hdi, bi⟩
      have hi' : i < m.toNat := hi
      have ly := na.len
      refine ⟨rfl, ?_⟩
      unfold tYes
      refine iteT ?_
      refine ⟨_, rfl, _, rfl, h, o, n + 2 + i, _, rfl, hdi, by show n + 2 + (i : Int) ≤ 1000000; omega, .inl ⟨L, xs, rfl, bi _ _ Lo eL1, Lo, ne, by omega, fun v H2 mv h2 b2 => ?_⟩⟩
      obtain ⟨p, np, gn⟩ := nm_na (((al1 v mv).tp (h1.tp bi)).tp (hdi.tp b2))
      have na2 := na.tp (hdi.tp b2)
      have eN2 := b2 _ _ No eN
      refine ⟨_, eN2, ?_, ys ++ [v], ps ++ [p], upd_same, (Xsp.NAs.snoc np na2).tp (tp_upd eN2), by rw [List.length_append, lp]; rfl, fun q hq => ?_, (h2.upd No).mono (by omega), fun b x nb e => ?_⟩
      · exact Nat.lt_of_le_of_lt (show ys.length ≤ 100 by omega) (by decide)
      · rcases List.mem_append.mp hq with z | z
        · exact gp q z
        · rw [List.mem_singleton.mp z]
          exact gn
      · rw [upd_ne (ne_of_none e nN)]
        exact b2 b x nb (bi b x nb e)
    rintro He ⟨ys, ps, eN, na, lp, gp, hde, be⟩
    have lp' : ps.length = m.toNat := lp
    obtain ⟨ks, g1, g2, g3, g4, g5, g6⟩ := sort_names (K := K) na (.inl (SqL.of eN)) (by omega)
    refine ⟨N, ks, rfl, g1, g2, g3, g4, g5, fun a l0 bs nua nd mem0 sub srt => ?_⟩
    obtain ⟨qs, nas, rs, mem⟩ := g6 l0 bs nd mem0 sub srt
    have sA := same_upd nua (o := .lst (bs.map fun b => V.ref b.2))
    refine ⟨a, _, rfl, .inl ⟨SqL.of upd_same, fun p np => ?_⟩⟩
    have sp := sA.trans (same_upd np (o := .tup (bs.map fun b => V.ref b.2)))
    refine q p _ qs _ upd_same (nas.tp (tp_same sp)) rs ?_ ?_ (fun m hm => gp m ((mem m).mp hm)) ((hde.same sp).mono ?_) ((b1.trans be).trans (Bt.of sp))
    · have : ps ≠ [] := fun z => by rw [z] at lp'; simp at lp'; omega
      obtain ⟨p0, hp0⟩ := List.exists_mem_of_ne_nil _ this
      exact List.length_pos_of_mem ((mem p0).mpr hp0)
    · have := nodup_le (ris_nodup rs) fun m hm => (mem m).mp hm
      omega
    · show n + 2 + ((m.toNat : Nat) : Int) ≤ n + 12
      omega
theorem ok_code {f : Addr} {fd : FuncData} (D : Df K mg "_law_code" ["_law_hand_here"] sCode f fd) (T : Txt K mg C CL) (cT : Ca P w K mg base 1 "_law_take" ["_law_hand_here", "_law_many"] spTake) (cP : Ca P w K mg base 2 "_law_pick" ["_law_hand_here", "_law_some_here"] spPick) : FnOk P w K mg base CX0 3 f fd ["_law_hand_here"] spCode := by
  refine D.fn.ok scCode (fun vs H Q E h => ?_) (fun cdv A outer s H vs Q E hr h => ?_)
  · obtain ⟨h, o, n, rfl, hd, hn, q⟩ := h
    rfl
  · obtain ⟨h, o, n, rfl, hd, hn, q⟩ := h
    refine ⟨_, (pss_cons (ps_set (i := 1) scCode.nd rfl (.inr rfl) pe_str)
      (pss_one (ps_ret (pe_m1 F.slot_str_join F.type_str_join mt_join pe_str (pe_lc (own := [("_law_k", 2)]) (g := gName 2) (tt := tYes) (by rfl) scCode.nd (pi_range1 (by rfl) T.range (pa_cons (pe_ca cP hr (by decide) (by rfl) (pa_cons (pv 0) (pa_cons (pe_lst (pa_cons pe_int (pa_cons pe_int (pa_cons pe_int pa_nil)))) pa_nil))) pa_nil)) (blkOk_by (own := [("_law_k", 2)]) (N := ["_law_hand_here", "_law_signs", "_law_k"]) (sc := defScope sCode) (by decide +kernel)) (fun _ _ _ _ _ => pg_name (i := 2) scCode.nd rfl (.inl rfl)) (fun _ _ _ _ _ => pts_nil) (fun _ _ _ _ _ => pe_ca cP hr (by decide) (by rfl) (pa_cons (pv 0) (pa_cons (pv 1) pa_nil)))))))), ?_⟩
    have fr : n + 30 ≤ 1000000 := hn
    have lf : codes.length = 36 := by decide +kernel
    refine ⟨⟨_, rfl⟩, ?_⟩
    refine ⟨_, rfl, (by show 3 ≤ sizeLine; decide), fun l3 n3 => ?_⟩
    have s3 := same_upd n3 (o := .lst [.int 1, .int 2, .int 12])
    refine ⟨h, o, n, _, rfl, hd.same s3, by show n ≤ 1000000; omega, .inl ⟨l3, _, rfl, upd_same, hd.fresh n3, by simp, by show 3 < 1000; decide, fun v H1 mv h1 b1' => ?_⟩⟩
    have b1 := (Bt.of (A := [h, o]) s3).trans b1'
    obtain ⟨r, rfl, r1, r2⟩ : ∃ r : Int, v = .int r ∧ 1 ≤ r ∧ r ≤ 12 := by
      simp only [List.mem_cons, List.not_mem_nil, or_false] at mv
      rcases mv with e | e | e
      · exact ⟨_, e, by decide, by decide⟩
      · exact ⟨_, e, by decide, by decide⟩
      · exact ⟨_, e, by decide, by decide⟩
    refine ⟨r, rfl, by omega, by omega, fun L nL => ?_⟩
    have s1 := same_upd nL (o := .lst [])
    refine lc_range (lo := 0) (fun i Hi => ∃ ys : List Str, Hi L = some (.lst (ys.map V.str)) ∧ ys.length = i ∧ (∀ y ∈ ys, ∃ c ∈ codes.cps.toList, y = ⟨#[c]⟩) ∧ Hd h o (n + 1 + i) Hi ∧ Bt [h, o] H1 Hi) ?_ ?_ ?_
    · exact ⟨[], upd_same, rfl, by simp, (h1.same s1).mono (by omega), Bt.of s1⟩
    · rintro i Hi hi ⟨ys, eL, ly, cy, hdi, bi⟩
      have hi' : i < r.toNat := hi
      refine ⟨rfl, ?_⟩
      unfold tYes
      refine iteT ?_
      refine ⟨_, rfl, _, rfl, h, o, n + 1 + i, _, rfl, hdi, by show n + 1 + (i : Int) ≤ 1000000; omega, .inr ⟨codes, rfl, by rw [lf]; decide, by rw [lf]; decide, fun c H2 mc h2 b2 => ?_⟩⟩
      have nLo : L ∉ [h, o] := h1.fresh nL
      refine ⟨_, b2 _ _ nLo eL, ?_, ys ++ [⟨#[c]⟩], ?_, by rw [List.length_append, ly]; rfl, ?_, ?_, ?_⟩
      · rw [List.length_map, ly]
        exact Nat.lt_of_le_of_lt (show i ≤ 100 by omega) (by decide)
      · rw [upd_same, List.map_append]
        rfl
      · intro y hy
        rcases List.mem_append.mp hy with z | z
        · exact cy y z
        · exact ⟨c, mc, List.mem_singleton.mp z⟩
      · exact (h2.upd nLo).mono (by omega)
      · intro b x nb e
        rw [upd_ne (ne_of_none e nL)]
        exact b2 b x nb (bi b x nb e)
    · rintro He ⟨ys, eL, ly, cy, hde, be⟩
      have le : (ys.map (·.length)).sum = ys.length := ones_sum ys (fun y hy => by obtain ⟨c, _, e⟩ := cy y hy; rw [e]; rfl)
      have ly' : (ys.length : Int) = r := by
        have : ys.length = r.toNat := ly
        omega
      refine ⟨_, L, ys, rfl, rfl, .inl (SqL.of eL), ?_, ?_⟩
      · rw [le]
        have e0 : (("" : Str)).length = 0 := rfl
        rw [e0]
        omega
      · have jl : (Txt.join "" ys).length = ys.length := by rw [join_len, le]
        refine q _ _ ?_ (hde.mono ?_) (b1.trans be)
        · show (decide (1 ≤ ((Txt.join "" ys).length : Int)) && decide (((Txt.join "" ys).length : Int) ≤ 12) && chk (Txt.join "" ys) codes) = true
          rw [jl, ly', decide_eq_true r1, decide_eq_true r2]
          refine List.all_eq_true.mpr fun c hc => decide_eq_true ?_
          rw [join_cps] at hc
          obtain ⟨l, ml, hcl⟩ := List.mem_flatten.mp hc
          obtain ⟨y, my, rfl⟩ := List.mem_map.mp ml
          obtain ⟨c', mc', e⟩ := cy y my
          rw [e] at hcl
          have : c = c' := by simpa using hcl
          rw [this]
          exact mc'
        · show n + 1 + ((r.toNat : Nat) : Int) ≤ n + 14
          omega
theorem ok_day {f : Addr} {fd : FuncData} {fG : Addr} {fdG : FuncData} (D : Df K mg "_law_day" ["_law_hand_here", "_law_year"] sDay f fd) (T : Txt K mg C CL) (cT : Ca P w K mg base 1 "_law_take" ["_law_hand_here", "_law_many"] spTake) (G : Dc P w K mg base C fG fdG) : FnOk P w K mg base CX0 6 f fd ["_law_hand_here", "_law_year"] (spDay C) := by
  refine D.fn.ok scDay (fun vs H Q E h => ?_) (fun cdv A outer s H vs Q E hr h => ?_)
  · obtain ⟨h, o, n, y, rfl, y1, y2, hd, hn, q⟩ := h
    rfl
  · obtain ⟨h, o, n, y, rfl, y1, y2, hd, hn, q⟩ := h
    refine ⟨_, (pss_cons (ps_par (i := 2) (j := 3) (by rfl) scDay.nd rfl rfl (by decide) rfl rfl (pa_cons (pe_op op_add pe_int (pe_op op_mul (pe_ca cT hr (by decide) (by rfl) (pa_cons (pv 0) (pa_cons pe_int pa_nil))) pe_int)) (pa_cons (pe_op op_add pe_int (pe_op op_mul (pe_ca cT hr (by decide) (by rfl) (pa_cons (pv 0) (pa_cons pe_int pa_nil))) pe_int)) pa_nil)) (by rfl))
      (C8.pss_cut (ps_set (i := 4) scDay.nd rfl (.inl rfl) (pe_ix ix_list (pe_lst (pa_cons (pe_tup (pa_cons pe_non (pa_cons pe_non pa_nil))) (pa_cons (pe_tup (pa_cons (pv 2) (pa_cons pe_non pa_nil))) (pa_cons (pe_tup (pa_cons (pv 2) (pa_cons (pv 3) pa_nil))) (pa_cons (pe_tup (pa_cons (pv 2) (pa_cons (pv 3) pa_nil))) pa_nil))))) (pe_ca cT hr (by decide) (by rfl) (pa_cons (pv 0) (pa_cons pe_int pa_nil))) (fun _ _ => rfl)))
      (pss_one (ps_ret (pe_make G.mm G.ok (hr.mono (by decide)) (by rfl) T.mgC G.bd .nil pass0 (pa_cons (pe_op op_add (pv 1) (pe_ca cT hr (by decide) (by rfl) (pa_cons (pv 0) (pa_cons pe_int pa_nil)))) (pa_cons (pe_ix ix_tup (pv 4) pe_int (fun _ _ => rfl)) (pa_cons (pe_ix ix_tup (pv 4) pe_int (fun _ _ => rfl)) pa_nil)))))))), ?_⟩
    have fr : n + 20 ≤ 1000000 := hn
    refine ⟨_, rfl, h, o, 2, n, rfl, by decide, by decide, hd, by show n ≤ 1000000; omega, fun d1 H1 x0 x1 h1 b1 => ⟨d1, 11, rfl, rfl, .inr (by decide), 1, d1 * 11, rfl, rfl, _, rfl, h, o, 2, n + 1, rfl, by decide, by decide, h1, by show n + 1 ≤ 1000000; omega, fun d2 H2 z0 z1 h2 b2 => ⟨d2, 27, rfl, rfl, .inr (by decide), 1, d2 * 27, rfl, rfl, ?_⟩⟩⟩
    obtain ⟨M, eM, M1, M2⟩ : ∃ M : Int, M = 1 + d1 * 11 ∧ 1 ≤ M ∧ M ≤ 12 := ⟨_, rfl, by omega, by omega⟩
    obtain ⟨D, eD, D1, D2⟩ : ∃ D : Int, D = 1 + d2 * 27 ∧ 1 ≤ D ∧ D ≤ 28 := ⟨_, rfl, by omega, by omega⟩
    refine ⟨.int M, .int D, (by subst eM; subst eD; rfl), ?_⟩
    refine ⟨fun σ Hx => ∃ (p : Addr) (m d : Option Int), σ = [some (.ref h), some (.int y), some (.int M), some (.int D), some (.ref p)] ∧ Hx p = some (.tup [oV m, oV d]) ∧ GdD m d ∧ Hd h o (n + 3) Hx ∧ Bt [h, o] H Hx, ?_, ?_⟩
    · refine ⟨(by show 2 ≤ sizeLine; decide), fun p1 n1 => ?_⟩
      have s1 := same_upd n1 (o := .tup [V.non, .non])
      have e1 : (L2.upd H2 p1 (.tup [V.non, .non])) p1 = some (.tup [.non, .non]) := upd_same
      generalize L2.upd H2 p1 (.tup [V.non, .non]) = G1 at s1 e1 ⊢
      refine ⟨_, rfl, (by show 2 ≤ sizeLine; decide), fun p2 n2 => ?_⟩
      have s2 := same_upd n2 (o := .tup [.int M, .non])
      have e2 : (L2.upd G1 p2 (.tup [.int M, .non])) p2 = some (.tup [.int M, .non]) := upd_same
      generalize L2.upd G1 p2 (.tup [.int M, .non]) = G2 at s2 e2 ⊢
      refine ⟨_, rfl, _, rfl, (by show 2 ≤ sizeLine; decide), fun p3 n3 => ?_⟩
      have s3 := same_upd n3 (o := .tup [.int M, .int D])
      have e3 : (L2.upd G2 p3 (.tup [.int M, .int D])) p3 = some (.tup [.int M, .int D]) := upd_same
      generalize L2.upd G2 p3 (.tup [.int M, .int D]) = G3 at s3 e3 ⊢
      refine ⟨_, rfl, _, rfl, (by show 2 ≤ sizeLine; decide), fun p4 n4 => ?_⟩
      have s4 := same_upd n4 (o := .tup [.int M, .int D])
      have e4 : (L2.upd G3 p4 (.tup [.int M, .int D])) p4 = some (.tup [.int M, .int D]) := upd_same
      generalize L2.upd G3 p4 (.tup [.int M, .int D]) = G4 at s4 e4 ⊢
      refine ⟨(by show 4 ≤ sizeLine; decide), fun l nl => ?_⟩
      have s5 := same_upd nl (o := .lst [.ref p1, .ref p2, .ref p3, .ref p4])
      have e5 : (L2.upd G4 l (.lst [.ref p1, .ref p2, .ref p3, .ref p4])) l = some (.lst [.ref p1, .ref p2, .ref p3, .ref p4]) := upd_same
      generalize L2.upd G4 l (.lst [.ref p1, .ref p2, .ref p3, .ref p4]) = G5 at s5 e5 ⊢
      have sall := ((((s1.trans s2).trans s3).trans s4).trans s5)
      have h5 := h2.same sall
      have lo : l ∉ [h, o] := fun ml => (h2.same (((s1.trans s2).trans s3).trans s4)).here l ml nl
      refine ⟨_, rfl, h, o, 4, n + 2, rfl, by decide, by decide, h5.mono (by omega), by show n + 2 ≤ 1000000; omega, fun u H3 u0 u1 h3 b3 => ?_⟩
      have tp := h5.tp b3
      have bt : Bt [h, o] H H3 := ((b1.trans b2).trans (Bt.of sall)).trans b3
      have el := b3 _ _ lo e5
      have E1 := tp _ _ ((((s2.trans s3).trans s4).trans s5) _ _ e1)
      have E2 := tp _ _ (((s3.trans s4).trans s5) _ _ e2)
      have E3 := tp _ _ ((s4.trans s5) _ _ e3)
      have E4 := tp _ _ (s5 _ _ e4)
      have c : u = 0 ∨ u = 1 ∨ u = 2 ∨ u = 3 := by omega
      rcases c with rfl | rfl | rfl | rfl
      · exact ⟨l, _, 0, _, rfl, rfl, SqL.of el, rfl, p1, none, none, rfl, E1, gd_no, h3.mono (by omega), bt⟩
      · exact ⟨l, _, 1, _, rfl, rfl, SqL.of el, rfl, p2, some M, none, rfl, E2, gd_m M1 M2, h3.mono (by omega), bt⟩
      · exact ⟨l, _, 2, _, rfl, rfl, SqL.of el, rfl, p3, some M, some D, rfl, E3, gd_d M1 M2 D1 D2, h3.mono (by omega), bt⟩
      · exact ⟨l, _, 3, _, rfl, rfl, SqL.of el, rfl, p4, some M, some D, rfl, E4, gd_d M1 M2 D1 D2, h3.mono (by omega), bt⟩
    rintro σ H3 ⟨p, m, d, rfl, ep, gd, h3, b3⟩
    refine ⟨_, rfl, _, rfl, h, o, 2, n + 3, rfl, by decide, by decide, h3, by show n + 3 ≤ 1000000; omega, fun u H4 u0 u1 h4 b4 => ?_⟩
    have ep4 := h3.tp b4 _ _ ep
    refine ⟨y, u, rfl, rfl, _, rfl, p, _, 0, oV m, rfl, rfl, SqT.of ep4, rfl, _, rfl, p, _, 1, oV d, rfl, rfl, SqT.of ep4, rfl, ?_⟩
    refine fun o' dx no nd ne => ⟨o', dx, y + u, m, d, rfl, gd _ (by omega) (by omega), upd_same, fun H5 keep al => ?_⟩
    have s5 : L2.Same H4 H5 := fun b z eb => keep b z (by
      rw [upd_ne (ne_of_none eb no), upd_ne (ne_of_none eb nd)]
      exact eb) (ne_of_none eb no)
    exact ⟨rfl, q o' _ m d H5 al (gd _ (by omega) (by omega)) (h4.fresh no) (h4.same s5 |>.mono (by omega)) ((b3.trans b4).trans (Bt.of s5))⟩
end
end K20
set_option Elab.async false
set_option linter.all false
set_option maxRecDepth 100000
set_option maxHeartbeats 4000000
set_option pp.maxSteps 400
set_option pp.deepTerms false
namespace K20
open PySem PySem.Spec PyProof.Rows L2
open Xk Th Xtn
section
variable {P : Program} {w : World} {K : PySem.W.Frag} {mg : Str → Option Value} {base : Heap} {C CL : Addr}
def F2 (v : V) : Prop := v = .non ∨ ∃ x, v = .str x ∧ cdD (.str x) = true
def F3 (H : Hp) (v : V) : Prop := v = .non ∨ ∃ n, Xsp.NA H v n ∧ GdN n
def F4 (H : Hp) (v : V) : Prop := v = .non ∨ ∃ (t : Addr) (ws : List V) (qs : List (Str × Str)), v = .ref t ∧ H t = some (.tup ws) ∧ Xsp.NAs H ws qs ∧ Xsp.Ris qs ∧ 1 ≤ qs.length ∧ qs.length ≤ 8 ∧ ∀ m ∈ qs, GdN m
def F5 (C : Addr) (H : Hp) (v : V) : Prop := v = .non ∨ ∃ (a : Addr) (y : Int) (m d : Option Int), v = .ref a ∧ DayAt C H a y m d ∧ Good y m d
def F6 (CL : Addr) (H : Hp) (v : V) : Prop := v = .non ∨ ∃ (a : Addr) (s : Int), v = .ref a ∧ LenAt CL H a s ∧ 0 ≤ s ∧ s ≤ 359999
/-- an entry as it is drawn -/
def GE (C CL : Addr) (H : Hp) (v : V) : Prop := ∃ (a : Addr) (x : Str) (i : Int) (v2 v3 v4 v5 v6 : V), v = .ref a ∧ H a = some (.tup [.str x, .int i, v2, v3, v4, v5, v6]) ∧ letts x ∧ 1 ≤ x.length ∧ x.length ≤ 8 ∧ 0 ≤ i ∧ F2 v2 ∧ F3 H v3 ∧ F4 H v4 ∧ F5 C H v5 ∧ F6 CL H v6
/-- what is no list stays -/
def Tq (H H' : Hp) : Prop := ∀ b x, (∀ ys, x ≠ .lst ys) → H b = some x → H' b = some x
theorem Tq.tp {H H' : Hp} (s : Tq H H') : ∀ b xs, H b = some (.tup xs) → H' b = some (.tup xs) := fun b xs e => s b _ (fun ys z => by cases z) e
theorem Tq.trans {H H1 H2 : Hp} (p : Tq H H1) (q : Tq H1 H2) : Tq H H2 := fun b x n e => q b x n (p b x n e)
theorem tq_same {H H' : Hp} (s : L2.Same H H') : Tq H H' := fun b x _ e => s b x e
theorem tq_upd {H : Hp} {p : Addr} {xs : List V} {x : HO} (e : H p = some (.lst xs)) : Tq H (L2.upd H p x) := fun b y n eb => by
  rw [upd_ne (fun z => by rw [z, e] at eb; cases eb; exact n _ rfl)]
  exact eb
theorem Hd.off {h o : Addr} {n : Int} {H : Hp} (a : Hd h o n H) {b : Addr} {x : HO} (nl : ∀ ys, x ≠ .lst ys) (e : H b = some x) : b ∉ [h, o] := fun mb => by
  obtain ⟨gs, m, c, r1, r2, _⟩ := a
  simp only [List.mem_cons, List.not_mem_nil, or_false] at mb
  rcases mb with z | z
  · rw [z, r1] at e; cases e; exact nl _ rfl
  · rw [z, r2] at e; cases e; exact nl _ rfl
theorem Hd.tq {h o : Addr} {n : Int} {H H' : Hp} (a : Hd h o n H) (s : Bt [h, o] H H') : Tq H H' := fun b x nl e => s b x (a.off nl e) e
theorem Hd.tqo {h o : Addr} {n : Int} {H : Hp} (a : Hd h o n H) : Tq H (offS [h, o] H) := fun b x nl e => offS_at (a.off nl e) e
theorem F3.tq {H H' : Hp} {v : V} (h : F3 H v) (s : Tq H H') : F3 H' v := h.imp id fun ⟨n, a, b⟩ => ⟨n, a.tp s.tp, b⟩
theorem F4.tq {H H' : Hp} {v : V} (h : F4 H v) (s : Tq H H') : F4 H' v := h.imp id fun ⟨t, ws, qs, a, b, c, d⟩ => ⟨t, ws, qs, a, s.tp _ _ b, c.tp s.tp, d⟩
theorem F5.tq {C : Addr} {H H' : Hp} {v : V} (h : F5 C H v) (s : Tq H H') : F5 C H' v := h.imp id fun ⟨a, y, m, d, e, ⟨dx, k⟩, g⟩ => ⟨a, y, m, d, e, ⟨dx, s _ _ (fun ys z => by cases z) k⟩, g⟩
theorem F6.tq {C : Addr} {H H' : Hp} {v : V} (h : F6 C H v) (s : Tq H H') : F6 C H' v := h.imp id fun ⟨a, y, e, ⟨dx, k⟩, g⟩ => ⟨a, y, e, ⟨dx, s _ _ (fun ys z => by cases z) k⟩, g⟩
theorem GE.tq {C CL : Addr} {H H' : Hp} {v : V} (h : GE C CL H v) (s : Tq H H') : GE C CL H' v := by
  obtain ⟨a, x, i, v2, v3, v4, v5, v6, e, ea, l1, l2, l3, i0, f2, f3, f4, f5, f6⟩ := h
  exact ⟨a, x, i, v2, v3, v4, v5, v6, e, s.tp _ _ ea, l1, l2, l3, i0, f2, f3.tq s, f4.tq s, f5.tq s, f6.tq s⟩
/-- a key -/
def KyV (H : Hp) (v : V) : Prop := ∃ (t : Addr) (x : Str) (i : Int), v = .ref t ∧ H t = some (.tup [.str x, .int i]) ∧ letts x
theorem KyV.tq {H H' : Hp} {v : V} (h : KyV H v) (s : Tq H H') : KyV H' v := by
  obtain ⟨t, x, i, e, et, l⟩ := h
  exact ⟨t, x, i, e, s.tp _ _ et, l⟩
theorem keys_dp {H : Hp} : ∀ xs : List V, (∀ v ∈ xs, KyV H v) → ∃ ds, DpAll K H xs ds ∧ PyData.canLayAll0 ds = true ∧ PyData.depthAll ds ≤ 3
  | [], _ => ⟨[], .nil, by simp [PyData.canLayAll0], by simp [PyData.depthAll]⟩
  | v :: r, h => by
    obtain ⟨ds, q1, q2, q3⟩ := keys_dp r (fun w hw => h w (List.mem_cons_of_mem _ hw))
    obtain ⟨t, a, b, rfl, e, la⟩ := h v List.mem_cons_self
    refine ⟨.tuple [.str a, .int b] :: ds, .cons (.tup (SqT.of e) (.cons (.str a) (.cons (.int b) .nil))) q1, ?_, ?_⟩
    · simp [PyData.canLayAll0, PyData.canLay0, q2, la.asc.ok]
    · simp only [PyData.depthAll, PyData.depth]
      omega
theorem shaped_ky {a : Str} {b : Int} (ha : Asc7 a) : SeqAt.shaped (.tuple [.str a, .int b]) = true := by
  unfold SeqAt.shaped
  have h1 : (PyData.tuple [.str a, .int b]).canLay0 = true := by simp [PyData.canLay0, PyData.canLayAll0, ha.ok]
  have h2 : (PyData.tuple [.str a, .int b]).depth ≤ 64 := by simp only [PyData.depth, PyData.depthAll]; omega
  rw [h1, decide_eq_true h2]
  rfl
def spEntries (C CL : Addr) : Sp := fun vs H Q _ => ∃ (h o L : Addr) (n : Int) (xs : List V), vs = [.ref h, .ref L, .int 3] ∧ Hd h o n H ∧ n + 1000 ≤ far ∧ H L = some (.lst xs) ∧ L ∉ [h, o] ∧ xs ≠ [] ∧ xs.length ≤ 10 ∧ (∀ v ∈ xs, Nm H v) ∧
  ∀ (t : Addr) (es : List V) H', H' t = some (.tup es) → es.length = 3 → (∀ e ∈ es, GE C CL H' e) → Hd h o (n + 500) H' → Bt [h, o] H H' → Q (.ref t) H'
theorem ok_entries {f : Addr} {fd : FuncData} {fG gG : Addr} {fdG gdG : FuncData} (D : Df K mg "_law_entries" ["_law_hand_here", "_law_names_here", "_law_many"] sEntries f fd) (T : Txt K mg C CL) (cT : Ca P w K mg base 1 "_law_take" ["_law_hand_here", "_law_many"] spTake) (cP : Ca P w K mg base 2 "_law_pick" ["_law_hand_here", "_law_some_here"] spPick) (cWo : Ca P w K mg base 3 "_law_word" ["_law_hand_here", "_law_least", "_law_most"] spWord) (cSo : Ca P w K mg base 3 "_law_some" ["_law_hand_here", "_law_names_here"] spSome) (cCo : Ca P w K mg base 3 "_law_code" ["_law_hand_here"] spCode) (cDa : Ca P w K mg base 6 "_law_day" ["_law_hand_here", "_law_year"] (spDay C)) (G : Dc P w K mg base C fG fdG) (GL : Lc P w K mg base CL gG gdG) : FnOk P w K mg base CX0 7 f fd ["_law_hand_here", "_law_names_here", "_law_many"] (spEntries C CL) := by
  refine D.fn.ok scEntries (fun vs H Q E h => ?_) (fun cdv A outer s H vs Q E hr h => ?_)
  · obtain ⟨h, o, L, n, xs, rfl, hd, hn, eL, Lo, ne, l10, al, q⟩ := h
    rfl
  · obtain ⟨h, o, L, n, xs, rfl, hd, hn, eL, Lo, ne, l10, al, q⟩ := h
    refine ⟨_, (pss_cons (ps_setLc (i := 4) (own := [("_law_k", 3)]) (g := gName 3) (tt := tYes) (by rfl) scEntries.nd rfl rfl (sw_true rfl rfl rfl (by decide +kernel)) (pi_range1 (by rfl) T.range (pa_cons (pe_op op_add pe_int (pe_ca cT hr (by decide) (by rfl) (pa_cons (pv 0) (pa_cons pe_int pa_nil)))) pa_nil)) (blkOk_by (own := [("_law_k", 3)]) (N := ["_law_hand_here", "_law_names_here", "_law_many", "_law_k", "_law_houses", "_law_codes", "_law_found", "_law_keys", "_law_far", "_law_year", "_law_seconds", "_law_share", "_law_key", "_law_things", "_law_thing"]) (sc := defScope sEntries) (by decide +kernel)) (fun _ _ _ _ _ => pg_name (i := 3) scEntries.nd rfl (.inl rfl)) (fun _ _ _ _ _ => pts_nil) (fun _ _ _ _ _ => pe_ca cWo hr (by decide) (by rfl) (pa_cons (pv 0) (pa_cons pe_int (pa_cons pe_int pa_nil)))))
      (pss_cons (ps_setLc (i := 5) (own := [("_law_k", 3)]) (g := gName 3) (tt := tYes) (by rfl) scEntries.nd rfl rfl (sw_true rfl rfl rfl (by decide +kernel)) (pi_range1 (by rfl) T.range (pa_cons pe_int pa_nil)) (blkOk_by (own := [("_law_k", 3)]) (N := ["_law_hand_here", "_law_names_here", "_law_many", "_law_k", "_law_houses", "_law_codes", "_law_found", "_law_keys", "_law_far", "_law_year", "_law_seconds", "_law_share", "_law_key", "_law_things", "_law_thing"]) (sc := defScope sEntries) (by decide +kernel)) (fun _ _ _ _ _ => pg_name (i := 3) scEntries.nd rfl (.inl rfl)) (fun _ _ _ _ _ => pts_nil) (fun _ _ _ _ _ => pe_ca cCo hr (by decide) (by rfl) (pa_cons (pv 0) pa_nil)))
      (pss_cons (ps_par3 (i := 6) (j := 7) (l := 8) (by rfl) scEntries.nd rfl rfl rfl (by decide) (by decide) (by decide) rfl rfl rfl (pa_cons (pe_lst pa_nil) (pa_cons (pe_lst pa_nil) (pa_cons (pe_ca cP hr (by decide) (by rfl) (pa_cons (pv 0) (pa_cons (pe_lst (pa_cons pe_int (pa_cons pe_int (pa_cons (pe_op op_pow pe_int pe_int) pa_nil)))) pa_nil))) pa_nil))) (by rfl))
      (pss_cons (ps_asg (pe_tup (pa_cons (pe_op op_add pe_int (pe_ca cT hr (by decide) (by rfl) (pa_cons (pv 0) (pa_cons pe_int pa_nil)))) (pa_cons (pe_ca cT hr (by decide) (by rfl) (pa_cons (pv 0) (pa_cons pe_int pa_nil))) (pa_cons (pe_op op_add pe_int (pe_ca cT hr (by decide) (by rfl) (pa_cons (pv 0) (pa_cons pe_int pa_nil)))) pa_nil)))) (pg_tup (by rfl) (pgs_cons (pg_name (i := 9) scEntries.nd rfl (.inl rfl)) (pgs_cons (pg_name (i := 10) scEntries.nd rfl (.inl rfl)) (pgs_cons (pg_name (i := 11) scEntries.nd rfl (.inr rfl)) pgs_nil)))))
      (pss_cons (ps_for PassesOwn.never rfl (pi_range1 (by rfl) T.range (pa_cons (pv 2) pa_nil)) (pg_name (i := 3) scEntries.nd rfl (.inl rfl)) (pss_cons (ps_set (i := 12) scEntries.nd rfl (.inl rfl) (pe_tup (pa_cons (pe_ca cP hr (by decide) (by rfl) (pa_cons (pv 0) (pa_cons (pv 4) pa_nil))) (pa_cons (pe_op op_add (pv 8) (pe_ca cT hr (by decide) (by rfl) (pa_cons (pv 0) (pa_cons (pe_op op_mul pe_int (pv 2)) pa_nil)))) pa_nil))))
      (C8.pss_cut (ps_if (pt_cmpR (op_inD (r65 hr)) (pv 12) (pv 7) (by rfl)) (pss_one (ps_set (i := 12) scEntries.nd rfl (.inl rfl) (pe_tup (pa_cons (pe_ix ix_tup (pv 12) pe_int (fun _ _ => rfl)) (pa_cons (pe_op op_add (pe_op op_add (pv 8) (pe_op op_mul pe_int (pv 2))) (pv 3)) pa_nil))))) pss_nil)
      (pss_cons (ps_expr (pe_bm PySem.F.plainAttrs_list PySem.F.slot_list_append PySem.F.type_list_append mt_append (pv 7) (pa_cons (pv 12) pa_nil)))
      (pss_cons (ps_set (i := 13) scEntries.nd rfl (.inl rfl) (pe_lst (pa_cons (pe_ca cP hr (by decide) (by rfl) (pa_cons (pv 0) (pa_cons (pv 5) pa_nil))) (pa_cons (pe_ca cP hr (by decide) (by rfl) (pa_cons (pv 0) (pa_cons (pv 1) pa_nil))) (pa_cons (pe_ca cSo hr (by decide) (by rfl) (pa_cons (pv 0) (pa_cons (pv 1) pa_nil))) (pa_cons (pe_ca cDa hr (by decide) (by rfl) (pa_cons (pv 0) (pa_cons (pv 9) pa_nil))) pa_nil))))))
      (pss_cons (ps_expr (pe_bm PySem.F.plainAttrs_list PySem.F.slot_list_append PySem.F.type_list_append mt_append (pv 13) (pa_cons (pe_make GL.mm GL.ok (hr.mono (by decide)) (by rfl) T.mgL GL.bd .nil pass0 (pa_cons (pe_op op_add (pv 10) (pe_ca cT hr (by decide) (by rfl) (pa_cons (pv 0) (pa_cons pe_int pa_nil)))) pa_nil)) pa_nil)))
      (pss_one (ps_expr (pe_bm PySem.F.plainAttrs_list PySem.F.slot_list_append PySem.F.type_list_append mt_append (pv 6) (pa_cons (pe_op op_catA (pv 12) (pe_callTy call_tuple_of (by rfl) T.tuple (by decide +kernel) (pa_cons (pe_lc (own := [("_law_thing", 14)]) (g := gName 14) (tt := tYes) (by rfl) scEntries.nd (pi_list (pv 13)) (blkOk_by (own := [("_law_thing", 14)]) (N := ["_law_hand_here", "_law_names_here", "_law_many", "_law_k", "_law_houses", "_law_codes", "_law_found", "_law_keys", "_law_far", "_law_year", "_law_seconds", "_law_share", "_law_key", "_law_things", "_law_thing"]) (sc := defScope sEntries) (by decide +kernel)) (fun _ _ _ _ _ => pg_name (i := 14) scEntries.nd rfl (.inl rfl)) (fun _ _ _ _ _ => pts_nil) (fun _ _ _ _ _ => pe_ifExp (pt_cmpR op_gt (pe_ca cT hr (by decide) (by rfl) (pa_cons (pv 0) (pa_cons (pv 11) pa_nil))) pe_int (nomark _)) (pv 14) pe_non)) pa_nil))) pa_nil))))))))))
      (pss_one (ps_ret (pe_callTy call_tuple_of (by rfl) T.tuple (by decide +kernel) (pa_cons (pv 6) pa_nil))))))))), ?_⟩
    have fr : n + 1000 ≤ 1000000 := hn
    -- houses
    refine ⟨_, rfl, h, o, 3, n, rfl, by decide, by decide, hd, by show n ≤ 1000000; omega, fun d H1 d0 d1 h1 b1 => ?_⟩
    refine ⟨1, d, rfl, rfl, _, rfl, by omega, by omega, fun T' nT => ?_⟩
    have To := h1.fresh nT
    have sT := same_upd nT (o := .lst [])
    refine lc_range (lo := 0) (fun i Hi => ∃ ts : List Str, Hi T' = some (.lst (ts.map V.str)) ∧ ts.length = i ∧ (∀ t ∈ ts, letts t ∧ 1 ≤ t.length ∧ t.length ≤ 8) ∧ Hd h o (n + 1 + 60 * i) Hi ∧ Bt [h, o] H1 Hi) ?_ ?_ ?_
    · exact ⟨[], upd_same, rfl, by simp, (h1.same sT).mono (by omega), Bt.of sT⟩
    · rintro i Hi hi ⟨ts, eT, lt, ct, hdi, bi⟩
      have hi' : i < (1 + d).toNat := hi
      refine ⟨rfl, ?_⟩
      unfold tYes
      refine iteT ?_
      refine ⟨_, rfl, h, o, n + 1 + 60 * i, 1, 8, rfl, by decide, by decide, by decide, hdi, by show n + 1 + 60 * (i : Int) + 100 ≤ 1000000; omega, fun x H3 x0 x1 lx h3 b3 => ?_⟩
      refine ⟨_, b3 _ _ To eT, ?_, ts ++ [x], ?_, by rw [List.length_append, lt]; rfl, ?_, ?_, ?_⟩
      · rw [List.length_map, lt]
        exact Nat.lt_of_le_of_lt (show i ≤ 100 by omega) (by decide)
      · rw [upd_same, List.map_append]
        rfl
      · intro y hy
        rcases List.mem_append.mp hy with z | z
        · exact ct y z
        · rw [List.mem_singleton.mp z]
          exact ⟨lx, by omega, by omega⟩
      · exact (h3.upd To).mono (by omega)
      · intro b x nb e
        rw [upd_ne (ne_of_none e nT)]
        exact b3 b x nb (bi b x nb e)
    rintro H2 ⟨ts, eT, lt, ct, h2, b2⟩
    have lt' : ts.length = (1 + d).toNat := lt
    have tne : ts ≠ [] := fun z => by rw [z] at lt'; simp at lt'; omega
    have tl3 : ts.length ≤ 3 := by omega
    have h2' : Hd h o (n + 190) H2 := h2.mono (by
      show n + 1 + 60 * (((1 + d).toNat : Nat) : Int) ≤ n + 190
      omega)
    have bt2 : Bt [h, o] H H2 := b1.trans b2
    clear h2 b2 b1 h1 sT lt lt'
    -- codes
    refine ⟨3, rfl, by decide, by decide, fun U nU => ?_⟩
    have Uo := h2'.fresh nU
    have sU := same_upd nU (o := .lst [])
    refine lc_range (lo := 0) (fun i Hi => ∃ cs : List Str, Hi U = some (.lst (cs.map V.str)) ∧ cs.length = i ∧ (∀ c ∈ cs, cdD (.str c) = true) ∧ Hd h o (n + 190 + 14 * i) Hi ∧ Bt [h, o] H2 Hi) ?_ ?_ ?_
    · exact ⟨[], upd_same, rfl, by simp, (h2'.same sU).mono (by omega), Bt.of sU⟩
    · rintro i Hi hi ⟨cs, eU, lc, cc, hdi, bi⟩
      have hi' : i < 3 := hi
      refine ⟨rfl, ?_⟩
      unfold tYes
      refine iteT ?_
      refine ⟨_, rfl, h, o, n + 190 + 14 * i, rfl, hdi, by show n + 190 + 14 * (i : Int) + 30 ≤ 1000000; omega, fun x H3 cx h3 b3 => ?_⟩
      refine ⟨_, b3 _ _ Uo eU, ?_, cs ++ [x], ?_, by rw [List.length_append, lc]; rfl, ?_, ?_, ?_⟩
      · rw [List.length_map, lc]
        exact Nat.lt_of_le_of_lt (show i ≤ 100 by omega) (by decide)
      · rw [upd_same, List.map_append]
        rfl
      · intro y hy
        rcases List.mem_append.mp hy with z | z
        · exact cc y z
        · rw [List.mem_singleton.mp z]
          exact cx
      · exact (h3.upd Uo).mono (by omega)
      · intro b x nb e
        rw [upd_ne (ne_of_none e nU)]
        exact b3 b x nb (bi b x nb e)
    rintro H3 ⟨cs, eU, lc, cc, h3, b3⟩
    have lc3 : cs.length = 3 := lc
    have cne : cs ≠ [] := fun z => by rw [z] at lc3; simp at lc3
    have h3' : Hd h o (n + 232) H3 := h3.mono (by show n + 190 + 14 * (((3 : Int).toNat : Nat) : Int) ≤ n + 232; have : (3 : Int).toNat = 3 := rfl; omega)
    have eT3 := b3 _ _ To eT
    have bt3 := bt2.trans b3
    clear h3 b3 bt2 h2' sU lc eT
    -- found, keys, far
    refine ⟨(by show 0 ≤ sizeLine; decide), fun F nF => ⟨(by show 0 ≤ sizeLine; decide), fun Y nY => ?_⟩⟩
    have sF := same_upd nF (o := .lst [])
    have eF : (L2.upd H3 F (.lst [])) F = some (.lst []) := upd_same
    have Fo := h3'.fresh nF
    have HF : H F = none := bt3.none Fo nF
    generalize L2.upd H3 F (.lst []) = H4 at sF eF nY ⊢
    have sY := same_upd nY (o := .lst [])
    have eY : (L2.upd H4 Y (.lst [])) Y = some (.lst []) := upd_same
    have h4 := h3'.same sF
    have Yo := h4.fresh nY
    have bt4 := bt3.trans (Bt.of (A := [h, o]) sF)
    have HY : H Y = none := bt4.none Yo nY
    have FY : F ≠ Y := ne_of_none eF nY
    have eF5 := sY _ _ eF
    have eT5 := sY _ _ (sF _ _ eT3)
    have eU5 := sY _ _ (sF _ _ eU)
    have h5 := h4.same sY
    have bt5 := bt4.trans (Bt.of (A := [h, o]) sY)
    have TF : T' ≠ F := ne_of_none eT3 nF
    have UF : U ≠ F := ne_of_none eU nF
    have TY : T' ≠ Y := ne_of_none (sF _ _ eT3) nY
    have UY : U ≠ Y := ne_of_none (sF _ _ eU) nY
    generalize L2.upd H4 Y (.lst []) = H5 at sY eY eF5 eT5 eU5 h5 bt5 ⊢
    clear h4 bt4 sY sF h3' bt3 eT3 eU eF
    refine ⟨_, rfl, 10, 29, rfl, rfl, ⟨by decide, by decide, by decide⟩, (by show 3 ≤ sizeLine; decide), fun l3 n3 => ?_⟩
    have s6 := same_upd n3 (o := .lst [.int 0, .int 0, .int (10 ^ (29 : Int).toNat)])
    refine ⟨h, o, n + 232, _, rfl, h5.same s6, by show n + 232 ≤ 1000000; omega, .inl ⟨l3, _, rfl, upd_same, h5.fresh n3, by simp, by show 3 < 1000; decide, fun v H6 mv h6 b6 => ?_⟩⟩
    obtain ⟨r, rfl, r0⟩ : ∃ r : Int, v = .int r ∧ 0 ≤ r := by
      simp only [List.mem_cons, List.not_mem_nil, or_false] at mv
      rcases mv with e | e | e
      · exact ⟨_, e, by decide⟩
      · exact ⟨_, e, by decide⟩
      · exact ⟨_, e, by decide⟩
    have b56 := (Bt.of (A := [h, o]) s6).trans b6
    have eF6 := b56 _ _ Fo eF5
    have eY6 := b56 _ _ Yo eY
    have eT6 := b56 _ _ To eT5
    have eU6 := b56 _ _ Uo eU5
    have bt6 := bt5.trans b56
    clear eF5 eY eT5 eU5 bt5 b56 b6 s6 h5 mv
    refine ⟨_, _, _, rfl, ?_⟩
    -- year, seconds, share
    refine ⟨_, rfl, h, o, 9998, n + 232 + 1, rfl, by decide, by decide, h6, by show n + 232 + 1 ≤ 1000000; omega, fun u1 H7 x0 x1 h7 b7 => ⟨1, u1, rfl, rfl, _, rfl, h, o, 359998, n + 232 + 1 + 1, rfl, by decide, by decide, h7, by show n + 232 + 1 + 1 ≤ 1000000; omega, fun u2 H8 y0 y1 h8 b8 => ⟨_, rfl, h, o, 4, n + 232 + 1 + 1 + 1, rfl, by decide, by decide, h8, by show n + 232 + 1 + 1 + 1 ≤ 1000000; omega, fun u3 H9 z0 z1 h9 b9 => ⟨2, u3, rfl, rfl, (by show 3 ≤ sizeLine; decide), fun p np => ?_⟩⟩⟩⟩
    have sp := same_upd np (o := .tup [.int (1 + u1), .int u2, .int (2 + u3)])
    refine ⟨p, _, rfl, SqT.of upd_same, rfl, _, _, rfl, _, _, rfl, _, _, rfl, rfl, ?_⟩
    have bb := ((b7.trans b8).trans b9).trans (Bt.of (A := [h, o]) sp)
    have h10 : Hd h o (n + 240) (L2.upd H9 p (.tup [.int (1 + u1), .int u2, .int (2 + u3)])) := (h9.same sp).mono (by omega)
    generalize L2.upd H9 p (.tup [.int (1 + u1), .int u2, .int (2 + u3)]) = Ha at bb h10 ⊢
    have eF7 := bb _ _ Fo eF6
    have eY7 := bb _ _ Yo eY6
    have eT7 := bb _ _ To eT6
    have eU7 := bb _ _ Uo eU6
    have bt7 := bt6.trans bb
    clear eF6 eY6 eT6 eU6 bt6 bb h6 h7 h8 h9 b7 b8 b9 sp np
    obtain ⟨ye, ey, ye1, ye2⟩ : ∃ ye : Int, ye = 1 + u1 ∧ 1 ≤ ye ∧ ye ≤ 9998 := ⟨_, rfl, by omega, by omega⟩
    obtain ⟨sh, es', sh1, sh2⟩ : ∃ sh : Int, sh = 2 + u3 ∧ 2 ≤ sh ∧ sh ≤ 6 := ⟨_, rfl, by omega, by omega⟩
    refine ⟨_, rfl, 3, rfl, by decide, by decide, for_range (lo := 0) (n := (3 : Int).toNat) (fun k σ Hi => ∃ c3 c12 c13 c14 : Option V, σ = [some (.ref h), some (.ref L), some (.int 3), c3, some (.ref T'), some (.ref U), some (.ref F), some (.ref Y), some (.int r), some (.int ye), some (.int u2), some (.int sh), c12, c13, c14] ∧
      Hi T' = some (.lst (ts.map V.str)) ∧ Hi U = some (.lst (cs.map V.str)) ∧ (∃ ks, Hi Y = some (.lst ks) ∧ ks.length = k ∧ ∀ v ∈ ks, KyV Hi v) ∧ (∃ es, Hi F = some (.lst es) ∧ es.length = k ∧ ∀ e ∈ es, GE C CL Hi e) ∧ Hd h o (n + 240 + 60 * k) Hi ∧ Bt [h, o] H Hi) ?_ ?_ ?_⟩
    · refine ⟨none, none, none, none, ?_, eT7, eU7, ⟨[], eY7, rfl, by simp⟩, ⟨[], eF7, rfl, by simp⟩, h10.mono (by omega), bt7⟩
      rw [ey, es']
      rfl
    · rintro k σ Hi hk ⟨c3, c12, c13, c14, rfl, eTi, eUi, ⟨ks, eYi, lks, cks⟩, ⟨es, eFi, les, ces⟩, hdi, bi⟩
      have k3 : k < 3 := hk
      have tl : (ts.map V.str).length < 1000 := by rw [List.length_map]; omega
      have tne' : ts.map V.str ≠ [] := fun z => tne (List.map_eq_nil_iff.mp z)
      have cl : (cs.map V.str).length < 1000 := by rw [List.length_map]; omega
      have cne' : cs.map V.str ≠ [] := fun z => cne (List.map_eq_nil_iff.mp z)
      obtain ⟨N, eN, N1⟩ : ∃ N : Int, N = n + 240 + 60 * (k : Int) ∧ N + 100 ≤ 1000000 := ⟨_, rfl, by omega⟩
      rw [← eN] at hdi
      -- the key
      refine ⟨_, rfl, _, rfl, h, o, N, _, rfl, hdi, by show N ≤ 1000000; omega, .inl ⟨T', _, rfl, eTi, To, tne', tl, fun v1 Hb mv1 hb bb => ?_⟩⟩
      obtain ⟨x, mx, rfl⟩ := List.mem_map.mp mv1
      obtain ⟨lx1, lx2, lx3⟩ := ct x mx
      refine ⟨_, rfl, _, rfl, _, rfl, 2, 3, rfl, rfl, .inr (by decide), h, o, 2 * 3, N + 1, rfl, by decide, by decide, hb, by show N + 1 ≤ 1000000; omega, fun u Hc u0 u1' hc bc => ?_⟩
      refine ⟨r, u, rfl, rfl, (by show 2 ≤ sizeLine; decide), fun p np => ?_⟩
      have bic := bb.trans bc
      have tic := hdi.tq bic
      have eYc := bic _ _ Yo eYi
      refine ⟨fun σ Hx => ∃ (q : Addr) (i : Int), σ = [some (.ref h), some (.ref L), some (.int 3), some (.int (0 + (k : Int))), some (.ref T'), some (.ref U), some (.ref F), some (.ref Y), some (.int r), some (.int ye), some (.int u2), some (.int sh), some (.ref q), c13, c14] ∧ Hx q = some (.tup [.str x, .int i]) ∧ 0 ≤ i ∧ L2.Same Hc Hx, ?_, ?_⟩
      · have sp := same_upd np (o := .tup [.str x, .int (r + u)])
        have ep : (L2.upd Hc p (.tup [.str x, .int (r + u)])) p = some (.tup [.str x, .int (r + u)]) := upd_same
        have eYp := sp _ _ eYc
        obtain ⟨ds, dq1, dq2, dq3⟩ := keys_dp ks fun v hv => ((cks v hv).tq tic).tq (tq_same sp)
        refine ⟨_, rfl, _, rfl, _, ds, .tup (SqT.of ep) (.cons (.str x) (.cons (.int _) .nil)), .lst (SqL.of eYp) dq1, shaped_ky lx1.asc, shaped_list dq2 dq3, _, rfl, ite2 (fun e => ?_) (fun e => ?_)⟩
        · exact ⟨_, rfl, p, _, 0, .str x, rfl, rfl, SqT.of ep, rfl, _, rfl, _, rfl, 2, 3, rfl, rfl, .inr (by decide), r, 2 * 3, rfl, rfl, _, rfl, r + 2 * 3, 0 + (k : Int), rfl, rfl, (by show 2 ≤ sizeLine; decide), fun p2 np2 => ⟨p2, r + 2 * 3 + (0 + (k : Int)), rfl, upd_same, by omega, sp.trans (same_upd np2)⟩⟩
        · exact ⟨p, r + u, rfl, ep, by omega, sp⟩
      rintro σ Hq ⟨q', i, rfl, eq, i0, sd⟩
      have biq := bic.trans (Bt.of (A := [h, o]) sd)
      have tiq := hdi.tq biq
      have eTq := biq _ _ To eTi
      have eUq := biq _ _ Uo eUi
      have eYq := biq _ _ Yo eYi
      have eFq := biq _ _ Fo eFi
      have hq : Hd h o (N + 2) Hq := (hc.same sd).mono (by omega)
      have btq := bi.trans biq
      clear np sd bic tic eYc hb hc bb bc biq eTi eUi eYi eFi bi p hdi
      -- the keys
      refine ⟨_, rfl, .inl ⟨rfl, _, SqL.of eYq⟩, _, rfl, Y, _, _, rfl, rfl, eYq, Nat.lt_of_le_of_lt (show ks.length ≤ 100 by omega) (by decide), ?_⟩
      have eYy : (L2.upd Hq Y (.lst (ks ++ [.ref q']))) Y = some (.lst (ks ++ [.ref q'])) := upd_same
      have tqy := tq_upd (x := .lst (ks ++ [.ref q'])) eYq
      have eTy : (L2.upd Hq Y (.lst (ks ++ [.ref q']))) T' = some (.lst (ts.map V.str)) := by rw [upd_ne TY]; exact eTq
      have eUy : (L2.upd Hq Y (.lst (ks ++ [.ref q']))) U = some (.lst (cs.map V.str)) := by rw [upd_ne UY]; exact eUq
      have eFy : (L2.upd Hq Y (.lst (ks ++ [.ref q']))) F = some (.lst es) := by rw [upd_ne FY]; exact eFq
      have hy := hq.upd Yo (x := .lst (ks ++ [.ref q']))
      have bty : Bt [h, o] H (L2.upd Hq Y (.lst (ks ++ [.ref q']))) := fun b z nb e => by
        rw [upd_ne (ne_of_none e HY)]
        exact btq b z nb e
      generalize L2.upd Hq Y (.lst (ks ++ [.ref q'])) = Hy at eYy tqy eTy eUy eFy hy bty ⊢
      have eqy := tqy.tp _ _ eq
      have tiy := tiq.trans tqy
      clear eYq eTq eUq eFq hq btq tqy tiq eq
      -- the things
      refine ⟨_, rfl, _, rfl, h, o, N + 2, _, rfl, hy, by show N + 2 ≤ 1000000; omega, .inl ⟨U, _, rfl, eUy, Uo, cne', cl, fun v2 H7 mv2 h7 b7 => ?_⟩⟩
      have eL7 := (bty.trans b7) _ _ Lo eL
      refine ⟨_, rfl, _, rfl, h, o, N + 2 + 1, _, rfl, h7, by show N + 2 + 1 ≤ 1000000; omega, .inl ⟨L, xs, rfl, eL7, Lo, ne, by omega, fun v3 H8 mv3 h8 b8 => ?_⟩⟩
      have eL8 := b8 _ _ Lo eL7
      have bt8 := (bty.trans b7).trans b8
      refine ⟨_, rfl, _, rfl, h, o, L, N + 2 + 1 + 1, xs, rfl, h8, by show N + 2 + 1 + 1 + 20 ≤ 1000000; omega, eL8, Lo, ne, l10, fun v hv => (al v hv).tp (hd.tp bt8), fun t ws qs H9 et na ris q1 q8 gq h9 b9 => ?_⟩
      refine ⟨_, rfl, _, rfl, h, o, N + 2 + 1 + 1 + 12, ye, rfl, ye1, ye2, h9, by show N + 2 + 1 + 1 + 12 + 20 ≤ 1000000; omega, fun a5 y5 m5 d5 H10 da gd5 ao h10' b10 => ?_⟩
      have f2 : F2 v2 := by
        obtain ⟨c, mc, rfl⟩ := List.mem_map.mp mv2
        exact .inr ⟨c, rfl, cc c mc⟩
      have f3 : F3 H10 v3 := .inr (nm_na ((al v3 mv3).tp (hd.tp ((bt8.trans b9).trans b10))))
      have f4 : F4 H10 (.ref t) := .inr ⟨t, ws, qs, rfl, h9.tp b10 _ _ et, na.tp (h9.tp b10), ris, q1, q8, gq⟩
      have f5 : F5 C H10 (.ref a5) := .inr ⟨a5, y5, m5, d5, rfl, da, gd5⟩
      have by10 := ((b7.trans b8).trans b9).trans b10
      have h10 : Hd h o (N + 20) H10 := h10'.mono (by omega)
      have eY10 := by10 _ _ Yo eYy
      have eF10 := by10 _ _ Fo eFy
      have eT10 := by10 _ _ To eTy
      have eU10 := by10 _ _ Uo eUy
      have ti10 := tiy.trans (hy.tq by10)
      have bt10 := bty.trans by10
      have eq10 := (hy.tq by10).tp _ _ eqy
      clear eYy eFy eTy eUy tiy bty by10 b7 b8 b9 b10 h7 h8 h9 h10' eL7 eL8 bt8 et na ris q1 q8 gq da ao eqy hy mv2 mv3
      refine ⟨(by show 4 ≤ sizeLine; decide), fun Z nZ => ?_⟩
      have Zo := h10.fresh nZ
      have sZ := same_upd nZ (o := .lst [v2, v3, .ref t, .ref a5])
      have eZ : (L2.upd H10 Z (.lst [v2, v3, .ref t, .ref a5])) Z = some (.lst [v2, v3, .ref t, .ref a5]) := upd_same
      have HZ : H Z = none := bt10.none Zo nZ
      have YZ : Y ≠ Z := ne_of_none eY10 nZ
      have FZ : F ≠ Z := ne_of_none eF10 nZ
      have TZ : T' ≠ Z := ne_of_none eT10 nZ
      have UZ : U ≠ Z := ne_of_none eU10 nZ
      have hz := h10.same sZ
      generalize L2.upd H10 Z (.lst [v2, v3, .ref t, .ref a5]) = Hz at sZ eZ hz ⊢
      -- the length
      refine ⟨_, rfl, .inl ⟨rfl, _, SqL.of eZ⟩, _, rfl, _, rfl, h, o, 3, N + 20, rfl, by decide, by decide, hz, by show N + 20 ≤ 1000000; omega, fun u6 H11 w0 w1 h11 b11 => ⟨u2, u6, rfl, rfl, ?_⟩⟩
      refine fun o' dx no nd ne' => ⟨o', dx, u2 + u6, rfl, upd_same, by omega, by omega, fun H12 keep al12 => ⟨rfl, ?_⟩⟩
      have s12 : L2.Same H11 H12 := fun b z eb => keep b z (by
        rw [upd_ne (ne_of_none eb no), upd_ne (ne_of_none eb nd)]
        exact eb) (ne_of_none eb no)
      have b12 := ((Bt.of (A := [h, o]) sZ).trans b11).trans (Bt.of s12)
      have t12 := h10.tq b12
      have eZ12 := (b11.trans (Bt.of (A := [h, o]) s12)) _ _ Zo eZ
      have eY12 := b12 _ _ Yo eY10
      have eF12 := b12 _ _ Fo eF10
      have eT12 := b12 _ _ To eT10
      have eU12 := b12 _ _ Uo eU10
      have h12 : Hd h o (N + 21) H12 := (h11.same s12).mono (by omega)
      have bt12 := bt10.trans b12
      have ti12 := ti10.trans t12
      have eq12 := t12.tp _ _ eq10
      have g3 := f3.tq t12
      have g4 := f4.tq t12
      have g5 := f5.tq t12
      have g6 : F6 CL H12 (.ref o') := .inr ⟨o', u2 + u6, rfl, al12, by omega, by omega⟩
      clear keep al12 no nd ne' s12 b12 t12 f3 f4 f5 h11 b11 eZ eY10 eF10 eT10 eU10 bt10 ti10 eq10 hz sZ h10 nZ
      refine ⟨Z, _, _, rfl, rfl, eZ12, (by show 4 < sizeLine; decide), ?_⟩
      have tqz := tq_upd (x := .lst ([v2, v3, .ref t, .ref a5] ++ [.ref o'])) eZ12
      have eZ13 : (L2.upd H12 Z (.lst ([v2, v3, .ref t, .ref a5] ++ [.ref o']))) Z = some (.lst [v2, v3, .ref t, .ref a5, .ref o']) := upd_same
      have eY13 : (L2.upd H12 Z (.lst ([v2, v3, .ref t, .ref a5] ++ [.ref o']))) Y = some (.lst (ks ++ [.ref q'])) := by rw [upd_ne YZ]; exact eY12
      have eF13 : (L2.upd H12 Z (.lst ([v2, v3, .ref t, .ref a5] ++ [.ref o']))) F = some (.lst es) := by rw [upd_ne FZ]; exact eF12
      have eT13 : (L2.upd H12 Z (.lst ([v2, v3, .ref t, .ref a5] ++ [.ref o']))) T' = some (.lst (ts.map V.str)) := by rw [upd_ne TZ]; exact eT12
      have eU13 : (L2.upd H12 Z (.lst ([v2, v3, .ref t, .ref a5] ++ [.ref o']))) U = some (.lst (cs.map V.str)) := by rw [upd_ne UZ]; exact eU12
      have h13 := h12.upd Zo (x := .lst ([v2, v3, .ref t, .ref a5] ++ [.ref o']))
      have bt13 : Bt [h, o] H (L2.upd H12 Z (.lst ([v2, v3, .ref t, .ref a5] ++ [.ref o']))) := fun b z nb e => by
        rw [upd_ne (ne_of_none e HZ)]
        exact bt12 b z nb e
      generalize L2.upd H12 Z (.lst ([v2, v3, .ref t, .ref a5] ++ [.ref o'])) = H13 at tqz eZ13 eY13 eF13 eT13 eU13 h13 bt13 ⊢
      have ti13 := ti12.trans tqz
      have eq13 := tqz.tp _ _ eq12
      have g3 := g3.tq tqz
      have g4 := g4.tq tqz
      have g5 := g5.tq tqz
      have g6 := g6.tq tqz
      clear tqz ti12 eq12 eZ12 eY12 eF12 eT12 eU12 h12 bt12
      -- told or not
      refine ⟨_, rfl, .inl ⟨rfl, _, SqL.of eF13⟩, _, rfl, _, rfl, Z, rfl, ⟨_, SqL.of eZ13⟩, fun W nW => ?_⟩
      have Wo := h13.fresh nW
      have sW := same_upd nW (o := .lst [])
      refine lc_list (K := K) (a := Z) (xs := [v2, v3, .ref t, .ref a5, .ref o']) (fun j Hj => ∃ rs : List V, Hj W = some (.lst rs) ∧ rs.length = j ∧ (∀ (i : Nat) (v : V), rs[i]? = some v → v = V.non ∨ [v2, v3, .ref t, .ref a5, .ref o'][i]? = some v) ∧ Hd h o (N + 21 + j) Hj ∧ Bt [h, o] H13 Hj) ?_ ?_ ?_ ?_
      · exact ⟨[], upd_same, rfl, by simp, (h13.same sW).mono (by omega), Bt.of sW⟩
      · rintro j Hj _ ⟨rs, _, _, _, _, bj⟩
        exact SqL.of (bj _ _ Zo eZ13)
      · rintro j y Hj hy ⟨rs, eW, lr, cr, hj, bj⟩
        have j5 : j < 5 := (List.getElem?_eq_some_iff.mp hy).1
        refine ⟨rfl, ?_⟩
        unfold tYes
        refine iteT ?_
        refine ⟨_, rfl, _, rfl, h, o, sh, N + 21 + j, rfl, by omega, by omega, hj, by show N + 21 + (j : Int) ≤ 1000000; omega, fun u' Hk k0 k1 hk' bk => ⟨u', 0, rfl, rfl, _, rfl, ?_⟩⟩
        have eWk := bk _ _ Wo eW
        have fin : ∀ z : V, (z = .non ∨ z = y) → ∃ acc, Hk W = some (.lst acc) ∧ acc.length < sizeLine ∧ ∃ rs : List V, (L2.upd Hk W (.lst (acc ++ [z]))) W = some (.lst rs) ∧ rs.length = j + 1 ∧ (∀ (i : Nat) (v : V), rs[i]? = some v → v = V.non ∨ [v2, v3, .ref t, .ref a5, .ref o'][i]? = some v) ∧ Hd h o (N + 21 + ((j + 1 : Nat) : Int)) (L2.upd Hk W (.lst (acc ++ [z]))) ∧ Bt [h, o] H13 (L2.upd Hk W (.lst (acc ++ [z]))) := fun z hz => by
          refine ⟨rs, eWk, Nat.lt_of_le_of_lt (show rs.length ≤ 100 by omega) (by decide), rs ++ [z], upd_same, by rw [List.length_append, lr]; rfl, fun i v hi => ?_, (hk'.upd Wo).mono (by omega), fun b w nb e => ?_⟩
          · by_cases il : i < rs.length
            · rw [List.getElem?_append_left il] at hi
              exact cr i v hi
            · have ie : i = rs.length := by
                have := (List.getElem?_eq_some_iff.mp hi).1
                simp at this
                omega
              rw [ie, List.getElem?_append_right (Nat.le_refl _)] at hi
              simp at hi
              rw [ie, lr, ← hi]
              rcases hz with rfl | rfl
              · exact .inl rfl
              · exact .inr hy
          · rw [upd_ne (ne_of_none e nW)]
            exact bk b w nb (bj b w nb e)
        refine ite2 (fun e => ?_) (fun e => ?_)
        · exact ⟨_, rfl, fin y (.inr rfl)⟩
        · exact fin .non (.inl rfl)
      rintro He ⟨rs, eW, lr, cr, hde, be⟩
      have lr5 : rs.length = 5 := lr
      obtain ⟨w2, w3, w4, w5, w6, rfl⟩ : ∃ w2 w3 w4 w5 w6, rs = [w2, w3, w4, w5, w6] := by
        match rs, lr5 with
        | [a, b, c, d, e], _ => exact ⟨a, b, c, d, e, rfl⟩
      have te := h13.tq be
      have pick : ∀ (P : V → Prop) (i : Nat) (w z : V), P .non → P z → [w2, w3, w4, w5, w6][i]? = some w → [v2, v3, .ref t, .ref a5, .ref o'][i]? = some z → P w := fun P i w z p1 p2 e1 e2 => by
        rcases cr i w e1 with rfl | e3
        · exact p1
        · rw [e2] at e3
          cases e3
          exact p2
      have x2 : F2 w2 := pick _ 0 w2 v2 (.inl rfl) f2 rfl rfl
      have x3 : F3 He w3 := pick _ 1 w3 v3 (.inl rfl) (g3.tq te) rfl rfl
      have x4 : F4 He w4 := pick _ 2 w4 (.ref t) (.inl rfl) (g4.tq te) rfl rfl
      have x5 : F5 C He w5 := pick _ 3 w5 (.ref a5) (.inl rfl) (g5.tq te) rfl rfl
      have x6 : F6 CL He w6 := pick _ 4 w6 (.ref o') (.inl rfl) (g6.tq te) rfl rfl
      refine ⟨W, _, rfl, .inl ⟨SqL.of eW, fun p5 np5 => ?_⟩⟩
      have s5 := same_upd np5 (o := .tup [w2, w3, w4, w5, w6])
      refine ⟨q', p5, [.str x, .int i], [w2, w3, w4, w5, w6], rfl, rfl, SqT.of (s5 _ _ (te.tp _ _ eq13)), SqT.of upd_same, (by show 7 ≤ sizeLine; decide), (fun z => nomatch z), (fun _ z => nomatch z), fun _ _ p7 np7 => ?_⟩
      have s7 := s5.trans (same_upd np7 (o := .tup ([.str x, .int i] ++ [w2, w3, w4, w5, w6])))
      have e7 : (L2.upd (L2.upd He p5 (.tup [w2, w3, w4, w5, w6])) p7 (.tup ([.str x, .int i] ++ [w2, w3, w4, w5, w6]))) p7 = some (.tup [.str x, .int i, w2, w3, w4, w5, w6]) := upd_same
      have h7 := hde.same s7
      generalize L2.upd (L2.upd He p5 (.tup [w2, w3, w4, w5, w6])) p7 (.tup ([.str x, .int i] ++ [w2, w3, w4, w5, w6])) = Hf at s7 e7 h7 ⊢
      have bf := be.trans (Bt.of (A := [h, o]) s7)
      have tf := te.trans (tq_same s7)
      have eFf := bf _ _ Fo eF13
      refine ⟨F, _, _, rfl, rfl, eFf, Nat.lt_of_le_of_lt (show es.length ≤ 100 by omega) (by decide), ?_⟩
      have tg := tq_upd (x := .lst (es ++ [.ref p7])) eFf
      have ta := (ti13.trans tf).trans tg
      have ge : GE C CL Hf (.ref p7) := ⟨p7, x, i, w2, w3, w4, w5, w6, rfl, e7, lx1, lx2, lx3, i0, x2, x3.tq (tq_same s7), x4.tq (tq_same s7), x5.tq (tq_same s7), x6.tq (tq_same s7)⟩
      have kf : KyV Hf (.ref q') := ⟨q', x, i, rfl, tf.tp _ _ eq13, lx1⟩
      refine ⟨_, _, _, _, rfl, by rw [upd_ne TF]; exact bf _ _ To eT13, by rw [upd_ne UF]; exact bf _ _ Uo eU13, ⟨ks ++ [.ref q'], by rw [upd_ne (Ne.symm FY)]; exact bf _ _ Yo eY13, by rw [List.length_append, lks]; rfl, fun v hv => ?_⟩, ⟨es ++ [.ref p7], upd_same, by rw [List.length_append, les]; rfl, fun e he => ?_⟩, (h7.upd Fo).mono ?_, fun b z nb e => ?_⟩
      · rcases List.mem_append.mp hv with z | z
        · exact (cks v z).tq ta
        · rw [List.mem_singleton.mp z]
          exact kf.tq tg
      · rcases List.mem_append.mp he with z | z
        · exact (ces e z).tq ta
        · rw [List.mem_singleton.mp z]
          exact ge.tq tg
      · show N + 21 + ((5 : Nat) : Int) ≤ n + 240 + 60 * ((k + 1 : Nat) : Int)
        omega
      · rw [upd_ne (ne_of_none e HF)]
        exact bf b z nb (bt13 b z nb e)
    rintro σ He ⟨c3, c12, c13, c14, rfl, eTe, eUe, _, ⟨es, eFe, les, ces⟩, hde, be⟩
    refine ⟨_, rfl, F, _, rfl, .inl ⟨SqL.of eFe, fun p np => ?_⟩⟩
    have sp := same_upd np (o := .tup es)
    refine q p es _ upd_same les (fun e he => (ces e he).tq (tq_same sp)) ((hde.same sp).mono ?_) (be.trans (Bt.of sp))
    show n + 240 + 60 * (((3 : Int).toNat : Nat) : Int) ≤ n + 500
    have : (3 : Int).toNat = 3 := rfl
    omega
end
end K20
set_option Elab.async false
set_option linter.all false
set_option maxRecDepth 100000
set_option maxHeartbeats 4000000
set_option pp.maxSteps 400
set_option pp.deepTerms false
/-! text * int, of any text and any small number from nought on -/
namespace Xrep
open PySem PySem.Spec PyProof.Rows L2
/-- a text so many times -/
def rep (z : Str) (n : Nat) : Str := ⟨(List.replicate n z.cps.toList).flatten.toArray⟩
theorem rep_list (z : Str) (n : Nat) : (rep z n).cps.toList = (List.replicate n z.cps.toList).flatten := by
  unfold rep
  rw [List.toList_toArray]
theorem rep_len (z : Str) (n : Nat) : (rep z n).length = n * z.length := by
  show ((List.replicate n z.cps.toList).flatten.toArray).size = _
  rw [List.size_toArray, List.length_flatten, List.map_replicate, List.sum_replicate_nat]
  rfl
theorem fold_app : ∀ (xs : List (Array Nat)) (a : Array Nat), (xs.foldl (· ++ ·) a).toList = a.toList ++ (xs.map (·.toList)).flatten
  | [], a => by simp
  | x :: r, a => by
    rw [List.foldl_cons, fold_app r (a ++ x), Array.toList_append, List.map_cons, List.flatten_cons, List.append_assoc]
theorem fold_rep (z : Str) (n : Nat) : (⟨(List.replicate n z.cps).foldl (· ++ ·) #[]⟩ : Str) = rep z n := by
  have e := fold_app (List.replicate n z.cps) #[]
  rw [List.nil_append, List.map_replicate] at e
  unfold rep
  rw [← e]
section
variable {X : Cx}
theorem op_rep : OpR X (binaryOp .Mult) (fun x y H Q => ∃ (z : Str) (n : Nat), x = .str z ∧ y = .int (n : Nat) ∧ n ≤ 1000 ∧ z.length ≤ 1000 ∧ Q (.str (rep z n)) H) := by
  intro pins s σ H x y v u Q I rx ry h
  obtain ⟨z, n, rfl, rfl, hn, hz, q⟩ := h
  obtain ⟨t, rfl⟩ := rx
  obtain ⟨t2, rfl⟩ := ry
  have big : z.length * n ≤ 1000000 := Nat.le_trans (Nat.mul_le_mul hz hn) (by decide)
  have r0 : (decide (((n : Nat) : Int) < -(2 ^ 63 : Int)) || decide (((n : Nat) : Int) ≥ 2 ^ 63)) = false := by
    rw [decide_eq_false (show ¬ ((n : Nat) : Int) < -(2 ^ 63 : Int) by omega), decide_eq_false (show ¬ ((n : Nat) : Int) ≥ 2 ^ 63 by omega)]
    rfl
  have tl : Builtin.Str.tooLong (z.length * ((n : Nat) : Int).toNat) = false := by
    show decide (z.length * n > sizeLine) = false
    have : sizeLine = 16777216 := by decide
    exact decide_eq_false (by omega)
  refine PySem.P.mul_str r0 (fun h1 _ => ?_) (fun _ _ => tl) ?_
  · have p : (1 : Int) ≤ (n : Int) := by omega
    have d : (1000 : Int) ≤ (2 ^ 63 - 1) / (n : Int) := by
      refine Int.le_ediv_of_mul_le (by omega) ?_
      have : (1000 : Int) * (n : Int) ≤ 1000000 := by omega
      omega
    omega
  · by_cases h1 : ((n : Nat) : Int) < 1
    · rw [if_pos h1]
      have n0 : n = 0 := by omega
      subst n0
      exact ⟨by decide +kernel, .str Str.empty, H, I.tok _, ⟨_, rfl⟩, q⟩
    · rw [if_neg h1]
      by_cases h2 : (((n : Nat) : Int) == 1 || z.length == 0) = true
      · rw [if_pos h2]
        have e : z = rep z n := by
          rw [Bool.or_eq_true, beq_iff_eq, beq_iff_eq] at h2
          obtain ⟨c⟩ := z
          unfold rep
          rcases h2 with h2 | h2
          · have n1 : n = 1 := by omega
            subst n1
            simp
          · have ce : c = #[] := Array.eq_empty_of_size_eq_zero h2
            subst ce
            simp
        rw [← e] at q
        exact ⟨.str z, H, I, ⟨_, rfl⟩, q⟩
      · rw [if_neg h2]
        have ft : (rep z n).length ≤ sizeLine := by
          rw [rep_len]
          have : sizeLine = 16777216 := by decide
          have : n * z.length = z.length * n := Nat.mul_comm _ _
          omega
        rw [show ((n : Nat) : Int).toNat = n from rfl, fold_rep]
        exact ⟨ft, .str _, H, I.tok _, ⟨_, rfl⟩, q⟩
end
end Xrep
set_option Elab.async false
set_option linter.all false
set_option maxRecDepth 100000
set_option maxHeartbeats 4000000
set_option pp.maxSteps 400
set_option pp.deepTerms false
namespace K20
open PySem PySem.Spec PyProof.Rows L2
open Xk Th Xtn
section
variable {P : Program} {w : World} {K : PySem.W.Frag} {mg : Str → Option Value} {base : Heap} {C CL : Addr}
def ThV (K : PySem.W.Frag) (C CL : Addr) (n : Nat) (H : Hp) (v : V) : Prop := ∃ d, Dz K H v d ∧ ok [C, CL] n d
def AllV (K : PySem.W.Frag) (C CL : Addr) (B : List Addr) (H : Hp) (vs : List V) : Prop := ∀ v ∈ vs, ThV K C CL 9 (offS B H) v
/-- lists, all of them -/
def Occ (B : List Addr) (H : Hp) : Prop := ∀ b ∈ B, ∃ ys, H b = some (.lst ys)
theorem Occ.same {B : List Addr} {H H' : Hp} (h : Occ B H) (s : L2.Same H H') : Occ B H' := fun b hb => (h b hb).imp fun _ e => s _ _ e
theorem Occ.no {B : List Addr} {H : Hp} (h : Occ B H) {p : Addr} (np : H p = none) : p ∉ B := fun m => by
  obtain ⟨ys, e⟩ := h p m
  rw [np] at e
  cases e
theorem Occ.nt {B : List Addr} {H : Hp} (h : Occ B H) {p : Addr} {xs : List V} (ep : H p = some (.tup xs)) : p ∉ B := fun m => by
  obtain ⟨ys, e⟩ := h p m
  rw [ep] at e
  cases e
theorem Occ.put {B : List Addr} {H : Hp} {p : Addr} {xs : List V} (h : Occ B H) (np : H p = none) : Occ (p :: B) (L2.upd H p (.lst xs)) := fun b hb => by
  rcases List.mem_cons.mp hb with z | z
  · rw [z]
    exact ⟨_, upd_same⟩
  · exact (h.same (same_upd np)) b z
theorem Occ.mut {B : List Addr} {H : Hp} {p : Addr} {xs : List V} (h : Occ B H) : Occ B (L2.upd H p (.lst xs)) := fun b hb => by
  by_cases z : b = p
  · rw [z]
    exact ⟨_, upd_same⟩
  · rw [upd_ne z]
    exact h b hb
theorem Hd.occ {h o : Addr} {n : Int} {H : Hp} (a : Hd h o n H) : Occ [h, o] H := fun b hb => by
  obtain ⟨gs, m, c, r1, r2, _⟩ := a
  simp only [List.mem_cons, List.not_mem_nil, or_false] at hb
  rcases hb with z | z
  · rw [z]; exact ⟨_, r1⟩
  · rw [z]; exact ⟨_, r2⟩
theorem off_same {B : List Addr} {H H' : Hp} (s : L2.Same H H') : L2.Same (offS B H) (offS B H') := (Bt.of (A := B) s).off
theorem off_put {B : List Addr} {H : Hp} {p : Addr} {x : HO} (np : H p = none) : L2.Same (offS B H) (offS (p :: B) (L2.upd H p x)) := fun b y e => by
  unfold offS at e
  split at e
  · cases e
  · rename_i nb
    have bp : b ≠ p := fun z => by rw [z, np] at e; cases e
    refine offS_at (fun m => ?_) (by rw [upd_ne bp]; exact e)
    rcases List.mem_cons.mp m with z | z
    · exact bp z
    · exact nb z
theorem off_mut {B : List Addr} {H : Hp} {p : Addr} {x : HO} (m : p ∈ B) : L2.Same (offS B H) (offS B (L2.upd H p x)) := fun b y e => by
  unfold offS at e
  split at e
  · cases e
  · rename_i nb
    exact offS_at nb (by rw [upd_ne (fun z => nb (by rw [z]; exact m))]; exact e)
theorem off_sub {A B : List Addr} {H : Hp} (sub : ∀ a ∈ A, a ∈ B) : L2.Same (offS B H) (offS A H) := fun b y e => by
  unfold offS at e
  split at e
  · cases e
  · rename_i nb
    exact offS_at (fun m => nb (sub b m)) e
section
variable {K : PySem.W.Frag} {C CL : Addr} {B : List Addr} {H H' : Hp}
theorem AllV.off (h : AllV K C CL B H vs) (s : L2.Same (offS B H) (offS B' H')) : AllV K C CL B' H' vs := fun v hv => (h v hv).imp fun _ ⟨a, b⟩ => ⟨a.same s, b⟩
theorem AllV.same (h : AllV K C CL B H vs) (s : L2.Same H H') : AllV K C CL B H' vs := h.off (off_same s)
theorem AllV.nil : AllV K C CL B H [] := fun v hv => by cases hv
theorem AllV.cons (t : ThV K C CL 9 (offS B H) v) (h : AllV K C CL B H vs) : AllV K C CL B H (v :: vs) := fun u hu => by
  rcases List.mem_cons.mp hu with z | z
  · rw [z]; exact t
  · exact h u z
theorem AllV.app (h : AllV K C CL B H vs) (k : AllV K C CL B H ws) : AllV K C CL B H (vs ++ ws) := fun u hu => (List.mem_append.mp hu).elim (h u) (k u)
theorem AllV.all {n : Nat} : ∀ {vs : List V}, (∀ v ∈ vs, ThV K C CL n H v) → ∃ ds, DzAll K H vs ds ∧ oks [C, CL] n ds
  | [], _ => ⟨[], .nil, trivial⟩
  | v :: r, h => by
    obtain ⟨d, a, b⟩ := h v List.mem_cons_self
    obtain ⟨ds, c, e⟩ := AllV.all fun u hu => h u (List.mem_cons_of_mem _ hu)
    exact ⟨d :: ds, .cons a c, b, e⟩
theorem t_non : ThV K C CL n H .non := ⟨_, .non, trivial⟩
theorem t_bl (b : Bool) : ThV K C CL n H (.bl b) := ⟨_, .bl b, trivial⟩
theorem t_int (i : Int) : ThV K C CL n H (.int i) := ⟨_, .int i, trivial⟩
theorem t_str {x : Str} (l : x.length ≤ 2000) (a : ∀ c ∈ x.cps.toList, c < 128) : ThV K C CL n H (.str x) := ⟨_, .str x, l, a⟩
theorem AllV.tup {p : Addr} (h : AllV K C CL B H vs) (oc : Occ B H) (np : H p = none) (l : vs.length ≤ 9) : ThV K C CL 9 (offS B (L2.upd H p (.tup vs))) (.ref p) := by
  obtain ⟨ds, a, b⟩ := AllV.all (h.same (same_upd np (o := .tup vs)))
  exact ⟨.tuple ds, .tup (offS_at (oc.no np) upd_same) a, by rw [← dz_len a]; exact l, b⟩
theorem AllV.lst {p : Addr} (h : AllV K C CL B H vs) (oc : Occ B H) (np : H p = none) (l : vs.length ≤ 9) : ThV K C CL 9 (offS B (L2.upd H p (.lst vs))) (.ref p) := by
  obtain ⟨ds, a, b⟩ := AllV.all (h.same (same_upd np (o := .lst vs)))
  exact ⟨.list ds, .lst (offS_at (oc.no np) upd_same) a, by rw [← dz_len a]; exact l, b⟩
theorem t_dct {p : Addr} (oc : Occ B H) (np : H p = none) : ThV K C CL 9 (offS B (L2.upd H p (.dK []))) (.ref p) := ⟨.dict, .dct (offS_at (oc.no np) upd_same), trivial⟩
theorem AllV.tupAt {p : Addr} (h : AllV K C CL B H vs) (oc : Occ B H) (e : H p = some (.tup vs)) (l : vs.length ≤ 9) : ThV K C CL 9 (offS B H) (.ref p) := by
  obtain ⟨ds, a, b⟩ := AllV.all h
  exact ⟨.tuple ds, .tup (offS_at (oc.nt e) e) a, by rw [← dz_len a]; exact l, b⟩
theorem t_own {p D dx : Addr} {fs : List (Str × V)} (m : D ∈ [C, CL]) (w : Ow K D) (np : p ∉ B) (e : H p = some (.ins D dx fs)) : ThV K C CL 9 (offS B H) (.ref p) := ⟨.own D, .own (offS_at np e) w, m⟩
theorem num9 : ∀ k : Nat, k < 9 → (toString (0 + (k : Int)) : Str).length ≤ 2000 ∧ ∀ c ∈ (toString (0 + (k : Int)) : Str).cps.toList, c < 128 := by decide +kernel
theorem log9 : ∀ k : Nat, k < 9 → (0 + (k : Int)).natAbs.log2 < 1920 := by decide +kernel
theorem cutV_take (xs : List V) (k : Nat) : cutV xs none (some (k : Int)) = xs.take k := by
  unfold cutV
  have e1 : HT.sIx xs.length 0 none = 0 := rfl
  have e2 : HT.sIx xs.length xs.length (some (k : Int)) = min k xs.length := HT.sIx_nat xs.length xs.length k
  rw [e1, e2, List.drop_zero, Nat.sub_zero, List.take_eq_take_iff]
  omega
theorem AllV.sub (h : AllV K C CL B H vs) (s : ∀ w ∈ ws, w ∈ vs) : AllV K C CL B H ws := fun w hw => h w (s w hw)
end
def spOdd (K : PySem.W.Frag) (C CL : Addr) : Sp := fun vs H Q _ => ∃ (h o : Addr) (n : Int) (e : Addr) (xs : List V), vs = [.ref h, .ref e] ∧ Hd h o n H ∧ n + 20 ≤ far ∧ H e = some (.tup xs) ∧ xs.length ≤ 9 ∧ AllV K C CL [h, o] H (.ref e :: xs) ∧
  ∀ (v : V) H', ThV K C CL 9 (offS [h, o] H') v → Hd h o (n + 1) H' → Bt [h, o] H H' → Q v H'
theorem ok_odd {f : Addr} {fd : FuncData} {fG gG : Addr} {fdG gdG : FuncData} (D : Df K mg "_law_odd" ["_law_hand_here", "_law_entry"] sOdd f fd) (T : Txt K mg C CL) (cP : Ca P w K mg base 2 "_law_pick" ["_law_hand_here", "_law_some_here"] spPick) (G : Dc P w K mg base C fG fdG) (GL : Lc P w K mg base CL gG gdG) : FnOk P w K mg base CX0 6 f fd ["_law_hand_here", "_law_entry"] (spOdd K C CL) := by
  obtain ⟨ds1, vd1, bd1⟩ := G.b1
  refine D.fn.ok scOdd (fun vs H Q E h => ?_) (fun cdv A outer s H vs Q E hr h => ?_)
  · obtain ⟨h, o, n, e, xs, rfl, hd, hn, ee, lx9, acc, q⟩ := h
    rfl
  · obtain ⟨h, o, n, e, xs, rfl, hd, hn, ee, lx9, acc, q⟩ := h
    refine ⟨_, (pss_cons (ps_set (i := 2) scOdd.nd rfl (.inl rfl) (pe_lst (pa_cons pe_non (pa_cons pe_bl (pa_cons pe_bl (pa_cons pe_str (pa_cons pe_str (pa_cons pe_str (pa_cons pe_str (pa_cons pe_str (pa_cons (pe_op Xrep.op_rep pe_str pe_int) (pa_cons (pe_op Xrep.op_rep pe_str pe_int) (pa_cons pe_str (pa_cons (pe_un un_neg pe_int) (pa_cons pe_int (pa_cons (pe_op op_pow pe_int pe_int) pa_nil))))))))))))))))
      (pss_cons (ps_set (i := 2) scOdd.nd rfl (.inl rfl) (pe_op op_cat (pv 2) (pe_lst (pa_cons (pe_tup pa_nil) (pa_cons (pe_lst pa_nil) (pa_cons pe_dnewK (pa_cons (pe_tup (pa_cons pe_str (pa_cons pe_str pa_nil))) (pa_cons (pe_tup (pa_cons pe_str (pa_cons pe_str pa_nil))) (pa_cons (pe_tup (pa_cons (pe_tup (pa_cons pe_str (pa_cons pe_str pa_nil))) pa_nil)) (pa_cons (pe_tup (pa_cons (pe_tup (pa_cons pe_str (pa_cons pe_str pa_nil))) (pa_cons (pe_tup (pa_cons pe_str (pa_cons pe_str pa_nil))) pa_nil))) pa_nil))))))))))
      (pss_cons (ps_expr (pe_bm PySem.F.plainAttrs_list PySem.F.slot_list_append PySem.F.type_list_append mt_append (pv 2) (pa_cons (pe_tup (pa_cons (pe_tup (pa_cons pe_str (pa_cons pe_str pa_nil))) (pa_cons (pe_tup (pa_cons pe_str (pa_cons pe_str pa_nil))) pa_nil))) pa_nil)))
      (pss_cons (ps_set (i := 2) scOdd.nd rfl (.inl rfl) (pe_op op_cat (pv 2) (pe_lst (pa_cons (pe_callTy call_tuple_of (by rfl) T.tuple (by decide +kernel) (pa_cons (pe_lc (own := [("_law_k", 3)]) (g := gName 3) (tt := tYes) (by rfl) scOdd.nd (pi_range1 (by rfl) T.range (pa_cons pe_int pa_nil)) (blkOk_by (own := [("_law_k", 3)]) (N := ["_law_hand_here", "_law_entry", "_law_some_here", "_law_k"]) (sc := defScope sOdd) (by decide +kernel)) (fun _ _ _ _ _ => pg_name (i := 3) scOdd.nd rfl (.inl rfl)) (fun _ _ _ _ _ => pts_nil) (fun _ _ _ _ _ => pe_tup (pa_cons pe_str (pa_cons (pe_callTy call_str_int (by rfl) T.str (by decide +kernel) (pa_cons (pv 3) pa_nil)) pa_nil)))) pa_nil)) (pa_cons (pe_callTy call_tuple_of (by rfl) T.tuple (by decide +kernel) (pa_cons (pe_lc (own := [("_law_k", 3)]) (g := gName 3) (tt := tYes) (by rfl) scOdd.nd (pi_range1 (by rfl) T.range (pa_cons pe_int pa_nil)) (blkOk_by (own := [("_law_k", 3)]) (N := ["_law_hand_here", "_law_entry", "_law_some_here", "_law_k"]) (sc := defScope sOdd) (by decide +kernel)) (fun _ _ _ _ _ => pg_name (i := 3) scOdd.nd rfl (.inl rfl)) (fun _ _ _ _ _ => pts_nil) (fun _ _ _ _ _ => pe_tup (pa_cons pe_str (pa_cons (pe_callTy call_str_int (by rfl) T.str (by decide +kernel) (pa_cons (pv 3) pa_nil)) pa_nil)))) pa_nil)) pa_nil)))))
      (pss_cons (ps_set (i := 2) scOdd.nd rfl (.inl rfl) (pe_op op_cat (pv 2) (pe_lst (pa_cons (pe_make G.mm G.ok (hr.mono (by decide)) (by rfl) T.mgC bd1 vd1 pass0 (pa_cons pe_int pa_nil)) (pa_cons (pe_make GL.mm GL.ok (hr.mono (by decide)) (by rfl) T.mgL GL.bd .nil pass0 (pa_cons pe_int pa_nil)) (pa_cons pe_str (pa_cons (pe_tup (pa_cons pe_int (pa_cons pe_int (pa_cons pe_int pa_nil)))) (pa_cons pe_int (pa_cons pe_str (pa_cons (pv 1) (pa_cons (pe_slice Xtu.sl_tupU (pv 1) po_none (po_some pe_int)) (pa_cons (pe_lst (pa_cons (pe_tup (pa_cons pe_str (pa_cons pe_str pa_nil))) pa_nil)) pa_nil))))))))))))
      (pss_cons (ps_expr (pe_bm PySem.F.plainAttrs_list PySem.F.slot_list_append PySem.F.type_list_append mt_append (pv 2) (pa_cons (pe_tup (pa_cons (pe_tup (pa_cons pe_str (pa_cons pe_str pa_nil))) (pa_cons (pe_lst (pa_cons pe_str (pa_cons pe_str pa_nil))) pa_nil))) pa_nil)))
      (pss_one (ps_ret (pe_ca cP hr (by decide) (by rfl) (pa_cons (pv 0) (pa_cons (pv 2) pa_nil))))))))))), ?_⟩
    have fr : n + 20 ≤ 1000000 := hn
    have bt : Bt [h, o] H H := Bt.refl _ _
    have oc := hd.occ
    refine ⟨"A", 12, rfl, rfl, by decide, by decide +kernel, "A", 13, rfl, rfl, by decide, by decide +kernel, 1, rfl, 10, 29, rfl, rfl, ⟨by decide, by decide, by decide⟩, (by show 14 ≤ sizeLine; decide), fun S1 n2 => ?_⟩
    have ay : AllV K C CL [h, o] H [.non, .bl true, .bl false, .str "", .str "ab", .str "Ab", .str "abcdefghi", .str "AB1", .str (Xrep.rep "A" 12), .str (Xrep.rep "A" 13), .str "a1", .int (-1), .int 0, .int (10 ^ (29 : Int).toNat)] := (AllV.cons (t_non) (AllV.cons (t_bl _) (AllV.cons (t_bl _) (AllV.cons (t_str (by decide +kernel) (by decide +kernel)) (AllV.cons (t_str (by decide +kernel) (by decide +kernel)) (AllV.cons (t_str (by decide +kernel) (by decide +kernel)) (AllV.cons (t_str (by decide +kernel) (by decide +kernel)) (AllV.cons (t_str (by decide +kernel) (by decide +kernel)) (AllV.cons (t_str (by decide +kernel) (by decide +kernel)) (AllV.cons (t_str (by decide +kernel) (by decide +kernel)) (AllV.cons (t_str (by decide +kernel) (by decide +kernel)) (AllV.cons (t_int _) (AllV.cons (t_int _) (AllV.cons (t_int _) AllV.nil))))))))))))))
    have lx : ([.non, .bl true, .bl false, .str "", .str "ab", .str "Ab", .str "abcdefghi", .str "AB1", .str (Xrep.rep "A" 12), .str (Xrep.rep "A" 13), .str "a1", .int (-1), .int 0, .int (10 ^ (29 : Int).toNat)] : List V).length = 14 := rfl
    generalize ([.non, .bl true, .bl false, .str "", .str "ab", .str "Ab", .str "abcdefghi", .str "AB1", .str (Xrep.rep "A" 12), .str (Xrep.rep "A" 13), .str "a1", .int (-1), .int 0, .int (10 ^ (29 : Int).toNat)] : List V) = xs3 at ay lx ⊢
    have s4 := same_upd n2 (o := .lst xs3)
    have So := hd.fresh n2
    have HS := bt.none So n2
    replace acc := acc.off (off_put (p := S1) (x := .lst xs3) n2)
    have ax := ay.off (off_put (p := S1) (x := .lst xs3) n2)
    replace oc := oc.put (xs := xs3) n2
    replace hd := hd.same s4
    replace ee := s4 _ _ ee
    replace bt := bt.trans (Bt.of (A := [h, o]) s4)
    have eS : (L2.upd H S1 (.lst xs3)) S1 = some (.lst xs3) := upd_same
    clear ay s4
    generalize L2.upd H S1 (.lst xs3) = G5 at hd ee bt acc oc eS ax ⊢
    refine ⟨_, rfl, (by show 0 ≤ sizeLine; decide), fun p6 n7 => ?_⟩
    have s8 := same_upd n7 (o := .tup [])
    have t9 : ThV K C CL 9 (offS [S1, h, o] (L2.upd G5 p6 (.tup []))) (.ref p6) := AllV.tup AllV.nil oc n7 (Nat.le_of_ble_eq_true rfl)
    replace acc := AllV.cons t9 (acc.same s8)
    replace oc := oc.same s8
    replace hd := hd.same s8
    replace ee := s8 _ _ ee
    replace bt := bt.trans (Bt.of (A := [h, o]) s8)
    replace eS := s8 _ _ eS
    replace ax := ax.same s8
    clear t9 s8
    generalize L2.upd G5 p6 (.tup []) = G10 at hd ee bt acc oc eS ax ⊢
    refine ⟨(by show 0 ≤ sizeLine; decide), fun p11 n12 => ?_⟩
    have s13 := same_upd n12 (o := .lst [])
    have t14 : ThV K C CL 9 (offS [S1, h, o] (L2.upd G10 p11 (.lst []))) (.ref p11) := AllV.lst AllV.nil oc n12 (Nat.le_of_ble_eq_true rfl)
    replace acc := AllV.cons t14 (acc.same s13)
    replace oc := oc.same s13
    replace hd := hd.same s13
    replace ee := s13 _ _ ee
    replace bt := bt.trans (Bt.of (A := [h, o]) s13)
    replace eS := s13 _ _ eS
    replace ax := ax.same s13
    clear t14 s13
    generalize L2.upd G10 p11 (.lst []) = G15 at hd ee bt acc oc eS ax ⊢
    intro p16 n17
    have s18 := same_upd n17 (o := .dK [])
    have t19 : ThV K C CL 9 (offS [S1, h, o] (L2.upd G15 p16 (.dK []))) (.ref p16) := t_dct oc n17
    replace acc := AllV.cons t19 (acc.same s18)
    replace oc := oc.same s18
    replace hd := hd.same s18
    replace ee := s18 _ _ ee
    replace bt := bt.trans (Bt.of (A := [h, o]) s18)
    replace eS := s18 _ _ eS
    replace ax := ax.same s18
    clear t19 s18
    generalize L2.upd G15 p16 (.dK []) = G20 at hd ee bt acc oc eS ax ⊢
    refine ⟨(by show 2 ≤ sizeLine; decide), fun p21 n22 => ?_⟩
    have s23 := same_upd n22 (o := .tup [.str "de", .str "a"])
    have t24 : ThV K C CL 9 (offS [S1, h, o] (L2.upd G20 p21 (.tup [.str "de", .str "a"]))) (.ref p21) := AllV.tup (AllV.cons (t_str (by decide +kernel) (by decide +kernel)) (AllV.cons (t_str (by decide +kernel) (by decide +kernel)) AllV.nil)) oc n22 (Nat.le_of_ble_eq_true rfl)
    replace acc := AllV.cons t24 (acc.same s23)
    replace oc := oc.same s23
    replace hd := hd.same s23
    replace ee := s23 _ _ ee
    replace bt := bt.trans (Bt.of (A := [h, o]) s23)
    replace eS := s23 _ _ eS
    replace ax := ax.same s23
    clear t24 s23
    generalize L2.upd G20 p21 (.tup [.str "de", .str "a"]) = G25 at hd ee bt acc oc eS ax ⊢
    refine ⟨(by show 2 ≤ sizeLine; decide), fun p26 n27 => ?_⟩
    have s28 := same_upd n27 (o := .tup [.str "de", .str " a"])
    have t29 : ThV K C CL 9 (offS [S1, h, o] (L2.upd G25 p26 (.tup [.str "de", .str " a"]))) (.ref p26) := AllV.tup (AllV.cons (t_str (by decide +kernel) (by decide +kernel)) (AllV.cons (t_str (by decide +kernel) (by decide +kernel)) AllV.nil)) oc n27 (Nat.le_of_ble_eq_true rfl)
    replace acc := AllV.cons t29 (acc.same s28)
    replace oc := oc.same s28
    replace hd := hd.same s28
    replace ee := s28 _ _ ee
    replace bt := bt.trans (Bt.of (A := [h, o]) s28)
    replace eS := s28 _ _ eS
    replace ax := ax.same s28
    clear t29 s28
    generalize L2.upd G25 p26 (.tup [.str "de", .str " a"]) = G30 at hd ee bt acc oc eS ax ⊢
    refine ⟨(by show 2 ≤ sizeLine; decide), fun p31 n32 => ?_⟩
    have s33 := same_upd n32 (o := .tup [.str "de", .str "a"])
    have t34 : ThV K C CL 9 (offS [S1, h, o] (L2.upd G30 p31 (.tup [.str "de", .str "a"]))) (.ref p31) := AllV.tup (AllV.cons (t_str (by decide +kernel) (by decide +kernel)) (AllV.cons (t_str (by decide +kernel) (by decide +kernel)) AllV.nil)) oc n32 (Nat.le_of_ble_eq_true rfl)
    replace acc := AllV.cons t34 (acc.same s33)
    replace oc := oc.same s33
    replace hd := hd.same s33
    replace ee := s33 _ _ ee
    replace bt := bt.trans (Bt.of (A := [h, o]) s33)
    replace eS := s33 _ _ eS
    replace ax := ax.same s33
    clear t34 s33
    generalize L2.upd G30 p31 (.tup [.str "de", .str "a"]) = G35 at hd ee bt acc oc eS ax ⊢
    refine ⟨(by show 1 ≤ sizeLine; decide), fun p36 n37 => ?_⟩
    have s38 := same_upd n37 (o := .tup [.ref p31])
    have t39 : ThV K C CL 9 (offS [S1, h, o] (L2.upd G35 p36 (.tup [.ref p31]))) (.ref p36) := AllV.tup (AllV.cons (acc _ (by simp)) AllV.nil) oc n37 (Nat.le_of_ble_eq_true rfl)
    replace acc := AllV.cons t39 (acc.same s38)
    replace oc := oc.same s38
    replace hd := hd.same s38
    replace ee := s38 _ _ ee
    replace bt := bt.trans (Bt.of (A := [h, o]) s38)
    replace eS := s38 _ _ eS
    replace ax := ax.same s38
    clear t39 s38
    generalize L2.upd G35 p36 (.tup [.ref p31]) = G40 at hd ee bt acc oc eS ax ⊢
    refine ⟨(by show 2 ≤ sizeLine; decide), fun p41 n42 => ?_⟩
    have s43 := same_upd n42 (o := .tup [.str "de", .str "b"])
    have t44 : ThV K C CL 9 (offS [S1, h, o] (L2.upd G40 p41 (.tup [.str "de", .str "b"]))) (.ref p41) := AllV.tup (AllV.cons (t_str (by decide +kernel) (by decide +kernel)) (AllV.cons (t_str (by decide +kernel) (by decide +kernel)) AllV.nil)) oc n42 (Nat.le_of_ble_eq_true rfl)
    replace acc := AllV.cons t44 (acc.same s43)
    replace oc := oc.same s43
    replace hd := hd.same s43
    replace ee := s43 _ _ ee
    replace bt := bt.trans (Bt.of (A := [h, o]) s43)
    replace eS := s43 _ _ eS
    replace ax := ax.same s43
    clear t44 s43
    generalize L2.upd G40 p41 (.tup [.str "de", .str "b"]) = G45 at hd ee bt acc oc eS ax ⊢
    refine ⟨(by show 2 ≤ sizeLine; decide), fun p46 n47 => ?_⟩
    have s48 := same_upd n47 (o := .tup [.str "de", .str "a"])
    have t49 : ThV K C CL 9 (offS [S1, h, o] (L2.upd G45 p46 (.tup [.str "de", .str "a"]))) (.ref p46) := AllV.tup (AllV.cons (t_str (by decide +kernel) (by decide +kernel)) (AllV.cons (t_str (by decide +kernel) (by decide +kernel)) AllV.nil)) oc n47 (Nat.le_of_ble_eq_true rfl)
    replace acc := AllV.cons t49 (acc.same s48)
    replace oc := oc.same s48
    replace hd := hd.same s48
    replace ee := s48 _ _ ee
    replace bt := bt.trans (Bt.of (A := [h, o]) s48)
    replace eS := s48 _ _ eS
    replace ax := ax.same s48
    clear t49 s48
    generalize L2.upd G45 p46 (.tup [.str "de", .str "a"]) = G50 at hd ee bt acc oc eS ax ⊢
    refine ⟨(by show 2 ≤ sizeLine; decide), fun p51 n52 => ?_⟩
    have s53 := same_upd n52 (o := .tup [.ref p41, .ref p46])
    have t54 : ThV K C CL 9 (offS [S1, h, o] (L2.upd G50 p51 (.tup [.ref p41, .ref p46]))) (.ref p51) := AllV.tup (AllV.cons (acc _ (by simp)) (AllV.cons (acc _ (by simp)) AllV.nil)) oc n52 (Nat.le_of_ble_eq_true rfl)
    replace acc := AllV.cons t54 (acc.same s53)
    replace oc := oc.same s53
    replace hd := hd.same s53
    replace ee := s53 _ _ ee
    replace bt := bt.trans (Bt.of (A := [h, o]) s53)
    replace eS := s53 _ _ eS
    replace ax := ax.same s53
    clear t54 s53
    generalize L2.upd G50 p51 (.tup [.ref p41, .ref p46]) = G55 at hd ee bt acc oc eS ax ⊢
    refine ⟨(by show 7 ≤ sizeLine; decide), fun Y56 n57 => ?_⟩
    have ay : AllV K C CL [S1, h, o] G55 [.ref p6, .ref p11, .ref p16, .ref p21, .ref p26, .ref p36, .ref p51] := (AllV.cons (acc _ (by simp)) (AllV.cons (acc _ (by simp)) (AllV.cons (acc _ (by simp)) (AllV.cons (acc _ (by simp)) (AllV.cons (acc _ (by simp)) (AllV.cons (acc _ (by simp)) (AllV.cons (acc _ (by simp)) AllV.nil)))))))
    have s58 := same_upd n57 (o := .lst [.ref p6, .ref p11, .ref p16, .ref p21, .ref p26, .ref p36, .ref p51])
    have eY : (L2.upd G55 Y56 (.lst [.ref p6, .ref p11, .ref p16, .ref p21, .ref p26, .ref p36, .ref p51])) Y56 = some (.lst [.ref p6, .ref p11, .ref p16, .ref p21, .ref p26, .ref p36, .ref p51]) := upd_same
    replace acc := acc.same s58
    replace ay := ay.same s58
    replace oc := oc.same s58
    replace hd := hd.same s58
    replace ee := s58 _ _ ee
    replace bt := bt.trans (Bt.of (A := [h, o]) s58)
    replace eS := s58 _ _ eS
    replace ax := ax.same s58
    clear s58
    generalize L2.upd G55 Y56 (.lst [.ref p6, .ref p11, .ref p16, .ref p21, .ref p26, .ref p36, .ref p51]) = G59 at hd ee bt acc oc eS ax ay eY ⊢
    refine ⟨S1, Y56, _, _, rfl, rfl, eS, eY, (by rw [lx]; show 14 + 7 ≤ sizeLine; decide), fun S60 n61 => ?_⟩
    have ax2 := ax.app ay
    have lx2 : (xs3 ++ ([.ref p6, .ref p11, .ref p16, .ref p21, .ref p26, .ref p36, .ref p51] : List V)).length = 21 := by rw [List.length_append, lx]; rfl
    generalize xs3 ++ ([.ref p6, .ref p11, .ref p16, .ref p21, .ref p26, .ref p36, .ref p51] : List V) = xs62 at ax2 lx2 ⊢
    clear eS eY ax ay lx HS So
    have lx := lx2
    clear lx2
    have s63 := same_upd n61 (o := .lst xs62)
    have So := hd.fresh n61
    have HS := bt.none So n61
    replace acc := acc.off (off_put (p := S60) (x := .lst xs62) n61)
    have ax := ax2.off (off_put (p := S60) (x := .lst xs62) n61)
    replace oc := oc.put (xs := xs62) n61
    replace hd := hd.same s63
    replace ee := s63 _ _ ee
    replace bt := bt.trans (Bt.of (A := [h, o]) s63)
    have eS : (L2.upd G59 S60 (.lst xs62)) S60 = some (.lst xs62) := upd_same
    clear ax2 s63
    generalize L2.upd G59 S60 (.lst xs62) = G64 at hd ee bt acc oc eS ax ⊢
    refine ⟨_, rfl, .inl ⟨rfl, _, SqL.of eS⟩, (by show 2 ≤ sizeLine; decide), fun p65 n66 => ?_⟩
    have s67 := same_upd n66 (o := .tup [.str "de", .str "a"])
    have t68 : ThV K C CL 9 (offS [S60, S1, h, o] (L2.upd G64 p65 (.tup [.str "de", .str "a"]))) (.ref p65) := AllV.tup (AllV.cons (t_str (by decide +kernel) (by decide +kernel)) (AllV.cons (t_str (by decide +kernel) (by decide +kernel)) AllV.nil)) oc n66 (Nat.le_of_ble_eq_true rfl)
    replace acc := AllV.cons t68 (acc.same s67)
    replace oc := oc.same s67
    replace hd := hd.same s67
    replace ee := s67 _ _ ee
    replace bt := bt.trans (Bt.of (A := [h, o]) s67)
    replace eS := s67 _ _ eS
    replace ax := ax.same s67
    clear t68 s67
    generalize L2.upd G64 p65 (.tup [.str "de", .str "a"]) = G69 at hd ee bt acc oc eS ax ⊢
    refine ⟨(by show 2 ≤ sizeLine; decide), fun p70 n71 => ?_⟩
    have s72 := same_upd n71 (o := .tup [.str "de", .str "a"])
    have t73 : ThV K C CL 9 (offS [S60, S1, h, o] (L2.upd G69 p70 (.tup [.str "de", .str "a"]))) (.ref p70) := AllV.tup (AllV.cons (t_str (by decide +kernel) (by decide +kernel)) (AllV.cons (t_str (by decide +kernel) (by decide +kernel)) AllV.nil)) oc n71 (Nat.le_of_ble_eq_true rfl)
    replace acc := AllV.cons t73 (acc.same s72)
    replace oc := oc.same s72
    replace hd := hd.same s72
    replace ee := s72 _ _ ee
    replace bt := bt.trans (Bt.of (A := [h, o]) s72)
    replace eS := s72 _ _ eS
    replace ax := ax.same s72
    clear t73 s72
    generalize L2.upd G69 p70 (.tup [.str "de", .str "a"]) = G74 at hd ee bt acc oc eS ax ⊢
    refine ⟨(by show 2 ≤ sizeLine; decide), fun p75 n76 => ?_⟩
    have s77 := same_upd n76 (o := .tup [.ref p65, .ref p70])
    have t78 : ThV K C CL 9 (offS [S60, S1, h, o] (L2.upd G74 p75 (.tup [.ref p65, .ref p70]))) (.ref p75) := AllV.tup (AllV.cons (acc _ (by simp)) (AllV.cons (acc _ (by simp)) AllV.nil)) oc n76 (Nat.le_of_ble_eq_true rfl)
    replace acc := AllV.cons t78 (acc.same s77)
    replace oc := oc.same s77
    replace hd := hd.same s77
    replace ee := s77 _ _ ee
    replace bt := bt.trans (Bt.of (A := [h, o]) s77)
    replace eS := s77 _ _ eS
    replace ax := ax.same s77
    clear t78 s77
    generalize L2.upd G74 p75 (.tup [.ref p65, .ref p70]) = G79 at hd ee bt acc oc eS ax ⊢
    refine ⟨S60, _, _, rfl, rfl, eS, (by rw [lx]; show 21 < sizeLine; decide), ?_⟩
    have ax2 := ax.app (ws := [.ref p75]) (AllV.cons (acc _ (by simp)) AllV.nil)
    have lx2 : (xs62 ++ ([.ref p75] : List V)).length = 22 := by rw [List.length_append, lx]; rfl
    generalize xs62 ++ ([.ref p75] : List V) = xs80 at ax2 lx2 ⊢
    clear ax lx
    have lx := lx2
    clear lx2
    have mS : S60 ∈ [S60, S1, h, o] := by simp
    replace acc := acc.off (off_mut (x := .lst xs80) mS)
    have ax := ax2.off (off_mut (x := .lst xs80) mS)
    replace oc := oc.mut (p := S60) (xs := xs80)
    replace hd := hd.upd So (x := .lst xs80)
    replace ee := (tq_upd (x := .lst xs80) eS).tp _ _ ee
    replace bt : Bt [h, o] H (L2.upd G79 S60 (.lst xs80)) := fun b z nb e => by
      rw [upd_ne (ne_of_none e HS)]
      exact bt b z nb e
    replace eS : (L2.upd G79 S60 (.lst xs80)) S60 = some (.lst xs80) := upd_same
    clear ax2 mS
    generalize L2.upd G79 S60 (.lst xs80) = G81 at hd ee bt acc oc eS ax ⊢
    refine ⟨_, rfl, 9, rfl, by decide, by decide, fun N82 n83 => ?_⟩
    have s0 := same_upd n83 (o := .lst [])
    refine lc_range (lo := 0) (fun i Hi => ∃ ys : List V, Hi N82 = some (.lst ys) ∧ ys.length = i ∧ AllV K C CL [N82, S60, S1, h, o] Hi ys ∧ Occ [N82, S60, S1, h, o] Hi ∧ L2.Same G81 Hi) ?_ ?_ ?_
    · exact ⟨[], upd_same, rfl, AllV.nil, oc.put n83, s0⟩
    · rintro i Hi hi ⟨ys, eN, ly, ay, oci, sm⟩
      have i9 : i < 9 := Nat.lt_of_lt_of_le hi (by decide)
      refine ⟨rfl, ?_⟩
      unfold tYes
      refine iteT ⟨_, rfl, _, rfl, log9 i i9, (by show 2 ≤ sizeLine; decide), fun p np => ?_⟩
      have sp := same_upd np (o := .tup [.str "de", .str (toString (0 + (i : Int)))])
      have tp := AllV.tup (K := K) (C := C) (CL := CL) (p := p) (AllV.cons (t_str (x := "de") (by decide +kernel) (by decide +kernel)) (AllV.cons (t_str (num9 i i9).1 (num9 i i9).2) AllV.nil)) oci np (Nat.le_of_ble_eq_true rfl)
      have mN : N82 ∈ [N82, S60, S1, h, o] := by simp
      refine ⟨ys, sp _ _ eN, Nat.lt_of_le_of_lt (show ys.length ≤ 100 by omega) (by decide), ys ++ [.ref p], upd_same, by rw [List.length_append, ly]; rfl, ((ay.same sp).app (AllV.cons tp AllV.nil)).off (off_mut mN), (oci.same sp).mut, fun b z e => ?_⟩
      rw [upd_ne (ne_of_none e n83)]
      exact sp _ _ (sm _ _ e)
    rintro G84 ⟨ys, eN, ly, ay, _, sm⟩
    clear s0
    replace ly : ys.length = 9 := ly
    replace acc := acc.same sm
    replace oc := oc.same sm
    replace hd := hd.same sm
    replace ee := sm _ _ ee
    replace bt := bt.trans (Bt.of (A := [h, o]) sm)
    replace eS := sm _ _ eS
    replace ax := ax.same sm
    clear sm
    replace ay := ay.off (off_sub (A := [S60, S1, h, o]) fun a ha => List.mem_cons_of_mem _ ha)
    refine ⟨N82, _, rfl, .inl ⟨SqL.of eN, fun p85 n86 => ?_⟩⟩
    have s87 := same_upd n86 (o := .tup ys)
    have t88 := AllV.tup (p := p85) ay oc n86 (by omega)
    replace acc := AllV.cons t88 (acc.same s87)
    replace oc := oc.same s87
    replace hd := hd.same s87
    replace ee := s87 _ _ ee
    replace bt := bt.trans (Bt.of (A := [h, o]) s87)
    replace eS := s87 _ _ eS
    replace ax := ax.same s87
    clear t88 s87 eN ay
    generalize L2.upd G84 p85 (.tup ys) = G89 at hd ee bt acc oc eS ax ⊢
    clear ly
    refine ⟨8, rfl, by decide, by decide, fun N90 n91 => ?_⟩
    have s0 := same_upd n91 (o := .lst [])
    refine lc_range (lo := 0) (fun i Hi => ∃ ys : List V, Hi N90 = some (.lst ys) ∧ ys.length = i ∧ AllV K C CL [N90, S60, S1, h, o] Hi ys ∧ Occ [N90, S60, S1, h, o] Hi ∧ L2.Same G89 Hi) ?_ ?_ ?_
    · exact ⟨[], upd_same, rfl, AllV.nil, oc.put n91, s0⟩
    · rintro i Hi hi ⟨ys, eN, ly, ay, oci, sm⟩
      have i9 : i < 9 := Nat.lt_of_lt_of_le hi (by decide)
      refine ⟨rfl, ?_⟩
      unfold tYes
      refine iteT ⟨_, rfl, _, rfl, log9 i i9, (by show 2 ≤ sizeLine; decide), fun p np => ?_⟩
      have sp := same_upd np (o := .tup [.str "de", .str (toString (0 + (i : Int)))])
      have tp := AllV.tup (K := K) (C := C) (CL := CL) (p := p) (AllV.cons (t_str (x := "de") (by decide +kernel) (by decide +kernel)) (AllV.cons (t_str (num9 i i9).1 (num9 i i9).2) AllV.nil)) oci np (Nat.le_of_ble_eq_true rfl)
      have mN : N90 ∈ [N90, S60, S1, h, o] := by simp
      refine ⟨ys, sp _ _ eN, Nat.lt_of_le_of_lt (show ys.length ≤ 100 by omega) (by decide), ys ++ [.ref p], upd_same, by rw [List.length_append, ly]; rfl, ((ay.same sp).app (AllV.cons tp AllV.nil)).off (off_mut mN), (oci.same sp).mut, fun b z e => ?_⟩
      rw [upd_ne (ne_of_none e n91)]
      exact sp _ _ (sm _ _ e)
    rintro G92 ⟨ys, eN, ly, ay, _, sm⟩
    clear s0
    replace ly : ys.length = 8 := ly
    replace acc := acc.same sm
    replace oc := oc.same sm
    replace hd := hd.same sm
    replace ee := sm _ _ ee
    replace bt := bt.trans (Bt.of (A := [h, o]) sm)
    replace eS := sm _ _ eS
    replace ax := ax.same sm
    clear sm
    replace ay := ay.off (off_sub (A := [S60, S1, h, o]) fun a ha => List.mem_cons_of_mem _ ha)
    refine ⟨N90, _, rfl, .inl ⟨SqL.of eN, fun p93 n94 => ?_⟩⟩
    have s95 := same_upd n94 (o := .tup ys)
    have t96 := AllV.tup (p := p93) ay oc n94 (by omega)
    replace acc := AllV.cons t96 (acc.same s95)
    replace oc := oc.same s95
    replace hd := hd.same s95
    replace ee := s95 _ _ ee
    replace bt := bt.trans (Bt.of (A := [h, o]) s95)
    replace eS := s95 _ _ eS
    replace ax := ax.same s95
    clear t96 s95 eN ay
    generalize L2.upd G92 p93 (.tup ys) = G97 at hd ee bt acc oc eS ax ⊢
    clear ly
    refine ⟨(by show 2 ≤ sizeLine; decide), fun Y98 n99 => ?_⟩
    have ay : AllV K C CL [S60, S1, h, o] G97 [.ref p85, .ref p93] := (AllV.cons (acc _ (by simp)) (AllV.cons (acc _ (by simp)) AllV.nil))
    have s100 := same_upd n99 (o := .lst [.ref p85, .ref p93])
    have eY : (L2.upd G97 Y98 (.lst [.ref p85, .ref p93])) Y98 = some (.lst [.ref p85, .ref p93]) := upd_same
    replace acc := acc.same s100
    replace ay := ay.same s100
    replace oc := oc.same s100
    replace hd := hd.same s100
    replace ee := s100 _ _ ee
    replace bt := bt.trans (Bt.of (A := [h, o]) s100)
    replace eS := s100 _ _ eS
    replace ax := ax.same s100
    clear s100
    generalize L2.upd G97 Y98 (.lst [.ref p85, .ref p93]) = G101 at hd ee bt acc oc eS ax ay eY ⊢
    refine ⟨S60, Y98, _, _, rfl, rfl, eS, eY, (by rw [lx]; show 22 + 2 ≤ sizeLine; decide), fun S102 n103 => ?_⟩
    have ax2 := ax.app ay
    have lx2 : (xs80 ++ ([.ref p85, .ref p93] : List V)).length = 24 := by rw [List.length_append, lx]; rfl
    generalize xs80 ++ ([.ref p85, .ref p93] : List V) = xs104 at ax2 lx2 ⊢
    clear eS eY ax ay lx HS So
    have lx := lx2
    clear lx2
    have s105 := same_upd n103 (o := .lst xs104)
    have So := hd.fresh n103
    have HS := bt.none So n103
    replace acc := acc.off (off_put (p := S102) (x := .lst xs104) n103)
    have ax := ax2.off (off_put (p := S102) (x := .lst xs104) n103)
    replace oc := oc.put (xs := xs104) n103
    replace hd := hd.same s105
    replace ee := s105 _ _ ee
    replace bt := bt.trans (Bt.of (A := [h, o]) s105)
    have eS : (L2.upd G101 S102 (.lst xs104)) S102 = some (.lst xs104) := upd_same
    clear ax2 s105
    generalize L2.upd G101 S102 (.lst xs104) = G106 at hd ee bt acc oc eS ax ⊢
    refine ⟨_, rfl, ?_⟩
    refine fun o108 dx no nd ne => ⟨o108, dx, 1931, none, none, rfl, gd_no _ (by decide) (by decide), upd_same, fun G107 keep al => ⟨rfl, ?_⟩⟩
    have sm : L2.Same G106 G107 := fun b z eb => keep b z (by
      rw [upd_ne (ne_of_none eb no), upd_ne (ne_of_none eb nd)]
      exact eb) (ne_of_none eb no)
    have no2 := oc.no no
    clear no nd ne keep
    replace acc := acc.same sm
    replace oc := oc.same sm
    replace hd := hd.same sm
    replace ee := sm _ _ ee
    replace bt := bt.trans (Bt.of (A := [h, o]) sm)
    replace eS := sm _ _ eS
    replace ax := ax.same sm
    clear sm
    replace acc := AllV.cons (t_own (K := K) (C := C) (CL := CL) (D := C) (by simp) T.oD no2 al.choose_spec) acc
    clear al no2 dx
    refine fun o110 dx no nd ne => ⟨o110, dx, 0, rfl, upd_same, by decide, by decide, fun G109 keep al => ⟨rfl, ?_⟩⟩
    have sm : L2.Same G107 G109 := fun b z eb => keep b z (by
      rw [upd_ne (ne_of_none eb no), upd_ne (ne_of_none eb nd)]
      exact eb) (ne_of_none eb no)
    have no2 := oc.no no
    clear no nd ne keep
    replace acc := acc.same sm
    replace oc := oc.same sm
    replace hd := hd.same sm
    replace ee := sm _ _ ee
    replace bt := bt.trans (Bt.of (A := [h, o]) sm)
    replace eS := sm _ _ eS
    replace ax := ax.same sm
    clear sm
    replace acc := AllV.cons (t_own (K := K) (C := C) (CL := CL) (D := CL) (by simp) T.oL no2 al.choose_spec) acc
    clear al no2 dx
    refine ⟨(by show 3 ≤ sizeLine; decide), fun p111 n112 => ?_⟩
    have s113 := same_upd n112 (o := .tup [.int 1931, .int 4, .int 7])
    have t114 : ThV K C CL 9 (offS [S102, S60, S1, h, o] (L2.upd G109 p111 (.tup [.int 1931, .int 4, .int 7]))) (.ref p111) := AllV.tup (AllV.cons (t_int _) (AllV.cons (t_int _) (AllV.cons (t_int _) AllV.nil))) oc n112 (Nat.le_of_ble_eq_true rfl)
    replace acc := AllV.cons t114 (acc.same s113)
    replace oc := oc.same s113
    replace hd := hd.same s113
    replace ee := s113 _ _ ee
    replace bt := bt.trans (Bt.of (A := [h, o]) s113)
    replace eS := s113 _ _ eS
    replace ax := ax.same s113
    clear t114 s113
    generalize L2.upd G109 p111 (.tup [.int 1931, .int 4, .int 7]) = G115 at hd ee bt acc oc eS ax ⊢
    refine ⟨_, rfl, _, rfl, 2, rfl, e, xs, rfl, ee, fun p G116 sm ep => ?_⟩
    replace ep : G116 p = some (.tup (xs.take 2)) := by rw [ep]; exact congrArg (fun z => some (HO.tup z)) (cutV_take xs 2)
    replace acc := acc.same sm
    replace oc := oc.same sm
    replace hd := hd.same sm
    replace ee := sm _ _ ee
    replace bt := bt.trans (Bt.of (A := [h, o]) sm)
    replace eS := sm _ _ eS
    replace ax := ax.same sm
    clear sm
    have tcut := AllV.tupAt (acc.sub (ws := xs.take 2) fun u hu => by have := List.mem_of_mem_take hu; simp [this]) oc ep (by rw [List.length_take]; omega)
    replace acc := AllV.cons tcut acc
    clear tcut
    refine ⟨(by show 2 ≤ sizeLine; decide), fun p117 n118 => ?_⟩
    have s119 := same_upd n118 (o := .tup [.str "de", .str "a"])
    have t120 : ThV K C CL 9 (offS [S102, S60, S1, h, o] (L2.upd G116 p117 (.tup [.str "de", .str "a"]))) (.ref p117) := AllV.tup (AllV.cons (t_str (by decide +kernel) (by decide +kernel)) (AllV.cons (t_str (by decide +kernel) (by decide +kernel)) AllV.nil)) oc n118 (Nat.le_of_ble_eq_true rfl)
    replace acc := AllV.cons t120 (acc.same s119)
    replace oc := oc.same s119
    replace hd := hd.same s119
    replace ee := s119 _ _ ee
    replace bt := bt.trans (Bt.of (A := [h, o]) s119)
    replace eS := s119 _ _ eS
    replace ax := ax.same s119
    clear t120 s119
    generalize L2.upd G116 p117 (.tup [.str "de", .str "a"]) = G121 at hd ee bt acc oc eS ax ⊢
    refine ⟨(by show 1 ≤ sizeLine; decide), fun p122 n123 => ?_⟩
    have s124 := same_upd n123 (o := .lst [.ref p117])
    have t125 : ThV K C CL 9 (offS [S102, S60, S1, h, o] (L2.upd G121 p122 (.lst [.ref p117]))) (.ref p122) := AllV.lst (AllV.cons (acc _ (by simp)) AllV.nil) oc n123 (Nat.le_of_ble_eq_true rfl)
    replace acc := AllV.cons t125 (acc.same s124)
    replace oc := oc.same s124
    replace hd := hd.same s124
    replace ee := s124 _ _ ee
    replace bt := bt.trans (Bt.of (A := [h, o]) s124)
    replace eS := s124 _ _ eS
    replace ax := ax.same s124
    clear t125 s124
    generalize L2.upd G121 p122 (.lst [.ref p117]) = G126 at hd ee bt acc oc eS ax ⊢
    refine ⟨(by show 9 ≤ sizeLine; decide), fun Y127 n128 => ?_⟩
    have ay : AllV K C CL [S102, S60, S1, h, o] G126 [.ref o108, .ref o110, .str "1931", .ref p111, .int 187, .str "3:07", .ref e, .ref p, .ref p122] := (AllV.cons (acc _ (by simp)) (AllV.cons (acc _ (by simp)) (AllV.cons (t_str (by decide +kernel) (by decide +kernel)) (AllV.cons (acc _ (by simp)) (AllV.cons (t_int _) (AllV.cons (t_str (by decide +kernel) (by decide +kernel)) (AllV.cons (acc _ (by simp)) (AllV.cons (acc _ (by simp)) (AllV.cons (acc _ (by simp)) AllV.nil)))))))))
    have s129 := same_upd n128 (o := .lst [.ref o108, .ref o110, .str "1931", .ref p111, .int 187, .str "3:07", .ref e, .ref p, .ref p122])
    have eY : (L2.upd G126 Y127 (.lst [.ref o108, .ref o110, .str "1931", .ref p111, .int 187, .str "3:07", .ref e, .ref p, .ref p122])) Y127 = some (.lst [.ref o108, .ref o110, .str "1931", .ref p111, .int 187, .str "3:07", .ref e, .ref p, .ref p122]) := upd_same
    replace acc := acc.same s129
    replace ay := ay.same s129
    replace oc := oc.same s129
    replace hd := hd.same s129
    replace ee := s129 _ _ ee
    replace bt := bt.trans (Bt.of (A := [h, o]) s129)
    replace eS := s129 _ _ eS
    replace ax := ax.same s129
    clear s129
    generalize L2.upd G126 Y127 (.lst [.ref o108, .ref o110, .str "1931", .ref p111, .int 187, .str "3:07", .ref e, .ref p, .ref p122]) = G130 at hd ee bt acc oc eS ax ay eY ⊢
    refine ⟨S102, Y127, _, _, rfl, rfl, eS, eY, (by rw [lx]; show 24 + 9 ≤ sizeLine; decide), fun S131 n132 => ?_⟩
    have ax2 := ax.app ay
    have lx2 : (xs104 ++ ([.ref o108, .ref o110, .str "1931", .ref p111, .int 187, .str "3:07", .ref e, .ref p, .ref p122] : List V)).length = 33 := by rw [List.length_append, lx]; rfl
    generalize xs104 ++ ([.ref o108, .ref o110, .str "1931", .ref p111, .int 187, .str "3:07", .ref e, .ref p, .ref p122] : List V) = xs133 at ax2 lx2 ⊢
    clear eS eY ax ay lx HS So
    have lx := lx2
    clear lx2
    have s134 := same_upd n132 (o := .lst xs133)
    have So := hd.fresh n132
    have HS := bt.none So n132
    replace acc := acc.off (off_put (p := S131) (x := .lst xs133) n132)
    have ax := ax2.off (off_put (p := S131) (x := .lst xs133) n132)
    replace oc := oc.put (xs := xs133) n132
    replace hd := hd.same s134
    replace ee := s134 _ _ ee
    replace bt := bt.trans (Bt.of (A := [h, o]) s134)
    have eS : (L2.upd G130 S131 (.lst xs133)) S131 = some (.lst xs133) := upd_same
    clear ax2 s134
    generalize L2.upd G130 S131 (.lst xs133) = G135 at hd ee bt acc oc eS ax ⊢
    refine ⟨_, rfl, .inl ⟨rfl, _, SqL.of eS⟩, (by show 2 ≤ sizeLine; decide), fun p136 n137 => ?_⟩
    have s138 := same_upd n137 (o := .tup [.str "de", .str "a"])
    have t139 : ThV K C CL 9 (offS [S131, S102, S60, S1, h, o] (L2.upd G135 p136 (.tup [.str "de", .str "a"]))) (.ref p136) := AllV.tup (AllV.cons (t_str (by decide +kernel) (by decide +kernel)) (AllV.cons (t_str (by decide +kernel) (by decide +kernel)) AllV.nil)) oc n137 (Nat.le_of_ble_eq_true rfl)
    replace acc := AllV.cons t139 (acc.same s138)
    replace oc := oc.same s138
    replace hd := hd.same s138
    replace ee := s138 _ _ ee
    replace bt := bt.trans (Bt.of (A := [h, o]) s138)
    replace eS := s138 _ _ eS
    replace ax := ax.same s138
    clear t139 s138
    generalize L2.upd G135 p136 (.tup [.str "de", .str "a"]) = G140 at hd ee bt acc oc eS ax ⊢
    refine ⟨(by show 2 ≤ sizeLine; decide), fun p141 n142 => ?_⟩
    have s143 := same_upd n142 (o := .lst [.str "de", .str "b"])
    have t144 : ThV K C CL 9 (offS [S131, S102, S60, S1, h, o] (L2.upd G140 p141 (.lst [.str "de", .str "b"]))) (.ref p141) := AllV.lst (AllV.cons (t_str (by decide +kernel) (by decide +kernel)) (AllV.cons (t_str (by decide +kernel) (by decide +kernel)) AllV.nil)) oc n142 (Nat.le_of_ble_eq_true rfl)
    replace acc := AllV.cons t144 (acc.same s143)
    replace oc := oc.same s143
    replace hd := hd.same s143
    replace ee := s143 _ _ ee
    replace bt := bt.trans (Bt.of (A := [h, o]) s143)
    replace eS := s143 _ _ eS
    replace ax := ax.same s143
    clear t144 s143
    generalize L2.upd G140 p141 (.lst [.str "de", .str "b"]) = G145 at hd ee bt acc oc eS ax ⊢
    refine ⟨(by show 2 ≤ sizeLine; decide), fun p146 n147 => ?_⟩
    have s148 := same_upd n147 (o := .tup [.ref p136, .ref p141])
    have t149 : ThV K C CL 9 (offS [S131, S102, S60, S1, h, o] (L2.upd G145 p146 (.tup [.ref p136, .ref p141]))) (.ref p146) := AllV.tup (AllV.cons (acc _ (by simp)) (AllV.cons (acc _ (by simp)) AllV.nil)) oc n147 (Nat.le_of_ble_eq_true rfl)
    replace acc := AllV.cons t149 (acc.same s148)
    replace oc := oc.same s148
    replace hd := hd.same s148
    replace ee := s148 _ _ ee
    replace bt := bt.trans (Bt.of (A := [h, o]) s148)
    replace eS := s148 _ _ eS
    replace ax := ax.same s148
    clear t149 s148
    generalize L2.upd G145 p146 (.tup [.ref p136, .ref p141]) = G150 at hd ee bt acc oc eS ax ⊢
    refine ⟨S131, _, _, rfl, rfl, eS, (by rw [lx]; show 33 < sizeLine; decide), ?_⟩
    have ax2 := ax.app (ws := [.ref p146]) (AllV.cons (acc _ (by simp)) AllV.nil)
    have lx2 : (xs133 ++ ([.ref p146] : List V)).length = 34 := by rw [List.length_append, lx]; rfl
    generalize xs133 ++ ([.ref p146] : List V) = xs151 at ax2 lx2 ⊢
    clear ax lx
    have lx := lx2
    clear lx2
    have mS : S131 ∈ [S131, S102, S60, S1, h, o] := by simp
    replace acc := acc.off (off_mut (x := .lst xs151) mS)
    have ax := ax2.off (off_mut (x := .lst xs151) mS)
    replace oc := oc.mut (p := S131) (xs := xs151)
    replace hd := hd.upd So (x := .lst xs151)
    replace ee := (tq_upd (x := .lst xs151) eS).tp _ _ ee
    replace bt : Bt [h, o] H (L2.upd G150 S131 (.lst xs151)) := fun b z nb e => by
      rw [upd_ne (ne_of_none e HS)]
      exact bt b z nb e
    replace eS : (L2.upd G150 S131 (.lst xs151)) S131 = some (.lst xs151) := upd_same
    clear ax2 mS
    generalize L2.upd G150 S131 (.lst xs151) = G152 at hd ee bt acc oc eS ax ⊢
    refine ⟨_, rfl, _, rfl, h, o, n, _, rfl, hd, by show n ≤ 1000000; omega, .inl ⟨S131, _, rfl, eS, So, (fun z => by rw [z] at lx; cases lx), (by rw [lx]; decide), fun v H' mv h' b' => ?_⟩⟩
    have a2 := (ax.off (off_sub (A := [h, o]) fun a ha => by simp at ha ⊢; rcases ha with rfl | rfl <;> simp)).off b'.off
    exact q v H' (a2 v mv) h' (bt.trans b')
end
end K20
set_option Elab.async false
set_option linter.all false
set_option maxRecDepth 100000
set_option maxHeartbeats 4000000
set_option pp.maxSteps 400
set_option pp.deepTerms false
namespace K20
open PySem PySem.Spec PyProof.Rows L2
open Xk Th Xtn
section
variable {P : Program} {w : World} {K : PySem.W.Frag} {mg : Str → Option Value} {base : Heap} {C CL : Addr}
section
variable {K : PySem.W.Frag} {C CL : Addr} {A : List Addr} {H H' : Hp} {v w : V} {N M N' n : Nat} {Q : VK}
theorem ThV.le {n m : Nat} (l : n ≤ m) (t : ThV K C CL n H v) : ThV K C CL m H v := t.imp fun _ ⟨a, b⟩ => ⟨a, ok_le l b⟩
theorem ThV.same' (t : ThV K C CL n H v) (s : L2.Same H H') : ThV K C CL n H' v := t.imp fun _ ⟨a, b⟩ => ⟨a.same s, b⟩
theorem th_all {K : PySem.W.Frag} {C CL : Addr} {n : Nat} {H : Hp} : ∀ {xs : List V} {ds : List T}, DzAll K H xs ds → oks [C, CL] n ds → ∀ x ∈ xs, ThV K C CL n H x
  | _, _, .nil, _, x, hx => by cases hx
  | _, _, .cons a r, o, x, hx => by
    rcases List.mem_cons.mp hx with z | z
    · rw [z]; exact ⟨_, a, o.1⟩
    · exact th_all r o.2 x z
/-- a tuple of things -/
def GW (K : PySem.W.Frag) (C CL : Addr) (A : List Addr) (N M : Nat) (H : Hp) (v : V) : Prop := ∃ (a : Addr) (xs : List V), v = .ref a ∧ H a = some (.tup xs) ∧ a ∉ A ∧ xs.length ≤ N ∧ ∀ x ∈ xs, ThV K C CL M (offS A H) x
theorem GW.bt (g : GW K C CL A N M H v) (s : Bt A H H') : GW K C CL A N M H' v := by
  obtain ⟨a, xs, e1, e2, e3, e4, e5⟩ := g
  exact ⟨a, xs, e1, s _ _ e3 e2, e3, e4, fun x hx => (e5 x hx).same' s.off⟩
theorem GW.same (g : GW K C CL A N M H v) (s : L2.Same H H') : GW K C CL A N M H' v := g.bt (Bt.of s)
theorem GW.th (g : GW K C CL A N M H v) (l1 : N ≤ n) (l2 : M ≤ n) : ThV K C CL n (offS A H) v := by
  obtain ⟨a, xs, rfl, e2, e3, e4, e5⟩ := g
  obtain ⟨ds, p, q⟩ := AllV.all fun x hx => (e5 x hx).le l2
  exact ⟨_, .tup (offS_at e3 e2) p, by rw [← dz_len p]; omega, q⟩
theorem wd_cut {lo hi : Option Int} (ls : Occ A H) (g : GW K C CL A N M H v) (q : ∀ p H', L2.Same H H' → GW K C CL A N M H' (.ref p) → Q (.ref p) H') : Xtu.rSlU v lo hi H Q := by
  obtain ⟨a, xs, rfl, e, na, l, al⟩ := g
  have sub : (cutV xs lo hi).Sublist xs := (List.take_sublist _ _).trans (List.drop_sublist _ _)
  exact ⟨a, xs, rfl, e, fun p H' s e' => q p H' s ⟨p, _, rfl, e', (ls.same s).nt e', Nat.le_trans sub.length_le l, fun x hx => (al x (sub.mem hx)).same' (off_same s)⟩⟩
theorem wd_cat (ls : Occ A H) (g : GW K C CL A N M H v) (k : GW K C CL A N' M H w) (l : N + N' ≤ 3000) (q : ∀ p H', L2.Same H H' → GW K C CL A (N + N') M H' (.ref p) → Q (.ref p) H') : Xtu.rCatU v w H Q := by
  obtain ⟨a, xs, rfl, e, na, l1, al⟩ := g
  obtain ⟨b, ys, rfl, f, nb, l2, bl⟩ := k
  refine ⟨a, b, xs, ys, rfl, rfl, e, f, Nat.le_trans (show xs.length + ys.length ≤ 3000 by omega) (by decide), fun p H' s e' => q p H' s ⟨p, _, rfl, e', (ls.same s).nt e', by rw [List.length_append]; omega, fun x hx => ?_⟩⟩
  rcases List.mem_append.mp hx with z | z
  · exact (al x z).same' (off_same s)
  · exact (bl x z).same' (off_same s)
theorem gw_one {p : Addr} (ls : Occ A H) (t : ThV K C CL M (offS A H) v) (np : H p = none) : GW K C CL A 1 M (L2.upd H p (.tup [v])) (.ref p) :=
  ⟨p, _, rfl, upd_same, ls.no np, Nat.le_refl 1, fun x hx => by
    rw [List.mem_singleton.mp hx]
    exact t.same' (off_same (same_upd np))⟩
theorem wd_cutN {σ : L2.St} {lo : Option Int} (ls : Occ A H) (g : GW K C CL A N M H v) (q : ∀ p H', L2.Same H H' → GW K C CL A N M H' (.ref p) → Q (.ref p) H') : tNoPart σ H fun u H3 => Xtu.rSlU v lo u H3 Q := wd_cut ls g q
theorem gd_list {t l : Addr} {xs : List V} (ls : Occ A H) (g : GW K C CL A N M H (.ref t)) (e : H t = some (.tup xs)) (nl : H l = none) (l1 : N ≤ n) (l2 : M ≤ n) : ThV K C CL n (offS A (L2.upd H l (.lst xs))) (.ref l) := by
  obtain ⟨a, ys, ea, e2, na, ly, al⟩ := g
  cases ea
  rw [e] at e2
  cases e2
  obtain ⟨ds, p, q⟩ := AllV.all fun x hx => ((al x hx).le l2).same' (off_same (same_upd nl (o := .lst xs)))
  exact ⟨.list ds, .lst (offS_at (ls.no nl) upd_same) p, by rw [← dz_len p]; omega, q⟩
theorem gd_rev {t p : Addr} {xs : List V} (ls : Occ A H) (g : GW K C CL A N M H (.ref t)) (e : H t = some (.tup xs)) (s : L2.Same H H') (ep : H' p = some (.tup xs.reverse)) : GW K C CL A N M H' (.ref p) := by
  obtain ⟨a, ys, ea, e2, na, ly, al⟩ := g
  cases ea
  rw [e] at e2
  cases e2
  exact ⟨p, _, rfl, ep, (ls.same s).nt ep, by rw [List.length_reverse]; exact ly, fun x hx => (al x (List.mem_reverse.mp hx)).same' (off_same s)⟩
end
theorem offS_mem {A : List Addr} {H : Hp} {b : Addr} (m : b ∈ A) : offS A H b = none := by
  unfold offS
  rw [if_pos m]
theorem offS_le {A : List Addr} {H : Hp} : L2.Same (offS A H) H := fun b x e => by
  by_cases m : b ∈ A
  · rw [offS_mem m] at e; cases e
  · unfold offS at e
    rw [if_neg m] at e
    exact e
theorem cutV_drop (xs : List V) (k : Nat) (h : k ≤ xs.length) : cutV xs (some (k : Int)) none = xs.drop k := by
  unfold cutV
  have e1 : HT.sIx xs.length 0 (some (k : Int)) = min k xs.length := by rw [HT.sIx_nat]
  have e2 : HT.sIx xs.length xs.length none = xs.length := rfl
  rw [e1, e2, Nat.min_eq_left h, List.take_of_length_le (by rw [List.length_drop]; omega)]
section
variable {X : Cx}
theorem op_neT0 (hu : X.A.units + 64 < cLine) : OpR X (compareOp .NotEq) (fun x y H Q => ∃ a b xs, x = .ref a ∧ y = .ref b ∧ H a = some (.tup xs) ∧ H b = some (.tup []) ∧ Q (.bl (!xs.isEmpty)) H) := by
  intro pins s σ H x y v u Q I rx ry h
  obtain ⟨a, b, xs, rfl, rfl, ea, eb, q⟩ := h
  cases rx; cases ry
  obtain ⟨its, r1, ⟨o1, g1, c1, n1, d1⟩, _⟩ := I.tuple (SqT.of ea)
  obtain ⟨its2, r2, ⟨o2, g2, c2, n2, d2⟩, _⟩ := I.tuple (SqT.of eb)
  cases r2
  have l := r1.length
  have k : (!((List.range (min its.toArray.size ([] : List Value).toArray.size)).all (fun _ => true) && its.toArray.size == ([] : List Value).toArray.size)) = !xs.isEmpty := by
    cases xs with
    | nil =>
      cases r1
      rfl
    | cons z zs =>
      cases r1 with
      | cons _ _ => simp
  have w := PySem.SeqAt.RcNeAt.tuples (A := X.A) (s := s) (l := a) (b := b) (items := its.toArray) (items2 := ([] : List Value).toArray) (e := fun _ => true) ⟨o1, g1, c1, n1, d1⟩ ⟨o2, g2, c2, n2, d2⟩ (Nat.lt_of_le_of_lt (Nat.le_add_right _ 64) hu) (fun j h1 h2 => absurd h2 (by simp))
  rw [k] at w
  exact w X.prog X.w _ _ ⟨.bl _, H, I, rfl, q⟩
end
def spBent (K : PySem.W.Frag) (C CL : Addr) (k : Nat) : Sp := fun vs H Q _ => ∃ (h o : Addr) (c : Int) (v : V) (e : Addr) (xe : List V) (n : Nat), vs = [.ref h, v, .ref e, .int (k : Int)] ∧ ThV K C CL n (offS [h, o] H) v ∧ 9 ≤ n ∧ n ≤ 30 ∧ H e = some (.tup xe) ∧ xe.length ≤ 9 ∧ AllV K C CL [h, o] H (.ref e :: xe) ∧ Hd h o c H ∧ c + 50 * (k + 1) ≤ far ∧
  ∀ v' H', ThV K C CL (2 * n + 2) (offS [h, o] H') v' → Hd h o (c + 10 * (k + 1)) H' → Bt [h, o] H H' → Q v' H'
def spBelow (K : PySem.W.Frag) (C CL : Addr) : Nat → Sp
  | 0 => fun _ _ _ _ => False
  | k + 1 => spBent K C CL k
theorem ok_bt {f : Addr} {fd : FuncData} {k : Nat} (D : Df K mg "_law_bent" ["_law_hand_here", "_law_thing", "_law_entry", "_law_deep"] sBent f fd) (T : Txt K mg C CL) (cT : Ca P w K mg base 1 "_law_take" ["_law_hand_here", "_law_many"] spTake) (cOd : Ca P w K mg base 6 "_law_odd" ["_law_hand_here", "_law_entry"] (spOdd K C CL)) (cB : Ca P w K mg base (k + 6) "_law_bent" ["_law_hand_here", "_law_thing", "_law_entry", "_law_deep"] (spBelow K C CL k)) : FnOk P w K mg base CX0 (k + 7) f fd ["_law_hand_here", "_law_thing", "_law_entry", "_law_deep"] (spBent K C CL k) := by
  refine D.fn.ok scBent (fun vs H Q E h => ?_) (fun cdv A outer s H vs Q E hr h => ?_)
  · obtain ⟨h, o, c, v, e, xe, n, rfl, tv, n9, n20, ee, le9, ae, hh, hn, q⟩ := h
    rfl
  · obtain ⟨h, o, c, v, e, xe, n, rfl, tv, n9, n20, ee, le9, ae, hh, hn, q⟩ := h
    refine ⟨_, (C8.pss_cut (ps_if (PW.pt (pw_and (pt_val (pe_callB call_isi (by rfl) T.isi (by decide +kernel) (pa_cons (pv 1) (pa_cons (pe_bltn (v := .ty "tuple") (by rfl) T.tuple (by decide +kernel) rfl) pa_nil)))) (pw_and (pt_cmpR (op_neT0 hr.units) (pv 1) (pe_tup pa_nil) (nomark _)) (pw_and (pt_cmpR op_gt (pv 3) pe_int (nomark _)) (pw_and1 (pt_cmpR op_gt (pe_ca cT hr (by omega) (by rfl) (pa_cons (pv 0) (pa_cons pe_int pa_nil))) pe_int (nomark _))))))) (pss_cons (ps_set (i := 4) scBent.nd rfl (.inl rfl) (pe_ca cT hr (by omega) (by rfl) (pa_cons (pv 0) (pa_cons (pe_callB call_len_seq (by rfl) T.len PySem.boot_len (pa_cons (pv 1) pa_nil)) pa_nil))))
      (pss_cons (ps_set (i := 5) scBent.nd rfl (.inl rfl) (pe_ca cB hr (by omega) (by rfl) (pa_cons (pv 0) (pa_cons (pe_ix ix_tup (pv 1) (pv 4) (fun _ _ => rfl)) (pa_cons (pv 2) (pa_cons (pe_op op_sub (pv 3) pe_int) pa_nil))))))
      (pss_one (ps_ret (pe_op Xtu.op_catU (pe_op Xtu.op_catU (pe_slice Xtu.sl_tupU (pv 1) po_none (po_some (pv 4))) (pe_tup (pa_cons (pv 5) pa_nil))) (pe_slice Xtu.sl_tupU (pv 1) (po_some (pe_op op_add (pv 4) pe_int)) po_none)))))) pss_nil)
      (pss_cons (ps_par (i := 6) (j := 7) (by rfl) scBent.nd rfl rfl (by decide) rfl rfl (pa_cons (pe_ca cOd hr (by omega) (by rfl) (pa_cons (pv 0) (pa_cons (pv 2) pa_nil))) (pa_cons (pe_ca cT hr (by omega) (by rfl) (pa_cons (pv 0) (pa_cons pe_int pa_nil))) pa_nil)) (by rfl))
      (pss_cons (ps_if (PW.pt (pw_or (pt_not (pt_val (pe_callB call_isi (by rfl) T.isi (by decide +kernel) (pa_cons (pv 1) (pa_cons (pe_bltn (v := .ty "tuple") (by rfl) T.tuple (by decide +kernel) rfl) pa_nil))))) (pw_or1 (pt_cmpR op_eq (pv 7) pe_int (nomark _))))) (pss_one (ps_ret (pv 6))) pss_nil)
      (pss_cons (ps_set (i := 4) scBent.nd rfl (.inl rfl) (pe_ca cT hr (by omega) (by rfl) (pa_cons (pv 0) (pa_cons (pe_op op_add (pe_callB call_len_seq (by rfl) T.len PySem.boot_len (pa_cons (pv 1) pa_nil)) pe_int) pa_nil))))
      (pss_cons (ps_set (i := 8) scBent.nd rfl (.inl rfl) (pe_lst (pa_cons (pe_op Xtu.op_catU (pe_op Xtu.op_catU (pe_slice Xtu.sl_tupU (pv 1) po_none (po_some (pv 4))) (pe_tup (pa_cons (pv 6) pa_nil))) (pe_slice Xtu.sl_tupU (pv 1) (po_some (pv 4)) po_none)) (pa_cons (pe_op Xtu.op_catU (pe_slice Xtu.sl_tupU (pv 1) po_none (po_some (pe_callB (call_max2 (by rfl)) (by rfl) T.max (by decide +kernel) (pa_cons pe_int (pa_cons (pe_op op_sub (pv 4) pe_int) pa_nil))))) (pe_slice Xtu.sl_tupU (pv 1) (po_some (pv 4)) po_none)) (pa_cons (pe_callTy cr_listT (by rfl) T.list (by decide +kernel) (pa_cons (pv 1) pa_nil)) (pa_cons (Xtu.pe_revN (pv 1)) pa_nil))))))
      (pss_one (ps_ret (pe_ix ix_list (pe_op op_cat (pv 8) (pe_lst (pa_cons (pe_op Xtu.op_catU (pv 1) (pe_slice Xtu.sl_tupU (pv 1) (po_some (pe_un un_neg pe_int)) po_none)) pa_nil))) (pe_op op_sub (pv 7) pe_int) (fun _ _ => rfl))))))))), ?_⟩
    have fr : c + 50 * ((k : Int) + 1) ≤ 1000000 := hn
    have eo : e ∉ [h, o] := hh.occ.nt ee
    have bD : ∀ {Hx : Hp}, Bt [h, o] H Hx → Hx e = some (.tup xe) ∧ AllV K C CL [h, o] Hx (.ref e :: xe) := fun b => ⟨b _ _ eo ee, ae.off b.off⟩
    obtain ⟨d, dz, od⟩ := id tv
    refine ⟨fun σ H2 => ∃ c4 c5 : Option V, σ = [some (.ref h), some v, some (.ref e), some (.int (k : Int)), c4, c5, none, none, none] ∧ Hd h o (c + 2) H2 ∧ Bt [h, o] H H2, ?_, ?_⟩
    · refine ⟨_, rfl, _, _, _, _, isTup d, rfl, .ty _, (dz.same offS_le).ty, z_tup (dz.same offS_le), _, rfl, ?_⟩
      cases dz with
      | @tup t xs ds et' ra =>
        have et : H t = some (.tup xs) := offS_le _ _ et'
        have th : t ∉ [h, o] := hh.occ.nt et
        have lx := dz_len ra
        have od' : ds.length ≤ n ∧ oks [C, CL] n ds := od
        have al := th_all ra od'.2
        have lxn : xs.length ≤ n := by omega
        refine iteT ⟨_, rfl, (by show 0 ≤ sizeLine; decide), fun z nz => ?_⟩
        have sz := same_upd nz (o := .tup [])
        refine ⟨t, z, xs, rfl, rfl, sz _ _ et, upd_same, _, rfl, ite2 (fun e1 => ?_) (fun e1 => ?_)⟩
        rotate_left
        · exact ⟨_, _, rfl, (hh.same sz).mono (by omega), Bt.of sz⟩
        have xpos : 0 < xs.length := by
          cases xs with
          | nil => cases e1
          | cons _ _ => simp
        refine ⟨_, rfl, _, _, rfl, rfl, _, rfl, ite2 (fun e2 => ?_) (fun e2 => ?_)⟩
        rotate_left
        · exact ⟨_, _, rfl, (hh.same sz).mono (by omega), Bt.of sz⟩
        have kpos : 0 < k := by
          have := of_decide_eq_true e2
          omega
        obtain ⟨k', rfl⟩ : ∃ k', k = k' + 1 := ⟨k - 1, by omega⟩
        refine ⟨_, rfl, h, o, 4, c, rfl, by decide, by decide, hh.same sz, by show c ≤ 1000000; omega, fun d1 H3 d2 d3 h3 b3 => ⟨_, _, rfl, rfl, _, rfl, ite2 (fun e3 => ?_) (fun e3 => ?_)⟩⟩
        rotate_left
        · exact ⟨_, _, rfl, h3.mono (by omega), (Bt.of sz).trans b3⟩
        have b13 : Bt [h, o] H H3 := (Bt.of sz).trans b3
        have et3 := b13 _ _ th et
        refine ⟨_, rfl, _, rfl, t, xs, rfl, .inr (SqT.of et3), h, o, (xs.length : Int), c + 1, rfl, by omega, by omega, h3, by show c + 1 ≤ 1000000; omega, fun a H4 c0 c1 h4 b4 => ?_⟩
        have et4 := b4 _ _ th et3
        have b14 := b13.trans b4
        obtain ⟨i, rfl⟩ : ∃ i : Nat, a = (i : Int) := ⟨a.toNat, by omega⟩
        have hi : i < xs.length := by omega
        refine ⟨_, rfl, _, rfl, _, rfl, t, xs, _, xs[i], rfl, rfl, SqT.of et4, atI_nat (List.getElem?_eq_getElem hi), _, rfl, _, rfl, _, _, rfl, rfl, ?_⟩
        refine ⟨h, o, c + 1 + 1, xs[i], e, xe, n, by show [V.ref h, xs[i], V.ref e, V.int (((k' + 1 : Nat) : Int) - 1)] = _; rw [show ((k' + 1 : Nat) : Int) - 1 = (k' : Int) by omega], (al _ (List.getElem_mem hi)).same' b14.off, n9, n20, (bD b14).1, le9, (bD b14).2, h4, by show c + 1 + 1 + 50 * ((k' : Int) + 1) ≤ 1000000; omega, fun v1 H6 t6 h6 b6 => ?_⟩
        have b16 := b14.trans b6
        have g0 : GW K C CL [h, o] n (2 * n + 2) H6 (.ref t) := ⟨t, xs, rfl, b16 _ _ th et, th, lxn, fun x hx => ((al x hx).le (by omega)).same' b16.off⟩
        have ls := h6.occ
        refine ⟨_, rfl, _, rfl, (i : Int), rfl, wd_cut ls g0 fun p1 J1 s1 k1 => ?_⟩
        have ls1 := ls.same s1
        refine ⟨_, rfl, (by show 1 ≤ sizeLine; decide), fun p2 n2 => ?_⟩
        have k2 := gw_one ls1 (t6.same' (Bt.of (A := [h, o]) s1).off) n2
        have s2 := same_upd n2 (o := .tup [v1])
        refine wd_cat (ls1.same s2) (k1.same s2) k2 (by omega) fun p3 J3 s3 k3 => ?_
        have s13 := (s1.trans s2).trans s3
        refine ⟨_, rfl, _, rfl, (i : Int), 1, rfl, rfl, _, rfl, wd_cutN (ls.same s13) (g0.same s13) fun p4 J4 s4 k4 => ?_⟩
        have s14 := s13.trans s4
        refine wd_cat (ls.same s14) (k3.same s4) k4 (by omega) fun p5 J5 s5 k5 => ?_
        have s15 := s14.trans s5
        exact q (.ref p5) J5 (k5.th (by omega) (Nat.le_refl _)) ((h6.same s15).mono (by omega)) (b16.trans (Bt.of s15))
      | _ => exact iteF ⟨_, _, rfl, hh.mono (by omega), Bt.refl _ _⟩
    rintro σ H2 ⟨c4, c5, rfl, h2, b2⟩
    refine ⟨_, rfl, _, rfl, h, o, c + 2, e, xe, rfl, h2, by show c + 2 + 20 ≤ 1000000; omega, (bD b2).1, le9, (bD b2).2, fun vo H3 to h3 b3 => ?_⟩
    refine ⟨_, rfl, h, o, 6, c + 2 + 1, rfl, by decide, by decide, h3, by show c + 2 + 1 ≤ 1000000; omega, fun wy H4 w0 w1 h4 b4 => ⟨_, _, rfl, ?_⟩⟩
    have bt := (b2.trans b3).trans b4
    have to4 := to.same' b4.off
    replace dz := dz.same bt.off
    have fin0 : Q vo H4 := q vo H4 (to4.le (by omega)) (h4.mono (by omega)) bt
    refine ⟨_, rfl, _, _, _, _, isTup d, rfl, .ty _, (dz.same offS_le).ty, z_tup (dz.same offS_le), _, rfl, ?_⟩
    cases dz with
    | @tup t xs ds et' ra =>
      refine iteF ⟨_, rfl, rfl, _, rfl, ite2 (fun e => ?_) (fun e => ?_)⟩
      · exact ⟨_, rfl, fin0⟩
      have et : H4 t = some (.tup xs) := offS_le _ _ et'
      have lx := dz_len ra
      have od' : ds.length ≤ n ∧ oks [C, CL] n ds := od
      have al := th_all ra od'.2
      have lxn : xs.length ≤ n := by omega
      have wy1 : 1 ≤ wy := by
        rcases Int.lt_or_le wy 1 with z | z
        · exact absurd (decide_eq_true (by rw [show wy = 0 by omega])) e
        · exact z
      refine ⟨_, rfl, _, rfl, t, xs, rfl, .inr (SqT.of et), _, _, rfl, rfl, h, o, ((xs.length : Nat) : Int) + 1, c + 4, rfl, by omega, by omega, h4.mono (by omega), by show c + 4 ≤ 1000000; omega, fun a Jz a0 a1 hd b5 => ?_⟩
      have th : t ∉ [h, o] := h4.occ.nt et
      have et0 := b5 _ _ th et
      have g0 : GW K C CL [h, o] n n Jz (.ref t) := ⟨t, xs, rfl, et0, th, lxn, fun x hx => (al x hx).same' b5.off⟩
      have zo := (to4.same' b5.off).le n9
      have ls := hd.occ
      replace bt := bt.trans b5
      refine ⟨_, rfl, _, rfl, a, rfl, wd_cut ls g0 fun p1 J1 s1 k1 => ?_⟩
      replace g0 := g0.same s1
      replace zo := zo.same' (Bt.of (A := [h, o]) s1).off
      replace et0 := s1 _ _ et0
      replace hd := hd.same s1
      replace ls := hd.occ
      replace bt := bt.trans (Bt.of (A := [h, o]) s1)
      refine ⟨_, rfl, (by show 1 ≤ sizeLine; decide), fun p2 n2 => ?_⟩
      have s2 := same_upd n2 (o := .tup [vo])
      have k2 := gw_one ls zo n2
      replace g0 := g0.same s2
      replace k1 := k1.same s2
      replace zo := zo.same' (Bt.of (A := [h, o]) s2).off
      replace et0 := s2 _ _ et0
      replace hd := hd.same s2
      replace ls := hd.occ
      replace bt := bt.trans (Bt.of (A := [h, o]) s2)
      generalize L2.upd J1 p2 (.tup [vo]) = J2 at *
      refine wd_cat ls k1 k2 (by omega) fun p3 J3 s3 k3 => ?_
      replace g0 := g0.same s3
      replace zo := zo.same' (Bt.of (A := [h, o]) s3).off
      replace et0 := s3 _ _ et0
      replace hd := hd.same s3
      replace ls := hd.occ
      replace bt := bt.trans (Bt.of (A := [h, o]) s3)
      refine ⟨_, rfl, _, rfl, a, rfl, wd_cutN ls g0 fun p4 J4 s4 k4 => ?_⟩
      replace g0 := g0.same s4
      replace k3 := k3.same s4
      replace zo := zo.same' (Bt.of (A := [h, o]) s4).off
      replace et0 := s4 _ _ et0
      replace hd := hd.same s4
      replace ls := hd.occ
      replace bt := bt.trans (Bt.of (A := [h, o]) s4)
      refine wd_cat ls k3 k4 (by omega) fun p5 J5 s5 k5 => ?_
      replace g0 := g0.same s5
      replace zo := zo.same' (Bt.of (A := [h, o]) s5).off
      replace et0 := s5 _ _ et0
      replace hd := hd.same s5
      replace ls := hd.occ
      replace bt := bt.trans (Bt.of (A := [h, o]) s5)
      refine ⟨_, rfl, _, rfl, _, _, rfl, rfl, _, _, rfl, _, rfl, wd_cut ls g0 fun p6 J6 s6 k6 => ?_⟩
      replace g0 := g0.same s6
      replace k5 := k5.same s6
      replace zo := zo.same' (Bt.of (A := [h, o]) s6).off
      replace et0 := s6 _ _ et0
      replace hd := hd.same s6
      replace ls := hd.occ
      replace bt := bt.trans (Bt.of (A := [h, o]) s6)
      refine ⟨_, rfl, _, rfl, a, rfl, wd_cutN ls g0 fun p7 J7 s7 k7 => ?_⟩
      replace g0 := g0.same s7
      replace k5 := k5.same s7
      replace k6 := k6.same s7
      replace zo := zo.same' (Bt.of (A := [h, o]) s7).off
      replace et0 := s7 _ _ et0
      replace hd := hd.same s7
      replace ls := hd.occ
      replace bt := bt.trans (Bt.of (A := [h, o]) s7)
      refine wd_cat ls k6 k7 (by omega) fun p8 J8 s8 k8 => ?_
      replace g0 := g0.same s8
      replace k5 := k5.same s8
      replace zo := zo.same' (Bt.of (A := [h, o]) s8).off
      replace et0 := s8 _ _ et0
      replace hd := hd.same s8
      replace ls := hd.occ
      replace bt := bt.trans (Bt.of (A := [h, o]) s8)
      refine ⟨_, rfl, t, xs, rfl, SqT.of et0, fun q3 nq nsq => ?_⟩
      have s := same_upd nq (o := .lst xs)
      have z3 := gd_list (n := n) ls g0 et0 nq (Nat.le_refl _) (Nat.le_refl _)
      replace g0 := g0.same s
      replace k5 := k5.same s
      replace k8 := k8.same s
      replace zo := zo.same' (Bt.of (A := [h, o]) s).off
      replace et0 := s _ _ et0
      replace hd := hd.same s
      replace ls := hd.occ
      replace bt := bt.trans (Bt.of (A := [h, o]) s)
      generalize L2.upd J8 q3 (.lst xs) = Jl at *
      refine ⟨_, rfl, t, xs, rfl, et0, fun q4 J0 s0 e0 => ?_⟩
      have x4 := gd_rev ls g0 et0 s0 e0
      replace g0 := g0.same s0
      replace k5 := k5.same s0
      replace k8 := k8.same s0
      replace zo := zo.same' (Bt.of (A := [h, o]) s0).off
      replace z3 := z3.same' (Bt.of (A := [h, o]) s0).off
      replace et0 := s0 _ _ et0
      replace hd := hd.same s0
      replace ls := hd.occ
      replace bt := bt.trans (Bt.of (A := [h, o]) s0)
      refine ⟨(by show 4 ≤ sizeLine; decide), fun L1 nL1 => ?_⟩
      have sL := same_upd nL1 (o := .lst [.ref p5, .ref p8, .ref q3, .ref q4])
      have eL1 : (L2.upd J0 L1 (.lst [.ref p5, .ref p8, .ref q3, .ref q4])) L1 = some (.lst [.ref p5, .ref p8, .ref q3, .ref q4]) := upd_same
      replace g0 := g0.same sL
      replace k5 := k5.same sL
      replace k8 := k8.same sL
      replace x4 := x4.same sL
      replace zo := zo.same' (Bt.of (A := [h, o]) sL).off
      replace z3 := z3.same' (Bt.of (A := [h, o]) sL).off
      replace et0 := sL _ _ et0
      replace hd := hd.same sL
      replace ls := hd.occ
      replace bt := bt.trans (Bt.of (A := [h, o]) sL)
      generalize L2.upd J0 L1 (.lst [.ref p5, .ref p8, .ref q3, .ref q4]) = JA at *
      refine ⟨_, rfl, _, rfl, _, rfl, 1, rfl, -1, rfl, wd_cutN ls g0 fun p9 J9 s9 k9 => ?_⟩
      replace g0 := g0.same s9
      replace k5 := k5.same s9
      replace k8 := k8.same s9
      replace x4 := x4.same s9
      replace zo := zo.same' (Bt.of (A := [h, o]) s9).off
      replace z3 := z3.same' (Bt.of (A := [h, o]) s9).off
      replace et0 := s9 _ _ et0
      replace eL1 := s9 _ _ eL1
      replace hd := hd.same s9
      replace ls := hd.occ
      replace bt := bt.trans (Bt.of (A := [h, o]) s9)
      refine wd_cat ls g0 k9 (by omega) fun p10 J10 s10 k10 => ?_
      replace g0 := g0.same s10
      replace k5 := k5.same s10
      replace k8 := k8.same s10
      replace x4 := x4.same s10
      replace zo := zo.same' (Bt.of (A := [h, o]) s10).off
      replace z3 := z3.same' (Bt.of (A := [h, o]) s10).off
      replace et0 := s10 _ _ et0
      replace eL1 := s10 _ _ eL1
      replace hd := hd.same s10
      replace ls := hd.occ
      replace bt := bt.trans (Bt.of (A := [h, o]) s10)
      refine ⟨(by show 1 ≤ sizeLine; decide), fun L2a nL2 => ?_⟩
      have sM := same_upd nL2 (o := .lst [.ref p10])
      have eL2 : (L2.upd J10 L2a (.lst [.ref p10])) L2a = some (.lst [.ref p10]) := upd_same
      replace g0 := g0.same sM
      replace k5 := k5.same sM
      replace k8 := k8.same sM
      replace x4 := x4.same sM
      replace k10 := k10.same sM
      replace zo := zo.same' (Bt.of (A := [h, o]) sM).off
      replace z3 := z3.same' (Bt.of (A := [h, o]) sM).off
      replace et0 := sM _ _ et0
      replace eL1 := sM _ _ eL1
      replace hd := hd.same sM
      replace ls := hd.occ
      replace bt := bt.trans (Bt.of (A := [h, o]) sM)
      generalize L2.upd J10 L2a (.lst [.ref p10]) = JM at *
      refine ⟨L1, L2a, _, _, rfl, rfl, eL1, eL2, (by show 4 + 1 ≤ sizeLine; decide), fun L3 nL3 => ?_⟩
      have sN := same_upd nL3 (o := .lst ([.ref p5, .ref p8, .ref q3, .ref q4] ++ [.ref p10]))
      have eL3 : (L2.upd JM L3 (.lst ([.ref p5, .ref p8, .ref q3, .ref q4] ++ [.ref p10]))) L3 = some (.lst [.ref p5, .ref p8, .ref q3, .ref q4, .ref p10]) := upd_same
      replace g0 := g0.same sN
      replace k5 := k5.same sN
      replace k8 := k8.same sN
      replace x4 := x4.same sN
      replace k10 := k10.same sN
      replace zo := zo.same' (Bt.of (A := [h, o]) sN).off
      replace z3 := z3.same' (Bt.of (A := [h, o]) sN).off
      replace et0 := sN _ _ et0
      replace eL1 := sN _ _ eL1
      replace hd := hd.same sN
      replace ls := hd.occ
      replace bt := bt.trans (Bt.of (A := [h, o]) sN)
      generalize L2.upd JM L3 (.lst ([.ref p5, .ref p8, .ref q3, .ref q4] ++ [.ref p10])) = JN at *
      obtain ⟨i, hi⟩ : ∃ i : Nat, wy - 1 = (i : Int) := ⟨(wy - 1).toNat, by omega⟩
      have i5 : i < 5 := by omega
      refine ⟨_, rfl, _, _, rfl, rfl, ?_⟩
      have fin : ∀ (x : Addr), ThV K C CL (2 * n + 2) (offS [h, o] JN) (.ref x) → Q (.ref x) JN := fun x z => q _ _ z (hd.mono (by omega)) bt
      match i, hi, i5 with
      | 0, hi, _ => exact ⟨L3, _, _, _, rfl, congrArg V.int hi, SqL.of eL3, atI_nat (j := 0) rfl, fin p5 (k5.th (by omega) (by omega))⟩
      | 1, hi, _ => exact ⟨L3, _, _, _, rfl, congrArg V.int hi, SqL.of eL3, atI_nat (j := 1) rfl, fin p8 (k8.th (by omega) (by omega))⟩
      | 2, hi, _ => exact ⟨L3, _, _, _, rfl, congrArg V.int hi, SqL.of eL3, atI_nat (j := 2) rfl, fin q3 (z3.le (by omega))⟩
      | 3, hi, _ => exact ⟨L3, _, _, _, rfl, congrArg V.int hi, SqL.of eL3, atI_nat (j := 3) rfl, fin q4 (x4.th (by omega) (by omega))⟩
      | 4, hi, _ => exact ⟨L3, _, _, _, rfl, congrArg V.int hi, SqL.of eL3, atI_nat (j := 4) rfl, fin p10 (k10.th (by omega) (by omega))⟩
    | _ => exact iteT ⟨_, rfl, fin0⟩
end
end K20
set_option Elab.async false
set_option linter.all false
set_option maxRecDepth 100000
set_option maxHeartbeats 4000000
/-! tuple * int from nought on; list * int whose list is no table of modules -/
namespace Xrp
open PySem PySem.Spec PyProof.Rows L2
theorem mul0 (l : Addr) (items : Array Value) (n : Nat) (dd : Option Addr) (sl : Array (Option Value)) (u : Tok) (ne : items.isEmpty = false) :
    Meets (Builtin.«tuple.__mul__» ⟨[.ref l, .int 0 u], []⟩) (fun _ R s =>
      s.heap.get? l = some { cls := .type "tuple", dict := dd, data := .seq items n, slots := sl } ∧
      R (.ok (.ret (Value.ref s.heap.objs.size))) { s with heap := s.heap.push { cls := Value.type "tuple", data := Data.seq #[] }, toks := s.toks }) :=
  .of_wp fun prog w A R s h => by
    obtain ⟨hp, g, d, tk, os⟩ := s
    obtain ⟨hl, h⟩ := h
    have f1 := AutoSeq1.idx_int
    wp_walk using wpAny_loadPart' hl
    exact ⟨_, rfl, h⟩
theorem mul1 (l : Addr) (items : Array Value) (n : Nat) (dd : Option Addr) (sl : Array (Option Value)) (u : Tok) :
    Meets (Builtin.«tuple.__mul__» ⟨[.ref l, .int 1 u], []⟩) (fun _ R s =>
      s.heap.get? l = some { cls := .type "tuple", dict := dd, data := .seq items n, slots := sl } ∧ R (.ok (.ret (.ref l))) s) :=
  .of_wp fun prog w A R s h => by
    obtain ⟨hp, g, d, tk, os⟩ := s
    obtain ⟨hl, h⟩ := h
    have f1 := AutoSeq1.idx_int
    have c1 : (items.isEmpty || ((1 : Int) == 1)) = true := by simp
    wp_walk using wpAny_loadPart' hl
    repeat (first
      | (refine wpAny_ite_true (decide_eq_true c1) ?_; wp_walk using wpAny_loadPart' hl)
      | (refine wpAny_ite_true c1 ?_; wp_walk using wpAny_loadPart' hl))
    exact ⟨_, rfl, h⟩
section
variable {X : Cx}
def rRepU (K : PySem.W.Frag) : R2 := fun x y H Q => ∃ l k xs, x = .ref l ∧ y = .int k ∧ H l = some (.tup xs) ∧ xs ≠ [] ∧ 0 ≤ k ∧ k ≤ 1000 ∧ xs.length ≤ 1000 ∧ ∀ p H', L2.Same H H' → H' p = some (.tup (List.replicate k.toNat xs).flatten) → Q (.ref p) H'
theorem op_repU : OpR X (binaryOp .Mult) (rRepU X.K) := by
  intro pins s σ H x y v u Q I rx ry h
  obtain ⟨l, k, xs, rfl, rfl, hT, hne, h1, h2, hz, q⟩ := h
  rcases Int.lt_or_le k 2 with c | c
  · cases rx
    obtain ⟨t, rfl⟩ := ry
    obtain ⟨its, r, ⟨⟨cls, dd, data, sl⟩, ho, hc, n, hd⟩, hs⟩ := I.tuple (SqT.of hT)
    simp only at hc hd
    subst hc hd
    have hi : its.toArray.isEmpty = false := by
      cases its with
      | nil =>
        cases r
        exact absurd rfl hne
      | cons a b => rfl
    have k01 : k = 0 ∨ k = 1 := by omega
    rcases k01 with rfl | rfl
    · refine wpAny_binaryOp_repeat_ref (T := "tuple") (U := "int") (by decide) ⟨_, ho, rfl⟩
        (fun s' => typeIs_int s' 0 t) noFill_tuple_mul F.fills_int_mul F.slot_int_rmul repeat_tuple
        F.slot_int_index.lookup (call_meets F.slot_int_rmul (typeIs_int s 0 t) F.entry_int_rmul
          (F.args_int_rmul_2 _ _) (int_rmul_tuple 0 t l its.toArray n dd sl) ⟨ho, rfl, ⟨_, ho, rfl⟩, ?_⟩)
      refine call_meets F.slot_tuple_mul ⟨_, ho, rfl⟩ F.entry_tuple_mul (F.args_tuple_mul_2 _ _) (mul0 l its.toArray n dd sl t hi) ⟨ho, ?_⟩
      have nw := I.hok.fresh (Nat.le_refl s.heap.objs.size)
      refine ⟨.ref s.heap.objs.size, _, I.laid (t' := s.toks) (o := .tup []) (fun b ob z => Heap.get?_push_of_some _ z) (Nat.le_refl _) ?_, rfl, q _ _ (fun b o z => by rw [upd_ne (ne_of_none z nw)]; exact z) upd_same⟩
      exact ⟨Nat.zero_le _, [], .nil, IsTup.new _ _⟩
    · refine wpAny_binaryOp_repeat_ref (T := "tuple") (U := "int") (by decide) ⟨_, ho, rfl⟩
        (fun s' => typeIs_int s' 1 t) noFill_tuple_mul F.fills_int_mul F.slot_int_rmul repeat_tuple
        F.slot_int_index.lookup (call_meets F.slot_int_rmul (typeIs_int s 1 t) F.entry_int_rmul
          (F.args_int_rmul_2 _ _) (int_rmul_tuple 1 t l its.toArray n dd sl) ⟨ho, rfl, ⟨_, ho, rfl⟩, ?_⟩)
      refine call_meets F.slot_tuple_mul ⟨_, ho, rfl⟩ F.entry_tuple_mul (F.args_tuple_mul_2 _ _) (mul1 l its.toArray n dd sl t) ⟨ho, ?_⟩
      exact ⟨.ref l, H, I, rfl, q l H (Same.refl H) (by rw [hT]; simp)⟩
  · exact op_repT pins s σ H _ _ v u Q I rx ry ⟨l, k, xs, rfl, rfl, SqT.of hT, hne, c, h2, hz, fun p np => q p _ (fun b o z => by rw [upd_ne (ne_of_none z np)]; exact z) upd_same⟩
def rRepZ : R2 := fun x y H Q => ∃ l k xs, x = .ref l ∧ y = .int k ∧ H l = some (.lst xs) ∧ 0 ≤ k ∧ k ≤ 1000 ∧ xs.length ≤ 1000 ∧ ∀ p, H p = none → p ≠ sysModules → Q (.ref p) (upd H p (.lst (List.replicate k.toNat xs).flatten))
theorem op_repZ : OpR X (binaryOp .Mult) rRepZ := by
  intro pins s σ H x y v u Q I rx ry h
  obtain ⟨l, k, xs, rfl, rfl, hL, h1, h2, hz, q⟩ := h
  have sz : xs.length * k.toNat ≤ sizeLine := Nat.le_trans (Nat.mul_le_mul hz (show k.toNat ≤ 1000 by omega)) (by decide)
  cases rx
  obtain ⟨t, rfl⟩ := ry
  obtain ⟨z, its, n, r, hl, e⟩ := I.lstM hL
  have w1 : its.toArray.size * k.toNat ≤ sizeLine := by rw [List.size_toArray, ← hl]; exact sz
  have w2 : ¬ its.toArray.size * k.toNat > (2 ^ 63 - 1) / 8 := fun y => by
    have : (sizeLine : Nat) ≤ (2 ^ 63 - 1) / 8 := by decide
    omega
  have w3 : ¬ (!Builtin.List.listFitsIndex k) = true := fun y => by
    rw [fitsIndex_both (by omega) (by omega)] at y
    cases y
  have w4 : ¬ Builtin.List.listTooLong (its.toArray.size * k.toNat) = true := fun y => by
    rw [notLongL w1] at y
    cases y
  have w5 : (List.replicate (if its.toArray.isEmpty = true then 0 else k.toNat) its.toArray).foldl (fun a b => a ++ b) #[] = (List.replicate k.toNat its).flatten.toArray := by
    cases its with
    | nil => simp
    | cons a r' =>
      rw [if_neg (by simp)]
      exact size_rep _ _
  refine wpAny_binaryOp_repeat_ref (T := "list") (U := "int") (by decide) ⟨_, e, rfl⟩
    (fun s' => typeIs_int s' k t) noFill_list_mul F.fills_int_mul F.slot_int_rmul repeat_list
    F.slot_int_index.lookup (call_meets F.slot_int_rmul (typeIs_int s k t) F.entry_int_rmul
      (F.args_int_rmul_2 _ _) (int___rmul___int_list k t l its.toArray n) ⟨e, rfl, ⟨_, e, rfl⟩, ?_⟩)
  refine call_meets F.slot_list_mul ⟨_, e, rfl⟩ F.entry_list_mul
    (F.args_list_mul_2 _ _) (AutoListH.list___mul___list_int_3 l its.toArray n k t w3 w2 w4) ⟨e, ?_⟩
  rw [w5]
  refine ⟨.ref _, _, I.lnew (t' := s.toks) (r.rep k.toNat) ?_, rfl, q _ I.fresh (Nat.ne_of_gt I.big)⟩
  rw [PyProof.Rows.lm_len_rep_flat, Nat.mul_comm]
  exact sz
end
end Xrp
set_option Elab.async false
set_option linter.all false
set_option maxRecDepth 100000
set_option maxHeartbeats 4000000
set_option pp.maxSteps 400
set_option pp.deepTerms false
namespace K20
open PySem PySem.Spec PyProof.Rows L2
open Xk Th Xtn
section
variable {P : Program} {w : World} {K : PySem.W.Frag} {mg : Str → Option Value} {base : Heap} {C CL : Addr}
theorem fn_no {f : Addr} {fd : FuncData} {k : Nat} (D : Df K mg "_law_bent" ["_law_hand_here", "_law_thing", "_law_entry", "_law_deep"] sBent f fd) : Ca P w K mg base k "_law_bent" ["_law_hand_here", "_law_thing", "_law_entry", "_law_deep"] (spBelow K C CL 0) :=
  ⟨f, fd, ⟨fun _ _ _ _ h => h.elim, fun _ _ _ _ _ _ _ _ _ _ _ _ _ h => h.elim⟩, D.mgf, D.fn.kp, D.bd⟩
theorem fn_bent {f : Addr} {fd : FuncData} (D : Df K mg "_law_bent" ["_law_hand_here", "_law_thing", "_law_entry", "_law_deep"] sBent f fd) (T : Txt K mg C CL) (cT : Ca P w K mg base 1 "_law_take" ["_law_hand_here", "_law_many"] spTake) (cOd : Ca P w K mg base 6 "_law_odd" ["_law_hand_here", "_law_entry"] (spOdd K C CL)) : ∀ k, Ca P w K mg base (k + 6) "_law_bent" ["_law_hand_here", "_law_thing", "_law_entry", "_law_deep"] (spBelow K C CL k)
  | 0 => fn_no D
  | k + 1 => D.ca (ok_bt D T cT cOd (fn_bent D T cT cOd k))
def spLaw (K : PySem.W.Frag) : Sp := fun vs H Q _ => ∃ (a : Addr) (ns : List Int), vs = [.ref a] ∧ SqL K H a (ns.map V.int) ∧ ns.length ≤ 63 ∧ ∀ H', Q (.bl true) H'
theorem codes7 : ∀ c ∈ codes.cps.toList, c < 128 := by decide +kernel
theorem cd_plain {x : Str} (h : cdD (.str x) = true) : x.length ≤ 12 ∧ Asc7 x := by
  have h : (decide (1 ≤ (x.length : Int)) && decide ((x.length : Int) ≤ 12) && chk x codes) = true := h
  rw [Bool.and_eq_true, Bool.and_eq_true] at h
  have := of_decide_eq_true h.1.2
  exact ⟨by omega, fun c hc => codes7 c (of_decide_eq_true (List.all_eq_true.mp h.2 c hc))⟩
theorem gdn_pln {n : Str × Str} (g : GdN n) : Asc7 n.1 ∧ Asc7 n.2 := ⟨g.1.asc, g.2.2.2.1.asc⟩
def NT (n : Str × Str) : T := .tuple [.str n.1, .str n.2]
theorem nt_nm {n : Str × Str} (g : GdN n) : nmD (NT n) = true := nm_true g.1 g.2.1 g.2.2.1 g.2.2.2.1 g.2.2.2.2.1 g.2.2.2.2.2
theorem nt_ok {cs : List Addr} {n : Str × Str} (g : GdN n) : ok cs 9 (NT n) := by
  obtain ⟨a, b⟩ := gdn_pln g
  obtain ⟨_, g2, g3, _, g5, g6⟩ := g
  exact ⟨(by show 2 ≤ 9; decide), ⟨by omega, a⟩, ⟨by omega, b⟩, trivial⟩
theorem na_dz {H : Hp} {v : V} {n : Str × Str} (h : Xsp.NA H v n) : Dz K H v (NT n) := by
  obtain ⟨t, rfl, e⟩ := h
  exact .tup e (.cons (.str _) (.cons (.str _) .nil))
theorem nas_dz {H : Hp} : ∀ {vs : List V} {ns : List (Str × Str)}, Xsp.NAs H vs ns → DzAll K H vs (ns.map NT)
  | _, _, .nil => .nil
  | _, _, .cons h r => .cons (na_dz h) (nas_dz r)
theorem d2_of {H : Hp} {v : V} (h : F2 v) : ∃ d, Dz K H v d ∧ ok [C, CL] 9 d ∧ (isNone d || cdD d) = true := by
  rcases h with rfl | ⟨x, rfl, hx⟩
  · exact ⟨_, .non, trivial, rfl⟩
  · exact ⟨_, .str x, ⟨by have := (cd_plain hx).1; omega, (cd_plain hx).2⟩, hx⟩
theorem d3_of {H : Hp} {v : V} (h : F3 H v) : ∃ d, Dz K H v d ∧ ok [C, CL] 9 d ∧ (isNone d || nmD d) = true := by
  rcases h with rfl | ⟨n, hn, g⟩
  · exact ⟨_, .non, trivial, rfl⟩
  · exact ⟨_, na_dz hn, nt_ok g, nt_nm g⟩
theorem d4_of {H : Hp} {v : V} (h : F4 H v) : ∃ d, Dz K H v d ∧ ok [C, CL] 9 d ∧ (isNone d || plD d) = true := by
  rcases h with rfl | ⟨t, ws, qs, rfl, e, na, rs, q1, q8, g⟩
  · exact ⟨_, .non, trivial, rfl⟩
  · refine ⟨.tuple (qs.map NT), .tup e (nas_dz na), ⟨by rw [List.length_map]; omega, oks_mem.mpr fun d hd => ?_⟩, ?_⟩
    · obtain ⟨n, hn, rfl⟩ := List.mem_map.mp hd
      exact nt_ok (g n hn)
    · have al : (qs.map NT).all nmD = true := List.all_eq_true.mpr fun d hd => by
        obtain ⟨n, hn, rfl⟩ := List.mem_map.mp hd
        exact nt_nm (g n hn)
      have mp : (qs.map NT).map nmOf = qs := by
        rw [List.map_map]
        exact List.map_id'' (fun n => rfl) qs
      show (decide (1 ≤ ((qs.map NT).length : Int)) && decide (((qs.map NT).length : Int) ≤ 8) && ((qs.map NT).all nmD && risN ((qs.map NT).map nmOf))) = true
      rw [al, mp, (risN_iff qs).mpr rs, List.length_map, decide_eq_true (show (1 : Int) ≤ qs.length by omega), decide_eq_true (show (qs.length : Int) ≤ 8 by omega)]
      rfl
theorem d5_of {H : Hp} {v : V} (w : Ow K C) (h : F5 C H v) : ∃ d, Dz K H v d ∧ ok [C, CL] 9 d ∧ (isNone d || isOwn C d) = true := by
  rcases h with rfl | ⟨a, y, m, d, rfl, ⟨dx, e⟩, _⟩
  · exact ⟨_, .non, trivial, rfl⟩
  · exact ⟨_, .own e w, (by show C ∈ [C, CL]; simp), decide_eq_true rfl⟩
theorem d6_of {H : Hp} {v : V} (w : Ow K CL) (h : F6 CL H v) : ∃ d, Dz K H v d ∧ ok [C, CL] 9 d ∧ (isNone d || isOwn CL d) = true := by
  rcases h with rfl | ⟨a, s, rfl, ⟨dx, e⟩, _⟩
  · exact ⟨_, .non, trivial, rfl⟩
  · exact ⟨_, .own e w, (by show CL ∈ [C, CL]; simp), decide_eq_true rfl⟩
theorem ge_all {H : Hp} {v : V} (wD : Ow K C) (wL : Ow K CL) (g : GE C CL H v) : ∃ (a : Addr) (x : Str) (i : Int) (v2 v3 v4 v5 v6 : V) (ds : List T), v = .ref a ∧ H a = some (.tup [.str x, .int i, v2, v3, v4, v5, v6]) ∧ F2 v2 ∧ F3 H v3 ∧ F4 H v4 ∧ F5 C H v5 ∧ F6 CL H v6 ∧
    DzAll K H [.str x, .int i, v2, v3, v4, v5, v6] ds ∧ entD C CL (.tuple ds) = true ∧ oks [C, CL] 9 ds ∧ ds.length = 7 := by
  obtain ⟨a, x, i, v2, v3, v4, v5, v6, e, ea, l1, l2, l3, i0, f2, f3, f4, f5, f6⟩ := g
  obtain ⟨d2, z2, o2, p2⟩ := d2_of (K := K) (C := C) (CL := CL) (H := H) f2
  obtain ⟨d3, z3, o3, p3⟩ := d3_of (K := K) (C := C) (CL := CL) f3
  obtain ⟨d4, z4, o4, p4⟩ := d4_of (K := K) (C := C) (CL := CL) f4
  obtain ⟨d5, z5, o5, p5⟩ := d5_of (CL := CL) wD f5
  obtain ⟨d6, z6, o6, p6⟩ := d6_of (C := C) wL f6
  refine ⟨a, x, i, v2, v3, v4, v5, v6, [.str x, .int i, d2, d3, d4, d5, d6], e, ea, f2, f3, f4, f5, f6, .cons (.str x) (.cons (.int i) (.cons z2 (.cons z3 (.cons z4 (.cons z5 (.cons z6 .nil)))))), ?_, ⟨⟨by omega, l1.asc⟩, trivial, o2, o3, o4, o5, o6, trivial⟩, rfl⟩
  have kd : keyD (.tuple [.str x, .int i]) = true := by
    show ((decide (1 ≤ (x.length : Int)) && decide ((x.length : Int) ≤ 8) && chk x small) && decide (0 ≤ i)) = true
    rw [decide_eq_true (show (1 : Int) ≤ x.length by omega), decide_eq_true (show (x.length : Int) ≤ 8 by omega), decide_eq_true i0, show chk x small = true from List.all_eq_true.mpr fun c hc => decide_eq_true (l1 c hc)]
    rfl
  show (keyD (.tuple [.str x, .int i]) && ((isNone d2 || cdD d2) && ((isNone d3 || nmD d3) && ((isNone d4 || plD d4) && ((isNone d5 || isOwn C d5) && (isNone d6 || isOwn CL d6)))))) = true
  rw [kd, p2, p3, p4, p5, p6]
  rfl
/-! how what is told is shown -/
theorem bd_name {n : Str × Str} (g : GdN n) : W08.Bd (Xsp.NP n) 3 442 1 := by
  obtain ⟨a, b⟩ := gdn_pln g
  obtain ⟨_, g2, g3, _, g5, g6⟩ := g
  refine (W08.bd_tup (ds := [.str n.1, .str n.2]) (n := 2) (m := 438) (k := 0) ⟨a, b, trivial⟩ (Nat.le_of_ble_eq_true rfl) ?_ (Nat.le_of_ble_eq_true rfl)).mono (by decide) (by decide) (by decide)
  show (10 * n.1.length + 2) + 2 + ((10 * n.2.length + 2) + 2 + 0) ≤ 438
  omega
theorem bd_names : ∀ qs : List (Str × Str), (∀ m ∈ qs, GdN m) → W08.oks (qs.map Xsp.NP) ∧ W08.ncs (qs.map Xsp.NP) ≤ 3 * qs.length ∧ W08.sws (qs.map Xsp.NP) ≤ 444 * qs.length ∧ W08.dws (qs.map Xsp.NP) ≤ 1
  | [], _ => ⟨trivial, by decide, by decide, by decide⟩
  | q :: r, h => by
    obtain ⟨a, b, c, d⟩ := bd_names r fun m hm => h m (List.mem_cons_of_mem _ hm)
    have k := bd_name (h q List.mem_cons_self)
    have k1 := k.n
    have k2 := k.s
    have k3 := k.d
    refine ⟨⟨k.o, a⟩, ?_, ?_, ?_⟩
    · simp only [List.map_cons, W08.ncs, List.length_cons]; omega
    · simp only [List.map_cons, W08.sws, List.length_cons]; omega
    · simp only [List.map_cons, W08.dws]; omega
def Dat (K : PySem.W.Frag) (H : Hp) (v : V) : Prop := ∃ d, Az.Dz K H v d ∧ d.showable = true ∧ d.depth ≤ 60 ∧ d.shown.length ≤ sizeLine
theorem dat_of {H : Hp} {v : V} {d : PyData} (z : Az.Dz K H v d) (b : W08.Bd d 30 4000 3) : Dat K H v := ⟨d, z, b.nice.sh, Nat.le_trans b.nice.dp (by decide), Nat.le_trans b.nice.sz (by decide)⟩
def Shw (K : PySem.W.Frag) (C CL : Addr) (H : Hp) (v : V) : Prop := Dat K H v ∨ (∃ (a : Addr) (y : Int) (m d : Option Int), v = .ref a ∧ DayAt C H a y m d ∧ Good y m d) ∨ ∃ (a : Addr) (s : Int), v = .ref a ∧ LenAt CL H a s ∧ 0 ≤ s ∧ s ≤ 359999
theorem Dat.same {H H' : Hp} {v : V} (h : Dat K H v) (s : L2.Same H H') : Dat K H' v := h.imp fun _ ⟨a, b⟩ => ⟨a.same s, b⟩
theorem shw2 {H : Hp} {v : V} (h : F2 v) : Shw K C CL H v := .inl (by
  rcases h with rfl | ⟨x, rfl, hx⟩
  · exact dat_of .non (W08.bd_none.mono (by decide) (by decide) (by decide))
  · exact dat_of (.str x) ((W08.bd_str (cd_plain hx).2).mono (by decide) (by have := (cd_plain hx).1; omega) (by decide)))
theorem shw3 {H : Hp} {v : V} (h : F3 H v) : Shw K C CL H v := .inl (by
  rcases h with rfl | ⟨n, hn, g⟩
  · exact dat_of .non (W08.bd_none.mono (by decide) (by decide) (by decide))
  · exact dat_of hn.dz ((bd_name g).mono (by decide) (by decide) (by decide)))
theorem shw4 {H : Hp} {v : V} (h : F4 H v) : Shw K C CL H v := .inl (by
  rcases h with rfl | ⟨t, ws, qs, rfl, e, na, rs, q1, q8, g⟩
  · exact dat_of .non (W08.bd_none.mono (by decide) (by decide) (by decide))
  · obtain ⟨a, b, c, d⟩ := bd_names qs g
    exact dat_of (.tup e na.dz) ((W08.bd_tup a b c d).mono (by omega) (by omega) (by decide)))
theorem shw5 {H : Hp} {v : V} (h : F5 C H v) : Shw K C CL H v := by
  rcases h with rfl | h
  · exact .inl (dat_of .non (W08.bd_none.mono (by decide) (by decide) (by decide)))
  · exact .inr (.inl h)
theorem shw6 {H : Hp} {v : V} (h : F6 CL H v) : Shw K C CL H v := by
  rcases h with rfl | h
  · exact .inl (dat_of .non (W08.bd_none.mono (by decide) (by decide) (by decide)))
  · exact .inr (.inr h)
theorem flds_first : ∀ i, i < 5 → ∀ m, m < i → flds[m]? ≠ flds[i]? := by decide +kernel
theorem ne_self_v (y : Str) : (!decide (V.str y = V.str y)) = false := by simp
/-- what repr of a Day, a Length asks -/
structure Sr (P : Program) (w : World) (K : PySem.W.Frag) (mg : Str → Option Value) (base : Heap) (C : Addr) (fR : Addr) (fdR : FuncData) (spR : Sp) : Prop where
  hr : PySem.W.findIn K (.ref C) "__repr__" = some (some (.ref fR))
  rf : PySem.W.isFn K (.ref fR) = true
  okR : FnOk P w K mg base CX0 1 fR fdR ["self"] spR
  bdR : Binds K fdR ["self"] []
theorem ok_law {f : Addr} {fd : FuncData} {fR gR : Addr} {fdR gdR : FuncData} (D : Df K mg "law" ["_law_script"] sLaw f fd) (T : Txt K mg C CL) (cT : Ca P w K mg base 1 "_law_take" ["_law_hand_here", "_law_many"] spTake) (cH : Ca P w K mg base 1 "_law_hand" ["_law_script"] (spHand K)) (cNs : Ca P w K mg base 4 "_law_names" ["_law_hand_here", "_law_many"] spNames) (cEn : Ca P w K mg base 7 "_law_entries" ["_law_hand_here", "_law_names_here", "_law_many"] (spEntries C CL)) (cIe : Ca P w K mg base 6 "is_entry" ["thing"] (spIe K C CL)) (cLi : Ca P w K mg base 3 "_law_is_entry" ["_law_thing"] (spIe K C CL)) (cFo : Ca P w K mg base 1 "field_of" ["entry", "field"] spFo) (cBt : Ca P w K mg base 10 "_law_bent" ["_law_hand_here", "_law_thing", "_law_entry", "_law_deep"] (spBent K C CL 3)) (O : Sr P w K mg base C fR fdR (spReprD C)) (OL : Sr P w K mg base CL gR gdR (spReprL CL)) : Gn P w K mg base 11 f fd ["_law_script"] (spLaw K) := by
  refine gn_body D.fn scLaw (fun vs H Q E h => ?_) (fun cdv A outer s H vs Q E hg hr h => ?_)
  · obtain ⟨a, ns, rfl, hS, hlen, q⟩ := h
    rfl
  · obtain ⟨a, ns, rfl, hS, hlen, q⟩ := h
    refine ⟨_, (pss_cons (ps_set (i := 1) scLaw.nd rfl (.inl rfl) (pe_ca cH hr (by decide) (by rfl) (pa_cons (pv 0) pa_nil)))
      (pss_cons (ps_for PassesOwn.never rfl (pi_range1 (by rfl) T.range (pa_cons (pe_op op_add pe_int (pe_callB (call_min2 (by rfl)) (by rfl) T.min (by decide +kernel) (pa_cons pe_int (pa_cons (pe_callB call_len_seq (by rfl) T.len PySem.boot_len (pa_cons (pv 0) pa_nil)) pa_nil)))) pa_nil)) (pg_name (i := 2) scLaw.nd rfl (.inl rfl)) (pss_cons (ps_set (i := 3) scLaw.nd rfl (.inl rfl) (pe_ca cNs hr (by decide) (by rfl) (pa_cons (pv 1) (pa_cons (pe_op op_add pe_int (pe_ca cT hr (by decide) (by rfl) (pa_cons (pv 1) (pa_cons pe_int pa_nil)))) pa_nil))))
      (pss_one (ps_for PassesOwn.never rfl (pi_tup (pe_ca cEn hr (by decide) (by rfl) (pa_cons (pv 1) (pa_cons (pv 3) (pa_cons pe_int pa_nil))))) (pg_name (i := 4) scLaw.nd rfl (.inl rfl)) (pss_cons (ps_if (pt_cmpR op_notBl (pe_ca cIe hr (by decide) (by rfl) (pa_cons (pv 4) pa_nil)) pe_bl (nomark _)) (pss_one (ps_ret pe_bl)) pss_nil)
      (pss_cons (ps_for PassesOwn.never rfl (pi_enum (by rfl) T.enumerate (pa_cons (pe_lst (pa_cons pe_str (pa_cons pe_str (pa_cons pe_str (pa_cons pe_str (pa_cons pe_str pa_nil)))))) pa_nil)) (pg_tup (by rfl) (pgs_cons (pg_name (i := 5) scLaw.nd rfl (.inl rfl)) (pgs_cons (pg_name (i := 6) scLaw.nd rfl (.inl rfl)) pgs_nil))) (pss_one (ps_if (pt_cmpR op_ne (pe_callB (cr_alt (Az.cr_reprZ hg hr) (cr_alt (cr_reprO O.hr O.rf (hr.mono (by decide)) O.okR O.bdR) (cr_reprO OL.hr OL.rf (hr.mono (by decide)) OL.okR OL.bdR))) (by rfl) T.repr (by decide +kernel) (pa_cons (pe_ca cFo hr (by decide) (by rfl) (pa_cons (pv 4) (pa_cons (pv 6) pa_nil))) pa_nil)) (pe_callB (cr_alt (Az.cr_reprZ hg hr) (cr_alt (cr_reprO O.hr O.rf (hr.mono (by decide)) O.okR O.bdR) (cr_reprO OL.hr OL.rf (hr.mono (by decide)) OL.okR OL.bdR))) (by rfl) T.repr (by decide +kernel) (pa_cons (pe_ix ix_tup (pv 4) (pe_op op_add pe_int (pv 5)) (fun _ _ => rfl)) pa_nil)) (nomark _)) (pss_one (ps_ret pe_bl)) pss_nil)))
      (pss_one (ps_for PassesOwn.never rfl (pi_range1 (by rfl) T.range (pa_cons pe_int pa_nil)) (pg_name (i := 7) scLaw.nd rfl (.inl rfl)) (pss_cons (ps_set (i := 8) scLaw.nd rfl (.inl rfl) (pe_ca cBt hr (by decide) (by rfl) (pa_cons (pv 1) (pa_cons (pv 4) (pa_cons (pv 4) (pa_cons pe_int pa_nil))))))
      (C8.pss_cut (ps_set (i := 8) scLaw.nd rfl (.inl rfl) (pe_ifExp (pt_cmpR op_eq (pe_ca cT hr (by decide) (by rfl) (pa_cons (pv 1) (pa_cons pe_int pa_nil))) pe_int (nomark _)) (pe_ca cBt hr (by decide) (by rfl) (pa_cons (pv 1) (pa_cons (pv 8) (pa_cons (pv 4) (pa_cons pe_int pa_nil))))) (pv 8)))
      (pss_cons (ps_set (i := 9) scLaw.nd rfl (.inl rfl) (pe_ca cIe hr (by decide) (by rfl) (pa_cons (pv 8) pa_nil)))
      (pss_one (ps_if (PW.pt (pw_or (pt_not (pt_val (pe_callB call_isi (by rfl) T.isi (by decide +kernel) (pa_cons (pv 9) (pa_cons (pe_bltn (v := .ty "bool") (by rfl) T.bool (by decide +kernel) rfl) pa_nil))))) (pw_or1 (pt_cmpR op_ne (pv 9) (pe_ca cLi hr (by decide) (by rfl) (pa_cons (pv 8) pa_nil)) (nomark _))))) (pss_one (ps_ret pe_bl)) pss_nil)))))))))))))
      (pss_cons (ps_for PassesOwn.never rfl (pi_list (pe_lst (pa_cons pe_non (pa_cons pe_int (pa_cons pe_bl (pa_cons pe_str (pa_cons (pe_tup pa_nil) (pa_cons (pe_lst pa_nil) (pa_cons pe_dnewK (pa_cons (pe_op Xrp.op_repU (pe_tup (pa_cons pe_non pa_nil)) pe_int) (pa_cons (pe_tup (pa_cons pe_str (pa_cons pe_int pa_nil))) (pa_cons (pe_op Xtu.op_catU (pe_tup (pa_cons pe_str (pa_cons pe_int pa_nil))) (pe_op Xrp.op_repU (pe_tup (pa_cons pe_non pa_nil)) pe_int)) pa_nil)))))))))))) (pg_name (i := 8) scLaw.nd rfl (.inl rfl)) (pss_one (ps_if (pt_cmpR op_notBl (pe_ca cIe hr (by decide) (by rfl) (pa_cons (pv 8) pa_nil)) pe_bl (nomark _)) (pss_one (ps_ret pe_bl)) pss_nil)))
      (pss_one (ps_ret (pe_cmpR op_isBl (pe_ca cIe hr (by decide) (by rfl) (pa_cons (pe_tup (pa_cons pe_str (pa_cons pe_int (pa_cons pe_non (pa_cons pe_non (pa_cons pe_non (pa_cons pe_non (pa_cons pe_non pa_nil)))))))) pa_nil)) pe_bl (nomark _))))))), ?_⟩
    refine ⟨_, rfl, a, ns, rfl, hS, hlen, fun h o H1 hd s1 nh no => ?_⟩
    refine ⟨_, rfl, a, _, rfl, .inl (s1.seq hS), 2, _, rfl, 2, _, rfl, rfl, ?_⟩
    obtain ⟨m, em, m0, m2⟩ : ∃ m : Int, (if ((ns.map V.int).length : Int) < 2 then ((ns.map V.int).length : Int) else 2) = m ∧ 0 ≤ m ∧ m ≤ 2 := ⟨_, rfl, by split <;> omega, by split <;> omega⟩
    rw [em]
    clear em
    refine ⟨_, rfl, by omega, by omega, for_range (lo := 0) (n := (2 + m).toNat) (fun k σ Hi => ∃ c2 c3 c4 c5 c6 c7 c8 c9 : Option V, σ = [some (.ref a), some (.ref h), c2, c3, c4, c5, c6, c7, c8, c9] ∧ Hd h o (3000 * k) Hi) ?_ ?_ ?_⟩
    · exact ⟨_, _, _, _, _, _, _, _, rfl, hd.mono (by omega)⟩
    · rintro k σ Hi hk ⟨c2, c3, c4, c5, c6, c7, c8, c9, rfl, hdi⟩
      have k4 : k < 4 := by omega
      obtain ⟨N, eN, N0⟩ : ∃ N : Int, N = 3000 * (k : Int) ∧ N ≤ 10000 := ⟨_, rfl, by omega⟩
      rw [← eN] at hdi
      refine ⟨_, rfl, _, rfl, h, o, 8, N, rfl, by decide, by decide, hdi, by show N ≤ 1000000; omega, fun u Ha u0 u1 ha ba => ⟨3, u, rfl, rfl, ?_⟩⟩
      refine ⟨h, o, N + 1, (3 + u).toNat, (by rw [Int.toNat_of_nonneg (by omega)] <;> rfl), by omega, by omega, ha, by show N + 1 + 1000 ≤ 1000000; omega, fun L xs Hb eL Lo lx al hb bb => ?_⟩
      refine ⟨_, rfl, _, rfl, h, o, L, N + 1 + 700, xs, rfl, hb, by show N + 1 + 700 + 1000 ≤ 1000000; omega, eL, Lo, (fun z => by rw [z] at lx; simp at lx; omega), by omega, al, fun t es Hc et les ges hc bc => ?_⟩
      refine ⟨t, rfl, ⟨_, SqT.of et⟩, for_tup (K := K) (a := t) (xs := es) (fun j σ Hx => ∃ c4 c5 c6 c7 c8 c9 : Option V, σ = [some (.ref a), some (.ref h), some (.int (0 + (k : Int))), some (.ref L), c4, c5, c6, c7, c8, c9] ∧ Hd h o (N + 1201 + 500 * j) Hx ∧ Tq Hc Hx) ?_ ?_ ?_ ?_⟩
      · exact ⟨_, _, _, _, _, _, rfl, hc.mono (by omega), fun _ _ _ e => e⟩
      · rintro j σ Hx _ ⟨_, _, _, _, _, _, _, _, tx⟩
        exact SqT.of (tx.tp _ _ et)
      · rintro j v σ Hx hx ⟨c4, c5, c6, c7, c8, c9, rfl, hdx, tx⟩
        have j3 : j < 3 := by have := (List.getElem?_eq_some_iff.mp hx).1; omega
        obtain ⟨e, x, i, v2, v3, v4, v5, v6, ds, rfl, ee, f2, f3, f4, f5, f6, dz, ed, od, dl⟩ := ge_all (K := K) T.oD T.oL ((ges _ (List.mem_of_getElem? hx)).tq tx)
        refine ⟨_, rfl, .ref e, .tuple ds, 9, rfl, .tup ee dz, ⟨by omega, od⟩, fun Hy sy => ?_⟩
        rw [ed]
        refine ⟨true, true, rfl, rfl, _, rfl, iteF ?_⟩
        have hy := hdx.same sy
        have ty := tx.trans (tq_same sy)
        have ey := sy _ _ ee
        have g2 : Shw K C CL Hy v2 := shw2 f2
        have g3 : Shw K C CL Hy v3 := shw3 (f3.tq (tq_same sy))
        have g4 : Shw K C CL Hy v4 := shw4 (f4.tq (tq_same sy))
        have g5 : Shw K C CL Hy v5 := shw5 (f5.tq (tq_same sy))
        have g6 : Shw K C CL Hy v6 := shw6 (f6.tq (tq_same sy))
        -- the fields
        refine ⟨(by show 5 ≤ sizeLine; decide), fun FL nFL => ?_⟩
        have sF := same_upd nFL (o := .lst [.str "code", .str "title", .str "players", .str "day", .str "length"])
        have eF : (L2.upd Hy FL (.lst [.str "code", .str "title", .str "players", .str "day", .str "length"])) FL = some (.lst (flds.map V.str)) := upd_same
        generalize L2.upd Hy FL (.lst [.str "code", .str "title", .str "players", .str "day", .str "length"]) = Hf at sF eF ⊢
        refine ⟨FL, flds.map V.str, rfl, SqL.of eF, ?_⟩
        refine for_it (walk_enum (K := K) (a := FL) (xs := flds.map V.str)) (fun i' σ Hz => ∃ c5 c6 : Option V, σ = [some (.ref a), some (.ref h), some (.int (0 + (k : Int))), some (.ref L), some (.ref e), c5, c6, c7, c8, c9] ∧ L2.Same Hf Hz) ⟨_, _, rfl, Same.refl _⟩ (fun i' σ Hz _ z => by obtain ⟨_, _, _, z⟩ := z; exact SqL.of (z _ _ eF)) ?_ ?_
        · rintro i' y σ Hz H' il ⟨c5, c6, rfl, sz⟩ ⟨t', x1, y1, rfl, nt, rfl, ex1, ey1⟩
          replace ex1 : some (V.int (i' : Nat)) = some x1 := ex1
          cases ex1
          replace ey1 : (flds.map V.str)[i']? = some y1 := ey1
          rw [List.getElem?_map] at ey1
          obtain ⟨fk, ek, rfl⟩ := Option.map_eq_some_iff.mp ey1
          have i5 : i' < 5 := (List.getElem?_eq_some_iff.mp ek).1
          have st := same_upd nt (o := .tup [.int (i' : Nat), .str fk])
          refine ⟨t', _, rfl, SqT.of upd_same, rfl, _, _, rfl, _, _, rfl, rfl, ?_⟩
          have syz := (sF.trans sz).trans st
          generalize L2.upd Hz t' (.tup [.int (i' : Nat), .str fk]) = Hn at st syz ⊢
          have en := syz _ _ ey
          obtain ⟨w, ew, gw⟩ : ∃ w, [.str x, .int i, v2, v3, v4, v5, v6][2 + i']? = some w ∧ Shw K C CL Hy w := by
            match i', i5 with
            | 0, _ => exact ⟨v2, rfl, g2⟩
            | 1, _ => exact ⟨v3, rfl, g3⟩
            | 2, _ => exact ⟨v4, rfl, g4⟩
            | 3, _ => exact ⟨v5, rfl, g5⟩
            | 4, _ => exact ⟨v6, rfl, g6⟩
          have at2 : atI [.str x, .int i, v2, v3, v4, v5, v6] (2 + (i' : Int)) = some w := by
            have ee : 2 + (i' : Int) = ((2 + i' : Nat) : Int) := by push_cast; rfl
            rw [ee]
            exact atI_nat ew
          have fm : ∀ m, m < i' → flds[m]? ≠ some fk := fun m hm z => flds_first i' i5 m hm (z.trans ek.symm)
          rcases gw with ⟨d, dd, sh, dp, fit⟩ | ⟨a', y', m', d', rfl, ⟨dx, eo⟩, g⟩ | ⟨a', s', rfl, ⟨dx, eo⟩, l0, l1⟩
          · refine ⟨_, rfl, _, rfl, e, _, fk, i', w, rfl, en, ek, fm, ew, .inl ⟨w, d, rfl, dd.same syz, sh, dp, fit, _, rfl, _, rfl, 2, (i' : Int), rfl, rfl, e, _, 2 + (i' : Int), w, rfl, rfl, SqT.of en, at2, .inl ⟨w, d, rfl, dd.same syz, sh, dp, fit, rfl, _, rfl, ?_⟩⟩⟩
            rw [ne_self_v]
            exact iteF ⟨_, _, rfl, sz.trans st⟩
          · have eo' := syz _ _ eo
            refine ⟨_, rfl, _, rfl, e, _, fk, i', .ref a', rfl, en, ek, fm, ew, .inr (.inl ⟨a', dx, _, rfl, eo', a', y', m', d', rfl, ⟨dx, eo'⟩, g, _, rfl, _, rfl, _, rfl, 2, (i' : Int), rfl, rfl, e, _, 2 + (i' : Int), .ref a', rfl, rfl, SqT.of en, at2, .inr (.inl ⟨a', dx, _, rfl, eo', a', y', m', d', rfl, ⟨dx, eo'⟩, g, _, rfl, rfl, _, rfl, ?_⟩)⟩)⟩
            rw [ne_self_v]
            exact iteF ⟨_, _, rfl, sz.trans st⟩
          · have eo' := syz _ _ eo
            refine ⟨_, rfl, _, rfl, e, _, fk, i', .ref a', rfl, en, ek, fm, ew, .inr (.inr ⟨a', dx, _, rfl, eo', a', s', rfl, ⟨dx, eo'⟩, l0, l1, _, rfl, _, rfl, _, rfl, 2, (i' : Int), rfl, rfl, e, _, 2 + (i' : Int), .ref a', rfl, rfl, SqT.of en, at2, .inr (.inr ⟨a', dx, _, rfl, eo', a', s', rfl, ⟨dx, eo'⟩, l0, l1, _, rfl, rfl, _, rfl, ?_⟩)⟩)⟩
            rw [ne_self_v]
            exact iteF ⟨_, _, rfl, sz.trans st⟩
        rintro σ Hz ⟨c5', c6', rfl, sz⟩
        have syz := sF.trans sz
        have hz := hy.same syz
        have tz := ty.trans (tq_same syz)
        obtain ⟨M, eM, M1⟩ : ∃ M : Int, M = N + 1201 + 500 * (j : Int) ∧ M ≤ 20000 := ⟨_, rfl, by omega⟩
        rw [← eM] at hz
        refine ⟨5, rfl, by decide, by decide, for_range (lo := 0) (n := (5 : Int).toNat) (fun r σ Hw => ∃ c7 c8 c9 : Option V, σ = [some (.ref a), some (.ref h), some (.int (0 + (k : Int))), some (.ref L), some (.ref e), c5', c6', c7, c8, c9] ∧ Hd h o (M + 90 * r) Hw ∧ Tq Hz Hw) ?_ ?_ ?_⟩
        · exact ⟨_, _, _, rfl, hz.mono (by omega), fun _ _ _ e => e⟩
        · rintro r σ Hw hr5 ⟨c7, c8, c9, rfl, hw, tw⟩
          have r5 : r < 5 := hr5
          obtain ⟨R, eR, R1⟩ : ∃ R : Int, R = M + 90 * (r : Int) ∧ R ≤ 30000 := ⟨_, rfl, by omega⟩
          rw [← eR] at hw
          have tall := tz.trans tw
          have ent : ∀ {Hq : Hp} {c : Int}, Hd h o c Hq → Tq Hw Hq → Hq e = some (.tup [.str x, .int i, v2, v3, v4, v5, v6]) ∧ AllV K C CL [h, o] Hq (.ref e :: [.str x, .int i, v2, v3, v4, v5, v6]) := fun {Hq c} hq tq => by
            have eq := (((tq_same sy).trans (tq_same syz)).trans (tw.trans tq)).tp _ _ ee
            have ge := (ges _ (List.mem_of_getElem? hx)).tq ((tall.trans tq).trans hq.tqo)
            obtain ⟨e', x', i', w2, w3, w4, w5, w6, ds', ze, ee', _, _, _, _, _, dz', _, od', dl'⟩ := ge_all (K := K) T.oD T.oL ge
            cases ze
            have := offS_le _ _ ee'
            rw [eq] at this
            cases this
            exact ⟨eq, AllV.cons ⟨.tuple ds', .tup ee' dz', by omega, od'⟩ (th_all dz' od')⟩
          obtain ⟨ew, aw⟩ := ent hw (fun _ _ _ e => e)
          refine ⟨_, rfl, _, rfl, _, rfl, h, o, R, .ref e, e, _, 9, rfl, aw _ List.mem_cons_self, by decide, by decide, ew, by show 7 ≤ 9; decide, aw, hw, by show R + 50 * (((3 : Nat) : Int) + 1) ≤ 1000000; omega, fun v1 Ha t1 ha ba => ?_⟩
          refine ⟨fun σ Hb => ∃ v2' : V, σ = [some (.ref a), some (.ref h), some (.int (0 + (k : Int))), some (.ref L), some (.ref e), c5', c6', some (.int (0 + (r : Int))), some v2', c9] ∧ ThV K C CL 42 (offS [h, o] Hb) v2' ∧ Hd h o (R + 81) Hb ∧ Tq Hw Hb, ?_, ?_⟩
          · have ta := hw.tq ba
            refine ⟨_, rfl, h, o, 3, R + 10 * (((3 : Nat) : Int) + 1), rfl, by decide, by decide, ha, by show R + 10 * (((3 : Nat) : Int) + 1) ≤ 1000000; omega, fun u' Hb w0 w1 hb' bb' => ⟨rfl, _, rfl, ite2 (fun z => ?_) (fun z => ?_)⟩⟩
            · obtain ⟨eb, ab⟩ := ent hb' (ta.trans (ha.tq bb'))
              refine ⟨_, rfl, _, rfl, _, rfl, h, o, R + 10 * (((3 : Nat) : Int) + 1) + 1, v1, e, _, 20, rfl, t1.same' bb'.off, by decide, by decide, eb, by show 7 ≤ 9; decide, ab, hb', by show R + 10 * (((3 : Nat) : Int) + 1) + 1 + 50 * (((3 : Nat) : Int) + 1) ≤ 1000000; omega, fun v2' Hc' t2 hc' bc' => ?_⟩
              exact ⟨v2', rfl, t2, hc'.mono (by omega), (ta.trans (ha.tq bb')).trans (hb'.tq bc')⟩
            · exact ⟨_, rfl, v1, rfl, (t1.same' bb'.off).le (by decide), hb'.mono (by omega), ta.trans (ha.tq bb')⟩
          rintro σ Hb ⟨v2', rfl, ⟨d2, z2, o2⟩, hb', tb⟩
          have dz2 : Dz K Hb v2' d2 := z2.same offS_le
          refine ⟨_, rfl, v2', d2, 42, rfl, dz2, o2, fun H6 s6 => ?_⟩
          have tyb : TyX K H6 (.bl (entD C CL d2)) (.type "bool") := (Th.Dz.bl (K := K) (H := H6) (entD C CL d2)).ty
          have ne1 : (!decide (V.bl (entD C CL d2) = V.bl (entD C CL d2))) = false := by simp
          refine ⟨_, rfl, _, _, _, _, true, rfl, .ty _, tyb, kit_ty (by decide +kernel), _, rfl, iteF ⟨_, rfl, _, rfl, v2', d2, 42, rfl, dz2.same s6, o2, fun H7 s7 => ⟨rfl, _, rfl, ?_⟩⟩⟩
          rw [ne1]
          have s67 := s6.trans s7
          exact iteF ⟨_, _, _, rfl, (hb'.same s67).mono (by omega), tw.trans (tb.trans (tq_same s67))⟩
        · rintro σ Hw ⟨c7', c8', c9', rfl, hw, tw⟩
          refine ⟨_, _, _, _, _, _, rfl, hw.mono ?_, tz.trans tw⟩
          have : (5 : Int).toNat = 5 := rfl
          rw [eM]
          omega
      · rintro σ He ⟨c4, c5, c6, c7, c8, c9, rfl, hde, _⟩
        refine ⟨_, _, _, _, _, _, _, _, rfl, hde.mono ?_⟩
        rw [eN, les]
        omega
    rintro σ He ⟨c2, c3, c4, c5, c6, c7, c8, c9, rfl, hde⟩
    clear hde hd s1 nh no hS
    refine ⟨(by show 0 ≤ sizeLine; decide), fun p1 n1 => ⟨(by show 0 ≤ sizeLine; decide), fun p2 n2 => ?_⟩⟩
    have s1 := same_upd n1 (o := .tup [])
    have e1 : (L2.upd He p1 (.tup [])) p1 = some (.tup []) := upd_same
    generalize L2.upd He p1 (.tup []) = G1 at s1 e1 n2 ⊢
    have s2 := same_upd n2 (o := .lst [])
    have e2 : (L2.upd G1 p2 (.lst [])) p2 = some (.lst []) := upd_same
    generalize L2.upd G1 p2 (.lst []) = G2 at s2 e2 ⊢
    intro p3 n3
    have s3 := same_upd n3 (o := .dK [])
    have e3 : (L2.upd G2 p3 (.dK [])) p3 = some (.dK []) := upd_same
    generalize L2.upd G2 p3 (.dK []) = G3 at s3 e3 ⊢
    refine ⟨(by show 1 ≤ sizeLine; decide), fun p4 n4 => ?_⟩
    have s4 := same_upd n4 (o := .tup [V.non])
    have e4 : (L2.upd G3 p4 (.tup [V.non])) p4 = some (.tup [V.non]) := upd_same
    generalize L2.upd G3 p4 (.tup [V.non]) = G4 at s4 e4 ⊢
    refine ⟨p4, 7, _, rfl, rfl, e4, by simp, by decide, by decide, by decide, fun p5 G5 s5 e5 => ?_⟩
    replace e5 : G5 p5 = some (.tup [V.non, .non, .non, .non, .non, .non, .non]) := e5
    refine ⟨(by show 2 ≤ sizeLine; decide), fun p6 n6 => ?_⟩
    have s6 := same_upd n6 (o := .tup [V.str "ab", .int 0])
    have e6 : (L2.upd G5 p6 (.tup [V.str "ab", .int 0])) p6 = some (.tup [V.str "ab", .int 0]) := upd_same
    generalize L2.upd G5 p6 (.tup [V.str "ab", .int 0]) = G6 at s6 e6 ⊢
    refine ⟨(by show 2 ≤ sizeLine; decide), fun p7 n7 => ?_⟩
    have s7 := same_upd n7 (o := .tup [V.str "ab", .int 0])
    have e7 : (L2.upd G6 p7 (.tup [V.str "ab", .int 0])) p7 = some (.tup [V.str "ab", .int 0]) := upd_same
    generalize L2.upd G6 p7 (.tup [V.str "ab", .int 0]) = G7 at s7 e7 ⊢
    refine ⟨(by show 1 ≤ sizeLine; decide), fun p8 n8 => ?_⟩
    have s8 := same_upd n8 (o := .tup [V.non])
    have e8 : (L2.upd G7 p8 (.tup [V.non])) p8 = some (.tup [V.non]) := upd_same
    generalize L2.upd G7 p8 (.tup [V.non]) = G8 at s8 e8 ⊢
    refine ⟨p8, 6, _, rfl, rfl, e8, by simp, by decide, by decide, by decide, fun p9 G9 s9 e9 => ?_⟩
    replace e9 : G9 p9 = some (.tup [V.non, .non, .non, .non, .non, .non]) := e9
    refine ⟨p7, p9, _, _, rfl, rfl, s9 _ _ (s8 _ _ e7), e9, (by show 2 + 6 ≤ sizeLine; decide), fun pA GA sA eA => ?_⟩
    replace eA : GA pA = some (.tup [V.str "ab", .int 0, .non, .non, .non, .non, .non, .non]) := eA
    refine ⟨(by show 10 ≤ sizeLine; decide), fun L nL => ?_⟩
    have sL := same_upd nL (o := .lst [V.non, .int 0, .bl true, .str "", .ref p1, .ref p2, .ref p3, .ref p5, .ref p6, .ref pA])
    have eL : (L2.upd GA L (.lst [V.non, .int 0, .bl true, .str "", .ref p1, .ref p2, .ref p3, .ref p5, .ref p6, .ref pA])) L = some (.lst [V.non, .int 0, .bl true, .str "", .ref p1, .ref p2, .ref p3, .ref p5, .ref p6, .ref pA]) := upd_same
    generalize L2.upd GA L (.lst [V.non, .int 0, .bl true, .str "", .ref p1, .ref p2, .ref p3, .ref p5, .ref p6, .ref pA]) = GL' at sL eL ⊢
    have f6 := sL _ _ (sA _ _ (s9 _ _ (s8 _ _ (s7 _ _ e6))))
    have s6L := ((((s6.trans s7).trans s8).trans s9).trans sA).trans sL
    have f5 := s6L _ _ e5
    have s4L := (s4.trans s5).trans s6L
    have f3 := s4L _ _ e3
    have f2 := (s3.trans s4L) _ _ e2
    have f1 := ((s2.trans s3).trans s4L) _ _ e1
    have fA := sL _ _ eA
    have all : ∀ v ∈ [V.non, .int 0, .bl true, .str "", .ref p1, .ref p2, .ref p3, .ref p5, .ref p6, .ref pA], ∃ d, Dz K GL' v d ∧ ok [C, CL] 9 d ∧ entD C CL d = false := fun v hv => by
      have okt : ∀ ds : List Th.T, ds.length ≤ 9 → oks [C, CL] 9 ds → ok [C, CL] 9 (.tuple ds) := fun ds a b => ⟨a, b⟩
      have nn : Dz K GL' .non .none := .non
      have ab : (("ab" : Str).length ≤ 2000 ∧ ∀ c ∈ ("ab" : Str).cps.toList, c < 128) := by decide +kernel
      simp only [List.mem_cons, List.not_mem_nil, or_false] at hv
      rcases hv with rfl | rfl | rfl | rfl | rfl | rfl | rfl | rfl | rfl | rfl
      · exact ⟨_, .non, trivial, rfl⟩
      · exact ⟨_, .int 0, trivial, rfl⟩
      · exact ⟨_, .bl true, trivial, rfl⟩
      · exact ⟨_, .str "", ⟨by decide +kernel, by decide +kernel⟩, rfl⟩
      · exact ⟨.tuple [], .tup f1 .nil, okt _ (Nat.le_of_ble_eq_true rfl) trivial, rfl⟩
      · exact ⟨.list [], .lst f2 .nil, ⟨Nat.le_of_ble_eq_true rfl, trivial⟩, rfl⟩
      · exact ⟨.dict, .dct f3, trivial, rfl⟩
      · exact ⟨.tuple [.none, .none, .none, .none, .none, .none, .none], .tup f5 (.cons nn (.cons nn (.cons nn (.cons nn (.cons nn (.cons nn (.cons nn .nil))))))), okt _ (Nat.le_of_ble_eq_true rfl) ⟨trivial, trivial, trivial, trivial, trivial, trivial, trivial, trivial⟩, rfl⟩
      · exact ⟨.tuple [.str "ab", .int 0], .tup f6 (.cons (.str _) (.cons (.int _) .nil)), okt _ (Nat.le_of_ble_eq_true rfl) ⟨ab, trivial, trivial⟩, rfl⟩
      · exact ⟨.tuple [.str "ab", .int 0, .none, .none, .none, .none, .none, .none], .tup fA (.cons (.str _) (.cons (.int _) (.cons nn (.cons nn (.cons nn (.cons nn (.cons nn (.cons nn .nil)))))))), okt _ (Nat.le_of_ble_eq_true rfl) ⟨ab, trivial, trivial, trivial, trivial, trivial, trivial, trivial, trivial⟩, rfl⟩
    refine ⟨L, rfl, ⟨_, SqL.of eL⟩, for_list (K := K) (a := L) (xs := [V.non, .int 0, .bl true, .str "", .ref p1, .ref p2, .ref p3, .ref p5, .ref p6, .ref pA]) (fun i σ Hx => ∃ c8 : Option V, σ = [some (.ref a), some (.ref h), c2, c3, c4, c5, c6, c7, c8, c9] ∧ L2.Same GL' Hx) ⟨_, rfl, Same.refl _⟩ (fun i σ Hx _ z => SqL.of (z.choose_spec.2 _ _ eL)) ?_ ?_⟩
    · rintro i v σ Hx hx ⟨c8', rfl, sx⟩
      obtain ⟨d, dz, od, ed⟩ := all v (List.mem_of_getElem? hx)
      refine ⟨_, rfl, v, d, 9, rfl, dz.same sx, od, fun Hy sy => ?_⟩
      rw [ed]
      exact ⟨false, false, rfl, rfl, _, rfl, iteF ⟨_, rfl, sx.trans sy⟩⟩
    rintro σ Hx ⟨c8', rfl, sx⟩
    refine ⟨(by show 7 ≤ sizeLine; decide), fun p np => ⟨.ref p, .tuple [.str "a", .int 0, .none, .none, .none, .none, .none], 9, rfl, .tup upd_same (.cons (.str _) (.cons (.int _) (.cons .non (.cons .non (.cons .non (.cons .non (.cons .non .nil))))))), ⟨Nat.le_of_ble_eq_true rfl, ⟨by decide +kernel, by decide +kernel⟩, trivial, trivial, trivial, trivial, trivial, trivial, trivial⟩, fun Hy sy => ?_⟩⟩
    have ed : entD C CL (.tuple [.str "a", .int 0, .none, .none, .none, .none, .none]) = true := by
      show (keyD (.tuple [.str "a", .int 0]) && _) = true
      rw [show keyD (.tuple [.str "a", .int 0]) = true by decide +kernel]
      rfl
    rw [ed]
    exact ⟨true, true, rfl, rfl, q _⟩
end
end K20
set_option Elab.async false
set_option linter.all false
set_option maxRecDepth 100000
set_option maxHeartbeats 4000000
set_option pp.maxSteps 400
set_option pp.deepTerms false
namespace K20
open PySem PySem.Spec PyProof.Rows L2
open Xk Th Xtn
theorem kit_self {K : PySem.W.Frag} {C : Addr} : PySem.W.kitOne K (.ref C) (.ref C) = some true := by
  unfold PySem.W.kitOne
  simp
theorem kit_in {K : PySem.W.Frag} {t : Value} {c : Addr} {b : Bool} (ic : PySem.W.isClsIn K c = true) (ty : PySem.W.typeIn K (.ref c) = some (.type "type")) (sb : PySem.W.subIn K t (.ref c) = some b) : PySem.W.kitCls K t (.ref c) = some b := by
  have h : ((PySem.W.clsIn K c).isSome && PySem.W.typeIn K (.ref c) == some (.type "type")) = true := by
    rw [show (PySem.W.clsIn K c).isSome = true from ic, ty]
    rfl
  unfold PySem.W.kitCls
  simp only [h, if_true]
  exact sb
theorem kit_no {K : PySem.W.Frag} {a c : Addr} (ic : PySem.W.isClsIn K c = true) (ty : PySem.W.typeIn K (.ref c) = some (.type "type")) (sb : PySem.W.subIn K (.ref a) (.ref c) = some false) (me : PySem.W.subIn K (.ref a) (.ref a) = some true) :
    PySem.W.kitOne K (.ref a) (.ref c) = some false := by
  have ne : ((Value.ref a == Value.ref c) = true) = False := by
    refine propext ⟨fun z => ?_, False.elim⟩
    have z2 : a = c := Value.ref.inj (beq_iff_eq.mp z)
    rw [← z2, me] at sb
    cases sb
  unfold PySem.W.kitOne
  simp only [ne, if_false]
  exact kit_in ic ty sb
theorem kit_tC {K : PySem.W.Frag} {c : Addr} {t : String} (ic : PySem.W.isClsIn K c = true) (ty : PySem.W.typeIn K (.ref c) = some (.type "type")) (sb : PySem.W.subIn K (.type t) (.ref c) = some false) : PySem.W.kitOne K (.type t) (.ref c) = some false := by
  have q : (Value.type t == Value.ref c) = false := rfl
  unfold PySem.W.kitOne
  rw [q]
  simp only [Bool.false_eq_true, if_false]
  exact kit_in ic ty sb
theorem kit_Ct {K : PySem.W.Frag} {c : Addr} {t : String} (km : PySem.W.kitMeta t = true) (sb : PySem.W.subIn K (.ref c) (.type t) = some false) : PySem.W.kitOne K (.ref c) (.type t) = some false := by
  have q : (Value.ref c == Value.type t) = false := rfl
  unfold PySem.W.kitOne
  rw [q]
  simp only [Bool.false_eq_true, if_false]
  unfold PySem.W.kitCls
  simp only [km, if_true]
  exact sb
theorem isC_mk {K : PySem.W.Frag} {cs : List Addr} {c e : Addr} (hcs : ∀ d ∈ cs, d = c ∨ d = e) (ic : PySem.W.isClsIn K c = true) (ty : PySem.W.typeIn K (.ref c) = some (.type "type")) (st : ∀ t ∈ (["NoneType", "bool", "int", "str", "list", "tuple", "dict"] : List String), PySem.W.subIn K (.type t) (.ref c) = some false)
    (sb : PySem.W.subIn K (.ref e) (.ref c) = some false) (me : PySem.W.subIn K (.ref e) (.ref e) = some true) : Th.IsC K cs c := by
  refine ⟨fun t ht => kit_tC ic ty (st t ht), fun d hd => ?_⟩
  have ne : e ≠ c := fun z => by
    rw [← z, me] at sb
    cases sb
  rcases hcs d hd with rfl | rfl
  · rw [decide_eq_true rfl]
    exact kit_self
  · rw [decide_eq_false ne]
    exact kit_no ic ty sb me
theorem all_mk {l : PySem.W.OpenLaw} {w : World} {K : PySem.W.Frag} {h : Heap} {mg : Str → Option Value} {fa cDay cLength f0 f1 f2 f3 f4 f5 f6 f7 f8 f9 t9 f10 f11 f12 f13 f14 f15 f16 f17 f18 f19 f20 f21 f22 f23 f24 f25 f26 f27 f28 f29 f30 f31 f32 f33 f34 f35 gMONTH_DAYS gFIELDS : Addr}
    {od0 an0 od1 an1 od2 an2 od3 an3 od4 an4 od5 an5 od6 an6 od7 an7 od8 an8 od9 an9 odT9 od10 an10 od11 an11 od12 an12 od13 an13 od14 an14 od15 an15 od16 an16 od17 an17 od18 an18 od19 an19 od20 an20 od21 an21 od22 an22 od23 an23 od24 an24 od25 an25 od26 an26 od27 an27 od28 an28 od29 an29 od30 an30 od31 an31 od32 an32 od33 an33 od34 an34 od35 an35 odgMONTH_DAYS : Option Addr}
    {sl0 sl1 sl2 sl3 sl4 sl5 sl6 sl7 sl8 sl9 slT9 sl10 sl11 sl12 sl13 sl14 sl15 sl16 sl17 sl18 sl19 sl20 sl21 sl22 sl23 sl24 sl25 sl26 sl27 sl28 sl29 sl30 sl31 sl32 sl33 sl34 sl35 slgMONTH_DAYS slgFIELDS : Array (Option Value)}
    {oc0 kV0 dc0 pm0 cd0 ct0 oc1 kV1 dc1 pm1 cd1 ct1 oc2 kV2 dc2 pm2 cd2 ct2 oc3 kV3 dc3 pm3 cd3 ct3 oc4 kV4 dc4 pm4 cd4 ct4 oc5 kV5 dc5 pm5 cd5 ct5 oc6 kV6 dc6 pm6 cd6 ct6 oc7 kV7 dc7 pm7 cd7 ct7 oc8 kV8 dc8 pm8 cd8 ct8 oc9 kV9 dc9 pm9 cd9 ct9 ocT9 oc10 kV10 dc10 pm10 cd10 ct10 oc11 kV11 dc11 pm11 cd11 ct11 oc12 kV12 dc12 pm12 cd12 ct12 oc13 kV13 dc13 pm13 cd13 ct13 oc14 kV14 dc14 pm14 cd14 ct14 oc15 kV15 dc15 pm15 cd15 ct15 oc16 kV16 dc16 pm16 cd16 ct16 oc17 kV17 dc17 pm17 cd17 ct17 oc18 kV18 dc18 pm18 cd18 ct18 oc19 kV19 dc19 pm19 cd19 ct19 oc20 kV20 dc20 pm20 cd20 ct20 oc21 kV21 dc21 pm21 cd21 ct21 oc22 kV22 dc22 pm22 cd22 ct22 oc23 kV23 dc23 pm23 cd23 ct23 oc24 kV24 dc24 pm24 cd24 ct24 oc25 kV25 dc25 pm25 cd25 ct25 oc26 kV26 dc26 pm26 cd26 ct26 oc27 kV27 dc27 pm27 cd27 ct27 oc28 kV28 dc28 pm28 cd28 ct28 oc29 kV29 dc29 pm29 cd29 ct29 oc30 kV30 dc30 pm30 cd30 ct30 oc31 kV31 dc31 pm31 cd31 ct31 oc32 kV32 dc32 pm32 cd32 ct32 oc33 kV33 dc33 pm33 cd33 ct33 oc34 kV34 dc34 pm34 cd34 ct34 oc35 kV35 dc35 pm35 cd35 ct35 : Value}
    {nT9 ngMONTH_DAYS ngFIELDS : Nat}
    {u_KEY_PARTS u_LONGEST_WORD u_LONGEST_CODE u_MOST_PLAYERS u_LAST_YEAR u_MONTHS u_FEBRUARY u_MOST_SECONDS u_SHORTEST_TONGUE u_LONGEST_TONGUE u_LONGEST_TEXT u_SMALL_LETTERS u_TEXT_SIGNS u_CODE_SIGNS w_MONTH_DAYS0 w_MONTH_DAYS1 w_MONTH_DAYS2 w_MONTH_DAYS3 w_MONTH_DAYS4 w_MONTH_DAYS5 w_MONTH_DAYS6 w_MONTH_DAYS7 w_MONTH_DAYS8 w_MONTH_DAYS9 w_MONTH_DAYS10 w_MONTH_DAYS11 w_FIELDS0 w_FIELDS1 w_FIELDS2 w_FIELDS3 w_FIELDS4 : Tok}
    (X : K.In h) (G : h.Ns mainGlobals mg) (hfa : mg "law" = some (.ref fa))
    (a_Day : PySem.W.nsIn K mainGlobals "Day" = some (some (.ref cDay)))
    (a_Length : PySem.W.nsIn K mainGlobals "Length" = some (some (.ref cLength)))
    (a0 : PySem.W.nsIn K mainGlobals "is_whole" = some (some (.ref f0)))
    (l0 : K.lookup f0 = some ⟨oc0, od0, .func (PySem.W.fnOf "is_whole" "is_whole" (defArgs sIsWhole) (defBody sIsWhole) (defScope sIsWhole) .none kV0 dc0 pm0 an0 cd0 ct0), sl0⟩)
    (c0 : PySem.W.codeIn K cd0 "is_whole" = true)
    (k0 : PySem.W.keepIn K (.ref f0) = true)
    (a1 : PySem.W.nsIn K mainGlobals "is_within" = some (some (.ref f1)))
    (l1 : K.lookup f1 = some ⟨oc1, od1, .func (PySem.W.fnOf "is_within" "is_within" (defArgs sIsWithin) (defBody sIsWithin) (defScope sIsWithin) .none kV1 dc1 pm1 an1 cd1 ct1), sl1⟩)
    (c1 : PySem.W.codeIn K cd1 "is_within" = true)
    (k1 : PySem.W.keepIn K (.ref f1) = true)
    (a2 : PySem.W.nsIn K mainGlobals "is_text_of" = some (some (.ref f2)))
    (l2 : K.lookup f2 = some ⟨oc2, od2, .func (PySem.W.fnOf "is_text_of" "is_text_of" (defArgs sIsTextOf) (defBody sIsTextOf) (defScope sIsTextOf) .none kV2 dc2 pm2 an2 cd2 ct2), sl2⟩)
    (c2 : PySem.W.codeIn K cd2 "is_text_of" = true)
    (k2 : PySem.W.keepIn K (.ref f2) = true)
    (a3 : PySem.W.nsIn K mainGlobals "is_small_text" = some (some (.ref f3)))
    (l3 : K.lookup f3 = some ⟨oc3, od3, .func (PySem.W.fnOf "is_small_text" "is_small_text" (defArgs sIsSmallText) (defBody sIsSmallText) (defScope sIsSmallText) .none kV3 dc3 pm3 an3 cd3 ct3), sl3⟩)
    (c3 : PySem.W.codeIn K cd3 "is_small_text" = true)
    (k3 : PySem.W.keepIn K (.ref f3) = true)
    (a4 : PySem.W.nsIn K mainGlobals "is_word" = some (some (.ref f4)))
    (l4 : K.lookup f4 = some ⟨oc4, od4, .func (PySem.W.fnOf "is_word" "is_word" (defArgs sIsWord) (defBody sIsWord) (defScope sIsWord) .none kV4 dc4 pm4 an4 cd4 ct4), sl4⟩)
    (c4 : PySem.W.codeIn K cd4 "is_word" = true)
    (k4 : PySem.W.keepIn K (.ref f4) = true)
    (a5 : PySem.W.nsIn K mainGlobals "are_rising" = some (some (.ref f5)))
    (l5 : K.lookup f5 = some ⟨oc5, od5, .func (PySem.W.fnOf "are_rising" "are_rising" (defArgs sAreRising) (defBody sAreRising) (defScope sAreRising) .none kV5 dc5 pm5 an5 cd5 ct5), sl5⟩)
    (c5 : PySem.W.codeIn K cd5 "are_rising" = true)
    (k5 : PySem.W.keepIn K (.ref f5) = true)
    (a6 : PySem.W.nsIn K mainGlobals "is_leap" = some (some (.ref f6)))
    (l6 : K.lookup f6 = some ⟨oc6, od6, .func (PySem.W.fnOf "is_leap" "is_leap" (defArgs sIsLeap) (defBody sIsLeap) (defScope sIsLeap) .none kV6 dc6 pm6 an6 cd6 ct6), sl6⟩)
    (c6 : PySem.W.codeIn K cd6 "is_leap" = true)
    (k6 : PySem.W.keepIn K (.ref f6) = true)
    (a7 : PySem.W.nsIn K mainGlobals "days_in" = some (some (.ref f7)))
    (l7 : K.lookup f7 = some ⟨oc7, od7, .func (PySem.W.fnOf "days_in" "days_in" (defArgs sDaysIn) (defBody sDaysIn) (defScope sDaysIn) .none kV7 dc7 pm7 an7 cd7 ct7), sl7⟩)
    (c7 : PySem.W.codeIn K cd7 "days_in" = true)
    (k7 : PySem.W.keepIn K (.ref f7) = true)
    (a8 : PySem.W.nsIn K mainGlobals "makes_day" = some (some (.ref f8)))
    (l8 : K.lookup f8 = some ⟨oc8, od8, .func (PySem.W.fnOf "makes_day" "makes_day" (defArgs sMakesDay) (defBody sMakesDay) (defScope sMakesDay) .none kV8 dc8 pm8 an8 cd8 ct8), sl8⟩)
    (c8 : PySem.W.codeIn K cd8 "makes_day" = true)
    (k8 : PySem.W.keepIn K (.ref f8) = true)
    (a9 : PySem.W.findIn K (.ref cDay) "__init__" = some (some (.ref f9)))
    (i9 : PySem.W.isFn K (.ref f9) = true)
    (l9 : K.lookup f9 = some ⟨oc9, od9, .func (PySem.W.fnOf "__init__" "Day.__init__" (defArgs sDayInit) (defBody sDayInit) (defScope sDayInit) (.ref t9) kV9 dc9 pm9 an9 cd9 ct9), sl9⟩)
    (c9 : PySem.W.codeIn K cd9 "Day.__init__" = true)
    (k9 : PySem.W.keepIn K (.ref f9) = true)
    (d9 : K.lookup t9 = some ⟨ocT9, odT9, .seq #[Value.none, Value.none] nT9, slT9⟩)
    (a10 : PySem.W.findIn K (.ref cDay) "__repr__" = some (some (.ref f10)))
    (i10 : PySem.W.isFn K (.ref f10) = true)
    (l10 : K.lookup f10 = some ⟨oc10, od10, .func (PySem.W.fnOf "__repr__" "Day.__repr__" (defArgs sDayRepr) (defBody sDayRepr) (defScope sDayRepr) .none kV10 dc10 pm10 an10 cd10 ct10), sl10⟩)
    (c10 : PySem.W.codeIn K cd10 "Day.__repr__" = true)
    (k10 : PySem.W.keepIn K (.ref f10) = true)
    (a11 : PySem.W.findIn K (.ref cLength) "__init__" = some (some (.ref f11)))
    (i11 : PySem.W.isFn K (.ref f11) = true)
    (l11 : K.lookup f11 = some ⟨oc11, od11, .func (PySem.W.fnOf "__init__" "Length.__init__" (defArgs sLengthInit) (defBody sLengthInit) (defScope sLengthInit) .none kV11 dc11 pm11 an11 cd11 ct11), sl11⟩)
    (c11 : PySem.W.codeIn K cd11 "Length.__init__" = true)
    (k11 : PySem.W.keepIn K (.ref f11) = true)
    (a12 : PySem.W.findIn K (.ref cLength) "__repr__" = some (some (.ref f12)))
    (i12 : PySem.W.isFn K (.ref f12) = true)
    (l12 : K.lookup f12 = some ⟨oc12, od12, .func (PySem.W.fnOf "__repr__" "Length.__repr__" (defArgs sLengthRepr) (defBody sLengthRepr) (defScope sLengthRepr) .none kV12 dc12 pm12 an12 cd12 ct12), sl12⟩)
    (c12 : PySem.W.codeIn K cd12 "Length.__repr__" = true)
    (k12 : PySem.W.keepIn K (.ref f12) = true)
    (a13 : PySem.W.nsIn K mainGlobals "is_tongue" = some (some (.ref f13)))
    (l13 : K.lookup f13 = some ⟨oc13, od13, .func (PySem.W.fnOf "is_tongue" "is_tongue" (defArgs sIsTongue) (defBody sIsTongue) (defScope sIsTongue) .none kV13 dc13 pm13 an13 cd13 ct13), sl13⟩)
    (c13 : PySem.W.codeIn K cd13 "is_tongue" = true)
    (k13 : PySem.W.keepIn K (.ref f13) = true)
    (a14 : PySem.W.nsIn K mainGlobals "is_name_text" = some (some (.ref f14)))
    (l14 : K.lookup f14 = some ⟨oc14, od14, .func (PySem.W.fnOf "is_name_text" "is_name_text" (defArgs sIsNameText) (defBody sIsNameText) (defScope sIsNameText) .none kV14 dc14 pm14 an14 cd14 ct14), sl14⟩)
    (c14 : PySem.W.codeIn K cd14 "is_name_text" = true)
    (k14 : PySem.W.keepIn K (.ref f14) = true)
    (a15 : PySem.W.nsIn K mainGlobals "is_name" = some (some (.ref f15)))
    (l15 : K.lookup f15 = some ⟨oc15, od15, .func (PySem.W.fnOf "is_name" "is_name" (defArgs sIsName) (defBody sIsName) (defScope sIsName) .none kV15 dc15 pm15 an15 cd15 ct15), sl15⟩)
    (c15 : PySem.W.codeIn K cd15 "is_name" = true)
    (k15 : PySem.W.keepIn K (.ref f15) = true)
    (a16 : PySem.W.nsIn K mainGlobals "is_key" = some (some (.ref f16)))
    (l16 : K.lookup f16 = some ⟨oc16, od16, .func (PySem.W.fnOf "is_key" "is_key" (defArgs sIsKey) (defBody sIsKey) (defScope sIsKey) .none kV16 dc16 pm16 an16 cd16 ct16), sl16⟩)
    (c16 : PySem.W.codeIn K cd16 "is_key" = true)
    (k16 : PySem.W.keepIn K (.ref f16) = true)
    (a17 : PySem.W.nsIn K mainGlobals "is_code" = some (some (.ref f17)))
    (l17 : K.lookup f17 = some ⟨oc17, od17, .func (PySem.W.fnOf "is_code" "is_code" (defArgs sIsCode) (defBody sIsCode) (defScope sIsCode) .none kV17 dc17 pm17 an17 cd17 ct17), sl17⟩)
    (c17 : PySem.W.codeIn K cd17 "is_code" = true)
    (k17 : PySem.W.keepIn K (.ref f17) = true)
    (a18 : PySem.W.nsIn K mainGlobals "are_players" = some (some (.ref f18)))
    (l18 : K.lookup f18 = some ⟨oc18, od18, .func (PySem.W.fnOf "are_players" "are_players" (defArgs sArePlayers) (defBody sArePlayers) (defScope sArePlayers) .none kV18 dc18 pm18 an18 cd18 ct18), sl18⟩)
    (c18 : PySem.W.codeIn K cd18 "are_players" = true)
    (k18 : PySem.W.keepIn K (.ref f18) = true)
    (a19 : PySem.W.nsIn K mainGlobals "is_entry" = some (some (.ref f19)))
    (l19 : K.lookup f19 = some ⟨oc19, od19, .func (PySem.W.fnOf "is_entry" "is_entry" (defArgs sIsEntry) (defBody sIsEntry) (defScope sIsEntry) .none kV19 dc19 pm19 an19 cd19 ct19), sl19⟩)
    (c19 : PySem.W.codeIn K cd19 "is_entry" = true)
    (k19 : PySem.W.keepIn K (.ref f19) = true)
    (a20 : PySem.W.nsIn K mainGlobals "field_of" = some (some (.ref f20)))
    (l20 : K.lookup f20 = some ⟨oc20, od20, .func (PySem.W.fnOf "field_of" "field_of" (defArgs sFieldOf) (defBody sFieldOf) (defScope sFieldOf) .none kV20 dc20 pm20 an20 cd20 ct20), sl20⟩)
    (c20 : PySem.W.codeIn K cd20 "field_of" = true)
    (k20 : PySem.W.keepIn K (.ref f20) = true)
    (a21 : PySem.W.nsIn K mainGlobals "_law_hand" = some (some (.ref f21)))
    (l21 : K.lookup f21 = some ⟨oc21, od21, .func (PySem.W.fnOf "_law_hand" "_law_hand" (defArgs sHand) (defBody sHand) (defScope sHand) .none kV21 dc21 pm21 an21 cd21 ct21), sl21⟩)
    (c21 : PySem.W.codeIn K cd21 "_law_hand" = true)
    (k21 : PySem.W.keepIn K (.ref f21) = true)
    (a22 : PySem.W.nsIn K mainGlobals "_law_take" = some (some (.ref f22)))
    (l22 : K.lookup f22 = some ⟨oc22, od22, .func (PySem.W.fnOf "_law_take" "_law_take" (defArgs sTake) (defBody sTake) (defScope sTake) .none kV22 dc22 pm22 an22 cd22 ct22), sl22⟩)
    (c22 : PySem.W.codeIn K cd22 "_law_take" = true)
    (k22 : PySem.W.keepIn K (.ref f22) = true)
    (a23 : PySem.W.nsIn K mainGlobals "_law_pick" = some (some (.ref f23)))
    (l23 : K.lookup f23 = some ⟨oc23, od23, .func (PySem.W.fnOf "_law_pick" "_law_pick" (defArgs sPick) (defBody sPick) (defScope sPick) .none kV23 dc23 pm23 an23 cd23 ct23), sl23⟩)
    (c23 : PySem.W.codeIn K cd23 "_law_pick" = true)
    (k23 : PySem.W.keepIn K (.ref f23) = true)
    (a24 : PySem.W.nsIn K mainGlobals "_law_word" = some (some (.ref f24)))
    (l24 : K.lookup f24 = some ⟨oc24, od24, .func (PySem.W.fnOf "_law_word" "_law_word" (defArgs sWord) (defBody sWord) (defScope sWord) .none kV24 dc24 pm24 an24 cd24 ct24), sl24⟩)
    (c24 : PySem.W.codeIn K cd24 "_law_word" = true)
    (k24 : PySem.W.keepIn K (.ref f24) = true)
    (a25 : PySem.W.nsIn K mainGlobals "_law_text" = some (some (.ref f25)))
    (l25 : K.lookup f25 = some ⟨oc25, od25, .func (PySem.W.fnOf "_law_text" "_law_text" (defArgs sText) (defBody sText) (defScope sText) .none kV25 dc25 pm25 an25 cd25 ct25), sl25⟩)
    (c25 : PySem.W.codeIn K cd25 "_law_text" = true)
    (k25 : PySem.W.keepIn K (.ref f25) = true)
    (a26 : PySem.W.nsIn K mainGlobals "_law_names" = some (some (.ref f26)))
    (l26 : K.lookup f26 = some ⟨oc26, od26, .func (PySem.W.fnOf "_law_names" "_law_names" (defArgs sNames) (defBody sNames) (defScope sNames) .none kV26 dc26 pm26 an26 cd26 ct26), sl26⟩)
    (c26 : PySem.W.codeIn K cd26 "_law_names" = true)
    (k26 : PySem.W.keepIn K (.ref f26) = true)
    (a27 : PySem.W.nsIn K mainGlobals "_law_some" = some (some (.ref f27)))
    (l27 : K.lookup f27 = some ⟨oc27, od27, .func (PySem.W.fnOf "_law_some" "_law_some" (defArgs sSome) (defBody sSome) (defScope sSome) .none kV27 dc27 pm27 an27 cd27 ct27), sl27⟩)
    (c27 : PySem.W.codeIn K cd27 "_law_some" = true)
    (k27 : PySem.W.keepIn K (.ref f27) = true)
    (a28 : PySem.W.nsIn K mainGlobals "_law_code" = some (some (.ref f28)))
    (l28 : K.lookup f28 = some ⟨oc28, od28, .func (PySem.W.fnOf "_law_code" "_law_code" (defArgs sCode) (defBody sCode) (defScope sCode) .none kV28 dc28 pm28 an28 cd28 ct28), sl28⟩)
    (c28 : PySem.W.codeIn K cd28 "_law_code" = true)
    (k28 : PySem.W.keepIn K (.ref f28) = true)
    (a29 : PySem.W.nsIn K mainGlobals "_law_day" = some (some (.ref f29)))
    (l29 : K.lookup f29 = some ⟨oc29, od29, .func (PySem.W.fnOf "_law_day" "_law_day" (defArgs sDay) (defBody sDay) (defScope sDay) .none kV29 dc29 pm29 an29 cd29 ct29), sl29⟩)
    (c29 : PySem.W.codeIn K cd29 "_law_day" = true)
    (k29 : PySem.W.keepIn K (.ref f29) = true)
    (a30 : PySem.W.nsIn K mainGlobals "_law_entries" = some (some (.ref f30)))
    (l30 : K.lookup f30 = some ⟨oc30, od30, .func (PySem.W.fnOf "_law_entries" "_law_entries" (defArgs sEntries) (defBody sEntries) (defScope sEntries) .none kV30 dc30 pm30 an30 cd30 ct30), sl30⟩)
    (c30 : PySem.W.codeIn K cd30 "_law_entries" = true)
    (k30 : PySem.W.keepIn K (.ref f30) = true)
    (a31 : PySem.W.nsIn K mainGlobals "_law_is_name" = some (some (.ref f31)))
    (l31 : K.lookup f31 = some ⟨oc31, od31, .func (PySem.W.fnOf "_law_is_name" "_law_is_name" (defArgs sLawIsName) (defBody sLawIsName) (defScope sLawIsName) .none kV31 dc31 pm31 an31 cd31 ct31), sl31⟩)
    (c31 : PySem.W.codeIn K cd31 "_law_is_name" = true)
    (k31 : PySem.W.keepIn K (.ref f31) = true)
    (a32 : PySem.W.nsIn K mainGlobals "_law_is_entry" = some (some (.ref f32)))
    (l32 : K.lookup f32 = some ⟨oc32, od32, .func (PySem.W.fnOf "_law_is_entry" "_law_is_entry" (defArgs sLawIsEntry) (defBody sLawIsEntry) (defScope sLawIsEntry) .none kV32 dc32 pm32 an32 cd32 ct32), sl32⟩)
    (c32 : PySem.W.codeIn K cd32 "_law_is_entry" = true)
    (k32 : PySem.W.keepIn K (.ref f32) = true)
    (a33 : PySem.W.nsIn K mainGlobals "_law_odd" = some (some (.ref f33)))
    (l33 : K.lookup f33 = some ⟨oc33, od33, .func (PySem.W.fnOf "_law_odd" "_law_odd" (defArgs sOdd) (defBody sOdd) (defScope sOdd) .none kV33 dc33 pm33 an33 cd33 ct33), sl33⟩)
    (c33 : PySem.W.codeIn K cd33 "_law_odd" = true)
    (k33 : PySem.W.keepIn K (.ref f33) = true)
    (a34 : PySem.W.nsIn K mainGlobals "_law_bent" = some (some (.ref f34)))
    (l34 : K.lookup f34 = some ⟨oc34, od34, .func (PySem.W.fnOf "_law_bent" "_law_bent" (defArgs sBent) (defBody sBent) (defScope sBent) .none kV34 dc34 pm34 an34 cd34 ct34), sl34⟩)
    (c34 : PySem.W.codeIn K cd34 "_law_bent" = true)
    (k34 : PySem.W.keepIn K (.ref f34) = true)
    (a35 : PySem.W.nsIn K mainGlobals "law" = some (some (.ref f35)))
    (l35 : K.lookup f35 = some ⟨oc35, od35, .func (PySem.W.fnOf "law" "law" (defArgs sLaw) (defBody sLaw) (defScope sLaw) .none kV35 dc35 pm35 an35 cd35 ct35), sl35⟩)
    (c35 : PySem.W.codeIn K cd35 "law" = true)
    (k35 : PySem.W.keepIn K (.ref f35) = true)
    (g_KEY_PARTS : PySem.W.nsIn K mainGlobals "KEY_PARTS" = some (some (.int 2 u_KEY_PARTS)))
    (g_LONGEST_WORD : PySem.W.nsIn K mainGlobals "LONGEST_WORD" = some (some (.int 8 u_LONGEST_WORD)))
    (g_LONGEST_CODE : PySem.W.nsIn K mainGlobals "LONGEST_CODE" = some (some (.int 12 u_LONGEST_CODE)))
    (g_MOST_PLAYERS : PySem.W.nsIn K mainGlobals "MOST_PLAYERS" = some (some (.int 8 u_MOST_PLAYERS)))
    (g_LAST_YEAR : PySem.W.nsIn K mainGlobals "LAST_YEAR" = some (some (.int 9999 u_LAST_YEAR)))
    (g_MONTHS : PySem.W.nsIn K mainGlobals "MONTHS" = some (some (.int 12 u_MONTHS)))
    (g_FEBRUARY : PySem.W.nsIn K mainGlobals "FEBRUARY" = some (some (.int 2 u_FEBRUARY)))
    (g_MOST_SECONDS : PySem.W.nsIn K mainGlobals "MOST_SECONDS" = some (some (.int 359999 u_MOST_SECONDS)))
    (g_SHORTEST_TONGUE : PySem.W.nsIn K mainGlobals "SHORTEST_TONGUE" = some (some (.int 2 u_SHORTEST_TONGUE)))
    (g_LONGEST_TONGUE : PySem.W.nsIn K mainGlobals "LONGEST_TONGUE" = some (some (.int 3 u_LONGEST_TONGUE)))
    (g_LONGEST_TEXT : PySem.W.nsIn K mainGlobals "LONGEST_TEXT" = some (some (.int 40 u_LONGEST_TEXT)))
    (g_SMALL_LETTERS : PySem.W.nsIn K mainGlobals "SMALL_LETTERS" = some (some (.str "abcdefghijklmnopqrstuvwxyz" u_SMALL_LETTERS)))
    (g_TEXT_SIGNS : PySem.W.nsIn K mainGlobals "TEXT_SIGNS" = some (some (.str "abcdefghijklmnopqrstuvwxyzABCDEFGHIJKLMNOPQRSTUVWXYZ0123456789 '-." u_TEXT_SIGNS)))
    (g_CODE_SIGNS : PySem.W.nsIn K mainGlobals "CODE_SIGNS" = some (some (.str "ABCDEFGHIJKLMNOPQRSTUVWXYZ0123456789" u_CODE_SIGNS)))
    (g_MONTH_DAYS : PySem.W.nsIn K mainGlobals "MONTH_DAYS" = some (some (.ref gMONTH_DAYS)))
    (h_MONTH_DAYS : K.lookup gMONTH_DAYS = some ⟨.type "tuple", odgMONTH_DAYS, .seq #[.int 31 w_MONTH_DAYS0, .int 28 w_MONTH_DAYS1, .int 31 w_MONTH_DAYS2, .int 30 w_MONTH_DAYS3, .int 31 w_MONTH_DAYS4, .int 30 w_MONTH_DAYS5, .int 31 w_MONTH_DAYS6, .int 31 w_MONTH_DAYS7, .int 30 w_MONTH_DAYS8, .int 31 w_MONTH_DAYS9, .int 30 w_MONTH_DAYS10, .int 31 w_MONTH_DAYS11] ngMONTH_DAYS, slgMONTH_DAYS⟩)
    (g_FIELDS : PySem.W.nsIn K mainGlobals "FIELDS" = some (some (.ref gFIELDS)))
    (h_FIELDS : K.lookup gFIELDS = some ⟨.type "tuple", none, .seq #[.str "code" w_FIELDS0, .str "title" w_FIELDS1, .str "players" w_FIELDS2, .str "day" w_FIELDS3, .str "length" w_FIELDS4] ngFIELDS, slgFIELDS⟩)
    (pg : PySem.W.plainGet K cDay Str.empty = true)
    (hd : PySem.W.hasDictIn K cDay = true)
    (po : PySem.W.plainOver K cDay = true)
    (sa : PySem.W.findIn K (.ref cDay) "__setattr__" = some (some (.builtin "object.__setattr__")))
    (mk : PySem.W.makesIn K cDay = true)
    (kc : PySem.W.keepIn K (.ref cDay) = true)
    (ic : PySem.W.isClsIn K cDay = true)
    (ty : PySem.W.typeIn K (.ref cDay) = some (.type "type"))
    (me : PySem.W.subIn K (.ref cDay) (.ref cDay) = some true)
    (ha : PySem.W.findIn K (.ref cDay) "__class__" = some (some (.builtin "object.__class__")))
    (hm : PySem.W.mroIn K cDay (.type "object") = some true)
    (sNoneType : PySem.W.subIn K (.type "NoneType") (.ref cDay) = some false)
    (sbool : PySem.W.subIn K (.type "bool") (.ref cDay) = some false)
    (sint : PySem.W.subIn K (.type "int") (.ref cDay) = some false)
    (sstr : PySem.W.subIn K (.type "str") (.ref cDay) = some false)
    (slist : PySem.W.subIn K (.type "list") (.ref cDay) = some false)
    (stuple : PySem.W.subIn K (.type "tuple") (.ref cDay) = some false)
    (sdict : PySem.W.subIn K (.type "dict") (.ref cDay) = some false)
    (rstr : PySem.W.subIn K (.ref cDay) (.type "str") = some false)
    (rtuple : PySem.W.subIn K (.ref cDay) (.type "tuple") = some false)
    (rint : PySem.W.subIn K (.ref cDay) (.type "int") = some false)
    (rbool : PySem.W.subIn K (.ref cDay) (.type "bool") = some false)
    (pgL : PySem.W.plainGet K cLength Str.empty = true)
    (hdL : PySem.W.hasDictIn K cLength = true)
    (poL : PySem.W.plainOver K cLength = true)
    (saL : PySem.W.findIn K (.ref cLength) "__setattr__" = some (some (.builtin "object.__setattr__")))
    (mkL : PySem.W.makesIn K cLength = true)
    (kcL : PySem.W.keepIn K (.ref cLength) = true)
    (icL : PySem.W.isClsIn K cLength = true)
    (tyL : PySem.W.typeIn K (.ref cLength) = some (.type "type"))
    (meL : PySem.W.subIn K (.ref cLength) (.ref cLength) = some true)
    (haL : PySem.W.findIn K (.ref cLength) "__class__" = some (some (.builtin "object.__class__")))
    (hmL : PySem.W.mroIn K cLength (.type "object") = some true)
    (sNoneTypeL : PySem.W.subIn K (.type "NoneType") (.ref cLength) = some false)
    (sboolL : PySem.W.subIn K (.type "bool") (.ref cLength) = some false)
    (sintL : PySem.W.subIn K (.type "int") (.ref cLength) = some false)
    (sstrL : PySem.W.subIn K (.type "str") (.ref cLength) = some false)
    (slistL : PySem.W.subIn K (.type "list") (.ref cLength) = some false)
    (stupleL : PySem.W.subIn K (.type "tuple") (.ref cLength) = some false)
    (sdictL : PySem.W.subIn K (.type "dict") (.ref cLength) = some false)
    (rstrL : PySem.W.subIn K (.ref cLength) (.type "str") = some false)
    (rtupleL : PySem.W.subIn K (.ref cLength) (.type "tuple") = some false)
    (rintL : PySem.W.subIn K (.ref cLength) (.type "int") = some false)
    (rboolL : PySem.W.subIn K (.ref cLength) (.type "bool") = some false)
    (sDL : PySem.W.subIn K (.ref cDay) (.ref cLength) = some false)
    (sLD : PySem.W.subIn K (.ref cLength) (.ref cDay) = some false)
    (nY : PySem.W.findIn K (.ref cDay) "year" = some none)
    (nMo : PySem.W.findIn K (.ref cDay) "month" = some none)
    (nD : PySem.W.findIn K (.ref cDay) "day" = some none)
    (nS : PySem.W.findIn K (.ref cLength) "seconds" = some none)
    (hn : PySem.W.specialIn K (.builtin "object.__class__") "__get__" = some (some (.builtin "getset_descriptor.__get__")))
    (ht : PySem.W.takesIn K (.builtin "object.__class__") = some true)
    (z_isinstance : PySem.W.nsIn K mainGlobals "isinstance" = some none)
    (z_int : PySem.W.nsIn K mainGlobals "int" = some none)
    (z_bool : PySem.W.nsIn K mainGlobals "bool" = some none)
    (z_str : PySem.W.nsIn K mainGlobals "str" = some none)
    (z_tuple : PySem.W.nsIn K mainGlobals "tuple" = some none)
    (z_list : PySem.W.nsIn K mainGlobals "list" = some none)
    (z_len : PySem.W.nsIn K mainGlobals "len" = some none)
    (z_all : PySem.W.nsIn K mainGlobals "all" = some none)
    (z_range : PySem.W.nsIn K mainGlobals "range" = some none)
    (z_repr : PySem.W.nsIn K mainGlobals "repr" = some none)
    (z_max : PySem.W.nsIn K mainGlobals "max" = some none)
    (z_min : PySem.W.nsIn K mainGlobals "min" = some none)
    (z_sorted : PySem.W.nsIn K mainGlobals "sorted" = some none)
    (z_zip : PySem.W.nsIn K mainGlobals "zip" = some none)
    (z_set : PySem.W.nsIn K mainGlobals "set" = some none)
    (z_enumerate : PySem.W.nsIn K mainGlobals "enumerate" = some none)
    : ∃ fd : FuncData, (∀ (s : Shared) (v : Value), BindsTo s fd ⟨[v], []⟩ [("_law_script", v)]) ∧
      ∀ base : Heap, K.In base → base.Ns mainGlobals mg → base.NoDigits → Gn l.prog w K mg base 11 fa fd ["_law_script"] (spLaw K) := by
  have e := hfa.symm.trans (PySem.W.mg_of X G a35)
  cases e
  have F0 := fun_mk (st := sIsWhole) l0 c0 k0
  have D0 : Df K mg "is_whole" ["thing"] sIsWhole f0 _ := ⟨F0, PySem.W.mg_of X G a0, F0.binds (ps := ["thing"]) fun _ _ _ _ _ _ us hl => match us, hl with | [_], _ => rfl⟩
  have F1 := fun_mk (st := sIsWithin) l1 c1 k1
  have D1 : Df K mg "is_within" ["thing", "least", "most"] sIsWithin f1 _ := ⟨F1, PySem.W.mg_of X G a1, F1.binds (ps := ["thing", "least", "most"]) fun _ _ _ _ _ _ us hl => match us, hl with | [_, _, _], _ => rfl⟩
  have F2 := fun_mk (st := sIsTextOf) l2 c2 k2
  have D2 : Df K mg "is_text_of" ["thing", "signs", "least", "most"] sIsTextOf f2 _ := ⟨F2, PySem.W.mg_of X G a2, F2.binds (ps := ["thing", "signs", "least", "most"]) fun _ _ _ _ _ _ us hl => match us, hl with | [_, _, _, _], _ => rfl⟩
  have F3 := fun_mk (st := sIsSmallText) l3 c3 k3
  have D3 : Df K mg "is_small_text" ["thing", "least", "most"] sIsSmallText f3 _ := ⟨F3, PySem.W.mg_of X G a3, F3.binds (ps := ["thing", "least", "most"]) fun _ _ _ _ _ _ us hl => match us, hl with | [_, _, _], _ => rfl⟩
  have F4 := fun_mk (st := sIsWord) l4 c4 k4
  have D4 : Df K mg "is_word" ["thing"] sIsWord f4 _ := ⟨F4, PySem.W.mg_of X G a4, F4.binds (ps := ["thing"]) fun _ _ _ _ _ _ us hl => match us, hl with | [_], _ => rfl⟩
  have F5 := fun_mk (st := sAreRising) l5 c5 k5
  have D5 : Df K mg "are_rising" ["things"] sAreRising f5 _ := ⟨F5, PySem.W.mg_of X G a5, F5.binds (ps := ["things"]) fun _ _ _ _ _ _ us hl => match us, hl with | [_], _ => rfl⟩
  have F6 := fun_mk (st := sIsLeap) l6 c6 k6
  have D6 : Df K mg "is_leap" ["year"] sIsLeap f6 _ := ⟨F6, PySem.W.mg_of X G a6, F6.binds (ps := ["year"]) fun _ _ _ _ _ _ us hl => match us, hl with | [_], _ => rfl⟩
  have F7 := fun_mk (st := sDaysIn) l7 c7 k7
  have D7 : Df K mg "days_in" ["year", "month"] sDaysIn f7 _ := ⟨F7, PySem.W.mg_of X G a7, F7.binds (ps := ["year", "month"]) fun _ _ _ _ _ _ us hl => match us, hl with | [_, _], _ => rfl⟩
  have F8 := fun_mk (st := sMakesDay) l8 c8 k8
  have D8 : Df K mg "makes_day" ["year", "month", "day"] sMakesDay f8 _ := ⟨F8, PySem.W.mg_of X G a8, F8.binds (ps := ["year", "month", "day"]) fun _ _ _ _ _ _ us hl => match us, hl with | [_, _, _], _ => rfl⟩
  have F9 : FunD K "__init__" "Day.__init__" (defArgs sDayInit) (defBody sDayInit) (defScope sDayInit) [.non, .non] [] f9 _ :=
    ⟨⟨_, _, _, _, _, _, _, _, _, _, rfl, l9, c9, .inr ⟨by simp, t9, _, [Value.none, Value.none], _, rfl, d9, rfl, .cons rfl (.cons rfl .nil)⟩, .inl rfl⟩, k9⟩
  have F10 := fun_mk (st := sDayRepr) l10 c10 k10
  have B10 := F10.binds (ps := ["self"]) fun _ _ _ _ _ _ us hl => match us, hl with | [_], _ => rfl
  have F11 := fun_mk (st := sLengthInit) l11 c11 k11
  have B11 := F11.binds (ps := ["self", "seconds"]) fun _ _ _ _ _ _ us hl => match us, hl with | [_, _], _ => rfl
  have F12 := fun_mk (st := sLengthRepr) l12 c12 k12
  have B12 := F12.binds (ps := ["self"]) fun _ _ _ _ _ _ us hl => match us, hl with | [_], _ => rfl
  have F13 := fun_mk (st := sIsTongue) l13 c13 k13
  have D13 : Df K mg "is_tongue" ["thing"] sIsTongue f13 _ := ⟨F13, PySem.W.mg_of X G a13, F13.binds (ps := ["thing"]) fun _ _ _ _ _ _ us hl => match us, hl with | [_], _ => rfl⟩
  have F14 := fun_mk (st := sIsNameText) l14 c14 k14
  have D14 : Df K mg "is_name_text" ["thing"] sIsNameText f14 _ := ⟨F14, PySem.W.mg_of X G a14, F14.binds (ps := ["thing"]) fun _ _ _ _ _ _ us hl => match us, hl with | [_], _ => rfl⟩
  have F15 := fun_mk (st := sIsName) l15 c15 k15
  have D15 : Df K mg "is_name" ["thing"] sIsName f15 _ := ⟨F15, PySem.W.mg_of X G a15, F15.binds (ps := ["thing"]) fun _ _ _ _ _ _ us hl => match us, hl with | [_], _ => rfl⟩
  have F16 := fun_mk (st := sIsKey) l16 c16 k16
  have D16 : Df K mg "is_key" ["thing"] sIsKey f16 _ := ⟨F16, PySem.W.mg_of X G a16, F16.binds (ps := ["thing"]) fun _ _ _ _ _ _ us hl => match us, hl with | [_], _ => rfl⟩
  have F17 := fun_mk (st := sIsCode) l17 c17 k17
  have D17 : Df K mg "is_code" ["thing"] sIsCode f17 _ := ⟨F17, PySem.W.mg_of X G a17, F17.binds (ps := ["thing"]) fun _ _ _ _ _ _ us hl => match us, hl with | [_], _ => rfl⟩
  have F18 := fun_mk (st := sArePlayers) l18 c18 k18
  have D18 : Df K mg "are_players" ["thing"] sArePlayers f18 _ := ⟨F18, PySem.W.mg_of X G a18, F18.binds (ps := ["thing"]) fun _ _ _ _ _ _ us hl => match us, hl with | [_], _ => rfl⟩
  have F19 := fun_mk (st := sIsEntry) l19 c19 k19
  have D19 : Df K mg "is_entry" ["thing"] sIsEntry f19 _ := ⟨F19, PySem.W.mg_of X G a19, F19.binds (ps := ["thing"]) fun _ _ _ _ _ _ us hl => match us, hl with | [_], _ => rfl⟩
  have F20 := fun_mk (st := sFieldOf) l20 c20 k20
  have D20 : Df K mg "field_of" ["entry", "field"] sFieldOf f20 _ := ⟨F20, PySem.W.mg_of X G a20, F20.binds (ps := ["entry", "field"]) fun _ _ _ _ _ _ us hl => match us, hl with | [_, _], _ => rfl⟩
  have F21 := fun_mk (st := sHand) l21 c21 k21
  have D21 : Df K mg "_law_hand" ["_law_script"] sHand f21 _ := ⟨F21, PySem.W.mg_of X G a21, F21.binds (ps := ["_law_script"]) fun _ _ _ _ _ _ us hl => match us, hl with | [_], _ => rfl⟩
  have F22 := fun_mk (st := sTake) l22 c22 k22
  have D22 : Df K mg "_law_take" ["_law_hand_here", "_law_many"] sTake f22 _ := ⟨F22, PySem.W.mg_of X G a22, F22.binds (ps := ["_law_hand_here", "_law_many"]) fun _ _ _ _ _ _ us hl => match us, hl with | [_, _], _ => rfl⟩
  have F23 := fun_mk (st := sPick) l23 c23 k23
  have D23 : Df K mg "_law_pick" ["_law_hand_here", "_law_some_here"] sPick f23 _ := ⟨F23, PySem.W.mg_of X G a23, F23.binds (ps := ["_law_hand_here", "_law_some_here"]) fun _ _ _ _ _ _ us hl => match us, hl with | [_, _], _ => rfl⟩
  have F24 := fun_mk (st := sWord) l24 c24 k24
  have D24 : Df K mg "_law_word" ["_law_hand_here", "_law_least", "_law_most"] sWord f24 _ := ⟨F24, PySem.W.mg_of X G a24, F24.binds (ps := ["_law_hand_here", "_law_least", "_law_most"]) fun _ _ _ _ _ _ us hl => match us, hl with | [_, _, _], _ => rfl⟩
  have F25 := fun_mk (st := sText) l25 c25 k25
  have D25 : Df K mg "_law_text" ["_law_hand_here", "_law_many"] sText f25 _ := ⟨F25, PySem.W.mg_of X G a25, F25.binds (ps := ["_law_hand_here", "_law_many"]) fun _ _ _ _ _ _ us hl => match us, hl with | [_, _], _ => rfl⟩
  have F26 := fun_mk (st := sNames) l26 c26 k26
  have D26 : Df K mg "_law_names" ["_law_hand_here", "_law_many"] sNames f26 _ := ⟨F26, PySem.W.mg_of X G a26, F26.binds (ps := ["_law_hand_here", "_law_many"]) fun _ _ _ _ _ _ us hl => match us, hl with | [_, _], _ => rfl⟩
  have F27 := fun_mk (st := sSome) l27 c27 k27
  have D27 : Df K mg "_law_some" ["_law_hand_here", "_law_names_here"] sSome f27 _ := ⟨F27, PySem.W.mg_of X G a27, F27.binds (ps := ["_law_hand_here", "_law_names_here"]) fun _ _ _ _ _ _ us hl => match us, hl with | [_, _], _ => rfl⟩
  have F28 := fun_mk (st := sCode) l28 c28 k28
  have D28 : Df K mg "_law_code" ["_law_hand_here"] sCode f28 _ := ⟨F28, PySem.W.mg_of X G a28, F28.binds (ps := ["_law_hand_here"]) fun _ _ _ _ _ _ us hl => match us, hl with | [_], _ => rfl⟩
  have F29 := fun_mk (st := sDay) l29 c29 k29
  have D29 : Df K mg "_law_day" ["_law_hand_here", "_law_year"] sDay f29 _ := ⟨F29, PySem.W.mg_of X G a29, F29.binds (ps := ["_law_hand_here", "_law_year"]) fun _ _ _ _ _ _ us hl => match us, hl with | [_, _], _ => rfl⟩
  have F30 := fun_mk (st := sEntries) l30 c30 k30
  have D30 : Df K mg "_law_entries" ["_law_hand_here", "_law_names_here", "_law_many"] sEntries f30 _ := ⟨F30, PySem.W.mg_of X G a30, F30.binds (ps := ["_law_hand_here", "_law_names_here", "_law_many"]) fun _ _ _ _ _ _ us hl => match us, hl with | [_, _, _], _ => rfl⟩
  have F31 := fun_mk (st := sLawIsName) l31 c31 k31
  have D31 : Df K mg "_law_is_name" ["_law_thing"] sLawIsName f31 _ := ⟨F31, PySem.W.mg_of X G a31, F31.binds (ps := ["_law_thing"]) fun _ _ _ _ _ _ us hl => match us, hl with | [_], _ => rfl⟩
  have F32 := fun_mk (st := sLawIsEntry) l32 c32 k32
  have D32 : Df K mg "_law_is_entry" ["_law_thing"] sLawIsEntry f32 _ := ⟨F32, PySem.W.mg_of X G a32, F32.binds (ps := ["_law_thing"]) fun _ _ _ _ _ _ us hl => match us, hl with | [_], _ => rfl⟩
  have F33 := fun_mk (st := sOdd) l33 c33 k33
  have D33 : Df K mg "_law_odd" ["_law_hand_here", "_law_entry"] sOdd f33 _ := ⟨F33, PySem.W.mg_of X G a33, F33.binds (ps := ["_law_hand_here", "_law_entry"]) fun _ _ _ _ _ _ us hl => match us, hl with | [_, _], _ => rfl⟩
  have F34 := fun_mk (st := sBent) l34 c34 k34
  have D34 : Df K mg "_law_bent" ["_law_hand_here", "_law_thing", "_law_entry", "_law_deep"] sBent f34 _ := ⟨F34, PySem.W.mg_of X G a34, F34.binds (ps := ["_law_hand_here", "_law_thing", "_law_entry", "_law_deep"]) fun _ _ _ _ _ _ us hl => match us, hl with | [_, _, _, _], _ => rfl⟩
  have F35 := fun_mk (st := sLaw) l35 c35 k35
  have D35 : Df K mg "law" ["_law_script"] sLaw fa _ := ⟨F35, PySem.W.mg_of X G a35, F35.binds (ps := ["_law_script"]) fun _ _ _ _ _ _ us hl => match us, hl with | [_], _ => rfl⟩
  have iD : Th.IsC K [cDay, cLength] cDay := isC_mk (e := cLength) (fun d hd => by simpa using hd) ic ty (fun t ht => by
    simp only [List.mem_cons, List.not_mem_nil, or_false] at ht
    rcases ht with rfl | rfl | rfl | rfl | rfl | rfl | rfl
    · exact sNoneType
    · exact sbool
    · exact sint
    · exact sstr
    · exact slist
    · exact stuple
    · exact sdict) sLD meL
  have iL : Th.IsC K [cDay, cLength] cLength := isC_mk (e := cDay) (fun d hd => by simp at hd; exact hd.symm) icL tyL (fun t ht => by
    simp only [List.mem_cons, List.not_mem_nil, or_false] at ht
    rcases ht with rfl | rfl | rfl | rfl | rfl | rfl | rfl
    · exact sNoneTypeL
    · exact sboolL
    · exact sintL
    · exact sstrL
    · exact slistL
    · exact stupleL
    · exact sdictL) sDL me
  have oD : Th.Ow K cDay := ⟨⟨pg, hd, po, sa⟩, ha, hn, ht, hm, kit_Ct (by decide +kernel) rstr, kit_Ct (by decide +kernel) rtuple, kit_Ct (by decide +kernel) rint, kit_Ct (by decide +kernel) rbool⟩
  have oL : Th.Ow K cLength := ⟨⟨pgL, hdL, poL, saL⟩, haL, hn, ht, hmL, kit_Ct (by decide +kernel) rstrL, kit_Ct (by decide +kernel) rtupleL, kit_Ct (by decide +kernel) rintL, kit_Ct (by decide +kernel) rboolL⟩
  have T : Txt K mg cDay cLength := ⟨⟨pg, hd, po, sa⟩,
    nY,
    nMo,
    nD,
    PySem.W.mg_of X G a_Day,
    ⟨pgL, hdL, poL, saL⟩,
    nS,
    PySem.W.mg_of X G a_Length,
    ⟨⟨pg, hd, po, sa⟩, ha, hn, ht, hm, kit_self⟩,
    ⟨⟨pgL, hdL, poL, saL⟩, haL, hn, ht, hmL, kit_self⟩,
    iD,
    iL,
    oD,
    oL,
    ⟨_, PySem.W.mg_of X G g_KEY_PARTS⟩,
    ⟨_, PySem.W.mg_of X G g_LONGEST_WORD⟩,
    ⟨_, PySem.W.mg_of X G g_LONGEST_CODE⟩,
    ⟨_, PySem.W.mg_of X G g_MOST_PLAYERS⟩,
    ⟨_, PySem.W.mg_of X G g_LAST_YEAR⟩,
    ⟨_, PySem.W.mg_of X G g_MONTHS⟩,
    ⟨_, PySem.W.mg_of X G g_FEBRUARY⟩,
    ⟨_, PySem.W.mg_of X G g_MOST_SECONDS⟩,
    ⟨_, PySem.W.mg_of X G g_SHORTEST_TONGUE⟩,
    ⟨_, PySem.W.mg_of X G g_LONGEST_TONGUE⟩,
    ⟨_, PySem.W.mg_of X G g_LONGEST_TEXT⟩,
    ⟨_, PySem.W.mg_of X G g_SMALL_LETTERS⟩,
    ⟨_, PySem.W.mg_of X G g_TEXT_SIGNS⟩,
    ⟨_, PySem.W.mg_of X G g_CODE_SIGNS⟩,
    ⟨gMONTH_DAYS, PySem.W.mg_of X G g_MONTH_DAYS, fun H => .inr ⟨_, _, _, h_MONTH_DAYS, rfl, rfl, (by show 12 ≤ sizeLine; decide), .cons ⟨_, rfl⟩ (.cons ⟨_, rfl⟩ (.cons ⟨_, rfl⟩ (.cons ⟨_, rfl⟩ (.cons ⟨_, rfl⟩ (.cons ⟨_, rfl⟩ (.cons ⟨_, rfl⟩ (.cons ⟨_, rfl⟩ (.cons ⟨_, rfl⟩ (.cons ⟨_, rfl⟩ (.cons ⟨_, rfl⟩ (.cons ⟨_, rfl⟩ (.nil))))))))))))⟩⟩,
    ⟨gFIELDS, PySem.W.mg_of X G g_FIELDS, ⟨_, h_FIELDS, rfl, rfl⟩, fun H => .inr ⟨_, _, _, h_FIELDS, rfl, rfl, (by show 5 ≤ sizeLine; decide), .cons ⟨_, rfl⟩ (.cons ⟨_, rfl⟩ (.cons ⟨_, rfl⟩ (.cons ⟨_, rfl⟩ (.cons ⟨_, rfl⟩ (.nil)))))⟩⟩,
    PySem.W.mg_none_of X G z_isinstance,
    PySem.W.mg_none_of X G z_int,
    PySem.W.mg_none_of X G z_bool,
    PySem.W.mg_none_of X G z_str,
    PySem.W.mg_none_of X G z_tuple,
    PySem.W.mg_none_of X G z_list,
    PySem.W.mg_none_of X G z_len,
    PySem.W.mg_none_of X G z_all,
    PySem.W.mg_none_of X G z_range,
    PySem.W.mg_none_of X G z_repr,
    PySem.W.mg_none_of X G z_max,
    PySem.W.mg_none_of X G z_min,
    PySem.W.mg_none_of X G z_sorted,
    PySem.W.mg_none_of X G z_zip,
    PySem.W.mg_none_of X G z_set,
    PySem.W.mg_none_of X G z_enumerate⟩
  refine ⟨PySem.W.fnOf "law" "law" (defArgs sLaw) (defBody sLaw) (defScope sLaw) .none kV35 dc35 pm35 an35 cd35 ct35, fun s v => .of_eq rfl, fun base kb gb nd => ?g⟩
  case g =>
    have cW := D0.ca (ok_whole (Ex := Unit) (e := ()) (P := l.prog) (w := w) (base := base) D0 T)
    have cI := D1.ca (ok_within D1 cW)
    have cLp := D6.ca (ok_leap (P := l.prog) (w := w) (base := base) D6)
    have cDy := D7.ca (ok_daysIn (Ex := Unit) (e := ()) D7 T cLp)
    have cM := D8.ca (ok_makes (Ex := Unit) (e := ()) D8 T cI cDy)
    have G2 : Dc l.prog w K mg base cDay f9 _ := ⟨⟨mk, a9, i9, kc⟩, ok_init F9 T cM, init_binds F9, init_binds1 F9⟩
    have GL : Lc l.prog w K mg base cLength f11 _ := ⟨⟨mkL, a11, i11, kcL⟩, ok_len F11 T cI, B11⟩
    have O : Sr l.prog w K mg base cDay f10 _ (spReprD cDay) := ⟨a10, i10, ok_reprD F10 T, B10⟩
    have OL : Sr l.prog w K mg base cLength f12 _ (spReprL cLength) := ⟨a12, i12, ok_reprL (Ex := Unit) (e := ()) F12 T, B12⟩
    have cO := D2.ca (ok_of (P := l.prog) (w := w) (base := base) D2 T)
    have cSm := D3.ca (ok_small D3 T cO)
    have cTo := D13.ca (ok_tongue D13 T cSm)
    have cNt := D14.ca (ok_nt D14 T cO)
    have cIs := D15.ca (ok_name D15 T cTo cNt)
    have cWd := D4.ca (ok_wd D4 T cSm)
    have cWh := D0.ca (ok_wh (P := l.prog) (w := w) (base := base) D0 T)
    have cKy := D16.ca (ok_ky D16 T cWd cWh)
    have cCd := D17.ca (ok_cd D17 T cO)
    have cRi := D5.ca (ok_ris (P := l.prog) (w := w) (base := base) D5 T)
    have cPl := D18.ca (ok_pl D18 T cIs cRi)
    have cIe := D19.ca (ok_ie D19 T cKy cCd cIs cPl)
    have cFo := D20.ca (ok_fo (P := l.prog) (w := w) (base := base) D20 T)
    have cH := D21.ca (ok_hand (P := l.prog) (w := w) (base := base) D21 T)
    have cT := D22.ca (ok_take (P := l.prog) (w := w) (base := base) D22)
    have cP := D23.ca (ok_pick D23 T cT)
    have cWo := D24.ca (ok_word D24 T cT cP)
    have cX := D25.ca (ok_text D25 T cT cP)
    have cNs := D26.ca (ok_names D26 T cT cP cWo cX)
    have cSo := D27.ca (ok_some D27 T cT cP)
    have cCo := D28.ca (ok_code D28 T cT cP)
    have cDa := D29.ca (ok_day D29 T cT G2)
    have cEn := D30.ca (ok_entries D30 T cT cP cWo cSo cCo cDa G2 GL)
    have cLn := D31.ca (ok_lname (P := l.prog) (w := w) (base := base) D31 T)
    have cLi := D32.ca (ok_lie D32 T cLn)
    have cOd := D33.ca (ok_odd D33 T cP G2 GL)
    have cBt := D34.ca (ok_bt D34 T cT cOd (fn_bent D34 T cT cOd 3))
    exact ok_law D35 T cT cH cNs cEn cIe cLi cFo cBt O OL
end K20
open PySem PySem.W PyProof.Rows
set_option maxRecDepth 100000 in
set_option maxHeartbeats 0 in
theorem PySem.Challenge.cw_takesworks_k20_entries_of_anything_holds : PySem.Challenge.rw_takesworks_k20_entries_of_anything.Holds := by
  w_on; o_law; k_head; (case hw => w_witness2)
  k_fill
  refine K20.walk_go (l := PySem.Challenge.rw_takesworks_k20_entries_of_anything) (n := 63) (k := 11) (x := "_law_script") (sp := K20.spLaw) rfl (by decide) rfl ⟨rfl, by decide, by decide⟩ (fun w h Y => PySem.W.kIn_of Y) ?F
    (fun _ _ a ns hl hS => ⟨a, ns, rfl, hS, hl, fun _ => rfl⟩)
  case F =>
    intro w mg fa h KX G hmg
    refine' K20.all_mk KX G hmg ?a_Day ?a_Length ?a0 ?l0 ?c0 ?k0 ?a1 ?l1 ?c1 ?k1 ?a2 ?l2 ?c2 ?k2 ?a3 ?l3 ?c3 ?k3 ?a4 ?l4 ?c4 ?k4 ?a5 ?l5 ?c5 ?k5 ?a6 ?l6 ?c6 ?k6 ?a7 ?l7 ?c7 ?k7 ?a8 ?l8 ?c8 ?k8 ?a9 ?i9 ?l9 ?c9 ?k9 ?d9 ?a10 ?i10 ?l10 ?c10 ?k10 ?a11 ?i11 ?l11 ?c11 ?k11 ?a12 ?i12 ?l12 ?c12 ?k12 ?a13 ?l13 ?c13 ?k13 ?a14 ?l14 ?c14 ?k14 ?a15 ?l15 ?c15 ?k15 ?a16 ?l16 ?c16 ?k16 ?a17 ?l17 ?c17 ?k17 ?a18 ?l18 ?c18 ?k18 ?a19 ?l19 ?c19 ?k19 ?a20 ?l20 ?c20 ?k20 ?a21 ?l21 ?c21 ?k21 ?a22 ?l22 ?c22 ?k22 ?a23 ?l23 ?c23 ?k23 ?a24 ?l24 ?c24 ?k24 ?a25 ?l25 ?c25 ?k25 ?a26 ?l26 ?c26 ?k26 ?a27 ?l27 ?c27 ?k27 ?a28 ?l28 ?c28 ?k28 ?a29 ?l29 ?c29 ?k29 ?a30 ?l30 ?c30 ?k30 ?a31 ?l31 ?c31 ?k31 ?a32 ?l32 ?c32 ?k32 ?a33 ?l33 ?c33 ?k33 ?a34 ?l34 ?c34 ?k34 ?a35 ?l35 ?c35 ?k35 ?g_KEY_PARTS ?g_LONGEST_WORD ?g_LONGEST_CODE ?g_MOST_PLAYERS ?g_LAST_YEAR ?g_MONTHS ?g_FEBRUARY ?g_MOST_SECONDS ?g_SHORTEST_TONGUE ?g_LONGEST_TONGUE ?g_LONGEST_TEXT ?g_SMALL_LETTERS ?g_TEXT_SIGNS ?g_CODE_SIGNS ?g_MONTH_DAYS ?h_MONTH_DAYS ?g_FIELDS ?h_FIELDS ?pg ?hd ?po ?sa ?mk ?kc ?ic ?ty ?me ?ha ?hm ?sNoneType ?sbool ?sint ?sstr ?slist ?stuple ?sdict ?rstr ?rtuple ?rint ?rbool ?pgL ?hdL ?poL ?saL ?mkL ?kcL ?icL ?tyL ?meL ?haL ?hmL ?sNoneTypeL ?sboolL ?sintL ?sstrL ?slistL ?stupleL ?sdictL ?rstrL ?rtupleL ?rintL ?rboolL ?sDL ?sLD ?nY ?nMo ?nD ?nS ?hn ?ht ?z_isinstance ?z_int ?z_bool ?z_str ?z_tuple ?z_list ?z_len ?z_all ?z_range ?z_repr ?z_max ?z_min ?z_sorted ?z_zip ?z_set ?z_enumerate
    (case a_Day => k_is)
    (case a_Length => k_is)
    (case a0 => k_is)
    (case l0 => k_is)
    (case c0 => k_is)
    (case k0 => k_is)
    (case a1 => k_is)
    (case l1 => k_is)
    (case c1 => k_is)
    (case k1 => k_is)
    (case a2 => k_is)
    (case l2 => k_is)
    (case c2 => k_is)
    (case k2 => k_is)
    (case a3 => k_is)
    (case l3 => k_is)
    (case c3 => k_is)
    (case k3 => k_is)
    (case a4 => k_is)
    (case l4 => k_is)
    (case c4 => k_is)
    (case k4 => k_is)
    (case a5 => k_is)
    (case l5 => k_is)
    (case c5 => k_is)
    (case k5 => k_is)
    (case a6 => k_is)
    (case l6 => k_is)
    (case c6 => k_is)
    (case k6 => k_is)
    (case a7 => k_is)
    (case l7 => k_is)
    (case c7 => k_is)
    (case k7 => k_is)
    (case a8 => k_is)
    (case l8 => k_is)
    (case c8 => k_is)
    (case k8 => k_is)
    (case a9 => k_is)
    (case i9 => k_is)
    (case l9 => k_is)
    (case c9 => k_is)
    (case k9 => k_is)
    (case d9 => k_is)
    (case a10 => k_is)
    (case i10 => k_is)
    (case l10 => k_is)
    (case c10 => k_is)
    (case k10 => k_is)
    (case a11 => k_is)
    (case i11 => k_is)
    (case l11 => k_is)
    (case c11 => k_is)
    (case k11 => k_is)
    (case a12 => k_is)
    (case i12 => k_is)
    (case l12 => k_is)
    (case c12 => k_is)
    (case k12 => k_is)
    (case a13 => k_is)
    (case l13 => k_is)
    (case c13 => k_is)
    (case k13 => k_is)
    (case a14 => k_is)
    (case l14 => k_is)
    (case c14 => k_is)
    (case k14 => k_is)
    (case a15 => k_is)
    (case l15 => k_is)
    (case c15 => k_is)
    (case k15 => k_is)
    (case a16 => k_is)
    (case l16 => k_is)
    (case c16 => k_is)
    (case k16 => k_is)
    (case a17 => k_is)
    (case l17 => k_is)
    (case c17 => k_is)
    (case k17 => k_is)
    (case a18 => k_is)
    (case l18 => k_is)
    (case c18 => k_is)
    (case k18 => k_is)
    (case a19 => k_is)
    (case l19 => k_is)
    (case c19 => k_is)
    (case k19 => k_is)
    (case a20 => k_is)
    (case l20 => k_is)
    (case c20 => k_is)
    (case k20 => k_is)
    (case a21 => k_is)
    (case l21 => k_is)
    (case c21 => k_is)
    (case k21 => k_is)
    (case a22 => k_is)
    (case l22 => k_is)
    (case c22 => k_is)
    (case k22 => k_is)
    (case a23 => k_is)
    (case l23 => k_is)
    (case c23 => k_is)
    (case k23 => k_is)
    (case a24 => k_is)
    (case l24 => k_is)
    (case c24 => k_is)
    (case k24 => k_is)
    (case a25 => k_is)
    (case l25 => k_is)
    (case c25 => k_is)
    (case k25 => k_is)
    (case a26 => k_is)
    (case l26 => k_is)
    (case c26 => k_is)
    (case k26 => k_is)
    (case a27 => k_is)
    (case l27 => k_is)
    (case c27 => k_is)
    (case k27 => k_is)
    (case a28 => k_is)
    (case l28 => k_is)
    (case c28 => k_is)
    (case k28 => k_is)
    (case a29 => k_is)
    (case l29 => k_is)
    (case c29 => k_is)
    (case k29 => k_is)
    (case a30 => k_is)
    (case l30 => k_is)
    (case c30 => k_is)
    (case k30 => k_is)
    (case a31 => k_is)
    (case l31 => k_is)
    (case c31 => k_is)
    (case k31 => k_is)
    (case a32 => k_is)
    (case l32 => k_is)
    (case c32 => k_is)
    (case k32 => k_is)
    (case a33 => k_is)
    (case l33 => k_is)
    (case c33 => k_is)
    (case k33 => k_is)
    (case a34 => k_is)
    (case l34 => k_is)
    (case c34 => k_is)
    (case k34 => k_is)
    (case a35 => k_is)
    (case l35 => k_is)
    (case c35 => k_is)
    (case k35 => k_is)
    (case g_KEY_PARTS => k_is)
    (case g_LONGEST_WORD => k_is)
    (case g_LONGEST_CODE => k_is)
    (case g_MOST_PLAYERS => k_is)
    (case g_LAST_YEAR => k_is)
    (case g_MONTHS => k_is)
    (case g_FEBRUARY => k_is)
    (case g_MOST_SECONDS => k_is)
    (case g_SHORTEST_TONGUE => k_is)
    (case g_LONGEST_TONGUE => k_is)
    (case g_LONGEST_TEXT => k_is)
    (case g_SMALL_LETTERS => k_is)
    (case g_TEXT_SIGNS => k_is)
    (case g_CODE_SIGNS => k_is)
    (case g_MONTH_DAYS => k_is)
    (case h_MONTH_DAYS => k_is)
    (case g_FIELDS => k_is)
    (case h_FIELDS => k_is)
    (case pg => k_is)
    (case hd => k_is)
    (case po => k_is)
    (case sa => k_is)
    (case mk => k_is)
    (case kc => k_is)
    (case ic => k_is)
    (case ty => k_is)
    (case me => k_is)
    (case ha => k_is)
    (case hm => k_is)
    (case sNoneType => k_is)
    (case sbool => k_is)
    (case sint => k_is)
    (case sstr => k_is)
    (case slist => k_is)
    (case stuple => k_is)
    (case sdict => k_is)
    (case rstr => k_is)
    (case rtuple => k_is)
    (case rint => k_is)
    (case rbool => k_is)
    (case pgL => k_is)
    (case hdL => k_is)
    (case poL => k_is)
    (case saL => k_is)
    (case mkL => k_is)
    (case kcL => k_is)
    (case icL => k_is)
    (case tyL => k_is)
    (case meL => k_is)
    (case haL => k_is)
    (case hmL => k_is)
    (case sNoneTypeL => k_is)
    (case sboolL => k_is)
    (case sintL => k_is)
    (case sstrL => k_is)
    (case slistL => k_is)
    (case stupleL => k_is)
    (case sdictL => k_is)
    (case rstrL => k_is)
    (case rtupleL => k_is)
    (case rintL => k_is)
    (case rboolL => k_is)
    (case sDL => k_is)
    (case sLD => k_is)
    (case nY => k_is)
    (case nMo => k_is)
    (case nD => k_is)
    (case nS => k_is)
    (case hn => k_is)
    (case ht => k_is)
    (case z_isinstance => k_is)
    (case z_int => k_is)
    (case z_bool => k_is)
    (case z_str => k_is)
    (case z_tuple => k_is)
    (case z_list => k_is)
    (case z_len => k_is)
    (case z_all => k_is)
    (case z_range => k_is)
    (case z_repr => k_is)
    (case z_max => k_is)
    (case z_min => k_is)
    (case z_sorted => k_is)
    (case z_zip => k_is)
    (case z_set => k_is)
    (case z_enumerate => k_is)
