import PyProof.Rows.All
import Wide.All
import OpenK.AllK
import Wide.FinOn
import KE.KStateDown
import Lean
import HandS.ForMost
import HandS.Ends
import HandS.Defaults
import HandS.Head0
import HandS.Head1
import HandS.Head2
import HandS.HeadEnd
import HandS.HeadHook1
import HandS.HeadHook2
import HandS.HeadHook3
import HandS.Text
import HandS.StrMore
import PyProof.FitsReplace
import PyProof.StrLawsFirst
import HandS.ForExc
import HandS.Wide
import HandS.Flow
import HandS.IsInst
import HandS.Codes
import HandS.ExcInit
import HandS.ExcField
import HandS.ExcIs
import HandS.CallSlots
import HandS.MakeKw
import HandS.MakeKwOnly
import KE.KExcIs
import KE.KTryMore
import HandS.RaiseMore
import HandS.FStrTup
import PyProof.ReprRoads
import PyProof.StrLawsRepr
import HandS.Dict
import OpenK.KTop
import HandS.TryOnly
import HandS.Call
import KE.KUnpackStar
import HandS.List
import HandS.Deep
import KE.SortData
import HandS.TupSets
import KE.DataCmp
import HandS.OwnEq
import PyProof.NeKinds
import KE.KCallOwn
import HandS.TupAny
import HandS.Style
import HandS.TupLe
import PyProof.StrOps2
import HandS.Base
import PyProof.ReprUnder
import HandS.FStr
import HandS.TupMul
import HandS.Zip
import HandS.Walk
import HandS.IterVal
import HandS.Strs
import KE.DataEq
import HandS.ExcOwn
import PyProof.Rows.StrPartPair
import KE.IntTextText
import KE.IntTextLaws
import PyProof.Rows.StrFirst
import PySem.Challenge.RW_takesworks_k64_rows_of_no_entry
set_option Elab.async false
set_option linter.all false
set_option maxRecDepth 100000
set_option maxHeartbeats 4000000
/-! A law's head by the top's run alone: defs told by names, and any list of truths about what the top has left. -/
namespace Xhd
open PySem PySem.Spec PyProof.Rows L2 He
abbrev Ft := PySem.W.Frag → Bool
abbrev AlZ : Type := Bool × List FnV × List FnW × List (Option (List (Option (Str × Int))))
/-- a table of the top: its name, its keys in order -/
abbrev Tb : Type := Str × List Str
def fnB (K : PySem.W.Frag) (d : FnD) : Bool := (Fa.code d.at_ d.qual).ok K && PySem.W.keepIn K (.ref (fAd K d.at_))
def obsZ (fn : List FnD) (df : List DefD) (ts : List Tb) (ex : List Ft) (K : PySem.W.Frag) : AlZ := ((ex.all fun f => f K) && ((fn.all fun d => fnB K d) && df.all fun d => d.ok K), fn.map fun d => fnObs K d.at_, df.map fun d => fnW K d.at_, ts.map fun t => dicW K (ga K t.1))
def valZ (fn : List FnD) (df : List DefD) (ts : List Tb) (w : World) : AlZ := (true, fn.map FnD.val, df.map DefD.val, ts.map fun t => some (keysIn w.params t.2))
def SaysZ (fn : List FnD) (df : List DefD) (ts : List Tb) (ex : List Ft) (w : World) (K : PySem.W.Frag) : Prop := obsZ fn df ts ex K = valZ fn df ts w
/-- what is looked at: the module's names, the machine's own, what the top has made -/
def asZ (lo cnt : Nat) : List Addr := mainGlobals :: cStatics :: List.range' lo cnt
def obsZG (lo cnt : Nat) (fn : List FnD) (df : List DefD) (ts : List Tb) (ex : List Ft) (g : Addr → Option Obj) : AlZ := obsZ fn df ts ex (frG g (asZ lo cnt))
def hookZ (lo cnt : Nat) (fn : List FnD) (df : List DefD) (ts : List Tb) (ex : List Ft) : PySem.W.Hook where
  α := AlZ
  obs := fun s => obsZG lo cnt fn df ts ex s.heap.get?
  val := fun w => valZ fn df ts w
  says := fun w h => ∃ K : PySem.W.Frag, K.In h ∧ SaysZ fn df ts ex w K
  of := fun _ _ e => ⟨_, frG_in, e⟩
  keeps := fun _ _ _ ⟨K, hK, c⟩ k => ⟨K, PySem.W.Frag.In.keeps hK k, c⟩
theorem obsZG_eq {lo cnt : Nat} {fn : List FnD} {df : List DefD} {ts : List Tb} {ex : List Ft} {g : Addr → Option Obj} {s : Shared} (h : ∀ a, g a = s.heap.get? a) : obsZG lo cnt fn df ts ex g = (hookZ lo cnt fn df ts ex).obs s := by
  have e : g = s.heap.get? := funext h
  rw [e] <;> rfl
section
variable {fn : List FnD} {df : List DefD} {ts : List Tb} {ex : List Ft} {w : World} {K : PySem.W.Frag}
theorem SaysZ.b (c : SaysZ fn df ts ex w K) : (ex.all fun f => f K) = true ∧ (fn.all fun d => fnB K d) = true ∧ (df.all fun d => d.ok K) = true := by
  have h := congrArg (fun z : AlZ => z.1) c
  obtain ⟨h1, h2⟩ := ba (show ((ex.all fun f => f K) && ((fn.all fun d => fnB K d) && df.all fun d => d.ok K)) = true from h)
  obtain ⟨h3, h4⟩ := ba h2
  exact ⟨h1, h3, h4⟩
theorem SaysZ.x (c : SaysZ fn df ts ex w K) (i : Nat) {f : Ft} (h : ex[i]? = some f) : f K = true := List.all_eq_true.mp c.b.1 f (List.mem_of_getElem? h)
theorem SaysZ.f (c : SaysZ fn df ts ex w K) (i : Nat) {x q : Str} {st : Stmt} {p : Str × Option Str} (h : fn[i]? = some ⟨p, x, q, defArgs st, defBody st, defScope st⟩) : ∃ fd, L2.Fun K x q st (fAd K p) fd := by
  obtain ⟨k1, k2⟩ := ba (List.all_eq_true.mp c.b.2.1 _ (List.mem_of_getElem? h))
  have e : fn.map (fun d => fnObs K d.at_) = fn.map FnD.val := congrArg (fun z : AlZ => z.2.1) c
  have e2 : (fn.map fun d => fnObs K d.at_)[i]? = (fn.map FnD.val)[i]? := by rw [e]
  rw [List.getElem?_map, List.getElem?_map, h] at e2
  obtain ⟨oc, od, osl, kV, doc, pm, an, cdv, ct, lk, cc⟩ := fn_ok (Option.some.inj e2) k1
  exact ⟨_, fun_mk lk cc k2⟩
theorem SaysZ.d (c : SaysZ fn df ts ex w K) (i : Nat) {d : DefD} (h : df[i]? = some d) : ∃ fd, FunD K d.name d.qual d.params d.body d.scope (d.dvs K) (d.kws K) (fAd K d.at_) fd := by
  have e : df.map (fun d => fnW K d.at_) = df.map DefD.val := congrArg (fun z : AlZ => z.2.2.1) c
  have e2 : (df.map fun d => fnW K d.at_)[i]? = (df.map DefD.val)[i]? := by rw [e]
  rw [List.getElem?_map, List.getElem?_map, h] at e2
  exact DefD.funD (Option.some.inj e2) (List.all_eq_true.mp c.b.2.2 d (List.mem_of_getElem? h))
theorem SaysZ.t (c : SaysZ fn df ts ex w K) (i : Nat) {t : Tb} (h : ts[i]? = some t) : ∃ es n, KDict K w (ga K t.1) es n := by
  have e : ts.map (fun t => dicW K (ga K t.1)) = ts.map fun t => some (keysIn w.params t.2) := congrArg (fun z : AlZ => z.2.2.2) c
  have e2 : (ts.map fun t => dicW K (ga K t.1))[i]? = (ts.map fun t => some (keysIn w.params t.2))[i]? := by rw [e]
  rw [List.getElem?_map, List.getElem?_map, h] at e2
  exact dicW_ok (Option.some.inj e2)
end
/-- an object of a built-in kind without a dict of its own -/
def ocB (a : Addr) (T : String) (K : PySem.W.Frag) : Bool := match K.lookup a with
  | some o => decide (o.cls = .type T) && o.dict.isNone
  | none => false
theorem ocB_ok {a : Addr} {T : String} {K : PySem.W.Frag} (h : ocB a T K = true) : ∃ o, K.lookup a = some o ∧ o.cls = .type T ∧ o.dict = none := by
  unfold ocB at h
  cases e : K.lookup a with
  | none => rw [e] at h; cases h
  | some o =>
    rw [e] at h
    obtain ⟨h1, h2⟩ := ba h
    exact ⟨o, rfl, of_decide_eq_true h1, Option.isNone_iff_eq_none.mp h2⟩
/-- the value of a table at a key -/
theorem tab_at {K : PySem.W.Frag} {w : World} {a : Addr} {es : Array DictEntry} {n : Nat} (D : KDict K w a es n) {kvs : List (Str × Dv)} (h : valsB K a kvs = true) (i : Nat) {q : Str × Dv} (hq : kvs[i]? = some q) :
    ∃ u, findBy Value.isStrOf es q.1 = some u ∧ RelV (q.2.v K) u := by
  obtain ⟨u, e, r⟩ := valsB_ok h (List.mem_of_getElem? hq)
  refine ⟨u, ?_, r⟩
  unfold PySem.W.nsIn at e
  rw [D.at_] at e
  have fe : (fun e : DictEntry => Value.isStrOf q.1 e.key) = fun e : DictEntry => e.key.isStr q.1 := funext fun e => by cases e.key <;> rfl
  unfold findBy
  rw [fe, ← Array.find?_toList]
  simp only at e
  cases y : es.toList.find? (fun e => e.key.isStr q.1) with
  | some d =>
    rw [y] at e
    have e2 : some (some d.val) = some (some u) := e
    have e3 : d.val = u := Option.some.inj (Option.some.inj e2)
    show some d.val = some u
    rw [e3]
  | none =>
    rw [y] at e
    by_cases z : es.toList.any (fun e => e.refKey) = true
    · have e2 : (if (es.toList.any fun e => e.refKey) = true then (none : Option (Option Value)) else some none) = some (some u) := e
      rw [if_pos z] at e2
      cases e2
    · have e2 : (if (es.toList.any fun e => e.refKey) = true then (none : Option (Option Value)) else some none) = some (some u) := e
      rw [if_neg z] at e2
      cases e2
/-! own exception classes -/
def xclsB (p : List Value → Bool) (newId : String) (C : Addr) (K : PySem.W.Frag) : Bool := match K.lookup C with
  | some ⟨.type "type", _, .cls cd, sl⟩ => (match cd.mro, sl.toList with
    | .ref C' :: bm, [_, _, _, _, some (.builtin n), _] => C' == C && (n == newId && (!cd.hasDel && (cd.hasDict && p bm)))
    | _, _ => false)
  | _ => false
def XCls (p : List Value → Bool) (newId : String) (C : Addr) (K : PySem.W.Frag) : Prop := ∃ nm q N bs bm sn sub ab col dd k0 k1 k2 k3 k5, K.lookup C = some (excClassObj nm q C N bs bm true sn sub ab col dd k0 k1 k2 k3 k5 newId) ∧ p bm = true
theorem xcls_of {p : List Value → Bool} {newId : String} {C : Addr} {K : PySem.W.Frag} (q : xclsB p newId C K = true) : XCls p newId C K := by
  unfold xclsB at q
  split at q
  · rename_i dd cd sl ho
    split at q
    · rename_i C' bm k0 k1 k2 k3 n k5 hm hs
      simp only [Bool.and_eq_true, beq_iff_eq, Bool.not_eq_true'] at q
      obtain ⟨rfl, rfl, hdel, hdct, hp⟩ := q
      obtain ⟨nm, bs, mro, ns, qn, hd, sn, sub, ab, col, del⟩ := cd
      dsimp only at hm hdel hdct
      subst hm hdel hdct
      have hsl : sl = #[k0, k1, k2, k3, some (.builtin n), k5] := by
        obtain ⟨l⟩ := sl
        simp only at hs
        rw [hs]
      subst hsl
      exact ⟨nm, _, ns, bs, bm, sn, sub, ab, col, dd, k0, k1, k2, k3, k5, ho, hp⟩
    · cases q
  · cases q
/-- what a class itself, asked for m, gives -/
def fcB (C : Addr) (m : Str) (id : String) (K : PySem.W.Frag) : Bool := match PySem.W.findCls K (.ref C) (.type "type") m with
  | some (.val (.builtin i)) => decide (i = id)
  | _ => false
theorem fc_of {C : Addr} {m : Str} {id : String} {K : PySem.W.Frag} (q : fcB C m id K = true) : PySem.W.findCls K (.ref C) (.type "type") m = some (.val (.builtin id)) := by
  unfold fcB at q
  split at q
  · rename_i i e
    rw [e, of_decide_eq_true q]
  · cases q
end Xhd
set_option Elab.async false
set_option linter.all false
set_option maxRecDepth 100000
set_option maxHeartbeats 4000000
set_option pp.maxSteps 400
set_option pp.deepTerms false
/-! Texts that are parted at one sign and put together again. -/
namespace Xtx
open PySem PySem.Spec PyProof.Rows L2
open PySem.StrLaws PySem.Builtin PySem.Builtin.Str
/-- one sign -/
abbrev s1 (c : Nat) : Str := ⟨#[c]⟩
theorem occ_all (s : Str) (c limit : Nat) : ∀ (n a : Nat) (st : Array Nat × Nat), st.2 ≤ a → st.1.size + n ≤ limit →
    (forIn (List.range' a n) st (occBody s (s1 c) s.length limit)).run.fst.toList = st.1.toList ++ (List.range' a n).filter (fun i => decide (s.cps.toList[i]? = some c))
  | 0, a, st, _, _ => by
    show st.1.toList = st.1.toList ++ []
    rw [List.append_nil]
  | n + 1, a, st, h1, h2 => by
    rw [List.range'_succ, List.forIn_cons, List.filter_cons]
    unfold occBody
    by_cases e : s.cps.toList[a]? = some c
    · have w := (subAt_one s c a).mpr e
      rw [if_pos ⟨⟨⟨by omega, h1⟩, w.1⟩, w.2⟩, if_pos (decide_eq_true e)]
      have ih := occ_all s c limit n (a + 1) (st.1.push a, a + 1) (Nat.le_refl _) (by rw [Array.size_push]; omega)
      refine (show _ = _ from ih).trans ?_
      rw [Array.toList_push, List.append_assoc]
      rfl
    · have w : ¬ (((st.1.size < limit ∧ st.2 ≤ a) ∧ a + (s1 c).length ≤ s.length) ∧ subAt s (s1 c) a = true) := fun z => e ((subAt_one s c a).mp ⟨z.1.2, z.2⟩)
      rw [if_neg w, if_neg (fun z => e (of_decide_eq_true z))]
      exact occ_all s c limit n (a + 1) (st.1, st.2) (by omega) (by show st.1.size + n ≤ limit; omega)
/-- where a sign stands -/
def cuts (s : Str) (c : Nat) : List Nat := (List.range' 0 s.length).filter fun i => decide (s.cps.toList[i]? = some c)
theorem occ_cuts (s : Str) (c : Nat) : occurrences s (s1 c) 0 s.length (s.length + 1) = cuts s c := by
  rw [occ_eq, occ_all s c (s.length + 1) (s.length + 1 - 0) 0 (#[], 0) (Nat.le_refl _) (by simp)]
  unfold cuts
  rw [show s.length + 1 - 0 = s.length + 1 from rfl, List.range'_concat, List.filter_append]
  have e : s.cps.toList[0 + 1 * s.length]? ≠ some c := fun z => by
    have := (List.getElem?_eq_some_iff.mp z).1
    have l : s.length = s.cps.toList.length := rfl
    omega
  rw [List.filter_cons, if_neg (fun z => e (of_decide_eq_true z))]
  simp
/-- without the sign -/
def Fr (c : Nat) (s : Str) : Prop := c ∉ s.cps.toList
theorem zip_free (s : Str) (c : Nat) : ∀ (cs : List Nat) (a : Nat), cs.Pairwise (· < ·) → (∀ i ∈ cs, a ≤ i) → (∀ k, a ≤ k → s.cps.toList[k]? = some c → k ∈ cs) →
    ∀ p ∈ (a :: cs.map (· + 1)).zip (cs ++ [s.length]), Fr c (strSub s p.1 p.2)
  | [], a, _, _, h3, p, hp => by
    simp only [List.map_nil, List.nil_append, List.zip_cons_cons, List.zip_nil_right, List.mem_singleton] at hp
    rw [hp]
    intro m
    rw [strSub_toList] at m
    obtain ⟨k, e⟩ := List.mem_iff_getElem?.mp (List.mem_of_mem_take m)
    rw [List.getElem?_drop] at e
    cases h3 (a + k) (by omega) e
  | i :: cs, a, h1, h2, h3, p, hp => by
    obtain ⟨p1, p2⟩ := List.pairwise_cons.mp h1
    simp only [List.map_cons, List.cons_append, List.zip_cons_cons] at hp
    rcases List.mem_cons.mp hp with e | m
    · rw [e]
      intro m
      rw [strSub_toList] at m
      obtain ⟨k, e⟩ := List.mem_iff_getElem?.mp m
      rw [List.getElem?_take] at e
      split at e
      · rename_i lt
        rw [List.getElem?_drop] at e
        rcases List.mem_cons.mp (h3 (a + k) (by omega) e) with z | z
        · omega
        · have := p1 _ z
          omega
      · cases e
    · refine zip_free s c cs (i + 1) p2 (fun j hj => p1 j hj) (fun k hk e => ?_) p m
      have ai := h2 i List.mem_cons_self
      rcases List.mem_cons.mp (h3 k (by omega) e) with z | z
      · omega
      · exact z
theorem parts_free (s : Str) (c : Nat) : ∀ t ∈ partsBetween s (cuts s c) 1, Fr c t := fun t ht => by
  unfold partsBetween at ht
  obtain ⟨p, hp, rfl⟩ := List.mem_map.mp ht
  refine zip_free s c (cuts s c) 0 ?_ (fun i _ => Nat.zero_le i) (fun k _ e => ?_) p hp
  · exact List.Pairwise.filter _ (List.pairwise_lt_range')
  · have hk := (List.getElem?_eq_some_iff.mp e).1
    refine List.mem_filter.mpr ⟨?_, decide_eq_true e⟩
    rw [List.mem_range'_1]
    exact ⟨Nat.zero_le _, by show k < 0 + s.length; have l : s.length = s.cps.toList.length := rfl; omega⟩
theorem cut_one {c : Nat} : ∀ {p q r t : List Nat}, c ∉ p → c ∉ q → p ++ c :: r = q ++ c :: t → p = q ∧ r = t
  | [], [], _, _, _, _, e => ⟨rfl, (List.cons.inj e).2⟩
  | [], b :: q, _, _, _, h2, e => absurd (by rw [(List.cons.inj e).1]; exact List.mem_cons_self) h2
  | a :: p, [], _, _, h1, _, e => absurd (by rw [← (List.cons.inj e).1]; exact List.mem_cons_self) h1
  | a :: p, b :: q, _, _, h1, h2, e => by
    obtain ⟨e1, e2⟩ := List.cons.inj e
    obtain ⟨e3, e4⟩ := cut_one (fun z => h1 (List.mem_cons_of_mem _ z)) (fun z => h2 (List.mem_cons_of_mem _ z)) e2
    exact ⟨by rw [e1, e3], e4⟩
theorem str_eq {x y : Str} (h : x.cps.toList = y.cps.toList) : x = y := by
  cases x; cases y
  exact congrArg Str.mk (Array.toList_inj.mp h)
theorem join_one (c : Nat) (x y : Str) (r : List Str) : (Str.join (s1 c) (x :: y :: r)).cps.toList = x.cps.toList ++ c :: (Str.join (s1 c) (y :: r)).cps.toList := by
  show (x ++ s1 c ++ Str.join (s1 c) (y :: r)).cps.toList = _
  rw [Str.cps_append, Array.toList_append, Str.cps_append, Array.toList_append, List.append_assoc]
  rfl
/-- rows without the sign are told by their text -/
theorem join_inj {c : Nat} : ∀ {ps qs : List Str}, ps ≠ [] → qs ≠ [] → (∀ p ∈ ps, Fr c p) → (∀ q ∈ qs, Fr c q) → Str.join (s1 c) ps = Str.join (s1 c) qs → ps = qs
  | [], _, h, _, _, _, _ => absurd rfl h
  | _ :: _, [], _, h, _, _, _ => absurd rfl h
  | [p], [q], _, _, _, _, e => by
    have e2 : p = q := e
    rw [e2]
  | [p], q :: q2 :: qs, _, _, hp, hq, e => by
    have w := congrArg (fun s : Str => s.cps.toList) e
    rw [join_one] at w
    refine absurd ?_ (hp p List.mem_cons_self)
    show c ∈ p.cps.toList
    have w2 : p.cps.toList = q.cps.toList ++ c :: (Str.join (s1 c) (q2 :: qs)).cps.toList := w
    rw [w2]
    exact List.mem_append_right _ List.mem_cons_self
  | p :: p2 :: ps, [q], _, _, hp, hq, e => by
    have w := congrArg (fun s : Str => s.cps.toList) e
    rw [join_one] at w
    refine absurd ?_ (hq q List.mem_cons_self)
    show c ∈ q.cps.toList
    have w2 : p.cps.toList ++ c :: (Str.join (s1 c) (p2 :: ps)).cps.toList = q.cps.toList := w
    rw [← w2]
    exact List.mem_append_right _ List.mem_cons_self
  | p :: p2 :: ps, q :: q2 :: qs, _, _, hp, hq, e => by
    have w := congrArg (fun s : Str => s.cps.toList) e
    rw [join_one, join_one] at w
    obtain ⟨e1, e2⟩ := cut_one (hp p List.mem_cons_self) (hq q List.mem_cons_self) w
    have ih := join_inj (List.cons_ne_nil p2 ps) (List.cons_ne_nil q2 qs) (fun z hz => hp z (List.mem_cons_of_mem _ hz)) (fun z hz => hq z (List.mem_cons_of_mem _ hz)) (str_eq e2)
    rw [str_eq e1, ih]
theorem kind1 {c : Nat} (hc : c < 256) : Builtin.Str.strKind (s1 c) = 1 := by
  unfold Builtin.Str.strKind
  rw [if_pos]
  simp [hc]
theorem kind_le (x : Str) : 1 ≤ Builtin.Str.strKind x := by
  unfold Builtin.Str.strKind
  split
  · exact Nat.le_refl _
  · split <;> decide
theorem join_ne {c : Nat} {a b : Str} {r : List Str} : 1 ≤ (Str.join (s1 c) (a :: b :: r)).length := by
  have w := congrArg List.length (join_one c a b r)
  rw [List.length_append, List.length_cons] at w
  show 1 ≤ (Str.join (s1 c) (a :: b :: r)).cps.toList.length
  omega
/-- text.split(sign) of rows put together -/
theorem split_join {c : Nat} (hc : c < 256) {ls : List Str} (ne : ls ≠ []) (fr : ∀ t ∈ ls, Fr c t) : Txt.split (Str.join (s1 c) ls) (s1 c) = ls := by
  obtain ⟨x, ex⟩ : ∃ x, Str.join (s1 c) ls = x := ⟨_, rfl⟩
  rw [ex]
  have one : ls.length = 1 ∨ 1 ≤ x.length := by
    match ls, ne, ex with
    | [a], _, _ => exact .inl rfl
    | a :: b :: r, _, ex => exact .inr (by rw [← ex]; exact join_ne)
  have ck : cuts x c = [] → [x] = ls := fun e => by
    have fx : Fr c x := fun m => by
      obtain ⟨k, hk⟩ := List.mem_iff_getElem?.mp m
      have hl := (List.getElem?_eq_some_iff.mp hk).1
      have : k ∈ cuts x c := List.mem_filter.mpr ⟨by rw [List.mem_range'_1]; exact ⟨Nat.zero_le _, by show k < 0 + x.length; have l : x.length = x.cps.toList.length := rfl; omega⟩, decide_eq_true hk⟩
      rw [e] at this
      cases this
    exact join_inj (List.cons_ne_nil _ _) ne (fun z hz => by rw [List.mem_singleton.mp hz]; exact fx) fr ex.symm
  unfold Txt.split
  by_cases c1 : (decide (x.length < (s1 c).length) || decide (Builtin.Str.strKind x < Builtin.Str.strKind (s1 c))) = true
  · rw [if_pos c1]
    refine ck ?_
    rw [kind1 hc, Bool.or_eq_true, decide_eq_true_eq, decide_eq_true_eq] at c1
    have k1 := kind_le x
    rcases c1 with z | z
    · have z2 : x.length < 1 := z
      unfold cuts
      rw [show x.length = 0 by omega]
      rfl
    · omega
  · rw [if_neg c1, occ_cuts]
    by_cases c2 : (cuts x c).isEmpty = true
    · rw [if_pos c2]
      exact ck (List.isEmpty_iff.mp c2)
    · rw [if_neg c2]
      show partsBetween x (cuts x c) 1 = ls
      have g := glued_between_self x (s1 c) (x.length + 1)
      rw [occ_cuts, glued_eq_join] at g
      refine join_inj (c := c) ?_ ne (parts_free x c) fr (g.trans ex.symm)
      unfold partsBetween
      intro z
      have w := congrArg List.length z
      simp at w
/-! strip, lstrip, rstrip -/
theorem drop_while (p : Nat → Bool) : ∀ l : List Nat, l.drop (l.takeWhile p).length = l.dropWhile p
  | [] => rfl
  | a :: r => by
    rw [List.takeWhile_cons, List.dropWhile_cons]
    split
    · rw [List.length_cons, List.drop_succ_cons, drop_while p r]
    · rfl
theorem take_while (p : Nat → Bool) (l : List Nat) : l.take (l.length - (l.reverse.takeWhile p).length) = (l.reverse.dropWhile p).reverse := by
  rw [← drop_while p l.reverse, List.reverse_drop, List.reverse_reverse, List.length_reverse]
theorem while_le (p : Nat → Bool) : ∀ l : List Nat, (l.takeWhile p).length ≤ l.length
  | [] => Nat.le_refl _
  | a :: r => by
    rw [List.takeWhile_cons]
    split
    · have := while_le p r
      simp only [List.length_cons]
      omega
    · exact Nat.zero_le _
theorem strip_list (goes : Nat → Bool) (l r : Bool) (x : Str) : (Txt.stripBy goes l r x).cps.toList =
    (if r = true then (((if l = true then x.cps.toList.dropWhile goes else x.cps.toList).reverse.dropWhile goes).reverse) else (if l = true then x.cps.toList.dropWhile goes else x.cps.toList)) := by
  have lx : x.length = x.cps.toList.length := rfl
  have e1 : x.cps.toList.drop (stripLo goes l x) = (if l = true then x.cps.toList.dropWhile goes else x.cps.toList) := by
    unfold stripLo
    cases l with
    | true => rw [if_pos rfl, if_pos rfl]; exact drop_while goes _
    | false => rw [if_neg Bool.false_ne_true, if_neg Bool.false_ne_true]; rfl
  have llo : stripLo goes l x ≤ x.cps.toList.length := by
    unfold stripLo
    cases l with
    | true => rw [if_pos rfl]; exact while_le goes _
    | false => rw [if_neg Bool.false_ne_true]; exact Nat.zero_le _
  have e2 : (strSub x (stripLo goes l x) (stripHi goes r x (stripLo goes l x))).cps.toList = (if r = true then (((if l = true then x.cps.toList.dropWhile goes else x.cps.toList).reverse.dropWhile goes).reverse) else (if l = true then x.cps.toList.dropWhile goes else x.cps.toList)) := by
    rw [strSub_toList, ← e1]
    have ly : (x.cps.toList.drop (stripLo goes l x)).length = x.cps.toList.length - stripLo goes l x := List.length_drop
    unfold stripHi
    cases r with
    | true =>
      rw [if_pos rfl, if_pos rfl, ← take_while goes, ly, lx]
      congr 1
      omega
    | false =>
      rw [if_neg Bool.false_ne_true, if_neg Bool.false_ne_true, lx]
      exact List.take_of_length_le (by rw [ly]; exact Nat.le_refl _)
  unfold Txt.stripBy
  split
  · rename_i h
    unfold stripSame at h
    rw [Bool.and_eq_true, beq_iff_eq, beq_iff_eq] at h
    rw [← e2, h.1] at *
    rw [h.2, strSub_toList, List.drop_zero, Nat.sub_zero, lx, List.take_length]
  · exact e2
def bl (c : Nat) : Bool := (" " : Str).cps.contains c
theorem bl_iff (c : Nat) : bl c = decide (c = 32) := by
  unfold bl
  rw [show (" " : Str).cps = #[32] by decide +kernel, Bool.eq_iff_iff, decide_eq_true_iff]
  simp
theorem rs_list (x : Str) : (Txt.rstripChars x " ").cps.toList = (x.cps.toList.reverse.dropWhile bl).reverse := by
  unfold Txt.rstripChars
  rw [strip_list]
  rfl
theorem ls_list (x : Str) : (Txt.lstripChars x " ").cps.toList = x.cps.toList.dropWhile bl := by
  unfold Txt.lstripChars
  rw [strip_list]
  rfl
theorem st_list (x : Str) : (Txt.stripChars x " ").cps.toList = ((x.cps.toList.dropWhile bl).reverse.dropWhile bl).reverse := by
  unfold Txt.stripChars
  rw [strip_list]
  rfl
/-- blanks ahead are taken off -/
theorem ls_blanks (n : Nat) {y : Str} (h : y.cps.toList.head? ≠ some 32) : (Txt.lstripChars ⟨(List.replicate n 32 ++ y.cps.toList).toArray⟩ " ") = y := by
  refine str_eq ?_
  rw [ls_list]
  show (List.replicate n 32 ++ y.cps.toList).dropWhile bl = y.cps.toList
  induction n with
  | zero =>
    rw [List.replicate_zero, List.nil_append]
    cases e : y.cps.toList with
    | nil => rfl
    | cons a r =>
      rw [e] at h
      have ha : a ≠ 32 := fun z => h (by rw [z]; rfl)
      rw [List.dropWhile_cons, bl_iff, decide_eq_false ha]
      rfl
  | succ n ih =>
    rw [List.replicate_succ, List.cons_append, List.dropWhile_cons, bl_iff, decide_eq_true rfl]
    exact ih
end Xtx
set_option Elab.async false
set_option linter.all false
set_option maxRecDepth 100000
set_option maxHeartbeats 4000000
set_option pp.maxSteps 400
set_option pp.deepTerms false
/-! A caught exception that is kept: tracked as an object of its own, with its class and its dict. -/
namespace Xk
open PySem PySem.Spec PyProof.Rows L2
/-- at a: an exception of the class cls, its dict at d (if it has one) -/
def ExK (cls : Value) (d : Option Addr) (a : Addr) : HO := .ext fun h => ∃ oe : Obj, h.get? a = some oe ∧ Zc cls d oe ∧ ∃ vs, oe.data = .fields vs
theorem exK_ok {P : Program} {w : World} {H : Hp} {h : Heap} {a : Addr} {cls : Value} {d : Option Addr} {oe : Obj} {vs : Array Value}
    (e : h.get? a = some oe) (z : Zc cls d oe) (hd : oe.data = .fields vs) : ObjOk P w H h a (ExK cls d a) :=
  ⟨⟨oe, e, z, vs, hd⟩, ⟨oe, e⟩, fun _ _ y k => by
    obtain ⟨o, q, r⟩ := y
    exact ⟨o, k o q, r⟩⟩
theorem exK_at {P : Program} {w : World} {H : Hp} {h : Heap} {a : Addr} {cls : Value} {d : Option Addr} (hok : HOk P w H h) (e : H a = some (ExK cls d a)) :
    ∃ oe : Obj, h.get? a = some oe ∧ Zc cls d oe ∧ ∃ vs, oe.data = .fields vs := by
  have z : ObjOk P w H h a (.ext fun h => ∃ oe : Obj, h.get? a = some oe ∧ Zc cls d oe ∧ ∃ vs, oe.data = .fields vs) := hok a _ e
  exact z.1
section
variable {X : Cx} {pins : List (Addr × Obj)} {σ : L2.St} {H : Hp} {s : Shared}
/-- an object that came during the call, untracked as yet, is tracked from here on -/
theorem track {a : Addr} {o : HO} (I : Inv X pins σ H s) (h0 : X.s_0.heap.get? a = none) (na : H a = none) (nL : a ≠ X.env.locals)
    (nC : ∀ x c, X.env.cells.lookup x = some c → c ≠ a) (nP : ∀ p ∈ X.pn ++ pins, p.1 ≠ a) (new : ObjOk X.prog X.w (upd H a o) s.heap a o) : Inv X pins σ (upd H a o) s := by
  have n0 : ∀ {b : Addr} {u : Obj}, X.s_0.heap.get? b = some u → b ≠ a := fun {b u} e z => by
    rw [z, h0] at e
    cases e
  refine ⟨I.ok, I.os, I.bare, ⟨I.base.keep, I.base.slot, fun b u e n hx => ?_, I.base.there, fun b xs e => ?_, fun b u v e => ?_, fun b ps e => ?_⟩, I.loc, I.cell, ?_, fun x c e => ?_, fun p hp => ?_, fun b u e => ?_, I.len⟩
  · rw [upd_ne (n0 e)]
    exact I.base.free b u e n hx
  · have q := I.base.tups b xs e
    rw [upd_ne (ne_of_none q na)]
    exact q
  · have q := I.base.frzs b u v e
    rw [upd_ne (ne_of_none q na)]
    exact q
  · obtain ⟨m, q⟩ := I.base.tbls b ps e
    exact ⟨m, by rw [upd_ne (ne_of_none q na)]; exact q⟩
  · rw [upd_ne (Ne.symm nL)]
    exact I.free
  · rw [upd_ne (nC x c e)]
    exact I.freeC x c e
  · obtain ⟨e1, e2, e3⟩ := I.pin p hp
    exact ⟨e1, by rw [upd_ne (nP p hp)]; exact e2, e3⟩
  · by_cases hb : b = a
    · subst hb
      rw [upd_same] at e
      cases e
      exact new
    · rw [upd_ne hb] at e
      refine (I.hok b u e).stay (fun _ _ _ q => q) (fun c q => ?_) fun c xs q => ?_
      · rw [upd_ne (ne_of_none q na)]
        exact q
      · rw [upd_ne (ne_of_none q na)]
        exact q
end
theorem flying_kept {B h h' : Heap} {l : List Env} {a : Addr} {Z : Obj → Prop} (f : HandSPX.FlyingZ B l a Z h) (k : ∀ b o, h.get? b = some o → h'.get? b = some o) : HandSPX.FlyingZ B l a Z h' := by
  obtain ⟨f1, f2, f3, oe, vs, T, oT, ts, t1, t2, t3, t4, t5, t6, t7, t8, t9⟩ := f
  exact ⟨fun b o e => k b o (f1 b o e), f2, f3.of_keeps fun b o e _ => ⟨o, k b o e, rfl⟩, oe, vs, T, oT, ts, k _ _ t1, t2, t3, t4, t5, t6, k _ _ t7, t8, t9⟩
/-- what the clause 'except (A, B, C) as n' wishes of an exception of the body: slot i is n's; the exception is tracked -/
def wKeep (K : PySem.W.Frag) (cs : List Value) (i : Nat) (ts : Addr → TS) (Wout : WX) (D : Ends) : WX := fun cls d σ H =>
  ∃ b, PySem.W.exmAny K cls cs = some b ∧
    (b = true → ∀ a, H a = none → ts a { nx := fun σ' H' => D.nx (σ'.set i none) H', rt := D.rt, bk := fun σ' H' => D.bk (σ'.set i none) H', ct := fun σ' H' => D.ct (σ'.set i none) H' } (σ.set i (some (.ref a))) (upd H a (ExK cls d a))) ∧
    (b = false → Wout cls d σ H)
/-- a module's own class by its name -/
structure Nm (X : Cx) (x : Str) (C : Addr) : Prop where
  gl : Gl X x
  db : (x == ("__debug__" : Str)) = false
  mg : X.mg x = some (.ref C)
section
variable {X : Cx} {x1 x2 x3 n : Str} {C1 C2 C3 : Addr} {i : Nat} {body suite : List Stmt} {b₀ : Stmt} {p1 p2 p3 tp pos pos' : Pos} {tb : WX → TS} {ts : Addr → TS} {Wout : WX} {cx}
theorem ps_try_keep (hs : X.stack = X.env :: X.outer) (hf : X.env.frame = some X.env.locals) (hex : X.ex = []) (hN : X.N.Nodup) (hi : X.N[i]? = some n) (hln : X.env.kindOf n = some .local)
    (n1 : Nm X x1 C1) (n2 : Nm X x2 C2) (n3 : Nm X x3 C3) (tk : Takes X Wout)
    (hb : ∀ (W : WX) (pn : List (Addr × Obj)) (xe : Value → Shared → Prop), Takes (X.tr pn xe) W → PassesOwn (model X.prog X.w) X.A X.env xe → PSs (X.tr pn xe) body (tb W))
    (hsu : ∀ (a : Addr) (pn : List (Addr × Obj)), PSs (X.suite a pn) (b₀ :: suite) (ts a)) :
    PS X (.Try body [.ExceptHandler (some (.Tuple [.Name x1 p1, .Name x2 p2, .Name x3 p3] cx tp)) (some n) (b₀ :: suite) pos'] [] [] pos) (fun D σ H => tb (wKeep X.K [.ref C1, .ref C2, .ref C3] i ts Wout D) D σ H) := by
  refine ⟨fun pins s σ H D I h => ?_⟩
  have ok := I.ok
  have frs2 : X.A.frames = some (X.env :: X.outer) := by rw [ok.frames, hs]
  refine wpAny_Try_except ?_
  refine wpAny_mono ((hb (wKeep X.K [.ref C1, .ref C2, .ref C3] i ts Wout D) (X.pn ++ pins)
    (fun e s₁ => wpAny (model X.prog X.w) X.A (noteFrame e X.env) (fun _ s₂ => wpAny (model X.prog X.w) X.A (setFlight e none) (fun _ s₃ => wpAny (model X.prog X.w) X.A
      (handleBy e X.env [.ExceptHandler (some (.Tuple [.Name x1 p1, .Name x2 p2, .Name x3 p3] cx tp)) (some n) (b₀ :: suite) pos']) (SP X pins D) X.xe s₃) X.xe s₂) X.xe s₁)
    (fun u s' air => ?_) PassesOwn.looking).run [] s σ H D (I.toTry _) h) (fun f s1 hsp => ?_) (fun e s1 he => he)
  · obtain ⟨a, B, sI, pins', σ', H', cls, d, rfl, J', nb, up, sky, na, os, ag, b, hb1, hyes, hno⟩ := air
    have J : Inv X pins σ' H' sI := J'.ofTry ok
    have sky2 : Sky B (X.env :: X.outer) a (Zc cls d) X.env.locals s'.heap := by
      rw [← hs]
      exact sky
    refine Sky.land Zc.steady frs2 hf sky2 fun h3 fl3 up3 => ?_
    obtain ⟨oe3, vs3, he3, hz3, hd3⟩ := fl3.there
    have nfr : a ∉ frs (X.env :: X.outer) := fun hm => by
      obtain ⟨_, o', e', hnf⟩ := fl3.2.2.1.mem hm
      rw [he3] at e'
      cases e'
      exact hnf _ hd3
    have nL : a ≠ X.env.locals := fun z => nfr (List.mem_filterMap.mpr ⟨X.env, List.mem_cons_self, by rw [hf, z]⟩)
    have nF : a ∉ X.fs := fun hm => by
      obtain ⟨e, he, q⟩ := List.mem_filterMap.mp hm
      exact nfr (List.mem_filterMap.mpr ⟨e, List.mem_cons_of_mem _ he, q⟩)
    -- it was not there when the call began
    have aI : sI.heap.get? a = none := by
      cases e : sI.heap.get? a with
      | none => rfl
      | some o =>
        have z := nb a o e (by rw [hs]; exact nfr)
        rw [fl3.2.1] at z
        cases z
    have a0 : X.s_0.heap.get? a = none := by
      cases e : X.s_0.heap.get? a with
      | none => rfl
      | some o =>
        obtain ⟨o', z⟩ := J.base.there a o e (by rw [hex]; exact fun z => nomatch z)
        rw [aI] at z
        cases z
    have nP : ∀ p ∈ X.pn ++ pins, p.1 ≠ a := fun p hp z => by
      have q := (J.pin p hp).1
      rw [z, aI] at q
      cases q
    have trk : ∀ {h4 : Heap} {s4 : Shared}, s4.heap = h4 → HandSPX.FlyingZ B (X.env :: X.outer) a (Zc cls d) h4 → Inv X pins σ' H' s4 → Inv X pins σ' (upd H' a (ExK cls d a)) s4 := fun {h4 s4} e4 fl4 J4 => by
      subst e4
      obtain ⟨oe4, vs4, he4, hz4, hd4⟩ := fl4.there
      refine track J4 a0 na nL (fun x c e z => ?_) nP (exK_ok he4 hz4 hd4)
      obtain ⟨v, o, eo, ed⟩ := J4.cell x c e
      rw [z, he4] at eo
      cases eo
      rw [hd4] at ed
      cases ed
    have J3 : Inv X pins σ' H' { s' with heap := h3 } := J.landed nb fl3.1 (up.trans up3) os ag
    have S3 : Inv (X.suite a (X.pn ++ pins)) [] σ' H' { s' with heap := h3 } :=
      ⟨J3.ok.suite _ _, J3.os, J3.bare, J3.base, J3.loc, J3.cell, J3.free, J3.freeC, fun p hp => J3.pin p (by rw [List.append_nil] at hp; exact hp), J3.hok, J3.len⟩
    refine wpAny_handleBy_cons (codeAny_handlers_test ?_) (by intro q; cases q)
    have own : ∀ {x : Str} {C : Addr} {p : Pos} {Q : Value → Shared → Prop} {E : Value → Shared → Prop}, Nm X x C → Q (.ref C) { s' with heap := h3 } →
        wpAny (model X.prog X.w) (X.A.mark (some (.ref a))) (eval (.Name x p) X.env) Q E { s' with heap := h3 } := fun {x C p Q E} z q => ld_glob (X := X.suite a (X.pn ++ pins)) S3 z.gl z.mg q z.db
    have tup : ∀ {Q : Value → Shared → Prop} {E : Value → Shared → Prop}, Q (.ref h3.objs.size) { s' with heap := h3.push { cls := .type "tuple", data := .seq [Value.ref C1, .ref C2, .ref C3].toArray } } →
        wpAny (model X.prog X.w) (X.A.mark (some (.ref a))) (eval (.Tuple [.Name x1 p1, .Name x2 p2, .Name x3 p3] cx tp) X.env) Q E { s' with heap := h3 } := fun {Q E} q => by
      refine wpAny_Tuple_spliced ?_
      show wpAny _ _ (spliced ((false, eval (.Name x1 p1) X.env) :: (false, eval (.Name x2 p2) X.env) :: (false, eval (.Name x3 p3) X.env) :: [])) _ _ _
      exact Calls.spliced_cons (own n1 (Calls.spliced_cons (own n2 (Calls.spliced_cons (own n3 (Calls.spliced_nil ⟨by show 3 ≤ sizeLine; decide, q⟩))))))
    refine tup ?_
    have k4 : ∀ b o, h3.get? b = some o → (h3.push { cls := .type "tuple", data := .seq [Value.ref C1, .ref C2, .ref C3].toArray }).get? b = some o := fun b o e => Heap.get?_push_of_some _ e
    have t4 := Heap.get?_push_size h3 (o := { cls := .type "tuple", data := .seq [Value.ref C1, .ref C2, .ref C3].toArray }) rfl
    generalize h3.push { cls := .type "tuple", data := .seq [Value.ref C1, .ref C2, .ref C3].toArray } = h4 at k4 t4 ⊢
    have fl4 := flying_kept fl3 k4
    have J4 : Inv X pins σ' H' { s' with heap := h4 } := J3.kept k4
    have LT : PySem.W.Looks (model X.prog X.w) h4 (typeOf (.ref a)) cls := fun A Q E s k q => wpAny_typeOf_ref (k _ _ (k4 _ _ he3)) (by rw [hz3.1]; exact q)
    refine (PySem.W.exm_tup3 (M := model X.prog X.w) J4.kIn LT t4 hb1).here ?_
    cases b with
    | true =>
      refine codeAny_handlers_suite_as ?_
      refine HandSPX.lands_againZ fl4 fun h5 fl5 up5 => ?_
      have J5 : Inv X pins σ' H' { s' with heap := h5 } := J.landed nb fl5.1 ((up.trans up3).trans ((Heap.UpToSlots.of_keeps k4).trans up5)) os ag
      have T5 := trk rfl fl5 J5
      have S5 : Inv (X.suite a (X.pn ++ pins)) [] σ' (upd H' a (ExK cls d a)) { s' with heap := h5 } :=
        ⟨T5.ok.suite _ _, T5.os, T5.bare, T5.base, T5.loc, T5.cell, T5.free, T5.freeC, fun p hp => T5.pin p (by rw [List.append_nil] at hp; exact hp), T5.hok, T5.len⟩
      refine store_ok (X := X.suite a (X.pn ++ pins)) (v := .ref a) S5 hN hi (.inl hln) rfl (fun s6 S6 => ?_) (.inr hln)
      refine wpAny_mono ((hsu a (X.pn ++ pins)).run [] s6 _ _ _ S6 (hyes rfl a na)) (fun f s7 hsp => ?_) (fun _ _ z => False.elim z)
      have back : ∀ {σ7 : L2.St} {H7 : Hp}, Inv (X.suite a (X.pn ++ pins)) [] σ7 H7 s7 → Inv X pins σ7 H7 s7 := fun {σ7 H7} S7 =>
        ⟨ok, S7.os, S7.bare, S7.base, S7.loc, S7.cell, S7.free, S7.freeC, fun p hp => S7.pin p (by rw [List.append_nil]; exact hp), S7.hok, S7.len⟩
      cases f with
      | next =>
        obtain ⟨σ7, H7, S7, q7⟩ := hsp
        exact gone_ok (back S7) hN hi hln fun s8 J8 => ⟨_, _, J8, q7⟩
      | brk =>
        obtain ⟨σ7, H7, S7, q7⟩ := hsp
        exact gone_ok (back S7) hN hi hln fun s8 J8 => ⟨_, _, J8, q7⟩
      | cont =>
        obtain ⟨σ7, H7, S7, q7⟩ := hsp
        exact gone_ok (back S7) hN hi hln fun s8 J8 => ⟨_, _, J8, q7⟩
      | ret u =>
        obtain ⟨v7, σ7, H7, S7, r7, q7⟩ := hsp
        exact gone_ok (back S7) hN hi hln fun s8 J8 => ⟨_, _, _, J8, r7, q7⟩
    | false =>
      refine wpAny_handleBy_nil ?_
      obtain ⟨k1, k2, k3, oe, vs, T, oT, ts', he, hz, hd, h1, hr⟩ := id fl4
      unfold PySem.passOn
      refine wpAny_bind (wpAny_field he hd h1 ?_)
      rw [if_neg (by simp : ¬ ((Value.ref T == Value.none) = true))]
      have fin : wpAny (model X.prog X.w) X.A (setFlight (.ref a) X.env.frame) (fun _ s5 => wpAny (model X.prog X.w) X.A (throw (.ref a) : Sem Flow) (SP X pins D) X.xe s5) X.xe { s' with heap := h4 } := by
        rw [hf]
        refine HandSPX.setFlight_upZ fl4 fun h5 hh5 up5 => wpAny_throw (tk _ _ ?_)
        exact ⟨a, B, sI, pins, σ', H', cls, d, rfl, J, nb, (up.trans up3).trans ((Heap.UpToSlots.of_keeps k4).trans up5), .inr (.inr (by rw [hs]; exact hh5)), na, os, ag, hno rfl⟩
      first
        | exact wpAny_bind (wpAny_pure (wpAny_bind fin))
        | exact wpAny_bind fin
  · cases f with
    | next =>
      obtain ⟨σ', H', J', q⟩ := hsp
      exact wpAny_execs_nil ⟨σ', H', J'.ofTry ok, q⟩
    | brk =>
      obtain ⟨σ', H', J', q⟩ := hsp
      exact ⟨σ', H', J'.ofTry ok, q⟩
    | cont =>
      obtain ⟨σ', H', J', q⟩ := hsp
      exact ⟨σ', H', J'.ofTry ok, q⟩
    | ret u =>
      obtain ⟨v, σ', H', J', r, q⟩ := hsp
      exact ⟨v, σ', H', J'.ofTry ok, r, q⟩
end
end Xk
set_option Elab.async false
set_option linter.all false
set_option maxRecDepth 100000
set_option maxHeartbeats 4000000
set_option pp.maxSteps 400
set_option pp.deepTerms false
namespace Xk
open PySem PySem.Spec PyProof.Rows L2
/-- what an own exception class says, so that its kept instances are read and asked -/
structure XcC (K : PySem.W.Frag) (C : Addr) : Prop where
  cl : (PySem.W.clsIn K C).isSome = true
  ga : PySem.W.findIn K (.ref C) "__getattribute__" = some (some (.builtin "BaseException.__getattribute__"))
  gg : PySem.W.findIn K (.ref C) "__getattr__" = some none
  sb : PySem.W.subIn K (.ref C) (.type "BaseException") = some true
  hd : PySem.W.hasDictIn K C = true
  ha : PySem.W.findIn K (.ref C) "__class__" = some (some (.builtin "object.__class__"))
  hn : PySem.W.specialIn K (.builtin "object.__class__") "__get__" = some (some (.builtin "getset_descriptor.__get__"))
  ht : PySem.W.takesIn K (.builtin "object.__class__") = some true
  hm : PySem.W.mroIn K C (.type "object") = some true
/-- a kept exception of the class at C with the fields fs -/
def Kept (H : Hp) (a C : Addr) (fs : List (Str × V)) : Prop := ∃ d, H a = some (ExK (.ref C) (some d) a) ∧ H d = some (.xd fs)
theorem Kept.same {H H' : Hp} {a C : Addr} {fs : List (Str × V)} (k : Kept H a C fs) (s : L2.Same H H') : Kept H' a C fs := by
  obtain ⟨d, e1, e2⟩ := k
  exact ⟨d, s _ _ e1, s _ _ e2⟩
section
variable {X : Cx} {pins : List (Addr × Obj)} {σ : L2.St} {H : Hp} {s : Shared}
theorem Kept.inst {a C : Addr} {fs : List (Str × V)} (I : Inv X pins σ H s) (k : Kept H a C fs) :
    ∃ (oe od : Obj) (mA : Str → Option Value), PySem.W.InstAt s.heap a oe C (some od) ∧ (∀ n, PySem.W.lookIn n od = some (mA n)) ∧ ∀ f, RelO (fs.lookup f) (mA f) := by
  obtain ⟨d, e1, e2⟩ := k
  obtain ⟨oe, he, hz, vs, hv⟩ := exK_at I.hok e1
  have hx : ObjOk X.prog X.w H s.heap d (.xd fs) := I.hok d _ e2
  obtain ⟨mA, hns, hr⟩ := hx
  obtain ⟨od, ho, hl⟩ := lookIn_ns hns
  refine ⟨oe, od, mA, ⟨he, hz.1, by unfold PySem.W.notCls; rw [hv] <;> rfl, by rw [hz.2]; exact ho⟩, hl, hr⟩
end
/-- e.f of a kept exception -/
def tKf (C : Addr) (f : Str) (te : TE) : TE := fun σ H Q => te σ H fun x H1 => ∃ (a : Addr) (fs : List (Str × V)) (v : V), x = .ref a ∧ Kept H1 a C fs ∧ fs.lookup f = some v ∧ Q v H1
theorem pe_kf {X : Cx} {C : Addr} {e : Expr} {te : TE} {pos : Pos} {n : Str} (T : XcC X.K C) (hno : PySem.W.findIn X.K (.ref C) n = some none) (he : PE X e te)
    (hb : attributeBase e n X.env (eval e X.env) = eval e X.env := by rfl) : PE X (.Attribute e n pos) (tKf C n te) := by
  refine ⟨fun pins s σ H Q I h => attr_of hb (thn (he.run pins s σ H _ I h) fun u s1 z => ?_)⟩
  obtain ⟨x, H1, I1, rx, a, fs, v, ex, k, l, q⟩ := z
  subst ex
  obtain rfl : u = Value.ref a := rx
  obtain ⟨oe, od, mA, J, hl, hr⟩ := k.inst I1
  obtain ⟨y, hy, ry⟩ := RelO.some_of (v := v) (o := mA n) (by rw [← l]; exact hr n)
  exact HandSPX.exc_get I1.kIn J T.ga T.gg T.sb (PySem.W.findObj_own T.hd hno rfl (by rw [hl, hy])) (handed_of ry) ⟨v, H1, I1.tok _, ry, q⟩
/-- isinstance(e, c), isinstance(e, (c1, ..)) of a kept exception -/
def rIsK (K : PySem.W.Frag) (C : Addr) : List V → Hp → VK → Prop := fun xs H Q => ∃ (a : Addr) (fs : List (Str × V)) (c : V) (u : Value) (b : Bool), xs = [.ref a, c] ∧ Kept H a C fs ∧ ClsV c u ∧ PySem.W.kitOne K (.ref C) u = some b ∧ Q (.bl b) H
def rIsKT (K : PySem.W.Frag) (C : Addr) : List V → Hp → VK → Prop := fun xs H Q => ∃ (a tp : Addr) (fs : List (Str × V)) (cs : List V) (us : List Value) (b : Bool), xs = [.ref a, .ref tp] ∧ Kept H a C fs ∧
  H tp = some (.tup cs) ∧ Paired ClsV cs us ∧ PySem.W.kitAny K (.ref C) us = some b ∧ Q (.bl b) H
theorem call_isK {X : Cx} {C : Addr} (T : XcC X.K C) : CallR X (.builtin "isinstance") (rIsK X.K C) := by
  intro pins s σ H xs us Q I r h
  obtain ⟨a, fs, c, u, b, rfl, k, hc, e, q⟩ := h
  obtain ⟨u1, u2, rfl, r1, r2⟩ := vals2 r
  have e2 := hc.eq r2
  subst e2
  cases (show u1 = Value.ref a from r1)
  obtain ⟨oe, od, mA, J, _, _⟩ := k.inst I
  exact PySem.W.kia_one (PySem.W.kitx_exc (ox := oe) (od := some od) T.cl T.ga T.gg T.sb T.ha T.hn T.ht T.hm) I.kIn J e (fun z => nomatch z) fun tk => ⟨.bl b, H, I.tok tk, rfl, q⟩
theorem call_isKT {X : Cx} {C : Addr} (T : XcC X.K C) : CallR X (.builtin "isinstance") (rIsKT X.K C) := by
  intro pins s σ H xs us Q I r h
  obtain ⟨a, tp, fs, cs, ws, b, rfl, k, hT, hc, e, q⟩ := h
  obtain ⟨u1, u2, rfl, r1, r2⟩ := vals2 r
  cases (show u1 = Value.ref a from r1)
  cases (show u2 = Value.ref tp from r2)
  obtain ⟨oe, od, mA, J, _, _⟩ := k.inst I
  have ht : ObjOk X.prog X.w H s.heap tp (.tup cs) := I.hok tp _ hT
  obtain ⟨_, its, rv, o, h1, h2, n, h3⟩ := ht
  have e3 := ClsV.all hc rv
  subst e3
  obtain ⟨oc, od2, dt, sl⟩ := o
  simp only at h2 h3
  subst h2 h3
  exact PySem.W.kia_tup (PySem.W.kitx_exc (ox := oe) (od := some od) T.cl T.ga T.gg T.sb T.ha T.hn T.ht T.hm) I.kIn J h1 e (fun z => nomatch z) fun tk => ⟨.bl b, H, I.tok tk, rfl, q⟩
/-! ### B.__init__(self, ..), B an own class over ValueError without own __init__ -/
structure BiC (K : PySem.W.Frag) (B : Addr) : Prop where
  rd : PySem.W.readsIn K B (.type "type") = true
  sp : PySem.W.specialIn K (.ref B) "__getattribute__" = some (some (.builtin "type.__getattribute__"))
  fi : PySem.W.findCls K (.ref B) (.type "type") "__init__" = some (.val (.builtin "ValueError.__init__"))
theorem pe_binit {X : Cx} {B : Addr} {x : Str} {e : Expr} {es : List Expr} {ta : TA} {p1 p2 pos : Pos} {pl : Sem Bool} (T : BiC X.K B) (gl : Gl X x) (mg : X.mg x = some (.ref B)) (ha : PA X (e :: es) ta) (hdb : (x == ("__debug__" : Str)) = false := by decide)
    (hc : eval (.Call (.Attribute (.Name x p1) "__init__" p2) (e :: es) [] pos) X.env = (do
      let ov ← eval (.Name x p1) X.env
      standAt p2.atName
      let (f, first) ← holding [ov] (getMethod ov "__init__" pl)
      callWith pos f first (backTo pos (starEach (e :: es) X.env)) (backToKw pos (keywordEach [] X.env))) := by rfl)
    (he : starEach (e :: es) X.env = (false, eval e X.env) :: starEach es X.env := by rfl) (hpl : (backTo pos (starEach es X.env)).any (·.1) = false := by rfl) :
    PE X (.Call (.Attribute (.Name x p1) "__init__" p2) (e :: es) [] pos) (tVeI X.K ta) := by
  refine ⟨fun pins s σ H Q I h => PySem.W.methodCall_KW (ld_glob I gl mg ?_ hdb) hc⟩
  refine PySem.W.method_cls I.kIn T.sp (PySem.W.cls_value I.kIn T.rd T.fi (by decide +kernel) ?_)
  show wpAny _ _ (callWith pos (Value.builtin "ValueError.__init__") [] (backTo pos (starEach (e :: es) X.env)) []) _ _ _
  refine PyProof.Rows.callWith_method1 (thn (ha.run pos pins _ σ H _ (I.tok _) h) fun us s1 z => ?_) he hpl
  obtain ⟨vs, H1, I1, r1, a, C, ws, ev, hl, Tx, ea, q⟩ := z
  subst ev
  cases r1 with
  | @cons _ u0 _ ur ra rw' =>
    obtain rfl : u0 = Value.ref a := ra
    refine oinit_ok Tx I1 ea ?_ fun s' J => ⟨.non, H1, J, rfl, q⟩
    rw [← Paired.length rw', sizeLine_eq]
    omega
/-! ### calls in a try's body: what is raised is wished for at the slots -/
section
variable {X : Cx} {CX : CXT} {k n : Nat} {f C : Addr} {fd : FuncData} {ps ks : List Str} {sp : Sp} {dvs : List V} {ds : List Value} {E : L2.St → XK} {x : Str} {p pos : Pos} {e : Expr} {es : List Expr} {kws : List Keyword} {t tk : TA}
  {g : List Value → List Value → List Value} {gV : List V → List V → List V}
def tMakeS (C : Addr) (sp : Sp) (dvs : List V) (E : L2.St → XK) (t : TA) : TE := fun σ H Q => t σ H fun vs H1 => ∀ x dx, H1 x = none → H1 dx = none → dx ≠ x →
  sp (.ref x :: (vs ++ dvs)) (upd (upd H1 dx (.own x)) x (.ins C dx [])) (fun v H2 => v = .non ∧ Q (.ref x) H2) (E σ)
theorem pe_makeS (M : Mk X.K C f) (F : FnOk X.prog X.w X.K X.mg X.base CX k f fd ps sp) (room : Room (k + 1) X.A) (gl : Gl X x) (mg : X.mg x = some (.ref C)) (bd : Binds X.K fd ps ds) (rd : Vals dvs ds) (px : ∀ σ, PassesAt CX X σ (E σ))
    (ha : PA X (e :: es) t) (hdb : (x == ("__debug__" : Str)) = false := by decide) (he : starEach (e :: es) X.env = (false, eval e X.env) :: starEach es X.env := by rfl) (hpl : (backTo pos (starEach es X.env)).any (·.1) = false := by rfl) :
    PE X (.Call (.Name x p) (e :: es) [] pos) (tMakeS C sp dvs E t) := by
  refine ⟨fun pins s σ H Q I h => wpAny_Call_Name_kw (ld_glob I gl mg ?_ hdb)⟩
  refine PySem.W.callWith_K (h₀ := X.base) I.ok.mod.kin M.kp (thn (ha.run pos pins s σ H _ I h) fun us s1 z => ?_) he hpl
  obtain ⟨vs, H1, I1, r, q⟩ := z
  refine ⟨I1.kIn, ?_⟩
  have q1 := q (s1.heap.objs.size + 1) s1.heap.objs.size (I1.hok.fresh (Nat.le_succ _)) (I1.hok.fresh (Nat.le_refl _)) (Nat.ne_of_lt (Nat.lt_succ_self _))
  have I2 := Inv.made (C := C) I1
  have r2 : Vals (V.ref (s1.heap.objs.size + 1) :: (vs ++ dvs)) (Value.ref (s1.heap.objs.size + 1) :: (us ++ ds)) := .cons rfl (r.append rd)
  have many : (Value.ref (s1.heap.objs.size + 1) :: us ++ ds).length = ps.length := (r2.length.symm.trans (F.len _ _ _ _ q1))
  refine wpAny_call (make_map (f := f) I1.kIn M.makes M.init (beq_iff_eq.mp M.fn) (codeAny_mono (F.run _ X.stack _ _ ⟨Value.ref (s1.heap.objs.size + 1) :: us, []⟩ (Value.ref (s1.heap.objs.size + 1) :: (us ++ ds)) _ _ (E σ)
    (room.make C us []) (I2.env0.make C us []) (bd _ (Value.ref (s1.heap.objs.size + 1) :: us) I2.kIn many) r2 q1) fun r s' z => ?_))
  cases r with
  | error e => exact px σ pins _ _ e s' I2 z
  | ok fl =>
    cases fl with
    | ret u =>
      obtain ⟨v, H', I3, rv, ev, q3⟩ := I2.after z
      subst ev
      exact ⟨rv, ⟨V.ref (s1.heap.objs.size + 1), H', I3, rfl, q3⟩⟩
    | next => exact False.elim z
    | brk => exact False.elim z
    | cont => exact False.elim z
def tMakeKS (C : Addr) (m : Nat) (sp : Sp) (gV : List V → List V → List V) (E : L2.St → XK) (tk : TA) : TE := fun σ H Q => tk σ H fun zs H2 => zs.length = m ∧
  ∀ x dx, H2 x = none → H2 dx = none → dx ≠ x → sp (gV [.ref x] zs) (upd (upd H2 dx (.own x)) x (.ins C dx [])) (fun v H3 => v = .non ∧ Q (.ref x) H3) (E σ)
theorem pe_makeKS (M : Mk X.K C f) (F : FnOk X.prog X.w X.K X.mg X.base CX k f fd ps sp) (room : Room (k + 1) X.A) (gl : Gl X x) (mg : X.mg x = some (.ref C)) (kb : KBn X.K fd ps 1 ks g gV) (px : ∀ σ, PassesAt CX X σ (E σ)) (pk : PK X kws tk)
    (hall : (backToKw pos (keywordEach kws X.env)).all (·.1.isSome) = true := by rfl) (hks : (backToKw pos (keywordEach kws X.env)).filterMap (·.1) = ks := by rfl) (hdb : (x == ("__debug__" : Str)) = false := by decide)
    (hpl : ((backTo pos (starEach [] X.env)).any (·.1) || (backToKw pos (keywordEach kws X.env)).any (·.1.isNone)) = false := by rfl) :
    PE X (.Call (.Name x p) [] kws pos) (tMakeKS C ks.length sp gV E tk) := by
  refine ⟨fun pins s σ H Q I h => wpAny_Call_Name_kw (ld_glob I gl mg ?_ hdb)⟩
  refine PySem.W.callWith_KW0 (h₀ := X.base) I.ok.mod.kin M.kp hall (thn (pk.run pos pins s σ H _ I h) fun ws s1 z => ?_) hpl
  obtain ⟨zs, H1, I1, rz, l2, q⟩ := z
  refine ⟨I1.kIn, ?_⟩
  rw [hks]
  have q1 := q (s1.heap.objs.size + 1) s1.heap.objs.size (I1.hok.fresh (Nat.le_succ _)) (I1.hok.fresh (Nat.le_refl _)) (Nat.ne_of_lt (Nat.lt_succ_self _))
  have I2 := Inv.made (C := C) I1
  have r1 : Vals [V.ref (s1.heap.objs.size + 1)] [Value.ref (s1.heap.objs.size + 1)] := .cons rfl .nil
  have r2 := kb.rel r1 rz
  refine wpAny_call (make_map (f := f) I1.kIn M.makes M.init (beq_iff_eq.mp M.fn) (codeAny_mono (F.run _ X.stack _ _ ⟨[Value.ref (s1.heap.objs.size + 1)], ks.zip ws⟩ (g [Value.ref (s1.heap.objs.size + 1)] ws) _ _ (E σ)
    (room.make C [] (ks.zip ws)) (I2.env0.make C [] (ks.zip ws)) (kb.to _ [Value.ref (s1.heap.objs.size + 1)] ws I2.kIn rfl (rz.length.symm.trans l2)) r2 q1) fun r s' z => ?_))
  cases r with
  | error e => exact px σ pins _ _ e s' I2 z
  | ok fl =>
    cases fl with
    | ret u =>
      obtain ⟨v, H', I3, rv, ev, q3⟩ := I2.after z
      subst ev
      exact ⟨rv, ⟨V.ref (s1.heap.objs.size + 1), H', I3, rfl, q3⟩⟩
    | next => exact False.elim z
    | brk => exact False.elim z
    | cont => exact False.elim z
def tCallKS (m : Nat) (sp : Sp) (gV : List V → List V → List V) (E : L2.St → XK) (tk : TA) : TE := fun σ H Q => tk σ H fun zs H2 => zs.length = m ∧ sp (gV [] zs) H2 Q (E σ)
theorem pe_callKS (F : FnOk X.prog X.w X.K X.mg X.base CX k f fd ps sp) (room : Room k X.A) (gl : Gl X x) (mg : X.mg x = some (.ref f)) (kp : PySem.W.keepIn X.K (.ref f) = true) (kb : KBn X.K fd ps 0 ks g gV) (px : ∀ σ, PassesAt CX X σ (E σ)) (pk : PK X kws tk)
    (hall : (backToKw pos (keywordEach kws X.env)).all (·.1.isSome) = true := by rfl) (hks : (backToKw pos (keywordEach kws X.env)).filterMap (·.1) = ks := by rfl) (hdb : (x == ("__debug__" : Str)) = false := by decide)
    (hpl : ((backTo pos (starEach [] X.env)).any (·.1) || (backToKw pos (keywordEach kws X.env)).any (·.1.isNone)) = false := by rfl) :
    PE X (.Call (.Name x p) [] kws pos) (tCallKS ks.length sp gV E tk) := by
  refine ⟨fun pins s σ H Q I h => wpAny_Call_Name_kw (ld_glob I gl mg ?_ hdb)⟩
  refine PySem.W.callWith_KW0 (h₀ := X.base) I.ok.mod.kin kp hall (thn (pk.run pos pins s σ H _ I h) fun ws s1 z => ?_) hpl
  obtain ⟨zs, H1, I1, rz, l2, q⟩ := z
  refine ⟨I1.kIn, ?_⟩
  rw [hks]
  have rn : Vals [] [] := .nil
  have r2 := kb.rel rn rz
  refine wpAny_call (codeAny_mono (F.run X.A X.stack s1 H1 ⟨[], ks.zip ws⟩ (g [] ws) (gV [] zs) Q (E σ) room I1.env0 (kb.to s1 [] ws I1.kIn rfl (rz.length.symm.trans l2)) r2 q) fun r s' z => ?_)
  cases r with
  | error e => exact px σ pins _ _ e s' I1 z
  | ok fl =>
    cases fl with
    | ret u => exact I1.after z
    | next => exact False.elim z
    | brk => exact False.elim z
    | cont => exact False.elim z
end
end Xk
set_option Elab.async false
set_option linter.all false
set_option maxRecDepth 100000
set_option maxHeartbeats 4000000
set_option pp.maxSteps 400
set_option pp.deepTerms false
/-! Things of any kind: texts, numbers, truths, None, and lists, tuples, dicts of these, at any depth. -/
namespace Az
open PySem PySem.Spec PyProof.Rows L2
def keyD : Key → PyData
  | .inl i => .int i
  | .inr x => .str x
mutual
inductive Dz (K : PySem.W.Frag) (H : Hp) : V → PyData → Prop
  | non : Dz K H .non .none
  | bl (b : Bool) : Dz K H (.bl b) (.bool b)
  | int (i : Int) : Dz K H (.int i) (.int i)
  | str (x : Str) : Dz K H (.str x) (.str x)
  | lst {a : Addr} {xs : List V} {ds : List PyData} : H a = some (.lst xs) → a ≠ sysModules → DzAll K H xs ds → Dz K H (.ref a) (.list ds)
  | tup {a : Addr} {xs : List V} {ds : List PyData} : H a = some (.tup xs) → DzAll K H xs ds → Dz K H (.ref a) (.tuple ds)
  | dct {a : Addr} {kvs : List (Key × V)} {ds : List (PyData × PyData)} : H a = some (.dK kvs) → DzKv K H kvs ds → Dz K H (.ref a) (.dict ds)
inductive DzAll (K : PySem.W.Frag) (H : Hp) : List V → List PyData → Prop
  | nil : DzAll K H [] []
  | cons {v : V} {vs : List V} {d : PyData} {ds : List PyData} : Dz K H v d → DzAll K H vs ds → DzAll K H (v :: vs) (d :: ds)
inductive DzKv (K : PySem.W.Frag) (H : Hp) : List (Key × V) → List (PyData × PyData) → Prop
  | nil : DzKv K H [] []
  | cons {k : Key} {v : V} {kvs : List (Key × V)} {d : PyData} {ds : List (PyData × PyData)} : Dz K H v d → DzKv K H kvs ds → DzKv K H ((k, v) :: kvs) ((keyD k, d) :: ds)
end
section
variable {K : PySem.W.Frag} {H H' : Hp}
mutual
/-- what is read of a thing stays while its objects do -/
theorem Dz.keep (s : ∀ b o, H b = some o → (∀ x, o ≠ .own x) → H' b = some o) : ∀ {v : V} {d : PyData}, Dz K H v d → Dz K H' v d
  | _, _, .non => .non
  | _, _, .bl b => .bl b
  | _, _, .int i => .int i
  | _, _, .str x => .str x
  | _, _, .lst e n r => .lst (s _ _ e (fun _ z => by cases z)) n (DzAll.keep s r)
  | _, _, .tup e r => .tup (s _ _ e (fun _ z => by cases z)) (DzAll.keep s r)
  | _, _, .dct e r => .dct (s _ _ e (fun _ z => by cases z)) (DzKv.keep s r)
theorem DzAll.keep (s : ∀ b o, H b = some o → (∀ x, o ≠ .own x) → H' b = some o) : ∀ {v : List V} {d : List PyData}, DzAll K H v d → DzAll K H' v d
  | _, _, .nil => .nil
  | _, _, .cons h r => .cons (Dz.keep s h) (DzAll.keep s r)
theorem DzKv.keep (s : ∀ b o, H b = some o → (∀ x, o ≠ .own x) → H' b = some o) : ∀ {v : List (Key × V)} {d : List (PyData × PyData)}, DzKv K H v d → DzKv K H' v d
  | _, _, .nil => .nil
  | _, _, .cons h r => .cons (Dz.keep s h) (DzKv.keep s r)
end
theorem Dz.same {v : V} {d : PyData} (h : Dz K H v d) (s : L2.Same H H') : Dz K H' v d := h.keep fun b o e _ => s b o e
theorem DzAll.same {v : List V} {d : List PyData} (h : DzAll K H v d) (s : L2.Same H H') : DzAll K H' v d := h.keep fun b o e _ => s b o e
/-- the kind of a thing -/
def kindD : PyData → String
  | .none => "NoneType"
  | .bool _ => "bool"
  | .int _ => "int"
  | .str _ => "str"
  | .list _ => "list"
  | .tuple _ => "tuple"
  | .dict _ => "dict"
theorem Dz.ty {v : V} {d : PyData} (h : Dz K H v d) : TyX K H v (.type (kindD d)) := by
  cases h with
  | non => exact .base .non
  | bl b => exact .base (.bl b)
  | int i => exact .base (.int i)
  | str x => exact .base (.str x)
  | lst e _ _ => exact .base (.lst e)
  | tup e _ => exact .base (.tup e)
  | dct e _ => exact .base (.dK e)
end
section
variable {X : Cx} {pins : List (Addr × Obj)} {σ : L2.St} {H : Hp} {s : Shared}
theorem pairs_keys {P : Program} {w : World} : ∀ {es : List DictEntry} {vs : List (Key × Value)}, PySem.Pairs (mixKind P w) es vs → ∃ as, ReadsAll s.heap (es.map (·.key)) (vs.map fun p => keyD p.1) as ∧ as = []
  | _, _, .nil => ⟨[], .nil, rfl⟩
  | e :: es, (k, u) :: vs, .cons h1 h2 r => by
    obtain ⟨as, q, rfl⟩ := pairs_keys r
    rcases keyIs_shape (show keyIs k e.key = true from h1) with ⟨i, t, rfl, ek⟩ | ⟨x, t, rfl, ek⟩
    · refine ⟨[] ++ [], .cons ?_ q, rfl⟩
      show Reads s.heap e.key (.int i) []
      rw [ek]
      exact .int i t
    · refine ⟨[] ++ [], .cons ?_ q, rfl⟩
      show Reads s.heap e.key (.str x) []
      rw [ek]
      exact .str x t
theorem pairs_vals {P : Program} {w : World} : ∀ {es : List DictEntry} {vs : List (Key × Value)}, PySem.Pairs (mixKind P w) es vs → es.map (·.val) = vs.map (·.2)
  | _, _, .nil => rfl
  | e :: es, (k, u) :: vs, .cons h1 h2 r => by
    rw [List.map_cons, List.map_cons, pairs_vals r, h2]
mutual
theorem Dz.reads (I : Inv X pins σ H s) : ∀ (d : PyData) (v : V) (u : Value), Dz X.K H v d → RelV v u → ∃ as, Reads s.heap u d as ∧ sysModules ∉ as
  | .none, _, _, h, r => by
    cases h
    cases r
    exact ⟨[], .none, by simp⟩
  | .bool b, _, _, h, r => by
    cases h
    cases r
    exact ⟨[], .bool b, by simp⟩
  | .int i, _, _, h, r => by
    cases h
    obtain ⟨t, rfl⟩ := r
    exact ⟨[], .int i t, by simp⟩
  | .str x, _, _, h, r => by
    cases h
    obtain ⟨t, rfl⟩ := r
    exact ⟨[], .str x t, by simp⟩
  | .list ds, _, _, h, r => by
    cases h with
    | @lst a xs _ e ne ha =>
      cases r
      have ok : ObjOk X.prog X.w H s.heap a (.lst xs) := I.hok a _ e
      obtain ⟨_, its, n, rv, eh⟩ := ok
      obtain ⟨as, q, na⟩ := DzAll.reads I ds xs its ha rv
      refine ⟨a :: as, .list eh rfl rfl (by simpa using q), fun m => ?_⟩
      rcases List.mem_cons.mp m with z | z
      · exact ne z.symm
      · exact na z
  | .tuple ds, _, _, h, r => by
    cases h with
    | @tup a xs _ e ha =>
      cases r
      have ok : ObjOk X.prog X.w H s.heap a (.tup xs) := I.hok a _ e
      obtain ⟨_, its, rv, o, eh, ec, n, ed⟩ := ok
      obtain ⟨as, q, na⟩ := DzAll.reads I ds xs its ha rv
      exact ⟨as, .tuple eh ec ed (by simpa using q), na⟩
  | .dict ds, _, _, h, r => by
    cases h with
    | @dct a kvs _ e ha =>
      cases r
      obtain ⟨_, ne, vs, rel, o, es, ep, eh, ex, ed, _, pr, _⟩ := dk_of I.hok e
      obtain ⟨as, q1, rfl⟩ := pairs_keys (s := s) pr
      obtain ⟨bs, q2, nb⟩ := DzKv.reads I ds kvs vs ha rel
      have hk : (vs.map fun p => keyD p.1) = ds.map (·.1) := DzKv.keys ha rel
      rw [hk] at q1
      refine ⟨a :: [] ++ bs, .dict eh ex.1 ed q1 (by rw [pairs_vals pr]; exact q2), fun m => ?_⟩
      rcases List.mem_cons.mp m with z | z
      · rw [← z] at ne
        simp at ne
      · exact nb z
theorem DzAll.reads (I : Inv X pins σ H s) : ∀ (ds : List PyData) (vs : List V) (us : List Value), DzAll X.K H vs ds → Vals vs us → ∃ as, ReadsAll s.heap us ds as ∧ sysModules ∉ as
  | [], _, _, h, r => by
    cases h
    cases r
    exact ⟨[], .nil, by simp⟩
  | d :: ds, _, _, h, r => by
    cases h with
    | cons h1 h2 =>
      cases r with
      | cons r1 r2 =>
        obtain ⟨as, q1, n1⟩ := Dz.reads I d _ _ h1 r1
        obtain ⟨bs, q2, n2⟩ := DzAll.reads I ds _ _ h2 r2
        exact ⟨as ++ bs, .cons q1 q2, fun m => (List.mem_append.mp m).elim n1 n2⟩
theorem DzKv.reads (I : Inv X pins σ H s) : ∀ (ds : List (PyData × PyData)) (kvs : List (Key × V)) (vs : List (Key × Value)), DzKv X.K H kvs ds → KV kvs vs → ∃ as, ReadsAll s.heap (vs.map (·.2)) (ds.map (·.2)) as ∧ sysModules ∉ as
  | [], _, _, h, r => by
    cases h
    cases r
    exact ⟨[], .nil, by simp⟩
  | (_, d) :: ds, _, _, h, r => by
    cases h with
    | cons h1 h2 =>
      cases r with
      | cons r1 r2 =>
        obtain ⟨as, q1, n1⟩ := Dz.reads I d _ _ h1 r1.2
        obtain ⟨bs, q2, n2⟩ := DzKv.reads I ds _ _ h2 r2
        exact ⟨as ++ bs, .cons q1 q2, fun m => (List.mem_append.mp m).elim n1 n2⟩
theorem DzKv.keys {K : PySem.W.Frag} : ∀ {ds : List (PyData × PyData)} {kvs : List (Key × V)} {vs : List (Key × Value)}, DzKv K H kvs ds → KV kvs vs → (vs.map fun p => keyD p.1) = ds.map (·.1)
  | [], _, _, h, r => by
    cases h
    cases r
    rfl
  | (_, d) :: ds, _, _, h, r => by
    cases h with
    | cons h1 h2 =>
      cases r with
      | cons r1 r2 =>
        rw [List.map_cons, List.map_cons, DzKv.keys h2 r2, ← r1.1]
end
/-- repr of a thing -/
def rReprZ (K : PySem.W.Frag) : List V → Hp → VK → Prop := fun xs H Q => ∃ (v : V) (d : PyData), xs = [v] ∧ Dz K H v d ∧ d.showable = true ∧ d.depth ≤ 60 ∧ d.shown.length ≤ sizeLine ∧ Q (.str d.shown) H
theorem cr_reprZ {k : Nat} (quiet : X.A.guards = some []) (room : Room k X.A) : CallR X (.builtin "repr") (rReprZ X.K) := by
  intro pins s σ H xs us Q I r h
  obtain ⟨v, d, rfl, hd, hs, hp, hz, q⟩ := h
  obtain ⟨u, rfl, rx⟩ := vals1 r
  have hu := room.units
  cases hd with
  | non =>
    cases rx
    exact PySem.P.repr_of_none ⟨.str _, H, I.tok _, ⟨_, rfl⟩, q⟩
  | bl b =>
    cases rx
    exact PySem.P.repr_of_bool ⟨.str _, H, I.tok _, ⟨_, rfl⟩, q⟩
  | int i =>
    obtain ⟨t, rfl⟩ := rx
    exact PySem.P.repr_of_int (by simpa [PyData.showable] using hs) ⟨.str _, H, I.tok _, ⟨_, rfl⟩, q⟩
  | str x =>
    obtain ⟨t, rfl⟩ := rx
    exact PySem.P.repr_of_str ⟨.str _, H, I.tok _, ⟨_, rfl⟩, q⟩ hz
  | lst e n ha =>
    obtain ⟨as, rd, na⟩ := Dz.reads I _ _ u (.lst e n ha) rx
    cases rx
    exact repr_of_reads' rd hs (fun _ => na) quiet (by omega) (fun _ _ z => z) (fun h' u tk kept => ⟨.str _, H, I.kept kept, ⟨u, rfl⟩, q⟩) hz
  | tup e ha =>
    obtain ⟨as, rd, na⟩ := Dz.reads I _ _ u (.tup e ha) rx
    cases rx
    exact repr_of_reads' rd hs (fun _ => na) quiet (by omega) (fun _ _ z => z) (fun h' u tk kept => ⟨.str _, H, I.kept kept, ⟨u, rfl⟩, q⟩) hz
  | dct e ha =>
    obtain ⟨as, rd, na⟩ := Dz.reads I _ _ u (.dct e ha) rx
    cases rx
    exact repr_of_reads' rd hs (fun _ => na) quiet (by omega) (fun _ _ z => z) (fun h' u tk kept => ⟨.str _, H, I.kept kept, ⟨u, rfl⟩, q⟩) hz
/-- a list of written items: new, and no table of modules -/
def tLstZ (t : TA) : TE := fun σ H Q => t σ H fun xs H1 => xs.length ≤ sizeLine ∧ ∀ p, H1 p = none → p ≠ sysModules → Q (.ref p) (upd H1 p (.lst xs))
theorem pe_lstZ {es : List Expr} {t : TA} {pos : Pos} (h : PA X es t) : PE X (.List es pos) (tLstZ t) := by
  refine ⟨fun pins s σ H Q I hq => wpAny_List_spliced (thn (h.run pos pins s σ H _ I hq) fun us s1 z => ?_)⟩
  obtain ⟨xs, H1, I1, r, z, q⟩ := z
  refine ⟨by rw [← r.length]; exact z, ?_⟩
  have new : H1 s1.heap.objs.size = none := I1.hok.fresh (Nat.le_refl _)
  refine ⟨.ref s1.heap.objs.size, upd H1 s1.heap.objs.size (.lst xs), I1.laid (t' := s1.toks) (fun b u e => Heap.get?_push_of_some _ e) (Nat.le_refl _) ?_, rfl, q _ new (Nat.ne_of_gt I1.big)⟩
  exact ⟨z, us, 0, r, Heap.get?_push_size _ rfl⟩
end
end Az
namespace Az
open PySem PySem.Spec PyProof.Rows L2
/-- a thing that is shown in n signs at most, at most k deep -/
structure Nice (d : PyData) (k n : Nat) : Prop where
  sh : d.showable = true
  dp : d.depth ≤ k
  sz : d.shown.length ≤ n
theorem Nice.mono {d : PyData} {k k' n n' : Nat} (h : Nice d k n) (hk : k ≤ k') (hn : n ≤ n') : Nice d k' n' := ⟨h.sh, Nat.le_trans h.dp hk, Nat.le_trans h.sz hn⟩
theorem nice_int {i : Int} {n : Nat} (h : i.natAbs.log2 < 1920) (hn : (Str.ofString (toString i)).length ≤ n) : Nice (.int i) 0 n :=
  ⟨by simpa [PyData.showable] using h, by simp [PyData.depth], by simpa [PyData.shown] using hn⟩
theorem nice_none : Nice .none 0 4 := ⟨by simp [PyData.showable], by simp [PyData.depth], by simp only [PyData.shown]; decide +kernel⟩
theorem nice_bool (b : Bool) : Nice (.bool b) 0 5 := ⟨by simp [PyData.showable], by simp [PyData.depth], by simp only [PyData.shown]; cases b <;> decide +kernel⟩
theorem nice_str {x : Str} {n : Nat} (h : (reprText x).length ≤ n) : Nice (.str x) 0 n := ⟨by simp [PyData.showable], by simp [PyData.depth], by simpa [PyData.shown] using h⟩
theorem list_le : ∀ ts : List Str, (listText ts).length ≤ piled ts + 2
  | [] => by decide +kernel
  | t :: ts => by
    have e : (textFrom 0 "[" (t :: ts)).length = 1 + t.length + piled ts := by
      show (textFrom 1 (("[" : Str) ++ ((if 0 > 0 then ", " else "" : String) : Str) ++ t) ts).length = _
      rw [textFrom_length_pos ts 1 _ (by decide), strLen_append, strLen_append]
      rfl
    unfold listText
    rw [strLen_append, e, piled_cons]
    show 1 + t.length + piled ts + 1 ≤ _
    omega
theorem dict_le (ps : List Str) : (dictText ps).length ≤ piled ps + 2 := by
  unfold dictText
  rw [strLen_append, strLen_append]
  show 1 + (Str.join ", " ps).length + 1 ≤ _
  cases ps with
  | nil => decide
  | cons p r =>
    have := join_length_add (p :: r) (by simp)
    omega
theorem nice_tup1 {d : PyData} {k n : Nat} (h : Nice d k n) : Nice (.tuple [d]) (k + 1) (n + 4) := by
  refine ⟨by simp [PyData.showable, PyData.showableAll, h.sh], ?_, ?_⟩
  · simp only [PyData.depth, PyData.depthAll]
    have := h.dp
    omega
  · simp only [PyData.shown, PyData.shownAll]
    have a := fmt_text [d.shown]
    simp only [piled_cons, piled_nil] at a
    have := h.sz
    omega
theorem nice_lst1 {d : PyData} {k n : Nat} (h : Nice d k n) : Nice (.list [d]) (k + 1) (n + 4) := by
  refine ⟨by simp [PyData.showable, PyData.showableAll, h.sh], ?_, ?_⟩
  · simp only [PyData.depth, PyData.depthAll]
    have := h.dp
    omega
  · simp only [PyData.shown, PyData.shownAll]
    have a := list_le [d.shown]
    simp only [piled_cons, piled_nil] at a
    have := h.sz
    omega
theorem nice_dct1 {d : PyData} {k n m : Nat} {x : Str} (hx : (reprText x).length ≤ m) (h : Nice d k n) : Nice (.dict [(.str x, d)]) (k + 1) (n + m + 6) := by
  refine ⟨by simp [PyData.showable, PyData.showableKv, h.sh], ?_, ?_⟩
  · simp only [PyData.depth, PyData.depthKv]
    have := h.dp
    omega
  · simp only [PyData.shown, PyData.shownKv]
    have a := dict_le [reprText x ++ ": " ++ d.shown]
    simp only [piled_cons, piled_nil, strLen_append] at a
    have c : ((": " : Str)).length = 2 := by decide +kernel
    have := h.sz
    omega
theorem nice_tup0 : Nice (.tuple []) 1 2 := ⟨by simp [PyData.showable, PyData.showableAll], by simp [PyData.depth, PyData.depthAll], by simp only [PyData.shown, PyData.shownAll]; decide +kernel⟩
theorem nice_lst0 : Nice (.list []) 1 2 := ⟨by simp [PyData.showable, PyData.showableAll], by simp [PyData.depth, PyData.depthAll], by simp only [PyData.shown, PyData.shownAll]; decide +kernel⟩
theorem nice_dct0 : Nice (.dict []) 1 2 := ⟨by simp [PyData.showable, PyData.showableKv], by simp [PyData.depth, PyData.depthKv], by simp only [PyData.shown, PyData.shownKv]; decide +kernel⟩
end Az
set_option Elab.async false
set_option linter.all false
set_option maxRecDepth 100000
set_option maxHeartbeats 4000000
set_option pp.maxSteps 400
set_option pp.deepTerms false
namespace Az
open PySem PySem.Spec PyProof.Rows L2
/-! ### texts of signs that have a number of eight places -/
def Asc (x : Str) : Prop := ∀ c ∈ x.cps.toList, c < 16 ^ 8
theorem asc_str (s : String) : Asc (Str.ofString s) := fun c hc => by
  rw [Str.ofString_eq_toList] at hc
  simp only [List.mem_map] at hc
  obtain ⟨k, _, rfl⟩ := hc
  exact Nat.lt_of_lt_of_le (UInt32.toNat_lt k.val) (by decide)
theorem Asc.app {x y : Str} (h1 : Asc x) (h2 : Asc y) : Asc (x ++ y) := fun c hc => by
  rw [Str.cps_append, Array.toList_append, List.mem_append] at hc
  exact hc.elim (h1 c) (h2 c)
theorem asc_hex (l : List Char) (n : Nat) : ∀ c ∈ List.replicate n 48 ++ l.map Char.toNat, c < 16 ^ 8 := fun c hc => by
  rcases List.mem_append.mp hc with h | h
  · rw [(List.mem_replicate.mp h).2]
    decide
  · obtain ⟨k, _, rfl⟩ := List.mem_map.mp h
    exact Nat.lt_of_lt_of_le (UInt32.toNat_lt k.val) (by decide)
theorem asc_char {q c : Nat} (hc : c < 16 ^ 8) : ∀ d ∈ Builtin.Str.reprChar q c, d < 16 ^ 8 := fun d hd => by
  unfold Builtin.Str.reprChar at hd
  dsimp only at hd
  have two : ∀ a : Nat, a < 16 ^ 8 → d ∈ [92, a] → d < 16 ^ 8 := fun a ha h => by
    simp only [List.mem_cons, List.not_mem_nil, or_false] at h
    rcases h with h | h
    · rw [h]; decide
    · rw [h]; exact ha
  have app : ∀ (a : Nat) (l : List Nat), a < 16 ^ 8 → (∀ c ∈ l, c < 16 ^ 8) → d ∈ [92, a] ++ l → d < 16 ^ 8 := fun a l ha hl h => (List.mem_append.mp h).elim (two a ha) (hl d)
  split at hd
  · exact two c hc hd
  · split at hd
    · exact two 110 (by decide) hd
    · split at hd
      · exact two 114 (by decide) hd
      · split at hd
        · exact two 116 (by decide) hd
        · split at hd
          · simp only [List.mem_cons, List.not_mem_nil, or_false] at hd
            rw [hd]
            exact hc
          · split at hd
            · exact app 120 _ (by decide) (asc_hex _ _) hd
            · split at hd
              · exact app 117 _ (by decide) (asc_hex _ _) hd
              · exact app 85 _ (by decide) (asc_hex _ _) hd
theorem asc_fold {q : Nat} : ∀ (l : List Nat) (acc : Array Nat), (∀ c ∈ l, c < 16 ^ 8) → (∀ c ∈ acc.toList, c < 16 ^ 8) → ∀ c ∈ (l.foldl (fun out c => out ++ (Builtin.Str.reprChar q c).toArray) acc).toList, c < 16 ^ 8
  | [], acc, _, h => h
  | k :: r, acc, hl, ha => by
    rw [List.foldl_cons]
    refine asc_fold r _ (fun c hc => hl c (List.mem_cons_of_mem _ hc)) fun c hc => ?_
    rw [Array.toList_append, List.mem_append] at hc
    exact hc.elim (ha c) fun h => asc_char (hl k List.mem_cons_self) c (by simpa using h)
theorem asc_quote (x : Str) : reprQuote x < 16 ^ 8 := by
  unfold reprQuote
  split <;> decide
theorem asc_repr {x : Str} (h : Asc x) : Asc (reprText x) := fun c hc => by
  unfold reprText at hc
  rw [Array.toList_push, List.mem_append, ← Array.foldl_toList] at hc
  rcases hc with hc | hc
  · refine asc_fold x.cps.toList #[reprQuote x] h (fun d hd => ?_) c hc
    have z : d = reprQuote x := by simpa using hd
    rw [z]
    exact asc_quote x
  · have z : c = reprQuote x := by simpa using hc
    rw [z]
    exact asc_quote x
theorem asc_join : ∀ ts : List Str, (∀ t ∈ ts, Asc t) → Asc (Str.join ", " ts)
  | [], _ => fun c hc => by
    have z : c ∈ (Str.empty).cps.toList := hc
    simp [Str.empty] at z
  | [x], h => h x List.mem_cons_self
  | x :: y :: r, h => ((h x List.mem_cons_self).app (asc_str ", ")).app (asc_join (y :: r) fun t ht => h t (List.mem_cons_of_mem _ ht))
theorem asc_from : ∀ (ts : List Str) (k : Nat) (acc : Str), Asc acc → (∀ t ∈ ts, Asc t) → Asc (textFrom k acc ts)
  | [], _, _, h, _ => h
  | t :: ts, k, acc, h, ht => by
    unfold textFrom
    exact asc_from ts (k + 1) _ ((h.app (asc_str _)).app (ht t List.mem_cons_self)) fun u hu => ht u (List.mem_cons_of_mem _ hu)
mutual
/-- all texts within a thing -/
def ascD : PyData → Prop
  | .none | .bool _ | .int _ => True
  | .str x => Asc x
  | .list xs | .tuple xs => ascAll xs
  | .dict kvs => ascKv kvs
def ascAll : List PyData → Prop
  | [] => True
  | x :: xs => ascD x ∧ ascAll xs
def ascKv : List (PyData × PyData) → Prop
  | [] => True
  | (k, v) :: r => ascD k ∧ ascD v ∧ ascKv r
end
mutual
theorem asc_shown : ∀ d : PyData, ascD d → Asc d.shown
  | .none, _ => asc_str "None"
  | .bool b, _ => by
    simp only [PyData.shown]
    cases b
    · exact asc_str "False"
    · exact asc_str "True"
  | .int i, _ => asc_str (toString i)
  | .str x, h => asc_repr (by simpa [ascD] using h)
  | .list xs, h => by
    simp only [PyData.shown]
    exact (asc_from _ _ _ (asc_str "[") (asc_shownAll xs (by simpa [ascD] using h))).app (asc_str "]")
  | .tuple xs, h => by
    simp only [PyData.shown]
    exact ((asc_str "(").app (asc_join _ (asc_shownAll xs (by simpa [ascD] using h)))).app (asc_str _)
  | .dict kvs, h => by
    simp only [PyData.shown]
    exact ((asc_str "{").app (asc_join _ (asc_shownKv kvs (by simpa [ascD] using h)))).app (asc_str "}")
theorem asc_shownAll : ∀ xs : List PyData, ascAll xs → ∀ t ∈ PyData.shownAll xs, Asc t
  | [], _, t, ht => by
    simp [PyData.shownAll] at ht
  | x :: xs, h, t, ht => by
    have h' : ascD x ∧ ascAll xs := by simpa [ascAll] using h
    simp only [PyData.shownAll, List.mem_cons] at ht
    rcases ht with e | e
    · rw [e]
      exact asc_shown x h'.1
    · exact asc_shownAll xs h'.2 t e
theorem asc_shownKv : ∀ xs : List (PyData × PyData), ascKv xs → ∀ t ∈ PyData.shownKv xs, Asc t
  | [], _, t, ht => by
    simp [PyData.shownKv] at ht
  | (k, v) :: xs, h, t, ht => by
    have h' : ascD k ∧ ascD v ∧ ascKv xs := by simpa [ascKv] using h
    simp only [PyData.shownKv, List.mem_cons] at ht
    rcases ht with e | e
    · rw [e]
      exact ((asc_shown k h'.1).app (asc_str ": ")).app (asc_shown v h'.2.1)
    · exact asc_shownKv xs h'.2.2 t e
end
/-- str of a thing -/
def strD : PyData → Str
  | .str x => x
  | d => d.shown
theorem strD_asc {d : PyData} (h : ascD d) : Asc (strD d) := by
  cases d with
  | str x => simpa [strD, ascD] using h
  | _ => exact asc_shown _ h
theorem len_repr (x : Str) : x.length ≤ (reprText x).length := by
  have grow : ∀ (q : Nat) (l : List Nat) (acc : Array Nat), acc.size + l.length ≤ (l.foldl (fun out c => out ++ (Builtin.Str.reprChar q c).toArray) acc).size := fun q l => by
    induction l with
    | nil => intro acc; simp
    | cons k r ih =>
      intro acc
      have h := ih (acc ++ (Builtin.Str.reprChar q k).toArray)
      have one : 1 ≤ (Builtin.Str.reprChar q k).length := by
        unfold Builtin.Str.reprChar
        dsimp only
        repeat' split
        all_goals simp
        all_goals omega
      rw [List.foldl_cons]
      simp only [Array.size_append, List.size_toArray] at h
      simp only [List.length_cons]
      omega
  have h := grow (reprQuote x) x.cps.toList #[reprQuote x]
  unfold reprText
  show x.length ≤ ((x.cps.foldl (fun out c => out ++ (Builtin.Str.reprChar (reprQuote x) c).toArray) #[reprQuote x]).push (reprQuote x)).size
  rw [Array.size_push, ← Array.foldl_toList]
  have e : x.cps.toList.length = x.length := by simp [Str.length]
  omega
theorem strD_len {d : PyData} : (strD d).length ≤ d.shown.length := by
  cases d with
  | str x =>
    simp only [strD, PyData.shown]
    exact len_repr x
  | _ => exact Nat.le_refl _
section
variable {X : Cx}
def rStrZ (K : PySem.W.Frag) : List V → Hp → VK → Prop := fun xs H Q => ∃ (v : V) (d : PyData), xs = [v] ∧ Dz K H v d ∧ d.showable = true ∧ d.depth ≤ 60 ∧ d.shown.length ≤ sizeLine ∧ Q (.str (strD d)) H
theorem cr_strZ {k : Nat} (quiet : X.A.guards = some []) (room : Room k X.A) : CallR X (.type "str") (rStrZ X.K) := by
  intro pins s σ H xs us Q I r h
  obtain ⟨v, d, rfl, hd, hs, hp, hz, q⟩ := h
  obtain ⟨u, rfl, rx⟩ := vals1 r
  have hu := room.un
  cases hd with
  | non =>
    cases rx
    exact PySem.P.str_of_none ⟨.str _, H, I.tok _, ⟨_, rfl⟩, q⟩
  | bl b =>
    cases rx
    exact PySem.P.str_of_bool ⟨.str _, H, I.tok _, ⟨_, rfl⟩, q⟩
  | int i =>
    obtain ⟨t, rfl⟩ := rx
    exact PySem.P.str_of_int (by simpa [PyData.showable] using hs) ⟨.str _, H, I.tok _, ⟨_, rfl⟩, q⟩
  | str x =>
    obtain ⟨t, rfl⟩ := rx
    exact PySem.P.str_of_str ⟨.str _, H, I, ⟨_, rfl⟩, q⟩
  | lst e n ha =>
    obtain ⟨as, rd, na⟩ := Dz.reads I _ _ u (.lst e n ha) rx
    cases rx
    exact str_of_reads rd hs (fun _ => na) quiet (by omega) (fun _ _ z => z) (fun h' u tk kept => ⟨.str _, H, I.kept kept, ⟨u, rfl⟩, q⟩) hz
  | tup e ha =>
    obtain ⟨as, rd, na⟩ := Dz.reads I _ _ u (.tup e ha) rx
    cases rx
    exact str_of_reads rd hs (fun _ => na) quiet (by omega) (fun _ _ z => z) (fun h' u tk kept => ⟨.str _, H, I.kept kept, ⟨u, rfl⟩, q⟩) hz
  | dct e ha =>
    obtain ⟨as, rd, na⟩ := Dz.reads I _ _ u (.dct e ha) rx
    cases rx
    exact str_of_reads rd hs (fun _ => na) quiet (by omega) (fun _ _ z => z) (fun h' u tk kept => ⟨.str _, H, I.kept kept, ⟨u, rfl⟩, q⟩) hz
end
end Az
set_option Elab.async false
set_option linter.all false
set_option maxRecDepth 100000
set_option maxHeartbeats 4000000
set_option pp.maxSteps 400
set_option pp.deepTerms false
/-! A dict of the module's top with text keys, read by a key. -/
namespace Xkd
open PySem PySem.Spec PyProof.Rows L2
/-- D[k]: D a dict that the top has left -/
def tKd (K : PySem.W.Frag) (w : World) (td ty : TE) : TE := fun σ H Q => td σ H fun x H1 => ty σ H1 fun y H2 => ∃ (a : Addr) (es : Array DictEntry) (n : Nat) (k : Str) (u : Value) (z : V), x = .ref a ∧ y = .str k ∧
  K.lookup a = some ⟨.type "dict", none, .dict es n, #[]⟩ ∧ PySem.W.KeysLit w.params es.toList ∧ findBy Value.isStrOf es k = some u ∧ RelV z u ∧ Q z H2
section
variable {X : Cx} {o i : Expr} {pos : Pos} {td ty : TE}
theorem pe_kd (ho : PE X o td) (hi : PE X i ty) (hs : NoSl i) : PE X (.Subscript o i pos) (tKd X.K X.w td ty) := by
  refine ⟨fun pins s σ H Q I h => subD_of PySem.F.slot_dict_getitem.lookup hs (thn (ho.run pins s σ H _ I h) fun u s1 ⟨x, H1, I1, rx, q1⟩ => thn (hi.run pins s1 σ H1 _ I1 q1) fun iv s2 ⟨y, H2, I2, ry, q2⟩ => ?_)⟩
  obtain ⟨a, es, n, k, w', z, ex, ey, hl, hk, hf, rz, q⟩ := q2
  subst ex ey
  obtain rfl : u = Value.ref a := rx
  obtain ⟨t, rfl⟩ := ry
  have mo := PySem.W.mapOf_K (prog := X.prog) (w := X.w) I2.kIn hl hk
  exact ⟨mo.typeIs, wpAny_getItem_of (strKind_is X.prog X.w k t) mo hf ⟨z, H2, I2.tok _, rz, q⟩⟩
end
end Xkd
set_option Elab.async false
set_option linter.all false
set_option maxRecDepth 100000
set_option maxHeartbeats 4000000
set_option pp.maxSteps 400
set_option pp.deepTerms false
/-! head, *rest = a list. -/
namespace Xst
open PySem PySem.Spec PyProof.Rows L2
section
variable {prog : Program} {w : World} {A : Around} {E : Value → Shared → Prop} {s : Shared}
/-- what is unpacked: the first item, and a new list of the others -/
theorem items_star {l : Addr} {x : Value} {its : List Value} {Q : List Value → Shared → Prop} (calm : A.handled = none) (hl : s.heap.IsList l (x :: its).toArray) (hz : its.length ≤ 16000)
    (hQ : ∀ (g : Heap) (tk : Tok), Heap.ExtBut s.heap.objs.size s.heap g → Q [x, .ref g.objs.size] { s with heap := g.push { cls := .type "list", data := .seq its.toArray }, toks := tk }) :
    wpAny (model prog w) A (unpackItems (.ref l) 2 (some 1)) Q E s := by
  have old : l < s.heap.objs.size := by
    obtain ⟨o, e, _⟩ := hl
    exact Heap.lt_size e
  have lne : l ≠ s.heap.objs.size := Nat.ne_of_lt old
  unfold unpackItems
  refine wpAny_bind (show wpAny (model prog w) A (notIterableAtAll (.ref l)) _ E s from ?_)
  unfold notIterableAtAll
  refine wpAny_bind (wpAny_specialOf hl.typeIs PySem.F.slot_list_iter.lookup (wpAny_pure ?_))
  simp only [Bool.false_eq_true, if_false]
  refine wpAny_bind (wpAny_holding (wpAny_pyIter_list hl (wpAny_bind (wpAny_holding (PySem.W.kun_draw lne 1 0 _ _ ⟨_, Heap.get?_push_size _ rfl, rfl, rfl⟩ (hl.push _) (by simp) fun g1 it1 ext1 => ?_)))))
  have hl1 : g1.IsList l (x :: its).toArray := (hl.push _).extBut ext1.extBut lne
  obtain ⟨oi, ei, _⟩ := id it1
  obtain ⟨ol, el, _⟩ := id hl1
  simp only [List.drop_zero, List.take_succ_cons, List.take_zero]
  rw [if_neg (show ¬ ([x].length < 1) from Nat.lt_irrefl 1)]
  have sz : (x :: its).toArray.size ≤ sizeLine := by
    rw [List.size_toArray, List.length_cons]
    have : sizeLine = 16777216 := by decide
    omega
  refine wpAny_bind (wpAny_holding (PySem.W.kun_collect (s := { s with heap := g1 }) (T := "list_iterator") (.inr (.inr (.inl rfl))) (Walks.list (A := A.in1) calm s.heap.objs.size l lne (x :: its).toArray) (fun j u st => st.1.typeIs) (k := 1) (by simp)
    ⟨it1, hl1⟩ (Heap.lt_size ei) (Heap.lt_size el) (fun g2 tk keep => ?_) sz))
  have ext2 : Heap.ExtBut s.heap.objs.size s.heap g2 := fun b o nb e => keep b o nb (ext1.extBut b o nb (Heap.get?_push_of_some _ e))
  simp only [List.drop_succ_cons, List.drop_zero]
  rw [if_neg (show ¬ (its.length < 2 - 1 - 1) by omega)]
  have tk0 : its.take (its.length - (2 - 1 - 1)) = its := List.take_of_length_le (by omega)
  have dr0 : its.drop (its.length - (2 - 1 - 1)) = [] := List.drop_eq_nil_of_le (by omega)
  rw [tk0, dr0]
  refine wpAny_bind (wpAny_newList (wpAny_pure (hQ g2 tk ext2)) ?_)
  have : sizeLine = 16777216 := by decide
  omega
end
/-- head, *rest = a list -/
def gStar (K : PySem.W.Frag) (t : TGs) : TG := fun v σ H Q => ∃ (a : Addr) (x : V) (xs : List V), v = .ref a ∧ SqL K H a (x :: xs) ∧ xs.length ≤ 16000 ∧ ∀ p, H p = none → t [x, .ref p] σ (upd H p (.lst xs)) Q
section
variable {X : Cx} {pos : Pos}
theorem pgs_star {e : Expr} {p : Pos} {t : TG} (h1 : PG X e t) : PGs X [.Starred e p] (gCons t gNil) := by
  refine ⟨fun pins s σ H vs us Q I r h => ?_⟩
  obtain ⟨v, vr, e1, h⟩ := h
  subst e1
  cases r with
  | cons r rr =>
    have hs : (assignEach [.Starred e p] X.env).map (·.2) = assign e X.env :: (assignEach [] X.env).map (·.2) := rfl
    rw [hs]
    exact assignInOrder_cons (thn (h1.run pins s σ H _ _ _ I r h) fun _ s1 ⟨σ1, H1, I1, q1⟩ => pgs_nil.run pins s1 σ1 H1 _ _ Q I1 rr q1)
theorem pg_star {es : List Expr} {k : Nat} {t : TGs} (hc : X.calm = true) (h : PGs X es t) (hn : (assignEach es X.env).length = 2 := by rfl) (hst : (assignEach es X.env).findIdx? (·.1) = some 1 := by rfl) : PG X (.Tuple es k pos) (gStar X.K t) := by
  refine ⟨fun pins s σ H v u Q I r hw => ?_⟩
  obtain ⟨a, x, xs, e1, hq, hl, hw⟩ := hw
  subst e1
  cases r
  obtain ⟨its, rv, pl, hz⟩ := I.list hq
  cases rv with
  | cons rx rr =>
    rw [PyProof.Rows.assign_Tuple]
    refine wpAny_bind (wpAny_standAt ?_)
    unfold unpack
    rw [hn, hst]
    refine wpAny_bind (wpAny_holding (items_star (I.ok.hd hc) pl.isList (by rw [← rr.length]; exact hl) fun g tk ext => ?_))
    have I1 : Inv X pins σ H { s with heap := g, toks := tk } := I.kept (t' := tk) fun b o e => ext b o (Nat.ne_of_lt (Heap.lt_size e)) e
    have fr : H g.objs.size = none := I1.hok.fresh (Nat.le_refl _)
    have xz : xs.length ≤ sizeLine := Nat.le_trans hl (by decide)
    refine h.run pins _ σ _ _ _ Q (I1.laid (t' := tk) (o := .lst xs) (fun b u e => Heap.get?_push_of_some _ e) (Nat.le_refl _) ⟨xz, _, 0, rr, Heap.get?_push_size _ rfl⟩) (.cons rx (.cons (show RelV (.ref g.objs.size) (.ref g.objs.size) from rfl) .nil)) (hw _ fr)
end
end Xst
set_option Elab.async false
set_option linter.all false
set_option maxRecDepth 100000
set_option maxHeartbeats 4000000
set_option pp.maxSteps 400
set_option pp.deepTerms false
/-! Pairs of texts: sorted, and one < the other. -/
namespace Xsp
open PySem PySem.Spec PyProof.Rows L2 Az
abbrev Nm := Str × Str
def NP (n : Nm) : PyData := .tuple [.str n.1, .str n.2]
/-- a pair of texts, where it stands -/
def NA (H : Hp) (v : V) (n : Nm) : Prop := ∃ t : Addr, v = .ref t ∧ H t = some (.tup [.str n.1, .str n.2])
inductive NAs (H : Hp) : List V → List Nm → Prop
  | nil : NAs H [] []
  | cons {v : V} {vs : List V} {n : Nm} {ns : List Nm} : NA H v n → NAs H vs ns → NAs H (v :: vs) (n :: ns)
theorem NA.dz {K : PySem.W.Frag} {H : Hp} {v : V} {n : Nm} (h : NA H v n) : Dz K H v (NP n) := by
  obtain ⟨t, rfl, e⟩ := h
  exact .tup e (.cons (.str _) (.cons (.str _) .nil))
theorem NA.tp {H H' : Hp} {v : V} {n : Nm} (h : NA H v n) (s : ∀ b xs, H b = some (.tup xs) → H' b = some (.tup xs)) : NA H' v n := by
  obtain ⟨t, e, et⟩ := h
  exact ⟨t, e, s _ _ et⟩
theorem NAs.tp {H H' : Hp} (s : ∀ b xs, H b = some (.tup xs) → H' b = some (.tup xs)) : ∀ {vs : List V} {ns : List Nm}, NAs H vs ns → NAs H' vs ns
  | _, _, .nil => .nil
  | _, _, .cons h r => .cons (h.tp s) (NAs.tp s r)
theorem NAs.len {H : Hp} : ∀ {vs : List V} {ns : List Nm}, NAs H vs ns → vs.length = ns.length
  | _, _, .nil => rfl
  | _, _, .cons _ r => congrArg Nat.succ r.len
theorem NAs.snoc {H : Hp} {v : V} {n : Nm} (h2 : NA H v n) : ∀ {vs : List V} {ns : List Nm}, NAs H vs ns → NAs H (vs ++ [v]) (ns ++ [n])
  | _, _, .nil => .cons h2 .nil
  | _, _, .cons h r => .cons h (NAs.snoc h2 r)
theorem NAs.get {H : Hp} : ∀ {vs : List V} {ns : List Nm} {i : Nat} {v : V}, NAs H vs ns → vs[i]? = some v → ∃ n, ns[i]? = some n ∧ NA H v n
  | _, _, _, _, .nil, e => by cases e
  | _, _, 0, _, .cons h _, e => by cases e; exact ⟨_, rfl, h⟩
  | _, _, i + 1, _, .cons _ r, e => NAs.get (i := i) r e
theorem NAs.dz {K : PySem.W.Frag} {H : Hp} : ∀ {vs : List V} {ns : List Nm}, NAs H vs ns → DzAll K H vs (ns.map NP)
  | _, _, .nil => .nil
  | _, _, .cons h r => .cons h.dz r.dz
theorem alike_NP (a b : Nm) : PySem.W.alike (NP a) (NP b) = true := by simp [NP, PySem.W.alike, PySem.W.alikeAll]
theorem depth_NP (a : Nm) : (NP a).depth ≤ 1 := by simp [NP, PyData.depth, PyData.depthAll]
/-- the lesser of two -/
def nlt (a b : Nm) : Bool := PySem.W.dataLt (NP a) (NP b)
def nle (a b : Nm) : Bool := PySem.W.dataLe false NP a b
theorem nle_iff (a b : Nm) : nle a b = !nlt b a := rfl
theorem nlt_eq (a b : Nm) : nlt a b = if a.1 = b.1 then (if a.2 = b.2 then false else decide (a.2.cps.toList < b.2.cps.toList)) else decide (a.1.cps.toList < b.1.cps.toList) := by
  unfold nlt NP
  rw [PySem.W.dataLt_pair (by simp [PySem.W.alike]) (by simp [PySem.W.alike])]
  have l : ∀ x y : Str, PySem.W.dataLt (.str x) (.str y) = decide (x.cps.toList < y.cps.toList) := fun x y => by
    have h := congrFun (congrFun (PySem.W.dataLe_str (fun z : Str => z)) y) x
    rw [PySem.W.dataLe_eq] at h
    simp only [cond_false] at h
    have h2 := PySem.W.not_lt_str y.cps.toList x.cps.toList
    rw [← h2] at h
    exact Bool.not_inj_iff.mp h
  simp only [PyData.eqv, l]
  by_cases h1 : a.1 = b.1
  · by_cases h2 : a.2 = b.2
    · simp [h1, h2]
    · simp [h1, h2]
  · simp [h1]
theorem nle_total : (∀ a b c, nle a b = true → nle b c = true → nle a c = true) ∧ ∀ a b, nle a b = true ∨ nle b a = true := by
  have so := PySem.W.sortLe_total (PyProof.Rows.listOrd PyProof.Rows.itemOrd) false fun x : Nm => PySem.W.keyToks (NP x)
  exact ⟨so.trans, so.total⟩
theorem nlt_of {a b : Nm} (h : nle a b = true) (ne : a ≠ b) : nlt a b = true := by
  rw [nle_iff, nlt_eq] at h
  rw [nlt_eq]
  by_cases h1 : a.1 = b.1
  · rw [if_pos h1]
    rw [if_pos h1.symm] at h
    have h2 : a.2 ≠ b.2 := fun z => ne (Prod.ext h1 z)
    rw [if_neg h2]
    rw [if_neg (Ne.symm h2)] at h
    have h3 : ¬ b.2.cps.toList < a.2.cps.toList := by simpa using h
    refine decide_eq_true (Decidable.byContradiction fun z => h2 ?_)
    exact PySem.W.str_of_cps (List.le_antisymm (List.not_lt.mp h3) (List.not_lt.mp z))
  · rw [if_neg h1]
    rw [if_neg (Ne.symm h1)] at h
    have h3 : ¬ b.1.cps.toList < a.1.cps.toList := by simpa using h
    refine decide_eq_true (Decidable.byContradiction fun z => h1 ?_)
    exact PySem.W.str_of_cps (List.le_antisymm (List.not_lt.mp h3) (List.not_lt.mp z))
/-- rising, none twice -/
def Ris (ns : List Nm) : Prop := ns.Pairwise fun a b => nlt a b = true
theorem sort_ris {ns : List Nm} (nd : ns.Nodup) : Ris (ns.mergeSort nle) := by
  have pw := List.pairwise_mergeSort (le := nle) nle_total.1 (fun a b => Bool.or_eq_true_iff.mpr (nle_total.2 a b)) ns
  have nd2 : (ns.mergeSort nle).Nodup := (List.mergeSort_perm ns nle).nodup_iff.mpr nd
  exact List.Pairwise.imp₂ (fun a b h1 h2 => nlt_of h1 h2) pw nd2
section
variable {X : Cx} {pins : List (Addr × Obj)} {σ : L2.St} {H : Hp} {s : Shared}
theorem each_raw (I : Inv X pins σ H s) : ∀ {vs : List V} {us : List Value} {ns : List Nm}, NAs H vs ns → Vals vs us →
    PySem.W.EachIs (fun u n => NA H (bkV u) n ∧ ∃ t, u = Value.ref t) us ns ∧ PySem.W.EachIs (fun u n => ∃ as, Reads s.heap u (NP n) as) us ns
  | _, _, _, .nil, .nil => ⟨.nil, .nil⟩
  | _, _, _, .cons h r, .cons rv rr => by
    obtain ⟨a, b⟩ := each_raw I r rr
    obtain ⟨t, rfl, et⟩ := id h
    cases (show _ = Value.ref t from rv)
    obtain ⟨as, rd, _⟩ := Dz.reads I _ _ _ (h.dz (K := X.K)) rv
    exact ⟨.cons ⟨⟨t, rfl, et⟩, t, rfl⟩ a, .cons ⟨as, rd⟩ b⟩
theorem each_back : ∀ {us : List Value} {ns : List Nm}, PySem.W.EachIs (fun u n => NA H (bkV u) n ∧ ∃ t, u = Value.ref t) us ns → NAs H (us.map bkV) ns ∧ ∀ u ∈ us, ∃ t, u = Value.ref t
  | _, _, .nil => ⟨.nil, fun _ h => by cases h⟩
  | _, _, .cons h r => by
    obtain ⟨a, b⟩ := each_back r
    exact ⟨.cons h.1 a, fun u hu => by
      rcases List.mem_cons.mp hu with z | z
      · rw [z]; exact h.2
      · exact b u z⟩
/-- sorted(pairs of texts) -/
def rSortN (K : PySem.W.Frag) : List V → Hp → VK → Prop := fun xs H Q => ∃ (a : Addr) (vs : List V) (ns : List Nm), xs = [.ref a] ∧ SqL K H a vs ∧ NAs H vs ns ∧
  ∀ (ws : List V) (p : Addr), NAs H ws (ns.mergeSort nle) → H p = none → Q (.ref p) (upd H p (.lst ws))
theorem cr_sortN {k : Nat} (room : Room k X.A) : CallR X (.builtin "sorted") (rSortN X.K) := by
  intro pins s σ H xs us Q I r h
  obtain ⟨a, vs, ns, rfl, hs, hn, q⟩ := h
  obtain ⟨its, rv, hl, hz⟩ := I.list hs
  rw [Vals.ref1 r]
  obtain ⟨e1, e2⟩ := each_raw I hn rv
  have hu := room.un
  refine PySem.W.sorted_data (enc := NP) hl.isList e1 e2 (PySem.W.AllAlike.of alike_NP) (PySem.W.Sortable.tuples fun b => ⟨_, _, rfl⟩) (by rw [← hn.len]; exact hz) (fun b _ => by have := depth_NP b; omega) fun out lo eo => ?_
  obtain ⟨b1, b2⟩ := each_back eo
  obtain ⟨ep, he'⟩ := PyProof.Rows.sortedAll_at s.heap its (List.toArray out)
  have lz : (out.map bkV).length ≤ sizeLine := by rw [List.length_map, lo, ← hn.len]; exact hz
  exact ⟨.ref _, upd H (s.heap.objs.size + 1) (.lst (out.map bkV)), I.laid (t' := s.toks) (fun _ _ => PyProof.Rows.sortedAll_old) (Nat.le_succ _) ⟨lz, out, ep, bkV_vals b2, by simpa using he'⟩, rfl, q _ _ b1 (I.hok.fresh (Nat.le_succ _))⟩
/-- one < other -/
def rLtN : R2 := fun x y H Q => ∃ a b, NA H x a ∧ NA H y b ∧ Q (.bl (nlt a b)) H
theorem op_ltN {k : Nat} (room : Room k X.A) : OpR X (compareOp .Lt) rLtN := by
  intro pins s σ H x y v u Q I rx ry h
  obtain ⟨a, b, ha, hb, q⟩ := h
  obtain ⟨as, rd, _⟩ := Dz.reads I _ _ _ (ha.dz (K := X.K)) rx
  obtain ⟨bs, re, _⟩ := Dz.reads I _ _ _ (hb.dz (K := X.K)) ry
  have hu := room.un
  have da := depth_NP a
  exact PySem.W.lt_data rd re (alike_NP a b) (by simp [NP]) (by have := Nat.min_le_left (NP a).depth (NP b).depth; omega) ⟨.bl _, H, I, rfl, q⟩
end
end Xsp
set_option Elab.async false
set_option linter.all false
set_option maxRecDepth 100000
set_option maxHeartbeats 4000000
set_option pp.maxSteps 400
set_option pp.deepTerms false
/-! != of two tuples that are equal item by item, own objects among them. -/
namespace GQ
open PySem PySem.SeqAt
section
variable {prog : Program} {w : World} {A : Around} {R : Except Value Flow → Shared → Prop}
theorem tuple_neG (l b : Addr) (xs ys : Array Value) (n m : Nat) (d1 d2 : Option Addr) (sl1 sl2 : Array (Option Value)) (sz : xs.size = ys.size) (J : Nat → Shared → Prop)
    (step : ∀ i (h1 : i < xs.size) (h2 : i < ys.size) s, J i s → wpAny (model prog w) A.in1 (eqBool xs[i] ys[i]) (fun r t => r = true ∧ J (i + 1) t) (fun e t => R (.error e) t) s)
    (last : ∀ s, J xs.size s → R (.ok (.ret (.bool false))) s) {s : Shared} (e1 : s.heap.get? l = some ⟨.type "tuple", d1, .seq xs n, sl1⟩) (e2 : s.heap.get? b = some ⟨.type "tuple", d2, .seq ys m, sl2⟩) (start : J 0 s) :
    wpAny (model prog w) A.in1 (Builtin.«tuple.__ne__» ⟨[.ref l, .ref b], []⟩) (FinOf prog w A R) (fun e t => R (.error e) t) s := by
  have tt := AutoSeq1.sub_tuple_tuple
  have lz : (xs.toList.zip ys.toList).length = xs.size := by simp [sz]
  have start' := start
  obtain ⟨hp, g, d, tk, os⟩ := s
  wp_walk using wpAny_loadPart' e1, wpAny_loadPart' e2, wpAny_forIn_list _ (fun more z t => z.1 = none ∧ ∃ i, more = (xs.toList.zip ys.toList).drop i ∧ i ≤ xs.size ∧ J i t) _
  case turn =>
    rintro ⟨y, x⟩ more z t ⟨zn, i, em, li, hJ⟩
    have lt : i < (xs.toList.zip ys.toList).length := by
      by_cases c : i < (xs.toList.zip ys.toList).length
      · exact c
      · rw [List.drop_of_length_le (by omega)] at em
        cases em
    have g1 : i < xs.size := by omega
    have g2 : i < ys.size := by omega
    rw [List.drop_eq_getElem_cons lt] at em
    injection em with eh et
    obtain rfl : y = xs[i] := by simpa using congrArg Prod.fst eh
    obtain rfl : x = ys[i] := by simpa using congrArg Prod.snd eh
    refine wpAny_bind (wpAny_mono (step i g1 g2 t hJ) (fun r t2 ⟨hr, hJ2⟩ => ?_) fun _ _ z => z)
    subst hr
    wp_walk
    exact ⟨rfl, i + 1, et, g1, hJ2⟩
  case fin =>
    rintro ⟨z1, z2⟩ t ⟨zn, i, em, li, hJ⟩
    simp only at zn
    subst zn
    have ge : xs.size ≤ i := by
      by_cases c : i < (xs.toList.zip ys.toList).length
      · rw [List.drop_eq_getElem_cons c] at em
        cases em
      · omega
    have ie : i = xs.size := Nat.le_antisymm li ge
    subst ie
    have fin := last t hJ
    wp_walk
    simpa [Builtin.Tuple.tupleCompareSizes, sz] using fin
  case h => exact ⟨rfl, 0, rfl, Nat.zero_le _, start'⟩
theorem rcNe_tupG {E : Value → Shared → Prop} {s : Shared} {l b : Addr} {xs ys : Array Value} {Q : Value → Shared → Prop} (sz : xs.size = ys.size) (hu : A.units < cLine) (J : Nat → Shared → Prop) (hl : s.heap.IsTuple l xs) (hb : s.heap.IsTuple b ys)
    (step : ∀ i (h1 : i < xs.size) (h2 : i < ys.size) s, J i s → wpAny (model prog w) A.in1 (eqBool xs[i] ys[i]) (fun r t => r = true ∧ J (i + 1) t) E s) (last : ∀ s, J xs.size s → Q (.bool false) s) (start : J 0 s) :
    wpAny (model prog w) A (richCompare .NotEq (.ref l) (.ref b)) Q E s := by
  obtain ⟨⟨c1, d1, a1, s1⟩, o1, hc1, n1, hd1⟩ := id hl
  obtain ⟨⟨c2, d2, a2, s2⟩, o2, hc2, n2, hd2⟩ := id hb
  simp only at hc1 hd1 hc2 hd2
  subst hc1 hd1 hc2 hd2
  exact wpAny_richCompare_same_room (op := .NotEq) ⟨_, o1, rfl⟩ ⟨_, o2, rfl⟩ F.slot_tuple_ne (call_here F.slot_tuple_ne ⟨_, o1, rfl⟩ F.entry_tuple_ne (F.args_tuple_ne_2 _ _)
    (tuple_neG (R := wants (fun v t => v ≠ .notImplemented ∧ Q v t) E) l b xs ys n1 n2 d1 d2 s1 s2 sz J step (fun t q => ⟨(fun z => nomatch z), last t q⟩) o1 o2 start)) hu
end
end GQ
namespace Xne
open PySem PySem.Spec PyProof.Rows L2
section
variable {X : Cx}
/-- two tuples that are equal item by item are not unlike -/
theorem op_neG {D : Eqv} {n : Nat} (hD : Mon D) (h : EqG X n D) (hr : Room (n + 1) X.A) : OpR X (compareOp .NotEq) (fun x y H Q => DTup X.K D x y H ∧ ∀ H', Ext H H' → Q (.bl false) H') := by
  intro pins s σ H x y v u Q I rx ry hq
  obtain ⟨⟨a, b, xs, ys, rfl, rfl, ha, hb, p⟩, q⟩ := hq
  cases rx
  cases ry
  obtain ⟨its, r, tl, _⟩ := I.tuple ha
  obtain ⟨its2, r2, tl2, _⟩ := I.tuple hb
  show wpAny (model X.prog X.w) X.A (richCompare .NotEq (.ref a) (.ref b)) (EP X pins σ Q) X.xe s
  have sb : Sub X (n + 1) X.A := ⟨hr, rfl⟩
  have sz : its.toArray.size = its2.toArray.size := by
    rw [List.size_toArray, List.size_toArray, ← r.length, ← r2.length]
    exact p.1
  refine GQ.rcNe_tupG sz hr.units0 (fun _ t => LoopI X pins σ H t) tl tl2 (fun i h1 h2 t z => ?_) (fun t z => ?_) ⟨H, I, Ext.rfl'⟩
  · exact turnG hD h sb p r r2 i (by simpa using h1) (by simpa using h2) t z
  · obtain ⟨H', I', e⟩ := z
    exact ⟨.bl false, H', I', rfl, q H' e⟩
end
end Xne
set_option Elab.async false
set_option linter.all false
set_option maxRecDepth 100000
set_option maxHeartbeats 4000000
set_option pp.maxSteps 400
set_option pp.deepTerms false
/-! repr of a tuple that has own objects beside things. -/
namespace Xro
open PySem PySem.Spec PyProof.Rows L2 Az
section
variable {X : Cx} {pins : List (Addr × Obj)} {σ : L2.St} {H : Hp} {s : Shared}
theorem own_run {n : Nat} {f : Addr} {fd : FuncData} {ps : List Str} {sp : Sp} {A : Around} {vs : List V} {us : List Value} {Q : VK} {E : Value → Shared → Prop} (fr : A.frames = some X.stack) (room : Room n A) (F : FnOk X.prog X.w X.K X.mg X.base CX0 n f fd ps sp) (bd : Binds X.K fd ps [])
    (I : Inv X pins σ H s) (rv : Vals vs us) (hsp : sp vs H Q E0) : wpAny (model X.prog X.w) A (call (.ref f) us) (EP X pins σ Q) E s := by
  have en : Env0 X.prog X.w X.K X.mg X.base A X.stack s H := by
    have z := I.env0
    exact ⟨fr, z.mod, z.bs, z.bsz, z.funs, z.frf, z.hok, z.bare⟩
  have hl : vs.length = ps.length := F.len _ _ _ _ hsp
  have b1 := bd s us I.kIn (by simpa [← rv.length] using hl)
  rw [List.append_nil] at b1
  refine wpAny_call (codeAny_mono (F.run A X.stack s H ⟨us, []⟩ us vs _ E0 room en b1 rv hsp) fun r s2 hr => ?_)
  match r, hr with
  | .error z, hr => exact False.elim hr
  | .ok .next, hr => exact False.elim hr
  | .ok .brk, hr => exact False.elim hr
  | .ok .cont, hr => exact False.elim hr
  | .ok (.ret u), hr => exact I.after hr
/-- an own object that shows itself as y, and leaves all as it is -/
structure Shows (X : Cx) (k : Nat) (H : Hp) (a : Addr) (y : Str) : Prop where
  ex : ∃ (C dx : Addr) (fs : List (Str × V)) (n : Nat) (f : Addr) (fd : FuncData) (ps : List Str) (sp : Sp), H a = some (.ins C dx fs) ∧ PySem.W.findIn X.K (.ref C) "__repr__" = some (some (.ref f)) ∧ PySem.W.isFn X.K (.ref f) = true ∧
    n ≤ k ∧ FnOk X.prog X.w X.K X.mg X.base CX0 n f fd ps sp ∧ Binds X.K fd ps [] ∧ sp [.ref a] H (fun z H' => z = .str y ∧ H' = H) E0
/-- its text, asked below a tuple's showing -/
theorem own_under {k base : Nat} {A : Around} {a : Addr} {y : Str} {Q : Str → Shared → Prop} {E : Value → Shared → Prop} (fr : A.frames = some X.stack) (room : Room k A) (I : Inv X pins σ H s) (sh : Shows X k H a y) (hz : base ≤ sizeLine)
    (q : ∀ s', Inv X pins σ H s' → Q y s') : wpAny (model X.prog X.w) A (pyReprUnder base (.ref a)) Q E s := by
  obtain ⟨C, dx, fs, n, f, fd, ps, sp, ha, hs, hf, nk, F, bd, hsp⟩ := sh.ex
  obtain ⟨mA, J, _⟩ := ins_get I.hok ha
  obtain ⟨oA, J, _⟩ := J.look
  refine wpAny_pyReprUnder_ref hz ?_
  unfold pyReprObjUnder pyReprObjBy
  refine wpAny_bind (wpAny_cRoomFor (room.mono (Nat.zero_le _)).units0 ?_)
  refine wpAny_bind (wpAny_bind (J.type.here ((PySem.W.looks_findIn I.kIn hs).here ?_)))
  -- bound, called
  have call_ : wpAny (model X.prog X.w) A (callSpecialIfBoundBy? (fun g first => match reprUnder? g, first with
      | some twin, [self] => call twin [self, rawInt base]
      | _, _ => call g (first ++ [])) (.ref a) (Str.ofString "__repr__")) (fun r s' => ∃ t, r = some (.str y t) ∧ Inv X pins σ H s') E s := by
    simp only [callSpecialIfBoundBy?, bindSpecialIfBound?]
    refine wpAny_holding (wpAny_bind (wpAny_bind (wpAny_bind (J.type.here ((PySem.W.looks_findIn I.kIn hs).here ?_)))))
    refine wpAny_bind (wpAny_askSetting (wpAny_ite ?_))
    have fin : wpAny (model X.prog X.w) A (call (.ref f) ([.ref a] ++ []) >>= fun v => pure (some v)) (fun r s' => ∃ t, r = some (.str y t) ∧ Inv X pins σ H s') E s := by
      refine wpAny_bind (wpAny_mono (own_run (us := [.ref a]) (vs := [.ref a]) fr (room.mono nk) F bd I (.cons rfl .nil) hsp) (fun v s' hv => ?_) fun _ _ z => z)
      obtain ⟨v', H', I', rv, rfl, rfl⟩ := hv
      obtain ⟨tk, rfl⟩ := rv
      exact wpAny_pure ⟨tk, rfl, I'⟩
    split
    · exact wpAny_bind ((PySem.W.bind_fn I.kIn _ (beq_iff_eq.mp hf)).here (wpAny_pure (by exact fin)))
    · exact wpAny_tryCatch (wpAny_bind ((PySem.W.bind_fn I.kIn _ (beq_iff_eq.mp hf)).here (wpAny_pure (by exact fin))))
  refine wpAny_bind (wpAny_mono call_ (fun r s' hr => ?_) fun _ _ z => z)
  obtain ⟨t, rfl, I'⟩ := hr
  exact wpAny_bind (wpAny_isInstance (T := "str") (b := true) rfl isSubtype_str_str (wpAny_pure ⟨y, t, rfl, q s' I'⟩))
/-- what an item is shown as -/
inductive It (X : Cx) (k : Nat) (H : Hp) : V → Str → Prop
  | dat {v : V} {d : PyData} (h : Dz X.K H v d) (hs : d.showable = true) (hd : d.depth ≤ 50) (hz : d.shown.length ≤ sizeLine) : It X k H v d.shown
  | own {a : Addr} {y : Str} (h : Shows X k H a y) : It X k H (.ref a) y
inductive ItL (X : Cx) (k : Nat) (H : Hp) : List V → List Str → Prop
  | nil : ItL X k H [] []
  | cons {v : V} {vs : List V} {t : Str} {ts : List Str} (h : It X k H v t) (r : ItL X k H vs ts) : ItL X k H (v :: vs) (t :: ts)
theorem ItL.len {k : Nat} : ∀ {vs : List V} {ts : List Str}, ItL X k H vs ts → vs.length = ts.length
  | _, _, .nil => rfl
  | _, _, .cons _ r => congrArg Nat.succ r.len
theorem not_read {h : Heap} {a : Addr} {o : Obj} {C : Addr} {d : PyData} {as : List Addr} (e : h.get? a = some o) (c : o.cls = .ref C) : ¬ Reads h (.ref a) d as := fun r => by
  cases r with
  | list e2 c2 _ _ => rw [e] at e2; cases e2; rw [c] at c2; cases c2
  | tuple e2 c2 _ _ => rw [e] at e2; cases e2; rw [c] at c2; cases c2
  | dict e2 c2 _ _ _ => rw [e] at e2; cases e2; rw [c] at c2; cases c2
theorem reads_mem {h : Heap} : ∀ {vs : List Value} {ds : List PyData} {as : List Addr} {v : Value}, ReadsAll h vs ds as → v ∈ vs → ∃ d as', Reads h v d as'
  | _, _, _, _, .cons r1 r2, m => by
    rcases List.mem_cons.mp m with z | z
    · rw [z]; exact ⟨_, _, r1⟩
    · exact reads_mem r2 z
/-- a tuple with an own object is no thing -/
theorem tup_not {t a C dx : Addr} {fs : List (Str × V)} {vs : List V} {d : PyData} {as : List Addr} (I : Inv X pins σ H s) (et : H t = some (.tup vs)) (m : V.ref a ∈ vs) (ha : H a = some (.ins C dx fs)) : ¬ Reads s.heap (.ref t) d as := fun r => by
  obtain ⟨_, its, rv, o, e1, e2, n, e3⟩ := (show ObjOk X.prog X.w H s.heap t (.tup vs) from I.hok t _ et)
  obtain ⟨mA, J, _⟩ := ins_get I.hok ha
  obtain ⟨oA, J, _⟩ := J.look
  obtain ⟨i, hi⟩ := List.getElem?_of_mem m
  obtain ⟨u, hu, ru⟩ := rv.get hi
  cases (show u = Value.ref a from ru)
  have mu := List.mem_of_getElem? hu
  cases r with
  | list f1 f2 f3 f4 => rw [e1] at f1; cases f1; rw [e2] at f2; exact absurd f2 (by decide)
  | dict f1 f2 f3 f4 f5 => rw [e1] at f1; cases f1; rw [e2] at f2; exact absurd f2 (by decide)
  | tuple f1 f2 f3 f4 =>
    rw [e1] at f1
    cases f1
    rw [e3] at f3
    cases f3
    obtain ⟨d2, as2, r2⟩ := reads_mem f4 (by simpa using mu)
    exact not_read J.at_ J.cls r2
theorem under_depth {A : Around} {args : Args} : (A.under (.builtin "tuple.__repr__" args)).depth ≤ A.depth + 1 := by
  first | exact Nat.le_refl _ | exact Nat.le_succ _ | simp [Around.under, Code.weight, Code.isCreation, Code.isGuard, Code.isCaller, Code.frames, Code.isFrame, guardIds]
theorem under_room {k : Nat} {A : Around} {args : Args} (r : Room (k + 1) A) : Room k (A.under (.builtin "tuple.__repr__" args)) :=
  ⟨r.hd, by have := r.dp; have := under_depth (A := A) (args := args); omega, by rw [units_under_tuple_repr]; have := r.un; omega⟩
theorem under_frames {A : Around} {args : Args} : (A.under (.builtin "tuple.__repr__" args)).frames = A.frames := by
  first | rfl | simp [Around.under, Code.frames, Code.isFrame]
/-- the items' texts, one behind another -/
theorem items {k : Nat} {A : Around} {t a C dx : Addr} {fs : List (Str × V)} {ws : List V} {E : Value → Shared → Prop} (fr : A.frames = some X.stack) (room : Room k A) (hg : A.guards = some [.builtin "tuple.__repr__" ⟨[.ref t], []⟩])
    (et : H t = some (.tup ws)) (m : V.ref a ∈ ws) (ha : H a = some (.ins C dx fs)) : ∀ (vs : List V) (us : List Value) (ts : List Str) (acc : Array Str) (n : Nat) (s : Shared) (Q : (Array Str × Nat) → Shared → Prop),
    ItL X k H vs ts → Vals vs us → Inv X pins σ H s → n + piled ts ≤ sizeLine → (∀ s', Inv X pins σ H s' → Q ⟨acc ++ ts.toArray, n + piled ts⟩ s') →
    wpAny (model X.prog X.w) A (forIn us (⟨acc, n⟩ : (Array Str × Nat)) tupBody) Q E s := by
  intro vs
  induction vs with
  | nil =>
    intro us ts acc n s Q hT rv I _ q
    cases hT
    cases rv
    have q0 := q s I
    simp only [List.forIn_nil]
    exact wpAny_pure (by simpa [piled] using q0)
  | cons v vs ih =>
    intro us ts acc n s Q hT rv I hn q
    cases hT with
    | @cons _ _ y ts' hx hl =>
      cases rv with
      | @cons _ u _ us' ru rr =>
        rw [piled_cons] at hn
        rw [List.forIn_cons]
        have rest : ∀ s', Inv X pins σ H s' → wpAny (model X.prog X.w) A (forIn us' (⟨acc.push y, n + (y.length + 2)⟩ : (Array Str × Nat)) tupBody) Q E s' := fun s' I' => by
          refine ih us' ts' (acc.push y) (n + (y.length + 2)) s' Q hl rr I' (by omega) fun s2 I2 => ?_
          have h1 := q s2 I2
          have e : n + piled (y :: ts') = n + (y.length + 2) + piled ts' := by rw [piled_cons]; omega
          rw [e] at h1
          simpa using h1
        cases hx with
        | own sh =>
          cases (show u = Value.ref _ from ru)
          exact wpAny_bind (wpAny_bind (own_under fr room I sh (by omega) fun s' I' => wpAny_pure (rest s' I')))
        | @dat _ d h hs hd hz =>
          obtain ⟨as, rd, na⟩ := Dz.reads I _ _ u h ru
          obtain ⟨bs, rb, rk⟩ := ReprK.of_reads (prog := X.prog) (w := X.w) rd hs (fun _ => na) hz
          have cl : ∀ b ∈ bs, Clear [.builtin "tuple.__repr__" ⟨[.ref t], []⟩] b := fun b hb => (Clear.nil b).cons fun e => by
            obtain ⟨d2, as2, r2, _⟩ := rb b hb
            rw [← e] at r2
            exact tup_not I et m ha r2
          refine wpAny_bind (wpAny_bind (rk (n + 1) (by omega) A _ _ s _ hg cl (by have := room.un; omega) (fun _ _ e => e) fun h' tk kept => wpAny_pure ?_))
          exact rest _ (I.kept kept)
/-- repr of a tuple that has an own object -/
def rReprT (X : Cx) (k : Nat) : List V → Hp → VK → Prop := fun xs H Q => ∃ (t a C dx : Addr) (fs : List (Str × V)) (vs : List V) (ts : List Str), xs = [.ref t] ∧ H t = some (.tup vs) ∧ V.ref a ∈ vs ∧ H a = some (.ins C dx fs) ∧ ItL X k H vs ts ∧
  (tupleText ts).length ≤ sizeLine ∧ Q (.str (tupleText ts)) H
theorem cr_reprT {k : Nat} (quiet : X.A.guards = some []) (room : Room (k + 2) X.A) : CallR X (.builtin "repr") (rReprT X k) := by
  intro pins s σ H xs us Q I r h
  obtain ⟨t, a, C, dx, fs, vs, ts, rfl, et, m, ha, hT, hz, q⟩ := h
  obtain ⟨u, rfl, rx⟩ := vals1 r
  cases rx
  obtain ⟨_, its, rv, o, e1, e2, n, e3⟩ := (show ObjOk X.prog X.w H s.heap t (.tup vs) from I.hok t _ et)
  have hTy : s.TypeIs (.ref t) "tuple" := ⟨o, e1, e2⟩
  have hu := room.un
  refine call_repr_slot (by omega) hTy F.slot_tuple_repr ?_
  refine wpAny_call (codeAny_call_builtin_own (Code.quiet_builtin _ (by decide +kernel)) F.entry_tuple_repr (F.slot_tuple_repr.check _ _ _ _ _ _ _ _ hTy (F.args_tuple_repr_1 _) ?_))
  have hg1 : X.A.in1.guards = some [] := quiet
  have hp := piled_le_tupleText ts
  have hl : ts.length = its.length := by rw [← hT.len]; exact rv.length
  show wpOwn (model X.prog X.w) X.A.in1 (.builtin "tuple.__repr__" ⟨[.ref t], []⟩) (Builtin.tupleReprAt 0 ⟨[.ref t], []⟩) _ _ s
  rw [tuple_repr_tree, tupleReprUnderWay_eq]
  refine wpOwn_bind (wpOwn_stackTailAny hg1 (tupGuardF_off _) (tupGuardF_pos _) ?_)
  refine wpOwn_of_wpAny ?_
  show wpAny _ _ (tupleReprRest 0 (.ref t)) _ _ s
  unfold tupleReprRest Builtin.Tuple.tupleItemsOf
  refine wpAny_bind (wpAny_bind (wpAny_seqItems e1 e3 (wpAny_pure ?_)))
  rw [← Array.forIn_toList]
  refine wpAny_bind (items (k := k) (pins := pins) (σ := σ) (H := H) (t := t) (a := a) (ws := vs) ?_ (under_room room.in1) (guards_under_guard (isGuard_tuple_repr _) hg1) et m ha vs _ ts #[] 0 s _ hT (by simpa using rv) I (by omega) fun s' I' => ?_)
  · rw [under_frames]
    exact I.ok.frames
  refine wpAny_bind (wpAny_mkStr (wpAny_pure ?_) (by simpa [tupleText, hl] using hz))
  have tx : (Str.ofString "(" ++ (Str.ofString ", ").join ((#[] : Array Str) ++ ts.toArray, 0 + piled ts).fst.toList ++ Str.ofString (if (its.toArray.size == 1) = true then ",)" else ")")) = tupleText ts := by
    simp [tupleText, hl]
  rw [tx]
  exact ⟨tupleText ts, _, rfl, .str (tupleText ts), H, I'.tok _, ⟨_, rfl⟩, q⟩
end
end Xro
set_option Elab.async false
set_option linter.all false
set_option maxRecDepth 100000
set_option maxHeartbeats 4000000
set_option pp.maxSteps 400
set_option pp.deepTerms false
/-! Tuples cut, put together, turned about, as lists, whatever the cases; a sign many times. -/
namespace Xtu
open PySem PySem.Spec PyProof.Rows L2
theorem same_upd {H : Hp} {p : Addr} {o : HO} (h : H p = none) : Same H (upd H p o) := fun b x e => by
  rw [upd_ne (ne_of_none e h)]
  exact e
section
variable {X : Cx}
def rSlU : V → Option Int → Option Int → Hp → VK → Prop := fun x lo hi H Q => ∃ a xs, x = .ref a ∧ H a = some (.tup xs) ∧ ∀ p H', L2.Same H H' → H' p = some (.tup (cutV xs lo hi)) → Q (.ref p) H'
theorem sl_tupU : SlR X rSlU := by
  intro pins s σ H x v vl vu lo hi sl Q I rx hs pl pu h
  obtain ⟨a, xs, rfl, e, q⟩ := h
  refine sl_tupA pins s σ H _ v vl vu lo hi sl Q I rx hs pl pu ⟨a, xs, rfl, SqT.of e, fun w => q a H (Same.refl H) ?_, fun _ p np => q p _ (same_upd np) upd_same⟩
  rw [e]
  unfold cutV
  rw [w.1, w.2, List.drop_zero, Nat.sub_zero, List.take_length]
def rCatU : R2 := fun x y H Q => ∃ a b xs ys, x = .ref a ∧ y = .ref b ∧ H a = some (.tup xs) ∧ H b = some (.tup ys) ∧ xs.length + ys.length ≤ sizeLine ∧ ∀ p H', L2.Same H H' → H' p = some (.tup (xs ++ ys)) → Q (.ref p) H'
theorem op_catU : OpR X (binaryOp .Add) rCatU := by
  intro pins s σ H x y v u Q I rx ry h
  obtain ⟨a, b, xs, ys, rfl, rfl, ea, eb, hz, q⟩ := h
  refine op_catA pins s σ H _ _ v u Q I rx ry ⟨a, b, xs, ys, rfl, rfl, SqT.of ea, SqT.of eb, hz, fun z => q b H (Same.refl H) ?_, fun _ z => q a H (Same.refl H) ?_, fun _ _ p np => q p _ (same_upd np) upd_same⟩
  · rw [z]; exact eb
  · rw [z, List.append_nil]; exact ea
end
section
variable {prog : Program} {w : World} {A : Around} {E : Value → Shared → Prop} {s : Shared}
theorem turnN {sl : Addr} {u : Tok} {n : Nat} {Q : Int × Int × Nat → Shared → Prop} (hs : s.heap.IsSliceOf sl .none .none (.int (-1) u)) (h : Q ((n : Int) - 1, -1, n) s) : wpAny (model prog w) A (Builtin.Slice.sliceApplied (.ref sl) (pure (n : Int))) Q E s := by
  obtain ⟨os, a1, a2, a3⟩ := id hs
  unfold Builtin.Slice.sliceApplied Builtin.Slice.sliceFields
  refine wpAny_bind (wpAny_bind (wpAny_field a1 a3 (x := .none) rfl (wpAny_bind (wpAny_field a1 a3 (x := .none) rfl (wpAny_bind (wpAny_field a1 a3 (x := .int (-1) u) rfl (wpAny_pure ?_)))))))
  refine wpAny_bind (slicePart_int ?_)
  show wpAny _ _ (if ((-1 : Int) == 0) = true then _ else _) _ _ s
  rw [if_neg (by decide)]
  have pl : Builtin.Slice.slicePlaces ((n : Int) - 1) (-1) (-1) = n := by
    unfold Builtin.Slice.slicePlaces
    have h1 : ¬ ((-1 : Int) > 0) := by decide
    simp only [h1, if_false, show (- -1 : Int) = 1 by decide, Int.ediv_one]
    split <;> omega
  refine wpAny_bind (slicePart_none (wpAny_bind (slicePart_none (wpAny_bind (wpAny_pure ?_)))))
  show wpAny _ _ (pure ((n : Int) - 1, (-1 : Int), Builtin.Slice.slicePlaces ((n : Int) - 1) (-1) (-1))) _ _ s
  rw [pl]
  exact wpAny_pure h
theorem fm_congr {α β : Type} {f g : α → Option β} : ∀ l : List α, (∀ m ∈ l, f m = g m) → l.filterMap f = l.filterMap g
  | [], _ => rfl
  | a :: r, h => by
    rw [List.filterMap_cons, List.filterMap_cons, h a List.mem_cons_self, fm_congr r fun m hm => h m (List.mem_cons_of_mem _ hm)]
theorem turn_all (xs : Array Value) : ((List.range xs.size).filterMap fun (m : Nat) => xs[((xs.size : Int) - 1 + (m : Int) * -1).toNat]?).toArray = xs.toList.reverse.toArray := by
  have e : ((List.range xs.size).filterMap fun (m : Nat) => xs[((xs.size : Int) - 1 + (m : Int) * -1).toNat]?) = ((List.range xs.size).map fun k => xs.size - 1 - k).filterMap (xs[·]?) := by
    rw [List.filterMap_map]
    refine fm_congr _ fun m hm => ?_
    have := List.mem_range.mp hm
    show xs[((xs.size : Int) - 1 + (m : Int) * -1).toNat]? = xs[xs.size - 1 - m]?
    congr 1
    omega
  rw [e, PySem.W.krv_range, List.filterMap_reverse, PySem.W.krv_all]
theorem itemN {t sl : Addr} {items : Array Value} {u : Tok} {Q : Value → Shared → Prop} (ht : IsTup s.heap t items) (hs : s.heap.IsSliceOf sl .none .none (.int (-1) u)) (hz : items.size ≤ sizeLine)
    (h : Q (.ref s.heap.objs.size) { s with heap := s.heap.push { cls := .type "tuple", data := .seq items.toList.reverse.toArray } }) : wpAny (model prog w) A (getItem (.ref t) (.ref sl)) Q E s := by
  have fits : sizeOk (.seq items.toList.reverse.toArray) := by
    show items.toList.reverse.toArray.size ≤ sizeLine
    rw [List.size_toArray, List.length_reverse, Array.length_toList]
    exact hz
  obtain ⟨os, a1, a2, a3⟩ := id hs
  have ty : s.TypeIs (.ref sl) "slice" := ⟨os, a1, a2⟩
  unfold getItem; try with_reducible refine wpAny_holding ?_
  (first | refine wpAny_bind (wpAny_pure ?_) | skip); refine wpAny_bind (wpAny_sequenceKey ht.typeIs (by decide) ?_)
  refine wpAny_bind (wpAny_callSpecial?_slot (name := Str.ofString "__getitem__") ht.typeIs PyProof.Rows.slot_tuple_getitem (wpAny_call_entry PyProof.Rows.slot_tuple_getitem ht.typeIs entry_tuple_getitem ?_ (args_tuple_getitem _ _)))
  show wpAny _ _ (Builtin.Tuple.tupleItemsOf (.ref t) >>= _) _ _ s; refine wpAny_bind (tupleItemsOf_ ht ?_)
  refine wpAny_bind (wpAny_typeOf ty ?_); rw [if_pos (by decide)]
  refine wpAny_bind (turnN hs ?_)
  show wpAny _ _ (if (((items.size : Int) - 1) == 0 && (-1 : Int) == 1 && (items.size == items.size)) = true then _ else _) _ _ s
  rw [if_neg (by simp), turn_all]
  (first
    | exact wpAny_bind (m := Builtin.Tuple.tupleExact _) (wpAny_newObj_type (wpAny_pure ⟨_, rfl, wpAny_pure h⟩) fits)
    | exact wpAny_bind (m := Builtin.Tuple.tupleExact _) (wpAny_newObj_type (wpAny_bind (wpAny_pure (wpAny_pure ⟨_, rfl, wpAny_pure h⟩))) fits)
    | exact wpAny_bind (wpAny_bind (m := Builtin.Tuple.tupleExact _) (wpAny_newObj_type (wpAny_pure (wpAny_pure ⟨_, rfl, wpAny_pure h⟩)) fits)))
end
section
variable {X : Cx}
def tRevN (K : PySem.W.Frag) (te : TE) : TE := fun σ H Q => te σ H fun x H1 => ∃ (a : Addr) (xs : List V), x = .ref a ∧ H1 a = some (.tup xs) ∧ ∀ p H', L2.Same H1 H' → H' p = some (.tup xs.reverse) → Q (.ref p) H'
theorem pe_revN {e : Expr} {te : TE} {k : Nat} {p1 p2 p3 pos : Pos} (he : PE X e te) : PE X (.Subscript e (.Slice none none (some (.UnaryOp .USub (.Constant (.int 1) k p1) p2)) p3) pos) (tRevN X.K te) := by
  refine ⟨fun pins s σ H Q I h => Subscript_ (thn (he.run pins s σ H _ I h) fun v s1 ⟨x, H1, I1, r1, a, xs, ex, hx, q⟩ => ?_)⟩
  subst ex; cases r1
  have hst : PO X (some (.UnaryOp .USub (.Constant (.int 1) k p1) p2)) (tPart (tUn (rU fun i => .int (-i)) (tC (.int 1)))) := po_some (pe_un un_neg pe_int)
  refine wpAny_Slice (thn (po_none.run pins s1 σ H1 (fun o G => o = none ∧ G = H1) I1 ⟨rfl, rfl⟩) fun vl s2 ⟨l, G, I2, pl, el, e2⟩ => ?_)
  subst el e2
  refine thn (po_none.run pins s2 σ G (fun o G2 => o = none ∧ G2 = G) I2 ⟨rfl, rfl⟩) fun vu s3 ⟨u, G2, I3, pu, eu, e3⟩ => ?_
  subst eu e3
  refine thn (hst.run pins s3 σ G2 (fun o G3 => o = some (-1) ∧ G3 = G2) I3 ⟨1, rfl, -1, rfl, rfl, rfl⟩) fun vs s4 ⟨o, G3, I4, ps, eo, e4⟩ => ?_
  subst eo e4
  cases pl; cases pu
  cases ps with
  | int _ tk =>
  have I5 : Inv X pins σ G3 { s4 with heap := s4.heap.push { cls := .type "slice", data := .fields #[.none, .none, .int (-1) tk] } } := I4.kept (t' := s4.toks) fun b ob q => Heap.get?_push_of_some _ q
  obtain ⟨its, r, ht, hz⟩ := I5.tuple (SqT.of hx)
  have hlen := r.length
  show wpAny (model X.prog X.w) X.A (subscriptTail e (.Slice none none (some (.UnaryOp .USub (.Constant (.int 1) k p1) p2)) p3) (.ref a) (.ref s4.heap.objs.size)) (EP X pins σ Q) X.xe { s4 with heap := s4.heap.push { cls := .type "slice", data := .fields #[.none, .none, .int (-1) tk] } }
  refine tail_any (ops := [.ref a, .ref s4.heap.objs.size]) ht.typeIs PyProof.Rows.slot_tuple_getitem.lookup ?_ (by with_unfolding_all rfl)
  refine itemN ht (Heap.IsSliceOf.new _ _ _ _) (by rw [List.size_toArray]; omega) ?_
  have nw := I5.hok.fresh (Nat.le_refl _)
  refine ⟨.ref _, _, I5.laid (t' := s4.toks) (o := .tup xs.reverse) (fun b ob q => Heap.get?_push_of_some _ q) (Nat.le_refl _) ?_, rfl, q _ _ (same_upd nw) upd_same⟩
  exact ⟨by rw [List.length_reverse]; exact hz, _, r.reverse, IsTup.new _ _⟩
/-- a list of a tuple's things, new -/
theorem cr_listT : CallR X (.type "list") (fun xs H Q => ∃ p ys, xs = [.ref p] ∧ SqT X.K H p ys ∧ ∀ l, H l = none → l ≠ sysModules → Q (.ref l) (upd H l (.lst ys))) := by
  intro pins s σ H xs us Q I r h
  obtain ⟨p, ys, rfl, hq, q⟩ := h
  obtain ⟨u, rfl, rx⟩ := vals1 r; cases rx
  obtain ⟨its, r', ⟨o, ho, hc, n, hd⟩, hz⟩ := I.tuple hq
  have hlen := r'.length
  exact call_list_seq p (.inr rfl) ho hc hd (fun h' c' kp e => ⟨.ref s.heap.objs.size, _, I.laid (t' := s.toks) kp (Nat.le_refl _) (show ObjOk X.prog X.w _ h' _ (.lst ys) from ⟨hz, its, c', r', e⟩), rfl, q _ (I.hok.fresh (Nat.le_refl _)) (Nat.ne_of_gt I.big)⟩) (by simp only [List.size_toArray]; omega)
end
section
variable {X : Cx}
/-- "x" * 41 -/
theorem op_x41 : OpR X (binaryOp .Mult) (fun x y H Q => x = .str "x" ∧ y = .int 41 ∧ ∀ z : Str, z.length = 41 → (∀ c ∈ z.cps.toList, c = 120) → Q (.str z) H) := by
  intro pins s σ H x y v u Q I rx ry h
  obtain ⟨rfl, rfl, q⟩ := h
  obtain ⟨t, rfl⟩ := rx
  obtain ⟨t2, rfl⟩ := ry
  refine PySem.P.mul_str (by decide) (fun _ _ => by decide +kernel) (fun _ _ => by decide +kernel) ⟨by decide +kernel, .str ⟨(List.replicate 41 ("x" : Str).cps).foldl (· ++ ·) #[]⟩, H, I.tok _, ⟨_, rfl⟩, q _ (by decide +kernel) (by decide +kernel)⟩
end
end Xtu
set_option Elab.async false
set_option linter.all false
set_option maxRecDepth 100000
set_option maxHeartbeats 4000000
set_option pp.maxSteps 400
set_option pp.deepTerms false
/-! text * int, of any text and any small number from nought on -/
namespace Xrep
open PySem PySem.Spec PyProof.Rows L2
/-- a text so many times -/
def rep (z : Str) (n : Nat) : Str := ⟨(List.replicate n z.cps.toList).flatten.toArray⟩
theorem rep_list (z : Str) (n : Nat) : (rep z n).cps.toList = (List.replicate n z.cps.toList).flatten := by
  unfold rep
  rw [List.toList_toArray]
theorem rep_len (z : Str) (n : Nat) : (rep z n).length = n * z.length := by
  show ((List.replicate n z.cps.toList).flatten.toArray).size = _
  rw [List.size_toArray, List.length_flatten, List.map_replicate, List.sum_replicate_nat]
  rfl
theorem fold_app : ∀ (xs : List (Array Nat)) (a : Array Nat), (xs.foldl (· ++ ·) a).toList = a.toList ++ (xs.map (·.toList)).flatten
  | [], a => by simp
  | x :: r, a => by
    rw [List.foldl_cons, fold_app r (a ++ x), Array.toList_append, List.map_cons, List.flatten_cons, List.append_assoc]
theorem fold_rep (z : Str) (n : Nat) : (⟨(List.replicate n z.cps).foldl (· ++ ·) #[]⟩ : Str) = rep z n := by
  have e := fold_app (List.replicate n z.cps) #[]
  rw [List.nil_append, List.map_replicate] at e
  unfold rep
  rw [← e]
section
variable {X : Cx}
theorem op_rep : OpR X (binaryOp .Mult) (fun x y H Q => ∃ (z : Str) (n : Nat), x = .str z ∧ y = .int (n : Nat) ∧ n ≤ 1000 ∧ z.length ≤ 1000 ∧ Q (.str (rep z n)) H) := by
  intro pins s σ H x y v u Q I rx ry h
  obtain ⟨z, n, rfl, rfl, hn, hz, q⟩ := h
  obtain ⟨t, rfl⟩ := rx
  obtain ⟨t2, rfl⟩ := ry
  have big : z.length * n ≤ 1000000 := Nat.le_trans (Nat.mul_le_mul hz hn) (by decide)
  have r0 : (decide (((n : Nat) : Int) < -(2 ^ 63 : Int)) || decide (((n : Nat) : Int) ≥ 2 ^ 63)) = false := by
    rw [decide_eq_false (show ¬ ((n : Nat) : Int) < -(2 ^ 63 : Int) by omega), decide_eq_false (show ¬ ((n : Nat) : Int) ≥ 2 ^ 63 by omega)]
    rfl
  have tl : Builtin.Str.tooLong (z.length * ((n : Nat) : Int).toNat) = false := by
    show decide (z.length * n > sizeLine) = false
    have : sizeLine = 16777216 := by decide
    exact decide_eq_false (by omega)
  refine PySem.P.mul_str r0 (fun h1 _ => ?_) (fun _ _ => tl) ?_
  · have p : (1 : Int) ≤ (n : Int) := by omega
    have d : (1000 : Int) ≤ (2 ^ 63 - 1) / (n : Int) := by
      refine Int.le_ediv_of_mul_le (by omega) ?_
      have : (1000 : Int) * (n : Int) ≤ 1000000 := by omega
      omega
    omega
  · by_cases h1 : ((n : Nat) : Int) < 1
    · rw [if_pos h1]
      have n0 : n = 0 := by omega
      subst n0
      exact ⟨by decide +kernel, .str Str.empty, H, I.tok _, ⟨_, rfl⟩, q⟩
    · rw [if_neg h1]
      by_cases h2 : (((n : Nat) : Int) == 1 || z.length == 0) = true
      · rw [if_pos h2]
        have e : z = rep z n := by
          rw [Bool.or_eq_true, beq_iff_eq, beq_iff_eq] at h2
          obtain ⟨c⟩ := z
          unfold rep
          rcases h2 with h2 | h2
          · have n1 : n = 1 := by omega
            subst n1
            simp
          · have ce : c = #[] := Array.eq_empty_of_size_eq_zero h2
            subst ce
            simp
        rw [← e] at q
        exact ⟨.str z, H, I, ⟨_, rfl⟩, q⟩
      · rw [if_neg h2]
        have ft : (rep z n).length ≤ sizeLine := by
          rw [rep_len]
          have : sizeLine = 16777216 := by decide
          have : n * z.length = z.length * n := Nat.mul_comm _ _
          omega
        rw [show ((n : Nat) : Int).toNat = n from rfl, fold_rep]
        exact ⟨ft, .str _, H, I.tok _, ⟨_, rfl⟩, q⟩
end
end Xrep
set_option Elab.async false
set_option linter.all false
set_option maxRecDepth 100000
set_option maxHeartbeats 4000000
set_option pp.maxSteps 400
set_option pp.deepTerms false
/-! repr of tuples that have own objects, at any depth. -/
namespace Xrn
open PySem PySem.Spec PyProof.Rows L2 Az Xro
section
variable {X : Cx} {pins : List (Addr × Obj)} {σ : L2.St} {H : Hp} {s : Shared}
/-- where no thing stands: an own object, or a tuple with one in it -/
inductive ND (H : Hp) : Addr → Prop
  | ins {a C dx : Addr} {fs : List (Str × V)} (h : H a = some (.ins C dx fs)) : ND H a
  | tup {t a : Addr} {vs : List V} (h : H t = some (.tup vs)) (m : V.ref a ∈ vs) (n : ND H a) : ND H t
theorem ND.no (I : Inv X pins σ H s) {t : Addr} (n : ND H t) : ∀ d as, ¬ Reads s.heap (.ref t) d as := by
  induction n with
  | ins ha =>
    intro d as
    obtain ⟨mA, J, _⟩ := ins_get I.hok ha
    obtain ⟨oA, J, _⟩ := J.look
    exact not_read J.at_ J.cls
  | @tup t a vs et m n ih =>
    intro d as r
    obtain ⟨_, its, rv, o, e1, e2, n, e3⟩ := (show ObjOk X.prog X.w H s.heap t (.tup vs) from I.hok t _ et)
    obtain ⟨i, hi⟩ := List.getElem?_of_mem m
    obtain ⟨u, hu, ru⟩ := rv.get hi
    cases (show u = Value.ref a from ru)
    have mu := List.mem_of_getElem? hu
    cases r with
    | list f1 f2 f3 f4 => rw [e1] at f1; cases f1; rw [e2] at f2; exact absurd f2 (by decide)
    | dict f1 f2 f3 f4 f5 => rw [e1] at f1; cases f1; rw [e2] at f2; exact absurd f2 (by decide)
    | tuple f1 f2 f3 f4 =>
      rw [e1] at f1
      cases f1
      rw [e3] at f3
      cases f3
      obtain ⟨d2, as2, r2⟩ := reads_mem f4 (by simpa using mu)
      exact ih _ _ r2
/-- the guards stand at such addresses, and at none of these -/
def Gs (H : Hp) (av : List Addr) (g : List Code) : Prop := ∀ id v rest kw, Code.builtin id ⟨v :: rest, kw⟩ ∈ g → ∃ t, v = .ref t ∧ ND H t ∧ t ∉ av
theorem Gs.sub {av av' : List Addr} {g : List Code} (h : Gs H av g) (s : ∀ a ∈ av', a ∈ av) : Gs H av' g := fun id v rest kw m => by
  obtain ⟨t, e, n, na⟩ := h id v rest kw m
  exact ⟨t, e, n, fun z => na (s _ z)⟩
/-- an item that is shown as y, below what stands at other addresses than these -/
def Shw (X : Cx) (k : Nat) (H : Hp) (av : List Addr) (x : V) (y : Str) : Prop := ∀ (pins : List (Addr × Obj)) (σ : L2.St) (s : Shared) (A : Around) (g : List Code) (u : Value) (base : Nat) (Q : Str → Shared → Prop) (E : Value → Shared → Prop),
  A.frames = some X.stack → Room k A → A.guards = some g → Gs H av g → Inv X pins σ H s → RelV x u → base + y.length ≤ sizeLine → (∀ s', Inv X pins σ H s' → Q y s') → wpAny (model X.prog X.w) A (pyReprUnder base u) Q E s
theorem Shw.mono {k k' : Nat} {av av' : List Addr} {x : V} {y : Str} (h : Shw X k H av x y) (hk : k ≤ k') (s : ∀ a ∈ av, a ∈ av') : Shw X k' H av' x y :=
  fun pins σ st A g u base Q E fr room hg G I ru hb q => h pins σ st A g u base Q E fr (room.mono hk) hg (G.sub s) I ru hb q
theorem shw_dat {k : Nat} {v : V} {d : PyData} (h : Dz X.K H v d) (hs : d.showable = true) (hd : d.depth ≤ 50) (hz : d.shown.length ≤ sizeLine) : Shw X k H [] v d.shown := by
  intro pins σ s A g u base Q E fr room hg G I ru hb q
  obtain ⟨as, rd, na⟩ := Dz.reads I _ _ u h ru
  obtain ⟨bs, rb, rk⟩ := ReprK.of_reads (prog := X.prog) (w := X.w) rd hs (fun _ => na) hz
  refine rk base hb A g _ s _ hg (fun b hm id v rest kw m e => ?_) (by have := room.un; omega) (fun _ _ e => e) fun h' tk kept => q _ (I.kept kept)
  obtain ⟨t, e2, n, _⟩ := G id v rest kw m
  rw [e2] at e
  cases e
  obtain ⟨d2, as2, r2, _⟩ := rb _ hm
  exact n.no I _ _ r2
theorem shw_own {k : Nat} {a : Addr} {y : Str} (h : Shows X k H a y) : Shw X k H [] (.ref a) y := by
  intro pins σ s A g u base Q E fr room hg G I ru hb q
  cases (show u = Value.ref a from ru)
  exact own_under fr room I h (by omega) q
inductive ShL (X : Cx) (k : Nat) (H : Hp) (av : List Addr) : List V → List Str → Prop
  | nil : ShL X k H av [] []
  | cons {v : V} {vs : List V} {t : Str} {ts : List Str} (h : Shw X k H av v t) (r : ShL X k H av vs ts) : ShL X k H av (v :: vs) (t :: ts)
theorem ShL.len {k : Nat} {av : List Addr} : ∀ {vs : List V} {ts : List Str}, ShL X k H av vs ts → vs.length = ts.length
  | _, _, .nil => rfl
  | _, _, .cons _ r => congrArg Nat.succ r.len
theorem shl_of {k : Nat} : ∀ {vs : List V} {ts : List Str}, ItL X k H vs ts → ShL X k H [] vs ts
  | _, _, .nil => .nil
  | _, _, .cons (.dat h hs hd hz) r => .cons (shw_dat h hs hd hz) (shl_of r)
  | _, _, .cons (.own h) r => .cons (shw_own h) (shl_of r)
theorem items {k : Nat} {A : Around} {g : List Code} {av : List Addr} {E : Value → Shared → Prop} (fr : A.frames = some X.stack) (room : Room k A) (hg : A.guards = some g) (G : Gs H av g) : ∀ (vs : List V) (us : List Value) (ts : List Str) (acc : Array Str) (n : Nat) (s : Shared) (Q : (Array Str × Nat) → Shared → Prop),
    ShL X k H av vs ts → Vals vs us → Inv X pins σ H s → n + piled ts ≤ sizeLine → (∀ s', Inv X pins σ H s' → Q ⟨acc ++ ts.toArray, n + piled ts⟩ s') →
    wpAny (model X.prog X.w) A (forIn us (⟨acc, n⟩ : (Array Str × Nat)) tupBody) Q E s := by
  intro vs
  induction vs with
  | nil =>
    intro us ts acc n s Q hT rv I _ q
    cases hT
    cases rv
    have q0 := q s I
    simp only [List.forIn_nil]
    exact wpAny_pure (by simpa [piled] using q0)
  | cons v vs ih =>
    intro us ts acc n s Q hT rv I hn q
    cases hT with
    | @cons _ _ y ts' hx hl =>
      cases rv with
      | @cons _ u _ us' ru rr =>
        rw [piled_cons] at hn
        rw [List.forIn_cons]
        have rest : ∀ s', Inv X pins σ H s' → wpAny (model X.prog X.w) A (forIn us' (⟨acc.push y, n + (y.length + 2)⟩ : (Array Str × Nat)) tupBody) Q E s' := fun s' I' => by
          refine ih us' ts' (acc.push y) (n + (y.length + 2)) s' Q hl rr I' (by omega) fun s2 I2 => ?_
          have h1 := q s2 I2
          have e : n + piled (y :: ts') = n + (y.length + 2) + piled ts' := by rw [piled_cons]; omega
          rw [e] at h1
          simpa using h1
        exact wpAny_bind (wpAny_bind (hx pins σ s A g u (n + 1) _ _ fr room hg G I ru (by omega) fun s' I' => wpAny_pure (rest s' I')))
theorem tup_own {k : Nat} {A : Around} {g : List Code} {av : List Addr} {t : Addr} {vs : List V} {ts : List Str} {R : Result → Shared → Prop} {base : Nat} {id : String} {rest : List Value} (fr : (A.under (.builtin id ⟨.ref t :: rest, []⟩)).frames = some X.stack) (room : Room k (A.under (.builtin id ⟨.ref t :: rest, []⟩)))
    (hcg : (Code.builtin id ⟨.ref t :: rest, []⟩).isGuard = true) (hg : A.guards = some g) (G : Gs H (t :: av) g) (I : Inv X pins σ H s) (et : H t = some (.tup vs)) (nd : ND H t) (tn : t ∉ av) (hT : ShL X k H av vs ts)
    (hsz : base + (tupleText ts).length ≤ sizeLine) (q : ∀ s' u, Inv X pins σ H s' → R (.ok (.ret (.str (tupleText ts) u))) s') :
    wpOwn (model X.prog X.w) A (.builtin id ⟨.ref t :: rest, []⟩) (Builtin.tupleReprAt base ⟨[.ref t], []⟩) (fun fin s' => match fin with | .done f => R (.ok f) s' | .again c' => c'.quiet = true ∧ codeAny (model X.prog X.w) A c' R s') (fun e s' => R (.error e) s') s := by
  obtain ⟨_, its, rv, o, e1, e2, n, e3⟩ := (show ObjOk X.prog X.w H s.heap t (.tup vs) from I.hok t _ et)
  have hp := piled_le_tupleText ts
  have hl : ts.length = its.length := by rw [← hT.len]; exact rv.length
  have hca : Clear g t := fun id v rest kw m e => by
    obtain ⟨t', e', _, na⟩ := G id v rest kw m
    rw [e'] at e
    cases e
    exact na List.mem_cons_self
  rw [tuple_repr_tree, tupleReprUnderWay_eq]
  refine wpOwn_bind (wpOwn_stackTailAny hg (tupGuardF_off _) (tupGuardF_pos _) ?_)
  have hn : (g.any fun c => tupGuardF (.ref t) (c, default)) = false := by
    rw [List.any_eq_false]
    intro c hcm
    rw [tupGuardF_of_clear hca c hcm]
    exact Bool.false_ne_true
  rw [hn]
  refine wpOwn_of_wpAny ?_
  show wpAny _ _ (tupleReprRest base (.ref t)) _ _ s
  unfold tupleReprRest Builtin.Tuple.tupleItemsOf
  refine wpAny_bind (wpAny_bind (wpAny_seqItems e1 e3 (wpAny_pure ?_)))
  rw [← Array.forIn_toList]
  have G2 : Gs H av (.builtin id ⟨.ref t :: rest, []⟩ :: g) := fun id' v rest' kw m => by
    rcases List.mem_cons.mp m with z | z
    · cases z
      exact ⟨t, rfl, nd, tn⟩
    · obtain ⟨t', e, n', na⟩ := G id' v rest' kw z
      exact ⟨t', e, n', fun y => na (List.mem_cons_of_mem _ y)⟩
  refine wpAny_bind (items (k := k) (pins := pins) (σ := σ) (H := H) fr room (guards_under_guard hcg hg) G2 vs _ ts #[] base s _ hT (by simpa using rv) I (by omega) fun s' I' => ?_)
  have lz : (tupleText ts).length ≤ sizeLine := by omega
  refine wpAny_bind (wpAny_mkStr (wpAny_pure ?_) (by simpa [tupleText, hl] using lz))
  have tx : (Str.ofString "(" ++ (Str.ofString ", ").join ((#[] : Array Str) ++ ts.toArray, base + piled ts).fst.toList ++ Str.ofString (if (its.toArray.size == 1) = true then ",)" else ")")) = tupleText ts := by
    simp [tupleText, hl]
  rw [tx]
  exact q _ _ (I'.tok _)
theorem under_depth2 {A : Around} {args : Args} : (A.under (.builtin "tuple.__repr__.under" args)).depth ≤ A.depth + 1 := by
  first | exact Nat.le_refl _ | exact Nat.le_succ _ | simp [Around.under, Code.weight, Code.isCreation, Code.isGuard, Code.isCaller, Code.frames, Code.isFrame, guardIds]
theorem under_room2 {k : Nat} {A : Around} {args : Args} (r : Room (k + 1) A) : Room k (A.under (.builtin "tuple.__repr__.under" args)) :=
  ⟨r.hd, by have := r.dp; have := under_depth2 (A := A) (args := args); omega, by rw [units_under_tuple_repr_under]; have := r.un; omega⟩
theorem under_frames2 {A : Around} {args : Args} : (A.under (.builtin "tuple.__repr__.under" args)).frames = A.frames := by
  first | rfl | simp [Around.under, Code.frames, Code.isFrame]
/-- a tuple that is an item -/
theorem shw_tup {k : Nat} {av : List Addr} {t : Addr} {vs : List V} {ts : List Str} (et : H t = some (.tup vs)) (nd : ND H t) (tn : t ∉ av) (hT : ShL X k H av vs ts) : Shw X (k + 1) H (t :: av) (.ref t) (tupleText ts) := by
  intro pins σ s A g u base Q E fr room hg G I ru hb q
  cases (show u = Value.ref t from ru)
  obtain ⟨_, its, rv, o, e1, e2, n, e3⟩ := (show ObjOk X.prog X.w H s.heap t (.tup vs) from I.hok t _ et)
  have hTy : s.TypeIs (.ref t) "tuple" := ⟨o, e1, e2⟩
  refine wpAny_pyReprUnder_ref (by omega) ?_
  refine wpAny_pyReprObjUnder_twin (twin := "tuple.__repr__.under") hTy F.slot_tuple_repr rfl (by have := room.un; omega) ?_
  refine call_twin_own (F.quiet_tuple_repr_under _) F.entry_tuple_repr_under F.check_tuple_repr_under hTy F.slot_tuple_repr (F.args_tuple_repr_1 _) ?_
  refine tup_own (k := k) (R := callEnd _ _) (by rw [under_frames2]; exact fr) (under_room2 room) (isGuard_tuple_repr_under _) hg G I et nd tn hT hb fun s' u I' => ?_
  exact ⟨⟨_, _, rfl⟩, _, _, rfl, q s' I'⟩
/-- repr of a tuple that has own objects, at any depth -/
def rReprN (X : Cx) (k : Nat) : List V → Hp → VK → Prop := fun xs H Q => ∃ (t : Addr) (av : List Addr) (vs : List V) (ts : List Str), xs = [.ref t] ∧ H t = some (.tup vs) ∧ ND H t ∧ t ∉ av ∧ ShL X k H av vs ts ∧
  (tupleText ts).length ≤ sizeLine ∧ Q (.str (tupleText ts)) H
theorem cr_reprN {k : Nat} (quiet : X.A.guards = some []) (room : Room (k + 2) X.A) : CallR X (.builtin "repr") (rReprN X k) := by
  intro pins s σ H xs us Q I r h
  obtain ⟨t, av, vs, ts, rfl, et, nd, tn, hT, hz, q⟩ := h
  obtain ⟨u, rfl, rx⟩ := vals1 r
  cases rx
  obtain ⟨_, its, rv, o, e1, e2, n, e3⟩ := (show ObjOk X.prog X.w H s.heap t (.tup vs) from I.hok t _ et)
  have hTy : s.TypeIs (.ref t) "tuple" := ⟨o, e1, e2⟩
  have hu := room.un
  refine call_repr_slot (by omega) hTy F.slot_tuple_repr ?_
  refine wpAny_call (codeAny_call_builtin_own (Code.quiet_builtin _ (by decide +kernel)) F.entry_tuple_repr (F.slot_tuple_repr.check _ _ _ _ _ _ _ _ hTy (F.args_tuple_repr_1 _) ?_))
  have hg1 : X.A.in1.guards = some [] := quiet
  refine tup_own (k := k) (A := X.A.in1) (base := 0) (R := callEnd _ _) ?_ (under_room room.in1) (isGuard_tuple_repr _) hg1 (fun id v rest kw m => by cases m) I et nd tn hT (by omega) fun s' u I' => ?_
  · rw [under_frames]
    exact I.ok.frames
  · exact ⟨tupleText ts, _, rfl, .str (tupleText ts), H, I', ⟨_, rfl⟩, q⟩
end
end Xrn
set_option Elab.async false
set_option linter.all false
set_option maxRecDepth 100000
set_option maxHeartbeats 4000000
set_option pp.maxSteps 400
set_option pp.deepTerms false
/-! calls by names alone -/
namespace Xkw
open PySem PySem.Spec PyProof.Rows L2
section
variable {X : Cx} {CX : CXT} {k : Nat} {f : Addr} {fd : FuncData} {ps ks : List Str} {sp : Sp} {E : XK} {x : Str} {p pos : Pos} {kws : List Keyword} {tk : TA} {g : List Value → List Value → List Value} {gV : List V → List V → List V}
theorem pe_callN0 (F : FnOk X.prog X.w X.K X.mg X.base CX k f fd ps sp) (room : Room k X.A) (gl : Gl X x) (mgf : X.mg x = some (.ref f)) (kp : PySem.W.keepIn X.K (.ref f) = true) (kb : KBn X.K fd ps 0 ks g gV) (px : Passes CX X E) (pk : PK X kws tk)
    (hall : (backToKw pos (keywordEach kws X.env)).all (·.1.isSome) = true := by rfl) (hks : (backToKw pos (keywordEach kws X.env)).filterMap (·.1) = ks := by rfl) (hdb : (x == ("__debug__" : Str)) = false := by decide)
    (hpl : ((backTo pos (starEach [] X.env)).any (·.1) || (backToKw pos (keywordEach kws X.env)).any (·.1.isNone)) = false := by rfl) : PE X (.Call (.Name x p) [] kws pos) (tCallN 0 ks.length sp gV E tNil tk) := by
  refine ⟨fun pins s σ H Q I h => wpAny_Call_Name_kw (ld_glob I gl mgf ?_ hdb)⟩
  refine PySem.W.callWith_KW0 (h₀ := X.base) I.ok.mod.kin kp hall (thn (pk.run pos pins s σ H _ I h) fun ws s2 z => ?_) hpl
  obtain ⟨zs, H2, I2, rz, l1, l2, q2⟩ := z
  refine ⟨I2.kIn, ?_⟩
  rw [hks]
  exact run_fnN (us := []) (vs := []) F room kb px I2 .nil rz l1 l2 q2
end
/-- a def that may be called by names alone, in this order -/
structure Cw (P : Program) (w : World) (K : PySem.W.Frag) (mg : Str → Option Value) (base : Heap) (CX : CXT) (k : Nat) (x : Str) (ps ks : List Str) (gV : List V → List V → List V) (sp : Sp) : Prop where
  ex : ∃ (f : Addr) (fd : FuncData) (g : List Value → List Value → List Value), FnOk P w K mg base CX k f fd ps sp ∧ mg x = some (.ref f) ∧ PySem.W.keepIn K (.ref f) = true ∧ KBn K fd ps 0 ks g gV
section
variable {X : Cx} {CX : CXT} {k j : Nat} {x : Str} {ps ks : List Str} {sp : Sp} {p pos : Pos} {kws : List Keyword} {tk : TA} {gV : List V → List V → List V} {E : XK}
theorem pe_cw (c : Cw X.prog X.w X.K X.mg X.base CX k x ps ks gV sp) (hr : Room j X.A) (hk : k ≤ j) (gl : Gl X x) (px : Passes CX X E) (pk : PK X kws tk)
    (hall : (backToKw pos (keywordEach kws X.env)).all (·.1.isSome) = true := by rfl) (hks : (backToKw pos (keywordEach kws X.env)).filterMap (·.1) = ks := by rfl) (hdb : (x == ("__debug__" : Str)) = false := by decide)
    (hpl : ((backTo pos (starEach [] X.env)).any (·.1) || (backToKw pos (keywordEach kws X.env)).any (·.1.isNone)) = false := by rfl) : PE X (.Call (.Name x p) [] kws pos) (tCallN 0 ks.length sp gV E tNil tk) := by
  obtain ⟨f, fd, g, F, hm, kp, kb⟩ := c.ex
  exact pe_callN0 F (hr.mono hk) gl hm kp kb px pk hall hks hdb hpl
end
/-- one parameter -/
def g1 {α : Type} (us ws : List α) : List α := us ++ ws
end Xkw
set_option Elab.async false
set_option linter.all false
set_option maxRecDepth 100000
set_option maxHeartbeats 4000000
set_option pp.maxSteps 400
set_option pp.deepTerms false
namespace K64
open PySem PySem.Spec PyProof.Rows L2
def top (i : Nat) : Stmt := PySem.Challenge.pw_takesworks_k64_rows_of_no_entry.main.body.getD i (.Pass ⟨0, 0, 0, 0⟩)
abbrev sNoTextInit : Stmt := inClass (top 9) 0
abbrev sIsWhole : Stmt := top 21
abbrev sIsWithin : Stmt := top 22
abbrev sIsTextOf : Stmt := top 23
abbrev sIsSmallText : Stmt := top 24
abbrev sIsWord : Stmt := top 25
abbrev sAreRising : Stmt := top 26
abbrev sIsLeap : Stmt := top 32
abbrev sDaysIn : Stmt := top 33
abbrev sMakesDay : Stmt := top 34
abbrev sDayInit : Stmt := inClass (top 35) 0
abbrev sDayEq : Stmt := inClass (top 35) 1
abbrev sDayStr : Stmt := inClass (top 35) 2
abbrev sDayRepr : Stmt := inClass (top 35) 3
abbrev sBeyondMinutes : Stmt := top 38
abbrev sLengthInit : Stmt := inClass (top 39) 0
abbrev sLengthEq : Stmt := inClass (top 39) 1
abbrev sLengthStr : Stmt := inClass (top 39) 2
abbrev sLengthRepr : Stmt := inClass (top 39) 3
abbrev sIsTongue : Stmt := top 45
abbrev sIsNameText : Stmt := top 46
abbrev sIsName : Stmt := top 47
abbrev sIsKey : Stmt := top 54
abbrev sIsCode : Stmt := top 55
abbrev sArePlayers : Stmt := top 56
abbrev sIsEntry : Stmt := top 57
abbrev sKeyOf : Stmt := top 58
abbrev sFieldOf : Stmt := top 59
abbrev sShowName : Stmt := top 62
abbrev sShowKey : Stmt := top 63
abbrev sShowTold : Stmt := top 64
abbrev sShowEntry : Stmt := top 65
abbrev sAreFigures : Stmt := top 71
abbrev sNumberIn : Stmt := top 72
abbrev sDayIn : Stmt := top 73
abbrev sLengthIn : Stmt := top 74
abbrev sNameIn : Stmt := top 75
abbrev sKeyIn : Stmt := top 76
abbrev sAllIn : Stmt := top 77
abbrev sNamesIn : Stmt := top 78
abbrev sCodeIn : Stmt := top 79
abbrev sToldIn : Stmt := top 81
abbrev sEntryIn : Stmt := top 82
abbrev sSoWritten : Stmt := top 83
abbrev sReadEntry : Stmt := top 84
abbrev sHand : Stmt := top 86
abbrev sTake : Stmt := top 87
abbrev sPick : Stmt := top 88
abbrev sLast : Stmt := top 89
abbrev sParts : Stmt := top 90
abbrev sDayText : Stmt := top 91
abbrev sName : Stmt := top 92
abbrev sKey : Stmt := top 93
abbrev sSeconds : Stmt := top 94
abbrev sEntry : Stmt := top 95
abbrev sMade : Stmt := top 96
abbrev sLengthText : Stmt := top 97
abbrev sEntryText : Stmt := top 98
abbrev sFigures : Stmt := top 99
abbrev sNumber : Stmt := top 100
abbrev sLawDayIn : Stmt := top 101
abbrev sLawLengthIn : Stmt := top 102
abbrev sLawNameIn : Stmt := top 103
abbrev sLawKeyIn : Stmt := top 104
abbrev sLawPlayersIn : Stmt := top 105
abbrev sLawCodeIn : Stmt := top 106
abbrev sLawFieldIn : Stmt := top 107
abbrev sLawEntryIn : Stmt := top 108
abbrev sBent : Stmt := top 109
abbrev sAlone : Stmt := top 110
abbrev sAsked : Stmt := top 111
abbrev sDue : Stmt := top 112
abbrev sRight : Stmt := top 113
abbrev sLaw : Stmt := top 114
open He Xhd
def x0 : Ft := fun K => decide (PySem.W.nsIn K mainGlobals "Day" = some (some (.ref (ga K "Day"))))
def x1 : Ft := fun K => decide (PySem.W.nsIn K mainGlobals "Length" = some (some (.ref (ga K "Length"))))
def x2 : Ft := fun K => decide (PySem.W.nsIn K mainGlobals "NotSuch" = some (some (.ref (ga K "NotSuch"))))
def x3 : Ft := fun K => decide (PySem.W.nsIn K mainGlobals "Lost" = some (some (.ref (ga K "Lost"))))
def x4 : Ft := fun K => decide (PySem.W.nsIn K mainGlobals "Taken" = some (some (.ref (ga K "Taken"))))
def x5 : Ft := fun K => decide (PySem.W.nsIn K mainGlobals "NoCustom" = some (some (.ref (ga K "NoCustom"))))
def x6 : Ft := fun K => decide (PySem.W.nsIn K mainGlobals "NoDay" = some (some (.ref (ga K "NoDay"))))
def x7 : Ft := fun K => decide (PySem.W.nsIn K mainGlobals "NoDisc" = some (some (.ref (ga K "NoDisc"))))
def x8 : Ft := fun K => decide (PySem.W.nsIn K mainGlobals "NoEntry" = some (some (.ref (ga K "NoEntry"))))
def x9 : Ft := fun K => decide (PySem.W.nsIn K mainGlobals "NoKey" = some (some (.ref (ga K "NoKey"))))
def x10 : Ft := fun K => decide (PySem.W.nsIn K mainGlobals "NoLength" = some (some (.ref (ga K "NoLength"))))
def x11 : Ft := fun K => decide (PySem.W.nsIn K mainGlobals "NoLine" = some (some (.ref (ga K "NoLine"))))
def x12 : Ft := fun K => decide (PySem.W.nsIn K mainGlobals "NoName" = some (some (.ref (ga K "NoName"))))
def x13 : Ft := fun K => decide (PySem.W.nsIn K mainGlobals "NoNumber" = some (some (.ref (ga K "NoNumber"))))
def x14 : Ft := fun K => decide (PySem.W.nsIn K mainGlobals "NoPath" = some (some (.ref (ga K "NoPath"))))
def x15 : Ft := fun K => decide (PySem.W.nsIn K mainGlobals "Same" = some (some (.ref (ga K "Same"))))
def x16 : Ft := fun K => decide (PySem.W.nsIn K mainGlobals "Struck" = some (some (.ref (ga K "Struck"))))
def x17 : Ft := fun K => decide (PySem.W.nsIn K mainGlobals "Twice" = some (some (.ref (ga K "Twice"))))
def x18 : Ft := fun K => decide (PySem.W.nsIn K mainGlobals "NoText" = some (some (.ref (ga K "NoText"))))
def x19 : Ft := fun K => decide (PySem.W.findIn K (.ref (ga K "NoText")) "__init__" = some (some (.ref (ma K (ga K "NoText") "__init__"))))
def x20 : Ft := fun K => decide (PySem.W.isFn K (.ref (ma K (ga K "NoText") "__init__")) = true)
def x21 : Ft := fun K => decide (PySem.W.nsIn K mainGlobals "is_whole" = some (some (.ref (ga K "is_whole"))))
def x22 : Ft := fun K => decide (PySem.W.nsIn K mainGlobals "is_within" = some (some (.ref (ga K "is_within"))))
def x23 : Ft := fun K => decide (PySem.W.nsIn K mainGlobals "is_text_of" = some (some (.ref (ga K "is_text_of"))))
def x24 : Ft := fun K => decide (PySem.W.nsIn K mainGlobals "is_small_text" = some (some (.ref (ga K "is_small_text"))))
def x25 : Ft := fun K => decide (PySem.W.nsIn K mainGlobals "is_word" = some (some (.ref (ga K "is_word"))))
def x26 : Ft := fun K => decide (PySem.W.nsIn K mainGlobals "are_rising" = some (some (.ref (ga K "are_rising"))))
def x27 : Ft := fun K => decide (PySem.W.nsIn K mainGlobals "is_leap" = some (some (.ref (ga K "is_leap"))))
def x28 : Ft := fun K => decide (PySem.W.nsIn K mainGlobals "days_in" = some (some (.ref (ga K "days_in"))))
def x29 : Ft := fun K => decide (PySem.W.nsIn K mainGlobals "makes_day" = some (some (.ref (ga K "makes_day"))))
def x30 : Ft := fun K => decide (PySem.W.findIn K (.ref (ga K "Day")) "__init__" = some (some (.ref (ma K (ga K "Day") "__init__"))))
def x31 : Ft := fun K => decide (PySem.W.isFn K (.ref (ma K (ga K "Day") "__init__")) = true)
def x32 : Ft := fun K => decide (PySem.W.findIn K (.ref (ga K "Day")) "__str__" = some (some (.ref (ma K (ga K "Day") "__str__"))))
def x33 : Ft := fun K => decide (PySem.W.isFn K (.ref (ma K (ga K "Day") "__str__")) = true)
def x34 : Ft := fun K => decide (PySem.W.findIn K (.ref (ga K "Day")) "__repr__" = some (some (.ref (ma K (ga K "Day") "__repr__"))))
def x35 : Ft := fun K => decide (PySem.W.isFn K (.ref (ma K (ga K "Day") "__repr__")) = true)
def x36 : Ft := fun K => decide (PySem.W.nsIn K mainGlobals "beyond_minutes" = some (some (.ref (ga K "beyond_minutes"))))
def x37 : Ft := fun K => decide (PySem.W.findIn K (.ref (ga K "Length")) "__init__" = some (some (.ref (ma K (ga K "Length") "__init__"))))
def x38 : Ft := fun K => decide (PySem.W.isFn K (.ref (ma K (ga K "Length") "__init__")) = true)
def x39 : Ft := fun K => decide (PySem.W.findIn K (.ref (ga K "Length")) "__str__" = some (some (.ref (ma K (ga K "Length") "__str__"))))
def x40 : Ft := fun K => decide (PySem.W.isFn K (.ref (ma K (ga K "Length") "__str__")) = true)
def x41 : Ft := fun K => decide (PySem.W.findIn K (.ref (ga K "Length")) "__repr__" = some (some (.ref (ma K (ga K "Length") "__repr__"))))
def x42 : Ft := fun K => decide (PySem.W.isFn K (.ref (ma K (ga K "Length") "__repr__")) = true)
def x43 : Ft := fun K => decide (PySem.W.nsIn K mainGlobals "is_tongue" = some (some (.ref (ga K "is_tongue"))))
def x44 : Ft := fun K => decide (PySem.W.nsIn K mainGlobals "is_name_text" = some (some (.ref (ga K "is_name_text"))))
def x45 : Ft := fun K => decide (PySem.W.nsIn K mainGlobals "is_name" = some (some (.ref (ga K "is_name"))))
def x46 : Ft := fun K => decide (PySem.W.nsIn K mainGlobals "is_key" = some (some (.ref (ga K "is_key"))))
def x47 : Ft := fun K => decide (PySem.W.nsIn K mainGlobals "is_code" = some (some (.ref (ga K "is_code"))))
def x48 : Ft := fun K => decide (PySem.W.nsIn K mainGlobals "are_players" = some (some (.ref (ga K "are_players"))))
def x49 : Ft := fun K => decide (PySem.W.nsIn K mainGlobals "is_entry" = some (some (.ref (ga K "is_entry"))))
def x50 : Ft := fun K => decide (PySem.W.nsIn K mainGlobals "key_of" = some (some (.ref (ga K "key_of"))))
def x51 : Ft := fun K => decide (PySem.W.nsIn K mainGlobals "field_of" = some (some (.ref (ga K "field_of"))))
def x52 : Ft := fun K => decide (PySem.W.nsIn K mainGlobals "show_name" = some (some (.ref (ga K "show_name"))))
def x53 : Ft := fun K => decide (PySem.W.nsIn K mainGlobals "show_key" = some (some (.ref (ga K "show_key"))))
def x54 : Ft := fun K => decide (PySem.W.nsIn K mainGlobals "show_told" = some (some (.ref (ga K "show_told"))))
def x55 : Ft := fun K => decide (PySem.W.nsIn K mainGlobals "show_entry" = some (some (.ref (ga K "show_entry"))))
def x56 : Ft := fun K => decide (PySem.W.nsIn K mainGlobals "are_figures" = some (some (.ref (ga K "are_figures"))))
def x57 : Ft := fun K => decide (PySem.W.nsIn K mainGlobals "number_in" = some (some (.ref (ga K "number_in"))))
def x58 : Ft := fun K => decide (PySem.W.nsIn K mainGlobals "day_in" = some (some (.ref (ga K "day_in"))))
def x59 : Ft := fun K => decide (PySem.W.nsIn K mainGlobals "length_in" = some (some (.ref (ga K "length_in"))))
def x60 : Ft := fun K => decide (PySem.W.nsIn K mainGlobals "name_in" = some (some (.ref (ga K "name_in"))))
def x61 : Ft := fun K => decide (PySem.W.nsIn K mainGlobals "key_in" = some (some (.ref (ga K "key_in"))))
def x62 : Ft := fun K => decide (PySem.W.nsIn K mainGlobals "all_in" = some (some (.ref (ga K "all_in"))))
def x63 : Ft := fun K => decide (PySem.W.nsIn K mainGlobals "names_in" = some (some (.ref (ga K "names_in"))))
def x64 : Ft := fun K => decide (PySem.W.nsIn K mainGlobals "code_in" = some (some (.ref (ga K "code_in"))))
def x65 : Ft := fun K => decide (PySem.W.nsIn K mainGlobals "told_in" = some (some (.ref (ga K "told_in"))))
def x66 : Ft := fun K => decide (PySem.W.nsIn K mainGlobals "entry_in" = some (some (.ref (ga K "entry_in"))))
def x67 : Ft := fun K => decide (PySem.W.nsIn K mainGlobals "so_written" = some (some (.ref (ga K "so_written"))))
def x68 : Ft := fun K => decide (PySem.W.nsIn K mainGlobals "read_entry" = some (some (.ref (ga K "read_entry"))))
def x69 : Ft := fun K => decide (PySem.W.nsIn K mainGlobals "_law_hand" = some (some (.ref (ga K "_law_hand"))))
def x70 : Ft := fun K => decide (PySem.W.nsIn K mainGlobals "_law_take" = some (some (.ref (ga K "_law_take"))))
def x71 : Ft := fun K => decide (PySem.W.nsIn K mainGlobals "_law_pick" = some (some (.ref (ga K "_law_pick"))))
def x72 : Ft := fun K => decide (PySem.W.nsIn K mainGlobals "_law_last" = some (some (.ref (ga K "_law_last"))))
def x73 : Ft := fun K => decide (PySem.W.nsIn K mainGlobals "_law_parts" = some (some (.ref (ga K "_law_parts"))))
def x74 : Ft := fun K => decide (PySem.W.nsIn K mainGlobals "_law_day_text" = some (some (.ref (ga K "_law_day_text"))))
def x75 : Ft := fun K => decide (PySem.W.nsIn K mainGlobals "_law_name" = some (some (.ref (ga K "_law_name"))))
def x76 : Ft := fun K => decide (PySem.W.nsIn K mainGlobals "_law_key" = some (some (.ref (ga K "_law_key"))))
def x77 : Ft := fun K => decide (PySem.W.nsIn K mainGlobals "_law_seconds" = some (some (.ref (ga K "_law_seconds"))))
def x78 : Ft := fun K => decide (PySem.W.nsIn K mainGlobals "_law_entry" = some (some (.ref (ga K "_law_entry"))))
def x79 : Ft := fun K => decide (PySem.W.nsIn K mainGlobals "_law_made" = some (some (.ref (ga K "_law_made"))))
def x80 : Ft := fun K => decide (PySem.W.nsIn K mainGlobals "_law_length_text" = some (some (.ref (ga K "_law_length_text"))))
def x81 : Ft := fun K => decide (PySem.W.nsIn K mainGlobals "_law_entry_text" = some (some (.ref (ga K "_law_entry_text"))))
def x82 : Ft := fun K => decide (PySem.W.nsIn K mainGlobals "_law_figures" = some (some (.ref (ga K "_law_figures"))))
def x83 : Ft := fun K => decide (PySem.W.nsIn K mainGlobals "_law_number" = some (some (.ref (ga K "_law_number"))))
def x84 : Ft := fun K => decide (PySem.W.nsIn K mainGlobals "_law_day_in" = some (some (.ref (ga K "_law_day_in"))))
def x85 : Ft := fun K => decide (PySem.W.nsIn K mainGlobals "_law_length_in" = some (some (.ref (ga K "_law_length_in"))))
def x86 : Ft := fun K => decide (PySem.W.nsIn K mainGlobals "_law_name_in" = some (some (.ref (ga K "_law_name_in"))))
def x87 : Ft := fun K => decide (PySem.W.nsIn K mainGlobals "_law_key_in" = some (some (.ref (ga K "_law_key_in"))))
def x88 : Ft := fun K => decide (PySem.W.nsIn K mainGlobals "_law_players_in" = some (some (.ref (ga K "_law_players_in"))))
def x89 : Ft := fun K => decide (PySem.W.nsIn K mainGlobals "_law_code_in" = some (some (.ref (ga K "_law_code_in"))))
def x90 : Ft := fun K => decide (PySem.W.nsIn K mainGlobals "_law_field_in" = some (some (.ref (ga K "_law_field_in"))))
def x91 : Ft := fun K => decide (PySem.W.nsIn K mainGlobals "_law_entry_in" = some (some (.ref (ga K "_law_entry_in"))))
def x92 : Ft := fun K => decide (PySem.W.nsIn K mainGlobals "_law_bent" = some (some (.ref (ga K "_law_bent"))))
def x93 : Ft := fun K => decide (PySem.W.nsIn K mainGlobals "_law_alone" = some (some (.ref (ga K "_law_alone"))))
def x94 : Ft := fun K => decide (PySem.W.nsIn K mainGlobals "_law_asked" = some (some (.ref (ga K "_law_asked"))))
def x95 : Ft := fun K => decide (PySem.W.nsIn K mainGlobals "_law_due" = some (some (.ref (ga K "_law_due"))))
def x96 : Ft := fun K => decide (PySem.W.nsIn K mainGlobals "_law_right" = some (some (.ref (ga K "_law_right"))))
def x97 : Ft := fun K => decide (PySem.W.nsIn K mainGlobals "law" = some (some (.ref (ga K "law"))))
def x98 : Ft := fun K => (Fa.int "KEY_PARTS" (2)).ok K
def x99 : Ft := fun K => (Fa.int "LONGEST_WORD" (8)).ok K
def x100 : Ft := fun K => (Fa.int "LONGEST_CODE" (12)).ok K
def x101 : Ft := fun K => (Fa.int "MOST_PLAYERS" (8)).ok K
def x102 : Ft := fun K => (Fa.int "LAST_YEAR" (9999)).ok K
def x103 : Ft := fun K => (Fa.int "MONTHS" (12)).ok K
def x104 : Ft := fun K => (Fa.int "FEBRUARY" (2)).ok K
def x105 : Ft := fun K => (Fa.int "MOST_SECONDS" (359999)).ok K
def x106 : Ft := fun K => (Fa.int "SHORTEST_TONGUE" (2)).ok K
def x107 : Ft := fun K => (Fa.int "LONGEST_TONGUE" (3)).ok K
def x108 : Ft := fun K => (Fa.int "LONGEST_TEXT" (40)).ok K
def x109 : Ft := fun K => (Fa.int "MOST_FIGURES" (30)).ok K
def x110 : Ft := fun K => (Fa.int "DAY_PARTS" (3)).ok K
def x111 : Ft := fun K => (Fa.int "YEAR_FIGURES" (4)).ok K
def x112 : Ft := fun K => (Fa.str "SMALL_LETTERS" "abcdefghijklmnopqrstuvwxyz").ok K
def x113 : Ft := fun K => (Fa.str "TEXT_SIGNS" "abcdefghijklmnopqrstuvwxyzABCDEFGHIJKLMNOPQRSTUVWXYZ0123456789 '-.").ok K
def x114 : Ft := fun K => (Fa.str "FIGURES" "0123456789").ok K
def x115 : Ft := fun K => (Fa.str "CODE_SIGNS" "ABCDEFGHIJKLMNOPQRSTUVWXYZ0123456789").ok K
def x116 : Ft := fun K => decide (PySem.W.nsIn K mainGlobals "MONTH_DAYS" = some (some (.ref (ga K "MONTH_DAYS"))))
def x117 : Ft := fun K => tupB K "MONTH_DAYS" [.int 31, .int 28, .int 31, .int 30, .int 31, .int 30, .int 31, .int 31, .int 30, .int 31, .int 30, .int 31]
def x118 : Ft := fun K => decide (PySem.W.nsIn K mainGlobals "FIELDS" = some (some (.ref (ga K "FIELDS"))))
def x119 : Ft := fun K => tupB K "FIELDS" [.str "code", .str "title", .str "players", .str "day", .str "length"]
def x120 : Ft := fun K => decide (PySem.W.isClsIn K (ga K "NotSuch") = true)
def x121 : Ft := fun K => decide (PySem.W.typeIn K (.ref (ga K "NotSuch")) = some (.type "type"))
def x122 : Ft := fun K => decide (PySem.W.subIn K (.ref (ga K "NoText")) (.ref (ga K "NotSuch")) = some true)
def x123 : Ft := fun K => decide (PySem.W.isClsIn K (ga K "Lost") = true)
def x124 : Ft := fun K => decide (PySem.W.typeIn K (.ref (ga K "Lost")) = some (.type "type"))
def x125 : Ft := fun K => decide (PySem.W.subIn K (.ref (ga K "NoText")) (.ref (ga K "Lost")) = some false)
def x126 : Ft := fun K => decide (PySem.W.isClsIn K (ga K "Taken") = true)
def x127 : Ft := fun K => decide (PySem.W.typeIn K (.ref (ga K "Taken")) = some (.type "type"))
def x128 : Ft := fun K => decide (PySem.W.subIn K (.ref (ga K "NoText")) (.ref (ga K "Taken")) = some false)
def x129 : Ft := fun K => decide (PySem.W.isClsIn K (ga K "NoCustom") = true)
def x130 : Ft := fun K => decide (PySem.W.typeIn K (.ref (ga K "NoCustom")) = some (.type "type"))
def x131 : Ft := fun K => decide (PySem.W.subIn K (.ref (ga K "NoText")) (.ref (ga K "NoCustom")) = some false)
def x132 : Ft := fun K => decide (PySem.W.isClsIn K (ga K "NoDay") = true)
def x133 : Ft := fun K => decide (PySem.W.typeIn K (.ref (ga K "NoDay")) = some (.type "type"))
def x134 : Ft := fun K => decide (PySem.W.subIn K (.ref (ga K "NoText")) (.ref (ga K "NoDay")) = some false)
def x135 : Ft := fun K => decide (PySem.W.isClsIn K (ga K "NoDisc") = true)
def x136 : Ft := fun K => decide (PySem.W.typeIn K (.ref (ga K "NoDisc")) = some (.type "type"))
def x137 : Ft := fun K => decide (PySem.W.subIn K (.ref (ga K "NoText")) (.ref (ga K "NoDisc")) = some false)
def x138 : Ft := fun K => decide (PySem.W.isClsIn K (ga K "NoEntry") = true)
def x139 : Ft := fun K => decide (PySem.W.typeIn K (.ref (ga K "NoEntry")) = some (.type "type"))
def x140 : Ft := fun K => decide (PySem.W.subIn K (.ref (ga K "NoText")) (.ref (ga K "NoEntry")) = some false)
def x141 : Ft := fun K => decide (PySem.W.isClsIn K (ga K "NoKey") = true)
def x142 : Ft := fun K => decide (PySem.W.typeIn K (.ref (ga K "NoKey")) = some (.type "type"))
def x143 : Ft := fun K => decide (PySem.W.subIn K (.ref (ga K "NoText")) (.ref (ga K "NoKey")) = some false)
def x144 : Ft := fun K => decide (PySem.W.isClsIn K (ga K "NoLength") = true)
def x145 : Ft := fun K => decide (PySem.W.typeIn K (.ref (ga K "NoLength")) = some (.type "type"))
def x146 : Ft := fun K => decide (PySem.W.subIn K (.ref (ga K "NoText")) (.ref (ga K "NoLength")) = some false)
def x147 : Ft := fun K => decide (PySem.W.isClsIn K (ga K "NoLine") = true)
def x148 : Ft := fun K => decide (PySem.W.typeIn K (.ref (ga K "NoLine")) = some (.type "type"))
def x149 : Ft := fun K => decide (PySem.W.subIn K (.ref (ga K "NoText")) (.ref (ga K "NoLine")) = some false)
def x150 : Ft := fun K => decide (PySem.W.isClsIn K (ga K "NoName") = true)
def x151 : Ft := fun K => decide (PySem.W.typeIn K (.ref (ga K "NoName")) = some (.type "type"))
def x152 : Ft := fun K => decide (PySem.W.subIn K (.ref (ga K "NoText")) (.ref (ga K "NoName")) = some false)
def x153 : Ft := fun K => decide (PySem.W.isClsIn K (ga K "NoNumber") = true)
def x154 : Ft := fun K => decide (PySem.W.typeIn K (.ref (ga K "NoNumber")) = some (.type "type"))
def x155 : Ft := fun K => decide (PySem.W.subIn K (.ref (ga K "NoText")) (.ref (ga K "NoNumber")) = some false)
def x156 : Ft := fun K => decide (PySem.W.isClsIn K (ga K "NoPath") = true)
def x157 : Ft := fun K => decide (PySem.W.typeIn K (.ref (ga K "NoPath")) = some (.type "type"))
def x158 : Ft := fun K => decide (PySem.W.subIn K (.ref (ga K "NoText")) (.ref (ga K "NoPath")) = some false)
def x159 : Ft := fun K => decide (PySem.W.isClsIn K (ga K "Same") = true)
def x160 : Ft := fun K => decide (PySem.W.typeIn K (.ref (ga K "Same")) = some (.type "type"))
def x161 : Ft := fun K => decide (PySem.W.subIn K (.ref (ga K "NoText")) (.ref (ga K "Same")) = some false)
def x162 : Ft := fun K => decide (PySem.W.isClsIn K (ga K "Struck") = true)
def x163 : Ft := fun K => decide (PySem.W.typeIn K (.ref (ga K "Struck")) = some (.type "type"))
def x164 : Ft := fun K => decide (PySem.W.subIn K (.ref (ga K "NoText")) (.ref (ga K "Struck")) = some false)
def x165 : Ft := fun K => decide (PySem.W.isClsIn K (ga K "Twice") = true)
def x166 : Ft := fun K => decide (PySem.W.typeIn K (.ref (ga K "Twice")) = some (.type "type"))
def x167 : Ft := fun K => decide (PySem.W.subIn K (.ref (ga K "NoText")) (.ref (ga K "Twice")) = some false)
def x168 : Ft := fun K => decide (PySem.W.isClsIn K (ga K "NoText") = true)
def x169 : Ft := fun K => decide (PySem.W.typeIn K (.ref (ga K "NoText")) = some (.type "type"))
def x170 : Ft := fun K => decide (PySem.W.subIn K (.ref (ga K "NoText")) (.ref (ga K "NoText")) = some true)
def x171 : Ft := fun K => decide (PySem.W.subIn K (.ref (ga K "NotSuch")) (.type "BaseException") = some true)
def x172 : Ft := fun K => decide (PySem.W.subIn K (.ref (ga K "Lost")) (.type "BaseException") = some true)
def x173 : Ft := fun K => decide (PySem.W.subIn K (.ref (ga K "Taken")) (.type "BaseException") = some true)
def x174 : Ft := fun K => decide (PySem.W.subIn K (.ref (ga K "NoText")) (.type "ValueError") = some true)
def x175 : Ft := fun K => decide (PySem.W.findIn K (.ref (ga K "NoText")) "__setattr__" = some (some (.builtin "object.__setattr__")))
def x176 : Ft := fun K => decide (PySem.W.subIn K (.ref (ga K "NoText")) (.type "BaseException") = some true)
def x177 : Ft := fun K => decide (PySem.W.keepIn K (.ref (ga K "NoText")) = true)
def x178 : Ft := fun K => decide (PySem.W.findIn K (.ref (ga K "NoText")) "__getattribute__" = some (some (.builtin "BaseException.__getattribute__")))
def x179 : Ft := fun K => decide (PySem.W.findIn K (.ref (ga K "NoText")) "__getattr__" = some none)
def x180 : Ft := fun K => decide (PySem.W.hasDictIn K (ga K "NoText") = true)
def x181 : Ft := fun K => decide (PySem.W.findIn K (.ref (ga K "NoText")) "__class__" = some (some (.builtin "object.__class__")))
def x182 : Ft := fun K => decide (PySem.W.mroIn K (ga K "NoText") (.type "object") = some true)
def x183 : Ft := fun K => decide (PySem.W.findIn K (.ref (ga K "NoText")) "row" = some none)
def x184 : Ft := fun K => decide (PySem.W.findIn K (.ref (ga K "NoText")) "wanted" = some none)
def x185 : Ft := fun K => decide (PySem.W.typeIn K (.ref (ma K (ga K "NoText") "__init__")) = some (.type "function"))
def x186 : Ft := fun K => decide (PySem.W.readsIn K (ga K "NotSuch") (.type "type") = true)
def x187 : Ft := fun K => decide (PySem.W.specialIn K (.ref (ga K "NotSuch")) "__getattribute__" = some (some (.builtin "type.__getattribute__")))
def x188 : Ft := fun K => decide (PySem.W.plainGet K (ga K "Day") Str.empty = true)
def x189 : Ft := fun K => decide (PySem.W.hasDictIn K (ga K "Day") = true)
def x190 : Ft := fun K => decide (PySem.W.plainOver K (ga K "Day") = true)
def x191 : Ft := fun K => decide (PySem.W.findIn K (.ref (ga K "Day")) "__setattr__" = some (some (.builtin "object.__setattr__")))
def x192 : Ft := fun K => decide (PySem.W.makesIn K (ga K "Day") = true)
def x193 : Ft := fun K => decide (PySem.W.keepIn K (.ref (ga K "Day")) = true)
def x194 : Ft := fun K => decide (PySem.W.findIn K (.ref (ga K "Day")) "__class__" = some (some (.builtin "object.__class__")))
def x195 : Ft := fun K => decide (PySem.W.mroIn K (ga K "Day") (.type "object") = some true)
def x196 : Ft := fun K => decide (PySem.W.plainGet K (ga K "Length") Str.empty = true)
def x197 : Ft := fun K => decide (PySem.W.hasDictIn K (ga K "Length") = true)
def x198 : Ft := fun K => decide (PySem.W.plainOver K (ga K "Length") = true)
def x199 : Ft := fun K => decide (PySem.W.findIn K (.ref (ga K "Length")) "__setattr__" = some (some (.builtin "object.__setattr__")))
def x200 : Ft := fun K => decide (PySem.W.makesIn K (ga K "Length") = true)
def x201 : Ft := fun K => decide (PySem.W.keepIn K (.ref (ga K "Length")) = true)
def x202 : Ft := fun K => decide (PySem.W.findIn K (.ref (ga K "Length")) "__class__" = some (some (.builtin "object.__class__")))
def x203 : Ft := fun K => decide (PySem.W.mroIn K (ga K "Length") (.type "object") = some true)
def x204 : Ft := fun K => decide (PySem.W.findIn K (.ref (ga K "Day")) "year" = some none)
def x205 : Ft := fun K => decide (PySem.W.findIn K (.ref (ga K "Day")) "month" = some none)
def x206 : Ft := fun K => decide (PySem.W.findIn K (.ref (ga K "Day")) "day" = some none)
def x207 : Ft := fun K => decide (PySem.W.findIn K (.ref (ga K "Length")) "seconds" = some none)
def x208 : Ft := fun K => decide (PySem.W.specialIn K (.builtin "object.__class__") "__get__" = some (some (.builtin "getset_descriptor.__get__")))
def x209 : Ft := fun K => decide (PySem.W.takesIn K (.builtin "object.__class__") = some true)
def x210 : Ft := fun K => xclsB PySem.HandSPX.refsVE "ValueError.__new__" (ga K "NoText") K
def x211 : Ft := fun K => fcB (ga K "NotSuch") "__init__" "ValueError.__init__" K
def x212 : Ft := fun K => decide (PySem.W.nsIn K mainGlobals "FIELD_WORDS" = some (some (.ref (ga K "FIELD_WORDS"))))
def x213 : Ft := fun K => valsB K (ga K "FIELD_WORDS") [("code", .str "code"), ("title", .str "title"), ("players", .str "by"), ("day", .str "day"), ("length", .str "long")]
def x214 : Ft := fun K => decide (PySem.W.nsIn K mainGlobals "FIELD_READERS" = some (some (.ref (ga K "FIELD_READERS"))))
def x215 : Ft := fun K => valsB K (ga K "FIELD_READERS") [("code", .adr (fun K => ga K "code_in")), ("title", .adr (fun K => ga K "name_in")), ("players", .adr (fun K => ga K "names_in")), ("day", .adr (fun K => ga K "day_in")), ("length", .adr (fun K => ga K "length_in"))]
def x216 : Ft := fun K => ocB (ga K "FIELDS") "tuple" K
def x217 : Ft := fun K => decide (PySem.W.nsIn K mainGlobals "isinstance" = some none)
def x218 : Ft := fun K => decide (PySem.W.nsIn K mainGlobals "int" = some none)
def x219 : Ft := fun K => decide (PySem.W.nsIn K mainGlobals "bool" = some none)
def x220 : Ft := fun K => decide (PySem.W.nsIn K mainGlobals "str" = some none)
def x221 : Ft := fun K => decide (PySem.W.nsIn K mainGlobals "tuple" = some none)
def x222 : Ft := fun K => decide (PySem.W.nsIn K mainGlobals "list" = some none)
def x223 : Ft := fun K => decide (PySem.W.nsIn K mainGlobals "len" = some none)
def x224 : Ft := fun K => decide (PySem.W.nsIn K mainGlobals "all" = some none)
def x225 : Ft := fun K => decide (PySem.W.nsIn K mainGlobals "any" = some none)
def x226 : Ft := fun K => decide (PySem.W.nsIn K mainGlobals "abs" = some none)
def x227 : Ft := fun K => decide (PySem.W.nsIn K mainGlobals "range" = some none)
def x228 : Ft := fun K => decide (PySem.W.nsIn K mainGlobals "repr" = some none)
def x229 : Ft := fun K => decide (PySem.W.nsIn K mainGlobals "max" = some none)
def x230 : Ft := fun K => decide (PySem.W.nsIn K mainGlobals "min" = some none)
def x231 : Ft := fun K => decide (PySem.W.nsIn K mainGlobals "sorted" = some none)
def x232 : Ft := fun K => decide (PySem.W.nsIn K mainGlobals "zip" = some none)
def x233 : Ft := fun K => decide (PySem.W.nsIn K mainGlobals "enumerate" = some none)
def x234 : Ft := fun K => decide (PySem.W.nsIn K mainGlobals "ValueError" = some none)
def exs : List Ft := [x0, x1, x2, x3, x4, x5, x6, x7, x8, x9, x10, x11, x12, x13, x14, x15, x16, x17, x18, x19, x20, x21, x22, x23, x24, x25, x26, x27, x28, x29, x30, x31, x32, x33, x34, x35, x36, x37, x38, x39, x40, x41, x42, x43, x44, x45, x46, x47, x48, x49, x50, x51, x52, x53, x54, x55, x56, x57, x58, x59, x60, x61, x62, x63, x64, x65, x66, x67, x68, x69, x70, x71, x72, x73, x74, x75, x76, x77, x78, x79, x80, x81, x82, x83, x84, x85, x86, x87, x88, x89, x90, x91, x92, x93, x94, x95, x96, x97, x98, x99, x100, x101, x102, x103, x104, x105, x106, x107, x108, x109, x110, x111, x112, x113, x114, x115, x116, x117, x118, x119, x120, x121, x122, x123, x124, x125, x126, x127, x128, x129, x130, x131, x132, x133, x134, x135, x136, x137, x138, x139, x140, x141, x142, x143, x144, x145, x146, x147, x148, x149, x150, x151, x152, x153, x154, x155, x156, x157, x158, x159, x160, x161, x162, x163, x164, x165, x166, x167, x168, x169, x170, x171, x172, x173, x174, x175, x176, x177, x178, x179, x180, x181, x182, x183, x184, x185, x186, x187, x188, x189, x190, x191, x192, x193, x194, x195, x196, x197, x198, x199, x200, x201, x202, x203, x204, x205, x206, x207, x208, x209, x210, x211, x212, x213, x214, x215, x216, x217, x218, x219, x220, x221, x222, x223, x224, x225, x226, x227, x228, x229, x230, x231, x232, x233, x234]
def fns : List FnD := [⟨("NoText", some "__init__"), "__init__", "NoText.__init__", defArgs sNoTextInit, defBody sNoTextInit, defScope sNoTextInit⟩,
  ⟨("is_whole", none), "is_whole", "is_whole", defArgs sIsWhole, defBody sIsWhole, defScope sIsWhole⟩,
  ⟨("is_within", none), "is_within", "is_within", defArgs sIsWithin, defBody sIsWithin, defScope sIsWithin⟩,
  ⟨("is_text_of", none), "is_text_of", "is_text_of", defArgs sIsTextOf, defBody sIsTextOf, defScope sIsTextOf⟩,
  ⟨("is_small_text", none), "is_small_text", "is_small_text", defArgs sIsSmallText, defBody sIsSmallText, defScope sIsSmallText⟩,
  ⟨("is_word", none), "is_word", "is_word", defArgs sIsWord, defBody sIsWord, defScope sIsWord⟩,
  ⟨("are_rising", none), "are_rising", "are_rising", defArgs sAreRising, defBody sAreRising, defScope sAreRising⟩,
  ⟨("is_leap", none), "is_leap", "is_leap", defArgs sIsLeap, defBody sIsLeap, defScope sIsLeap⟩,
  ⟨("days_in", none), "days_in", "days_in", defArgs sDaysIn, defBody sDaysIn, defScope sDaysIn⟩,
  ⟨("makes_day", none), "makes_day", "makes_day", defArgs sMakesDay, defBody sMakesDay, defScope sMakesDay⟩,
  ⟨("Day", some "__str__"), "__str__", "Day.__str__", defArgs sDayStr, defBody sDayStr, defScope sDayStr⟩,
  ⟨("Day", some "__repr__"), "__repr__", "Day.__repr__", defArgs sDayRepr, defBody sDayRepr, defScope sDayRepr⟩,
  ⟨("beyond_minutes", none), "beyond_minutes", "beyond_minutes", defArgs sBeyondMinutes, defBody sBeyondMinutes, defScope sBeyondMinutes⟩,
  ⟨("Length", some "__init__"), "__init__", "Length.__init__", defArgs sLengthInit, defBody sLengthInit, defScope sLengthInit⟩,
  ⟨("Length", some "__str__"), "__str__", "Length.__str__", defArgs sLengthStr, defBody sLengthStr, defScope sLengthStr⟩,
  ⟨("Length", some "__repr__"), "__repr__", "Length.__repr__", defArgs sLengthRepr, defBody sLengthRepr, defScope sLengthRepr⟩,
  ⟨("is_tongue", none), "is_tongue", "is_tongue", defArgs sIsTongue, defBody sIsTongue, defScope sIsTongue⟩,
  ⟨("is_name_text", none), "is_name_text", "is_name_text", defArgs sIsNameText, defBody sIsNameText, defScope sIsNameText⟩,
  ⟨("is_name", none), "is_name", "is_name", defArgs sIsName, defBody sIsName, defScope sIsName⟩,
  ⟨("is_key", none), "is_key", "is_key", defArgs sIsKey, defBody sIsKey, defScope sIsKey⟩,
  ⟨("is_code", none), "is_code", "is_code", defArgs sIsCode, defBody sIsCode, defScope sIsCode⟩,
  ⟨("are_players", none), "are_players", "are_players", defArgs sArePlayers, defBody sArePlayers, defScope sArePlayers⟩,
  ⟨("is_entry", none), "is_entry", "is_entry", defArgs sIsEntry, defBody sIsEntry, defScope sIsEntry⟩,
  ⟨("key_of", none), "key_of", "key_of", defArgs sKeyOf, defBody sKeyOf, defScope sKeyOf⟩,
  ⟨("field_of", none), "field_of", "field_of", defArgs sFieldOf, defBody sFieldOf, defScope sFieldOf⟩,
  ⟨("show_name", none), "show_name", "show_name", defArgs sShowName, defBody sShowName, defScope sShowName⟩,
  ⟨("show_key", none), "show_key", "show_key", defArgs sShowKey, defBody sShowKey, defScope sShowKey⟩,
  ⟨("show_told", none), "show_told", "show_told", defArgs sShowTold, defBody sShowTold, defScope sShowTold⟩,
  ⟨("show_entry", none), "show_entry", "show_entry", defArgs sShowEntry, defBody sShowEntry, defScope sShowEntry⟩,
  ⟨("are_figures", none), "are_figures", "are_figures", defArgs sAreFigures, defBody sAreFigures, defScope sAreFigures⟩,
  ⟨("number_in", none), "number_in", "number_in", defArgs sNumberIn, defBody sNumberIn, defScope sNumberIn⟩,
  ⟨("day_in", none), "day_in", "day_in", defArgs sDayIn, defBody sDayIn, defScope sDayIn⟩,
  ⟨("length_in", none), "length_in", "length_in", defArgs sLengthIn, defBody sLengthIn, defScope sLengthIn⟩,
  ⟨("name_in", none), "name_in", "name_in", defArgs sNameIn, defBody sNameIn, defScope sNameIn⟩,
  ⟨("key_in", none), "key_in", "key_in", defArgs sKeyIn, defBody sKeyIn, defScope sKeyIn⟩,
  ⟨("all_in", none), "all_in", "all_in", defArgs sAllIn, defBody sAllIn, defScope sAllIn⟩,
  ⟨("names_in", none), "names_in", "names_in", defArgs sNamesIn, defBody sNamesIn, defScope sNamesIn⟩,
  ⟨("code_in", none), "code_in", "code_in", defArgs sCodeIn, defBody sCodeIn, defScope sCodeIn⟩,
  ⟨("told_in", none), "told_in", "told_in", defArgs sToldIn, defBody sToldIn, defScope sToldIn⟩,
  ⟨("entry_in", none), "entry_in", "entry_in", defArgs sEntryIn, defBody sEntryIn, defScope sEntryIn⟩,
  ⟨("read_entry", none), "read_entry", "read_entry", defArgs sReadEntry, defBody sReadEntry, defScope sReadEntry⟩,
  ⟨("_law_hand", none), "_law_hand", "_law_hand", defArgs sHand, defBody sHand, defScope sHand⟩,
  ⟨("_law_take", none), "_law_take", "_law_take", defArgs sTake, defBody sTake, defScope sTake⟩,
  ⟨("_law_pick", none), "_law_pick", "_law_pick", defArgs sPick, defBody sPick, defScope sPick⟩,
  ⟨("_law_last", none), "_law_last", "_law_last", defArgs sLast, defBody sLast, defScope sLast⟩,
  ⟨("_law_parts", none), "_law_parts", "_law_parts", defArgs sParts, defBody sParts, defScope sParts⟩,
  ⟨("_law_day_text", none), "_law_day_text", "_law_day_text", defArgs sDayText, defBody sDayText, defScope sDayText⟩,
  ⟨("_law_name", none), "_law_name", "_law_name", defArgs sName, defBody sName, defScope sName⟩,
  ⟨("_law_key", none), "_law_key", "_law_key", defArgs sKey, defBody sKey, defScope sKey⟩,
  ⟨("_law_seconds", none), "_law_seconds", "_law_seconds", defArgs sSeconds, defBody sSeconds, defScope sSeconds⟩,
  ⟨("_law_entry", none), "_law_entry", "_law_entry", defArgs sEntry, defBody sEntry, defScope sEntry⟩,
  ⟨("_law_made", none), "_law_made", "_law_made", defArgs sMade, defBody sMade, defScope sMade⟩,
  ⟨("_law_length_text", none), "_law_length_text", "_law_length_text", defArgs sLengthText, defBody sLengthText, defScope sLengthText⟩,
  ⟨("_law_entry_text", none), "_law_entry_text", "_law_entry_text", defArgs sEntryText, defBody sEntryText, defScope sEntryText⟩,
  ⟨("_law_figures", none), "_law_figures", "_law_figures", defArgs sFigures, defBody sFigures, defScope sFigures⟩,
  ⟨("_law_number", none), "_law_number", "_law_number", defArgs sNumber, defBody sNumber, defScope sNumber⟩,
  ⟨("_law_day_in", none), "_law_day_in", "_law_day_in", defArgs sLawDayIn, defBody sLawDayIn, defScope sLawDayIn⟩,
  ⟨("_law_length_in", none), "_law_length_in", "_law_length_in", defArgs sLawLengthIn, defBody sLawLengthIn, defScope sLawLengthIn⟩,
  ⟨("_law_name_in", none), "_law_name_in", "_law_name_in", defArgs sLawNameIn, defBody sLawNameIn, defScope sLawNameIn⟩,
  ⟨("_law_key_in", none), "_law_key_in", "_law_key_in", defArgs sLawKeyIn, defBody sLawKeyIn, defScope sLawKeyIn⟩,
  ⟨("_law_players_in", none), "_law_players_in", "_law_players_in", defArgs sLawPlayersIn, defBody sLawPlayersIn, defScope sLawPlayersIn⟩,
  ⟨("_law_code_in", none), "_law_code_in", "_law_code_in", defArgs sLawCodeIn, defBody sLawCodeIn, defScope sLawCodeIn⟩,
  ⟨("_law_field_in", none), "_law_field_in", "_law_field_in", defArgs sLawFieldIn, defBody sLawFieldIn, defScope sLawFieldIn⟩,
  ⟨("_law_entry_in", none), "_law_entry_in", "_law_entry_in", defArgs sLawEntryIn, defBody sLawEntryIn, defScope sLawEntryIn⟩,
  ⟨("_law_bent", none), "_law_bent", "_law_bent", defArgs sBent, defBody sBent, defScope sBent⟩,
  ⟨("_law_alone", none), "_law_alone", "_law_alone", defArgs sAlone, defBody sAlone, defScope sAlone⟩,
  ⟨("_law_asked", none), "_law_asked", "_law_asked", defArgs sAsked, defBody sAsked, defScope sAsked⟩,
  ⟨("_law_due", none), "_law_due", "_law_due", defArgs sDue, defBody sDue, defScope sDue⟩,
  ⟨("_law_right", none), "_law_right", "_law_right", defArgs sRight, defBody sRight, defScope sRight⟩,
  ⟨("law", none), "law", "law", defArgs sLaw, defBody sLaw, defScope sLaw⟩]
def dfs : List DefD := [⟨("Day", some "__init__"), "__init__", "Day.__init__", defArgs sDayInit, defBody sDayInit, defScope sDayInit, [.non, .non], []⟩,
  ⟨("so_written", none), "so_written", "so_written", defArgs sSoWritten, defBody sSoWritten, defScope sSoWritten, [.int 0], []⟩]
def tbs : List Tb := [("FIELD_WORDS", ["code", "title", "players", "day", "length"]), ("FIELD_READERS", ["code", "title", "players", "day", "length"])]
def names0 : List Str := ["NotSuch", "Lost", "Taken", "NoDay", "NoLength", "NoName", "NoEntry", "Same", "NoText", "NoLine", "NoCustom", "NoDisc", "NoNumber", "Struck", "NoKey", "NoPath", "Twice", "SMALL_LETTERS", "LONGEST_WORD", "is_whole", "is_within", "is_text_of", "is_small_text", "is_word", "are_rising", "LAST_YEAR", "MONTHS", "FEBRUARY", "MONTH_DAYS", "is_leap"]
def names1 : List Str := ["days_in", "makes_day", "Day", "MOST_SECONDS", "beyond_minutes", "Length", "SHORTEST_TONGUE", "LONGEST_TONGUE", "LONGEST_TEXT", "TEXT_SIGNS", "is_tongue", "is_name_text", "is_name", "FIELDS", "KEY_PARTS", "LONGEST_CODE", "CODE_SIGNS", "MOST_PLAYERS", "is_key", "is_code", "are_players", "is_entry", "key_of", "field_of", "FIELD_WORDS", "show_name", "show_key", "show_told", "show_entry", "FIGURES"]
def names2 : List Str := ["MOST_FIGURES", "DAY_PARTS", "YEAR_FIGURES", "are_figures", "number_in", "day_in", "length_in", "name_in", "key_in", "all_in", "names_in", "code_in", "FIELD_READERS", "told_in", "entry_in", "so_written", "read_entry", "_law_hand", "_law_take", "_law_pick", "_law_last", "_law_parts", "_law_day_text", "_law_name", "_law_key", "_law_seconds", "_law_entry", "_law_made", "_law_length_text", "_law_entry_text"]
def names3 : List Str := ["_law_figures", "_law_number", "_law_day_in", "_law_length_in", "_law_name_in", "_law_key_in", "_law_players_in", "_law_code_in", "_law_field_in", "_law_entry_in", "_law_bent", "_law_alone", "_law_asked", "_law_due", "_law_right"]
def names : List Str := names0 ++ names1 ++ names2 ++ names3
abbrev R : PySem.W.OpenRow := PySem.W.OpenLaw.row PySem.Challenge.rw_takesworks_k64_rows_of_no_entry
abbrev hk : PySem.W.Hook := hookZ 11 1000 fns dfs tbs exs
def ob (s : PySem.W.SharedT) : AlZ := obsZG 11 1000 fns dfs tbs exs (HandSHeadRun.getT s)
theorem ob_eq (s : PySem.W.SharedT) : ob s = hk.obs s.abs := obsZG_eq (HandSHeadRun.getT_eq s)
theorem runfalse (w : World) : HandSHeadRun.RunEq R (PySem.W.view R.prog [114]) hk ob 40000 names (w.withFollow "special-get-raises" false) := by
  intro os
  kernel_rfl
theorem runtrue (w : World) : HandSHeadRun.RunEq R (PySem.W.view R.prog [114]) hk ob 40000 names (w.withFollow "special-get-raises" true) := by
  intro os
  kernel_rfl
theorem run (w : World) : HandSHeadRun.RunEq R (PySem.W.view R.prog [114]) hk ob 40000 names w := PySem.W.byRow2 "special-get-raises" (P := fun w => HandSHeadRun.RunEq R (PySem.W.view R.prog [114]) hk ob 40000 names w) runfalse runtrue w
end K64
set_option Elab.async false
set_option linter.all false
set_option maxRecDepth 100000
set_option maxHeartbeats 4000000
namespace K64
open PySem PySem.Spec PyProof.Rows L2
/-! ## defs that show things: promises where no showing is under way -/
structure Gn (P : Program) (w : World) (K : PySem.W.Frag) (mg : Str → Option Value) (base : Heap) (k : Nat) (f : Addr) (fd : FuncData) (ps : List Str) (sp : Sp) : Prop where
  many : ∀ vs H Q E, sp vs H Q E → vs.length = ps.length
  go : ∀ (A : Around) (outer : List Env) (s : Shared) (H : Hp) (args : Args) (us : List Value) (vs : List V) (Q : VK) (E : XK), A.guards = some [] → Room k A →
    Env0 P w K mg base A outer s H → BindsTo s fd args (ps.zip us) → Vals vs us → sp vs H Q E → codeAny (model P w) A (.call (.ref f) args) (CR CX0 outer P w H s Q E) s
section
variable {P : Program} {w : World} {K : PySem.W.Frag} {mg : Str → Option Value} {base : Heap}
theorem gn_body {x qual : Str} {st : Stmt} {f : Addr} {fd : FuncData} {N ps : List Str} {k : Nat} {sp : Sp} (F : Fun K x qual st f fd) (S : FnScope N ps (defScope st))
    (many : ∀ vs H Q E, sp vs H Q E → vs.length = ps.length)
    (body : ∀ (cdv : Value) (A : Around) (outer : List Env) (s : Shared) (H : Hp) (vs : List V) (Q : VK) (E : XK), A.guards = some [] →
      Room k (A.deeper (envOfC qual (defScope st) s.heap.objs.size f cdv)) → sp vs H Q E →
      ∃ t, PSs (cxOf CX0 P w K mg base N qual (defScope st) f cdv A outer s H E).nox (defBody st) t ∧ t { nx := fun _ H' => Q .non H', rt := Q } (start N vs) H) :
    Gn P w K mg base (k + 1) f fd ps sp := by
  obtain ⟨oc, od, kV, doc, pm, an, cdv, ct, osl, rfl, lk, hcd⟩ := F.ex
  refine ⟨many, fun A outer s H args us vs Q E hg room en bd rv hsp => ?_⟩
  have kin : K.In s.heap := en.mod.kin.keeps fun b o q => (en.bs b o q).1
  refine Att.call_fn kin (en.mod.nolimit.keeps fun b o q => (en.bs b o q).1) lk hcd room.depth bd ?_ (fun s1 inc => ?_) S.co S.gen S.kind
  · refine List.all_eq_true.mpr fun y hy => ?_
    rcases S.par y.1 (List.of_mem_zip (a := y.1) (b := y.2) hy).1 with q | q
    · rw [q]; rfl
    · rw [q]; rfl
  · obtain ⟨t, ht, hq⟩ := body cdv A outer s H vs Q E hg (room.deeper _) hsp
    have I := inv_start (CX := CX0) (E := E) S room.hd en (many _ _ _ _ hsp) rv inc
    refine wpAny_mono (ht.nox.run [] s1 _ H _ I hq) (fun fl s' hs => ?_) fun _ _ z => z
    cases fl with
    | ret u =>
      obtain ⟨v, _, H', J, r, q⟩ := hs
      exact ⟨v, H', J.os, J.bare, J.base, J.hok, r, q⟩
    | next =>
      obtain ⟨_, H', J, q⟩ := hs
      exact ⟨.non, H', J.os, J.bare, J.base, J.hok, rfl, q⟩
    | brk =>
      obtain ⟨_, _, _, z⟩ := hs
      exact False.elim z
    | cont =>
      obtain ⟨_, _, _, z⟩ := hs
      exact False.elim z
end
section
variable {X : Cx} {k : Nat} {f : Addr} {fd : FuncData} {ps : List Str} {sp : Sp} {x : Str} {p pos : Pos} {e : Expr} {es : List Expr} {t : TA}
theorem pe_gn (F : Gn X.prog X.w X.K X.mg X.base k f fd ps sp) (quiet : X.A.guards = some []) (room : Room k X.A) (gl : Gl X x) (mgf : X.mg x = some (.ref f))
    (kp : PySem.W.keepIn X.K (.ref f) = true) (bd : Binds X.K fd ps []) (ha : PA X (e :: es) t) (hdb : (x == ("__debug__" : Str)) = false := by decide)
    (he : starEach (e :: es) X.env = (false, eval e X.env) :: starEach es X.env := by rfl) (hpl : (backTo pos (starEach es X.env)).any (·.1) = false := by rfl) :
    PE X (.Call (.Name x p) (e :: es) [] pos) (tCall sp [] E0 t) := by
  refine ⟨fun pins s σ H Q I h => wpAny_Call_Name_kw (ld_glob I gl mgf ?_ hdb)⟩
  refine PySem.W.callWith_K (h₀ := X.base) I.ok.mod.kin kp ?_ he hpl
  refine thn (ha.run pos pins s σ H _ I h) fun us s1 z => ?_
  obtain ⟨vs, H1, I1, rv, q⟩ := z
  have q' : sp vs H1 Q E0 := by
    have z := q
    rw [List.append_nil] at z
    exact z
  have many : us.length = ps.length := rv.length.symm.trans (F.many _ _ _ _ q')
  have b1 := bd s1 us I1.kIn (by rw [List.append_nil]; exact many)
  rw [List.append_nil] at b1
  refine ⟨I1.kIn, wpAny_call (codeAny_mono (F.go X.A X.stack s1 H1 ⟨us, []⟩ us vs Q E0 quiet room I1.env0 b1 rv q') fun r s' hr => ?_)⟩
  cases r with
  | error z => exact False.elim hr
  | ok fl =>
    cases fl with
    | ret u => exact I1.after hr
    | next => exact False.elim hr
    | brk => exact False.elim hr
    | cont => exact False.elim hr
/-- repr of data at any depth -/
theorem cr_reprD (quiet : X.A.guards = some []) (room : Room k X.A) : CallR X (.builtin "repr") (fun xs H Q => ∃ (a : Addr) (d : PyData), xs = [.ref a] ∧ Dp X.K H (.ref a) d ∧ d.showable = true ∧ d.hasDict = false ∧
    d.depth ≤ 50 ∧ d.shown.length ≤ sizeLine ∧ Q (.str d.shown) H) := by
  intro pins s σ H xs us Q I r h
  obtain ⟨a, d, rfl, hd, hs, hn, hp, hz, q⟩ := h
  obtain ⟨u, rfl, rx⟩ := vals1 r
  obtain ⟨as, rd⟩ := Dp.reads I d _ u hd rx
  cases rx
  have hu := room.units
  exact repr_of_reads' rd hs (fun z => absurd (hn.symm.trans z) Bool.false_ne_true) quiet (by omega) (fun _ _ z => z) (fun h' u tk kept => ⟨.str d.shown, H, I.kept kept, ⟨u, rfl⟩, q⟩) hz
theorem cr_repr_bl : CallR X (.builtin "repr") (fun xs H Q => ∃ b : Bool, xs = [.bl b] ∧ Q (.str (if b then "True" else "False")) H) := by
  intro pins s σ H xs us Q I r h
  obtain ⟨b, rfl, q⟩ := h
  obtain ⟨u, rfl, rx⟩ := vals1 r
  cases rx
  exact PySem.P.repr_of_bool ⟨.str _, H, I.tok _, ⟨_, rfl⟩, q⟩
end
end K64
set_option Elab.async false
set_option linter.all false
set_option maxRecDepth 100000
set_option maxHeartbeats 4000000
set_option pp.maxSteps 400
set_option pp.deepTerms false
namespace K64
open PySem PySem.Spec PyProof.Rows L2
/-! ## == by a class's own __eq__, either way about -/
/-- what the written part says of the class -/
structure OwnC (K : PySem.W.Frag) (C f : Addr) : Prop where
  eq : PySem.W.findIn K (.ref C) "__eq__" = some (some (.ref f))
  fn : PySem.W.isFn K (.ref f) = true
  ne : PySem.W.findIn K (.ref C) "__ne__" = some (some (.builtin "object.__ne__"))
  mo : PySem.W.mroIn K C (.type "object") = some true
  sInt : PySem.W.subIn K (.ref C) (.type "int") = some false
  sStr : PySem.W.subIn K (.ref C) (.type "str") = some false
  sNon : PySem.W.subIn K (.ref C) (.type "NoneType") = some false
  sTup : PySem.W.subIn K (.ref C) (.type "tuple") = some false
  sLst : PySem.W.subIn K (.ref C) (.type "list") = some false
section
variable {X : Cx} {pins : List (Addr × Obj)} {σ : L2.St} {H : Hp} {n : Nat} {f C : Addr} {fd : FuncData} {ps : List Str} {sp : Sp}
/-- the end of such a comparison: a truth -/
def BP (X : Cx) (pins : List (Addr × Obj)) (σ : L2.St) (Q : Bool → Hp → Prop) (u : Value) (s' : Shared) : Prop := ∃ b H', u = .bool b ∧ Inv X pins σ H' s' ∧ Q b H'
theorem own_call {A : Around} {s : Shared} {a : Addr} {y : V} {v : Value} {Q : Bool → Hp → Prop} {E : Value → Shared → Prop} (fr : A.frames = some X.stack) (room : Room n A) (F : FnOk X.prog X.w X.K X.mg X.base CX0 n f fd ps sp) (bd : Binds X.K fd ps [])
    (I : Inv X pins σ H s) (rv : RelV y v) (hsp : sp [.ref a, y] H (fun z H' => ∃ b, z = .bl b ∧ Q b H') E0) : wpAny (model X.prog X.w) A (call (.ref f) [.ref a, v]) (BP X pins σ Q) E s := by
  have en : Env0 X.prog X.w X.K X.mg X.base A X.stack s H := by
    have z := I.env0
    exact ⟨fr, z.mod, z.bs, z.bsz, z.funs, z.frf, z.hok, z.bare⟩
  have hl : [V.ref a, y].length = ps.length := F.len _ _ _ _ hsp
  have b1 := bd s [.ref a, v] I.kIn (by simpa using hl)
  rw [List.append_nil] at b1
  refine wpAny_call (codeAny_mono (F.run A X.stack s H ⟨[.ref a, v], []⟩ [.ref a, v] [.ref a, y] _ E0 room en b1 (.cons rfl (.cons rv .nil)) hsp) fun r s2 hr => ?_)
  match r, hr with
  | .error z, hr => exact False.elim hr
  | .ok .next, hr => exact False.elim hr
  | .ok .brk, hr => exact False.elim hr
  | .ok .cont, hr => exact False.elim hr
  | .ok (.ret u), hr =>
    obtain ⟨z, H2, I2, rz, b, rfl, q⟩ := I.after hr
    cases rz
    exact ⟨b, H2, rfl, I2, q⟩
theorem rc_L {A : Around} {s : Shared} {a dx : Addr} {fs : List (Str × V)} {y : V} {v tb : Value} {Q : Bool → Hp → Prop} {E : Value → Shared → Prop} (W : OwnC X.K C f) (fr : A.frames = some X.stack) (room : Room n A)
    (F : FnOk X.prog X.w X.K X.mg X.base CX0 n f fd ps sp) (bd : Binds X.K fd ps []) (I : Inv X pins σ H s) (ha : H a = some (.ins C dx fs)) (rv : RelV y v) (hb : PySem.W.Looks (model X.prog X.w) s.heap (typeOf v) tb)
    (nf : PySem.W.notFirst X.K C tb = true) (hsp : sp [.ref a, y] H (fun z H' => ∃ b, z = .bl b ∧ Q b H') E0) : wpAny (model X.prog X.w) A (richCompare .Eq (.ref a) v) (BP X pins σ Q) E s := by
  obtain ⟨mA, J, _⟩ := ins_get I.hok ha
  obtain ⟨od, J, _⟩ := J.look
  obtain ⟨m, hF⟩ := I.fr
  refine PySem.W.cmp_K (op := .Eq) room.units0 hF I.ok.mod.kin J hb nf W.eq W.fn (wpAny_mono (own_call fr room F bd I rv hsp) (fun u s' hu => ?_) fun _ _ z => z)
  obtain ⟨b, H', rfl, I', q⟩ := hu
  exact ⟨b, H', rfl, I', q⟩
/-- a builtin's own == has no answer, then the class's own is asked -/
theorem rc_R {A : Around} {s : Shared} {a dx : Addr} {fs : List (Str × V)} {y : V} {v : Value} {T id : String} {Q : Bool → Hp → Prop} {E : Value → Shared → Prop} (W : OwnC X.K C f) (fr : A.frames = some X.stack) (room : Room n A)
    (F : FnOk X.prog X.w X.K X.mg X.base CX0 n f fd ps sp) (bd : Binds X.K fd ps []) (I : Inv X pins σ H s) (ha : H a = some (.ins C dx fs)) (rv : RelV y v) (hT : s.TypeIs v T) (one : oneThing? .Eq v (.ref a) = none)
    (sub : PySem.W.subIn X.K (.ref C) (.type T) = some false) (slot : Slot T "__eq__" id) (dec : ∀ E', wpAny (model X.prog X.w) A (call (.builtin id) [v, .ref a]) (fun u s' => u = .notImplemented ∧ s' = s) E' s)
    (hsp : sp [.ref a, y] H (fun z H' => ∃ b, z = .bl b ∧ Q b H') E0) : wpAny (model X.prog X.w) A (richCompare .Eq v (.ref a)) (BP X pins σ Q) E s := by
  obtain ⟨mA, J, _⟩ := ins_get I.hok ha
  obtain ⟨od, J, _⟩ := J.look
  have two : wpAny (model X.prog X.w) A (tryCompare (.ref a) "__eq__" v) (fun r s' => ∃ u, r = some u ∧ BP X pins σ Q u s') E s := by
    unfold tryCompare
    refine wpAny_bind (PySem.W.ifBound_K I.kIn J W.eq W.fn (wpAny_mono (own_call fr room F bd I rv hsp) (fun u s' hu => ?_) fun _ _ z => z))
    obtain ⟨b, H', rfl, I', q⟩ := hu
    exact wpAny_pure ⟨_, rfl, b, H', rfl, I', q⟩
  have first : wpAny (model X.prog X.w) A (tryCompare v "__eq__" (.ref a)) (fun r s' => r = none ∧ s' = s) E s :=
    wpAny_tryCompare_declines hT slot (wpAny_mono (dec E) (fun u s' z => ⟨z.1, rfl, z.2⟩) fun _ _ z => z)
  simp only [richCompare, cmpInfo_Eq, one]
  refine wpAny_holding (wpAny_bind (wpAny_cRoomFor room.units0 ?_))
  refine wpAny_bind (wpAny_typeOf hT (wpAny_bind (J.type.here ?_)))
  split
  · refine wpAny_bind ((PySem.W.looks_subIn I.kIn sub).here ?_)
    simp only [Bool.false_eq_true, if_false, Bool.not_false, if_true]
    refine wpAny_bind (m := tryCompare v _ (.ref a)) (wpAny_mono first (fun r s1 z => ?_) fun _ _ e => e)
    obtain ⟨z1, z2⟩ := z
    subst z1
    subst z2
    refine wpAny_bind (m := tryCompare (.ref a) _ v) (wpAny_mono two (fun r s2 z => ?_) fun _ _ e => e)
    obtain ⟨u, rfl, q⟩ := z
    exact wpAny_pure q
  · rename_i q
    exact absurd (by simp) q
end
end K64
set_option Elab.async false
set_option linter.all false
set_option maxRecDepth 100000
set_option maxHeartbeats 4000000
set_option pp.maxSteps 400
set_option pp.deepTerms false
namespace K64
open PySem PySem.Spec PyProof.Rows L2
section
variable {prog : Program} {w : World} {A : Around} {E : Value → Shared → Prop} {s : Shared} {a C dx : Addr} {K : PySem.W.Frag} {ox : Obj} {od : Option Obj}
theorem dec_none : wpAny (model prog w) A (call (.builtin "NoneType.__eq__") [.none, .ref a]) (fun u s' => u = .notImplemented ∧ s' = s) E s := by
  refine GQ.call_here F.slot_NoneType_eq (T := "NoneType") rfl F.entry_NoneType_eq (F.args_NoneType_eq_2 _ _) ?_
  wp_walk
  exact ⟨rfl, rfl⟩
theorem dec_int {i : Int} {t : Tok} (ho : s.heap.get? a = some (PySem.W.instObj C dx)) : wpAny (model prog w) A (call (.builtin "int.__eq__") [.int i t, .ref a]) (fun u s' => u = .notImplemented ∧ s' = s) E s := by
  refine GQ.call_here F.slot_int_eq (typeIs_int _ _ _) F.entry_int_eq (F.args_int_eq_2 _ _) ?_
  wp_walk using wpAny_load ho
  exact ⟨rfl, rfl⟩
theorem dec_str {i : Str} {t : Tok} (ho : s.heap.get? a = some (PySem.W.instObj C dx)) : wpAny (model prog w) A (call (.builtin "str.__eq__") [.str i t, .ref a]) (fun u s' => u = .notImplemented ∧ s' = s) E s := by
  refine GQ.call_here F.slot_str_eq (typeIs_str _ _ _) F.entry_str_eq (F.args_str_eq_2 _ _) ?_
  wp_walk using wpAny_load ho
  exact ⟨rfl, rfl⟩
theorem isi_no {T : String} {Q : Bool → Shared → Prop} (J : PySem.W.InstAt s.heap a ox C od) (kin : K.In s.heap) (sub : PySem.W.subIn K (.ref C) (.type T) = some false) (h : Q false s) : wpAny (model prog w) A (isInstance (.ref a) (.type T)) Q E s := by
  unfold isInstance
  exact wpAny_bind (J.type.here ((PySem.W.looks_subIn kin sub).here h))
theorem dec_tup {t : Addr} (hT : s.TypeIs (.ref t) "tuple") (J : PySem.W.InstAt s.heap a ox C od) (kin : K.In s.heap) (sub : PySem.W.subIn K (.ref C) (.type "tuple") = some false) :
    wpAny (model prog w) A (call (.builtin "tuple.__eq__") [.ref t, .ref a]) (fun u s' => u = .notImplemented ∧ s' = s) E s := by
  refine GQ.call_here F.slot_tuple_eq hT F.entry_tuple_eq (F.args_tuple_eq_2 _ _) ?_
  wp_walk using isi_no J kin sub
  exact ⟨rfl, rfl⟩
theorem dec_lst {t : Addr} (hT : s.TypeIs (.ref t) "list") (J : PySem.W.InstAt s.heap a ox C od) (kin : K.In s.heap) (sub : PySem.W.subIn K (.ref C) (.type "list") = some false) :
    wpAny (model prog w) A (call (.builtin "list.__eq__") [.ref t, .ref a]) (fun u s' => u = .notImplemented ∧ s' = s) E s := by
  refine GQ.call_here F.slot_list_eq hT F.entry_list_eq (F.args_list_eq_2 _ _) ?_
  wp_walk using isi_no J kin sub
  exact ⟨rfl, rfl⟩
end
section
variable {X : Cx} {pins : List (Addr × Obj)} {σ : L2.St} {H : Hp} {n : Nat} {f C : Addr} {fd : FuncData} {ps : List Str} {sp : Sp}
/-- != of two instances -/
theorem rc_N {A : Around} {s : Shared} {a dx : Addr} {fs : List (Str × V)} {y : V} {v tb : Value} {Q : Bool → Hp → Prop} {E : Value → Shared → Prop} (W : OwnC X.K C f) (fr : A.frames = some X.stack) (room : Room (n + 1) A)
    (F : FnOk X.prog X.w X.K X.mg X.base CX0 n f fd ps sp) (bd : Binds X.K fd ps []) (I : Inv X pins σ H s) (ha : H a = some (.ins C dx fs)) (rv : RelV y v) (hb : PySem.W.Looks (model X.prog X.w) s.heap (typeOf v) tb)
    (nf : PySem.W.notFirst X.K C tb = true) (hsp : sp [.ref a, y] H (fun z H' => ∃ b, z = .bl b ∧ Q (!b) H') E0) : wpAny (model X.prog X.w) A (richCompare .NotEq (.ref a) v) (BP X pins σ Q) E s := by
  obtain ⟨mA, J, _⟩ := ins_get I.hok ha
  obtain ⟨od, J, _⟩ := J.look
  have inner : wpAny (model X.prog X.w) A.in1 (Builtin.«object.__ne__» ⟨[.ref a, v], []⟩) (fun fl s' => ∃ u, fl = .done (.ret u) ∧ u ≠ .notImplemented ∧ BP X pins σ Q u s') E s := by
    unfold Builtin.«object.__ne__»
    refine wpAny_bind (m := slotArgs "__ne__" 1 _) (wpAny_pure ?_)
    dsimp only
    refine wpAny_bind (wpAny_cRoomFor room.in1.units0 ?_)
    refine wpAny_bind (PySem.W.ifBound_K I.kIn J W.eq W.fn (wpAny_mono (own_call (A := A.in1) fr room.in1 F bd I rv hsp) (fun u s' hu => ?_) fun _ _ z => z))
    obtain ⟨b, H', rfl, I', q⟩ := hu
    dsimp only
    refine wpAny_bind (m := truthy (.bool b)) (wpAny_truthy_bool ?_)
    exact wpAny_pure ⟨_, rfl, by simp, !b, H', rfl, I', q⟩
  have call_ : wpAny (model X.prog X.w) A (call (.builtin "object.__ne__") [.ref a, v]) (fun u s' => u ≠ .notImplemented ∧ BP X pins σ Q u s') E s := by
    refine wpAny_call (codeAny_call_builtin PySem.F.cmp_object.ne.plain PySem.F.cmpEntry_ne (PySem.W.check_slot PySem.F.cmpKind_ne PySem.F.cmpSplit_ne (J.type.andThen (PySem.W.looks_mroIn I.kIn W.mo)) (PySem.F.cmpArgs_ne _ _) (wpAny_mono inner (fun fl s' z => ?_) fun _ _ z => z)))
    obtain ⟨u, rfl, z1, z2⟩ := z
    exact ⟨z1, z2⟩
  have one : wpAny (model X.prog X.w) A (tryCompare (.ref a) "__ne__" v) (fun r s' => ∃ u, r = some u ∧ BP X pins σ Q u s') E s := by
    unfold tryCompare
    refine wpAny_bind ?_
    simp only [callSpecialIfBound?, bindSpecialIfBound?]
    refine wpAny_holding (wpAny_bind (wpAny_bind (wpAny_bind (J.type.here ((PySem.W.looks_findIn I.kIn W.ne).here ?_)))))
    refine wpAny_bind (wpAny_askSetting (wpAny_ite ?_))
    have fin : wpAny (model X.prog X.w) A (call (.builtin "object.__ne__") ([.ref a] ++ [v]) >>= fun z => pure (some z)) (fun r s1 => wpAny (model X.prog X.w) A (match r with
        | some .notImplemented => pure none
        | none => pure none
        | some z => pure (some z)) (fun r s' => ∃ u, r = some u ∧ BP X pins σ Q u s') E s1) E s := by
      refine wpAny_bind (wpAny_mono call_ (fun u s' z => wpAny_pure ?_) fun _ _ z => z)
      obtain ⟨z1, b, H', rfl, z2⟩ := z
      exact wpAny_pure ⟨_, rfl, b, H', rfl, z2⟩
    split
    · exact wpAny_bind (wpAny_of_eq (PySem.F.cmp_object.ne.bind _) (wpAny_pure (by exact fin)))
    · exact wpAny_tryCatch (wpAny_bind (wpAny_of_eq (PySem.F.cmp_object.ne.bind _) (wpAny_pure (by exact fin))))
  unfold richCompare
  simp only [oneThing_ref]
  refine wpAny_holding (wpAny_bind (wpAny_cRoomFor room.units0 ?_))
  refine wpAny_bind (J.type.here (wpAny_bind (hb.here ?_)))
  split
  · rename_i d
    have no : PySem.W.subIn X.K tb (.ref C) = some false := by
      rcases Bool.or_eq_true_iff.mp nf with z | z
      · rw [beq_iff_eq.mp z] at d
        simp at d
      · exact beq_iff_eq.mp z
    refine wpAny_bind ((PySem.W.looks_subIn I.kIn no).here ?_)
    simp only [Bool.false_eq_true, if_false]
    refine wpAny_bind (m := tryCompare (.ref a) _ v) (wpAny_mono one (fun r s' z => ?_) fun _ _ z => z)
    obtain ⟨u, rfl, q⟩ := z
    exact wpAny_pure q
  · refine wpAny_bind (wpAny_pure ?_)
    simp only [Bool.false_eq_true, if_false]
    refine wpAny_bind (m := tryCompare (.ref a) _ v) (wpAny_mono one (fun r s' z => ?_) fun _ _ z => z)
    obtain ⟨u, rfl, q⟩ := z
    exact wpAny_pure q
end
end K64
set_option Elab.async false
set_option linter.all false
set_option maxRecDepth 100000
set_option maxHeartbeats 4000000
set_option pp.maxSteps 400
set_option pp.deepTerms false
namespace K64
open PySem PySem.Spec PyProof.Rows L2
open AutoSeq1 (wpAny_loadPart')
section
variable {prog : Program} {w : World} {A : Around}
theorem in_loop {l x : Addr} {as : List Addr} {e : Addr → Bool} {J : Nat → Shared → Prop} {Y : Shared → Prop} {R : Result → Shared → Prop} (hl : ∀ i s, J i s → ∃ n, s.heap.get? l = some { cls := .type "list", data := .seq (as.map Value.ref).toArray n })
    (turn : ∀ i c s, as[i]? = some c → J i s → wpAny (model prog w) A.in1 (eqBool (.ref c) (.ref x)) (fun r s' => r = e c ∧ (e c = true → Y s') ∧ (e c = false → J (i + 1) s')) (fun z s' => R (.error z) s') s)
    (yes : ∀ s, Y s → R (.ok (.ret (.bool true))) s) (no : ∀ s, J as.length s → R (.ok (.ret (.bool false))) s) (k : Nat) :
    ∀ i : Nat, as.length - i = k → i ≤ as.length → ∀ s, J i s → wpAny (model prog w) A.in1 (Builtin.«list.__contains__.loop» ⟨[.ref l, .ref x, rawInt i], []⟩) (GQ.FinOf prog w A R) (fun z s' => R (.error z) s') s := by
  induction k with
  | zero =>
    intro i hk hi s h
    obtain ⟨n, e1⟩ := hl i s h
    have he : i = as.length := by omega
    have fin := no s (he ▸ h)
    obtain ⟨hp, g, d, tk, os⟩ := s
    wp_walk using wpAny_loadPart' e1
    have none_ : (as.map Value.ref).toArray[((i : Nat) : Int).toNat]? = none := by simp; omega
    rw [none_]
    wp_walk
    exact fin
  | succ k ih =>
    intro i hk hi s h
    obtain ⟨n, e1⟩ := hl i s h
    have lt : i < as.length := by omega
    have ht := turn i as[i] s (List.getElem?_eq_getElem lt) h
    obtain ⟨hp, g, d, tk, os⟩ := s
    wp_walk using wpAny_loadPart' e1
    have some_ : (as.map Value.ref).toArray[((i : Nat) : Int).toNat]? = some (.ref as[i]) := by simp [lt]
    have hc : ((i : Int) + 1) = ((i + 1 : Nat) : Int) := by omega
    rw [some_]
    refine wpAny_bind (wpAny_mono ht (fun r s2 h2 => ?_) fun _ _ z => z)
    obtain ⟨hr, h3, h4⟩ := h2
    subst hr
    cases hb : e as[i] with
    | true =>
      have y2 := yes s2 (h3 hb)
      obtain ⟨hp2, g2, d2, tk2, os2⟩ := s2
      wp_walk
      exact y2
    | false =>
      have rec_ := ih (i + 1) (by omega) (by omega) s2 (h4 hb)
      obtain ⟨hp2, g2, d2, tk2, os2⟩ := s2
      wp_walk
      rw [hc]
      exact ⟨plainId_quiet MeetsSeq.plain_contains_loop _, codeAny_builtin MeetsSeq.entry_contains_loop (by
        rw [Around.under_plainId MeetsSeq.plain_contains_loop _]
        exact rec_)⟩
end
section
variable {X : Cx} {n : Nat} {f C : Addr} {fd : FuncData} {ps : List Str} {sp : Sp}
/-- what is asked of the items and of what is looked for -/
structure InD (sp : Sp) (C : Addr) (H : Hp) (a l : Addr) (as : List Addr) (e : Addr → Bool) : Prop where
  ha : ∃ dx fs, H a = some (.ins C dx fs)
  hl : H l = some (.lst (as.map V.ref))
  ne : ∀ c ∈ as, c ≠ a
  it : ∀ c ∈ as, ∃ dx fs, H c = some (.ins C dx fs)
  ask : ∀ c ∈ as, ∀ (H' : Hp) (Q : Bool → Hp → Prop), Same H H' → (∀ H2, Same H' H2 → Q (e c) H2) → sp [.ref c, .ref a] H' (fun z H2 => ∃ b, z = .bl b ∧ Q b H2) E0
theorem as_ref : ∀ {as : List Addr} {its : List Value}, Vals (as.map V.ref) its → its = as.map Value.ref
  | [], _, .nil => rfl
  | a :: as, _, .cons r t => by
    cases r
    rw [as_ref t]
    rfl
theorem contains_own (W : OwnC X.K C f) (room : Room (n + 2) X.A) (F : FnOk X.prog X.w X.K X.mg X.base CX0 n f fd ps sp) (bd : Binds X.K fd ps []) {pins : List (Addr × Obj)} {σ : L2.St} {H : Hp} {s : Shared} {a l : Addr} {as : List Addr} {e : Addr → Bool}
    {E : Value → Shared → Prop} {Q : Bool → Shared → Prop} (I : Inv X pins σ H s) (d : InD sp C H a l as e) (q : ∀ H' s', Inv X pins σ H' s' → Same H H' → Q (as.any e) s') :
    wpAny (model X.prog X.w) X.A (call (.builtin "list.__contains__") [.ref l, .ref a]) (fun u s' => ∃ b, u = .bool b ∧ Q b s') E s := by
  have at_ : ∀ {s' : Shared} {H' : Hp}, Inv X pins σ H' s' → Same H H' → ∃ n, s'.heap.get? l = some { cls := .type "list", data := .seq (as.map Value.ref).toArray n } := fun {s' H'} I' sm => by
    obtain ⟨_, its, m, r, e1⟩ := I'.hok l _ (sm _ _ d.hl)
    rw [as_ref r] at e1
    exact ⟨m, e1⟩
  obtain ⟨m0, e0⟩ := at_ I (Same.refl H)
  refine GQ.call_here PySem.F.slot_list_contains ⟨_, e0, rfl⟩ PySem.F.entry_list_contains (PySem.F.args_list_contains_2 _ _) ?_
  have loop := in_loop (prog := X.prog) (w := X.w) (A := X.A) (l := l) (x := a) (as := as) (e := e) (J := fun i s' => ∃ H', Inv X pins σ H' s' ∧ Same H H' ∧ (as.take i).any e = false) (Y := fun s' => ∃ H', Inv X pins σ H' s' ∧ Same H H' ∧ as.any e = true)
    (R := wants (fun u s' => ∃ b, u = .bool b ∧ Q b s') E) (fun i s' z => by
      obtain ⟨H', I', sm, _⟩ := z
      exact at_ I' sm) (fun i c s' hc z => ?_) (fun s' z => ?_) (fun s' z => ?_) as.length 0 (by omega) (Nat.zero_le _) s ⟨H, I, Same.refl H, by simp⟩
  · obtain ⟨hp, g, dd, tk, os⟩ := s
    wp_walk using wpAny_loadPart' e0
    exact ⟨plainId_quiet MeetsSeq.plain_contains_loop _, codeAny_builtin MeetsSeq.entry_contains_loop (by
      rw [Around.under_plainId MeetsSeq.plain_contains_loop _]
      exact loop)⟩
  · obtain ⟨H', I', sm, no⟩ := z
    have cm : c ∈ as := List.mem_of_getElem? hc
    obtain ⟨dx, fs, ec⟩ := d.it c cm
    obtain ⟨dxa, fsa, ea⟩ := d.ha
    obtain ⟨mB, JB, _⟩ := ins_get I'.hok (sm _ _ ea)
    obtain ⟨oB, JB, _⟩ := JB.look
    refine GQ.eqBool_refG (d.ne c cm) (wpAny_mono (rc_L (A := X.A.in1) (n := n) W (by show X.A.frames = some X.stack; exact I.ok.frames) (room.in1.mono (Nat.le_succ _)) F bd I' (sm _ _ ec) (y := .ref a) rfl JB.type (by simp [PySem.W.notFirst])
      (d.ask c cm H' (fun b H2 => b = e c ∧ Same H' H2) sm fun H2 s2 => ⟨rfl, s2⟩)) (fun u s2 hu => ?_) fun _ _ z => z)
    obtain ⟨b, H2, rfl, I2, rfl, s2⟩ := hu
    refine ⟨_, rfl, rfl, fun y => ⟨H2, I2, sm.trans s2, List.any_eq_true.mpr ⟨c, cm, y⟩⟩, fun y => ⟨H2, I2, sm.trans s2, ?_⟩⟩
    rw [List.take_add_one, hc, List.any_append, no]
    simp [y]
  · obtain ⟨H', I', sm, y⟩ := z
    refine ⟨true, rfl, ?_⟩
    have r := q H' s' I' sm
    rw [y] at r
    exact r
  · obtain ⟨H', I', sm, y⟩ := z
    rw [List.take_length] at y
    refine ⟨false, rfl, ?_⟩
    have r := q H' s' I' sm
    rw [y] at r
    exact r
def rInO (sp : Sp) (C : Addr) (neg : Bool) : R2 := fun x y H Q => ∃ (a l : Addr) (as : List Addr) (e : Addr → Bool), x = .ref a ∧ y = .ref l ∧ InD sp C H a l as e ∧ ∀ H', Same H H' → Q (.bl (if neg = true then !as.any e else as.any e)) H'
theorem op_inO (W : OwnC X.K C f) (room : Room (n + 2) X.A) (F : FnOk X.prog X.w X.K X.mg X.base CX0 n f fd ps sp) (bd : Binds X.K fd ps []) : OpR X (compareOp .In) (rInO sp C false) := by
  intro pins s σ H x y u v Q I rx ry h
  obtain ⟨a, l, as, e, rfl, rfl, d, q⟩ := h
  cases rx
  cases ry
  obtain ⟨_, its, m, r, e1⟩ := I.hok l _ d.hl
  show wpAny (model X.prog X.w) X.A (do return Value.bool (← contains (.ref l) (.ref a))) _ _ s
  refine wpAny_bind (wpAny_contains_slot ⟨_, e1, rfl⟩ PySem.F.slot_list_contains (wpAny_mono (contains_own (Q := fun b s' => EP X pins σ Q (.bool b) s') W room F bd I d fun H' s' I' sm => ⟨.bl (as.any e), H', I', rfl, q H' sm⟩) (fun z s' hz => ?_) fun _ _ z => z))
  obtain ⟨b, rfl, hq⟩ := hz
  exact wpAny_truthy_bool (wpAny_pure hq)
theorem op_notInO (W : OwnC X.K C f) (room : Room (n + 2) X.A) (F : FnOk X.prog X.w X.K X.mg X.base CX0 n f fd ps sp) (bd : Binds X.K fd ps []) : OpR X (compareOp .NotIn) (rInO sp C true) := by
  intro pins s σ H x y u v Q I rx ry h
  obtain ⟨a, l, as, e, rfl, rfl, d, q⟩ := h
  cases rx
  cases ry
  obtain ⟨_, its, m, r, e1⟩ := I.hok l _ d.hl
  show wpAny (model X.prog X.w) X.A (do return Value.bool (!(← contains (.ref l) (.ref a)))) _ _ s
  refine wpAny_bind (wpAny_contains_slot ⟨_, e1, rfl⟩ PySem.F.slot_list_contains (wpAny_mono (contains_own (Q := fun b s' => EP X pins σ Q (.bool (!b)) s') W room F bd I d fun H' s' I' sm => ⟨.bl (!as.any e), H', I', rfl, q H' sm⟩) (fun z s' hz => ?_) fun _ _ z => z))
  obtain ⟨b, rfl, hq⟩ := hz
  exact wpAny_truthy_bool (wpAny_pure hq)
end
end K64
set_option Elab.async false
set_option linter.all false
set_option maxRecDepth 100000
set_option maxHeartbeats 4000000
namespace K64
open PySem PySem.Spec PyProof.Rows L2
theorem law_go {P : Program} {w : World} {K : PySem.W.Frag} {mg mb : Str → Option Value} {k : Nat} {fa a : Addr} {fd : FuncData} {x : Str} {sp : Sp} {z : Shared} {vs : List Value} {ns : List Int}
    (kin : K.In z.heap) (nsG : z.heap.Ns mainGlobals mg) (nsB : z.heap.Ns builtinsNs mb) (same : ∀ y : Str, y ≠ "__name__" → mb y = bootBuiltins y) (lim : z.heap.NoLimit) (dig : z.heap.NoDigits) (no : z.gens = #[])
    (at_ : z.heap.get? a = some { cls := .type "list", data := .seq vs.toArray }) (intsA : IntsAre vs ns) (many : ns.length ≤ sizeLine) (room : Room k callerA)
    (F : ∀ base : Heap, K.In base → base.Ns mainGlobals mg → base.NoDigits → Gn P w K mg base k fa fd [x] sp) (bind : ∀ (s : Shared) (u : Value), BindsTo s fd ⟨[u], []⟩ [(x, u)])
    (hsp : ∀ H : Hp, SqL K H a (ns.map V.int) → sp [.ref a] H (fun v _ => v = .bl true) fun _ _ _ => False) :
    codeAny (model P w) callerA (.call (.ref fa) ⟨[.ref a], []⟩) (fun r s' => r = .ok (.ret (.bool true)) ∧ OldK z.heap s'.heap ∧ s'.os = z.os ∧ AllBare s'.gens) z := by
  have rv : Vals (ns.map V.int) vs := vals_ints intsA
  have sz : (ns.map V.int).length ≤ sizeLine := by rw [List.length_map]; exact many
  -- what is tracked: the script, unless it is the module's own
  let u : HO := .frz { cls := .type "list", data := .seq vs.toArray } (.lst (ns.map V.int))
  let H : Hp := fun b => if b = a ∧ K.lookup a = none then some u else none
  have only : ∀ b o, H b = some o → b = a ∧ K.lookup a = none ∧ o = u := fun b o e => by
    by_cases c : b = a ∧ K.lookup a = none
    · have e2 : H b = some u := if_pos c
      rw [e2] at e
      exact ⟨c.1, c.2, (Option.some.inj e).symm⟩
    · have e2 : H b = none := if_neg c
      rw [e2] at e
      cases e
  have sq : SqL K H a (ns.map V.int) := by
    cases hk : K.lookup a with
    | none => exact .inl (.inr ⟨_, if_pos ⟨rfl, hk⟩⟩)
    | some o =>
      have e := kin a o hk
      rw [at_] at e
      cases e
      exact .inr ⟨_, vs.toArray, _, hk, rfl, rfl, rfl, by rw [List.size_toArray, ← rv.length]; exact sz, by simpa using rv⟩
  have hok : HOk P w H z.heap := fun b o e => by
    obtain ⟨rfl, _, rfl⟩ := only b o e
    exact ⟨at_, sz, vs, _, rv, at_⟩
  have dictFree : ∀ {b : Addr} {o : Obj} {es : Array DictEntry} {ep : Nat}, z.heap.get? b = some o → o.data = .dict es ep → H b = none := fun {b o es ep} e d => by
    cases q : H b with
    | none => rfl
    | some v =>
      obtain ⟨rfl, _, _⟩ := only b v q
      rw [at_] at e
      cases e
      cases (show Data.seq vs.toArray _ = Data.dict es ep from d)
  have nsK : ∀ {b : Addr} {m : Str → Option Value}, z.heap.Ns b m → (hidT z.heap H).Ns b m := fun {b m} q => by
    obtain ⟨o, es, ep, e, d, r⟩ := q
    exact ⟨o, es, ep, hidT_get e (dictFree e d), d, r⟩
  have kb : K.In (hidT z.heap H) := fun b o e => by
    refine hidT_get (kin b o e) ?_
    cases q : H b with
    | none => rfl
    | some v =>
      obtain ⟨rfl, n, _⟩ := only b v q
      rw [n] at e
      cases e
  have limB : (hidT z.heap H).NoLimit := by
    obtain ⟨mc, h1, h2⟩ := lim
    exact ⟨mc, nsK h1, h2⟩
  have digB : (hidT z.heap H).NoDigits := by
    obtain ⟨mc, h1, h2⟩ := dig
    exact ⟨mc, nsK h1, h2⟩
  have en : Env0 P w K mg (hidT z.heap H) callerA [] z H :=
    ⟨rfl, ⟨kb, nsK nsG, ⟨mb, nsK nsB, same⟩, limB⟩, fun _ _ e => of_hidT e, Nat.le_of_eq (hidT_size _ _), trivial, (fun b hb => absurd (show b ∈ ([] : List Addr) from hb) List.not_mem_nil), hok, .of_eq no⟩
  refine codeAny_mono ((F _ kb (nsK nsG) digB).go callerA [] z H ⟨[.ref a], []⟩ [.ref a] [.ref a] _ _ rfl room en (bind z (.ref a)) (.cons rfl .nil) (hsp H sq)) fun r s' h => ?_
  match r, h with
  | .error e, h => exact False.elim h
  | .ok .next, h => exact False.elim h
  | .ok .brk, h => exact False.elim h
  | .ok .cont, h => exact False.elim h
  | .ok (.ret y), h =>
    obtain ⟨v, H', os, bare, un, hok', r', q⟩ := h
    obtain rfl : v = .bl true := q
    obtain rfl : y = Value.bool true := r'
    refine ⟨rfl, OldK.of_keep fun b o e => ?_, os, bare⟩
    cases q : H b with
    | none => exact un.keep b o e q (fun y => by cases y) (fun y => by cases y)
    | some v =>
      obtain ⟨rfl, _, rfl⟩ := only b v q
      have e2 := (hok' _ _ (un.frzs _ _ _ q)).1
      rw [at_] at e
      cases e
      exact e2
theorem walk_go {l : PySem.W.OpenLaw} {n k : Nat} {q : Program} {loose : List Str} {XP : (Str → Option Value) → Heap → Prop} {YP : World → Heap → Prop} {d : DefRec} {K : Params → PySem.W.Frag} {sp : PySem.W.Frag → Sp} {x : Str}
    (most : l.most = some n) (small : n ≤ sizeLine) (nodef : d.params.defaults = []) (room : Room k callerA) (hY : ∀ (w : World) (h : Heap), YP w h → (K w.params).In h)
    (F : ∀ (w : World) (mg : Str → Option Value) (fa : Addr) (h : Heap), (K w.params).In h → h.Ns mainGlobals mg → mg d.name = some (.ref fa) →
      ∃ fd : FuncData, (∀ (s : Shared) (u : Value), BindsTo s fd ⟨[u], []⟩ [(x, u)]) ∧ ∀ base : Heap, (K w.params).In base → base.Ns mainGlobals mg → base.NoDigits →
        Gn l.prog w (K w.params) mg base k fa fd [x] (sp (K w.params)))
    (hsp : ∀ (K : PySem.W.Frag) (H : Hp) (a : Addr) (ns : List Int), ns.length ≤ n → SqL K H a (ns.map V.int) → sp K [.ref a] H (fun v _ => v = .bl true) fun _ _ _ => False) :
    PySem.W.WalkO q loose XP YP l.row.toRowW d [] (fun f vs => PySem.call f vs) := by
  refine Att.attach_call most nodef fun w s₀ s₁ mg mb fa o pm cd doc a vs ns G Y _ _ _ hmg hobj hints hlen hg => ?_
  have kin := hY w _ Y
  obtain ⟨fd, hb, hF⟩ := F w mg fa _ kin G.T.g hmg
  exact law_go kin G.T.g G.T.b G.T.builtins G.T.nolimit G.T.nodigits hg hobj hints (Nat.le_trans hlen small) room hF hb fun H hS => hsp _ H a ns hlen hS
end K64
set_option Elab.async false
set_option linter.all false
set_option maxRecDepth 100000
set_option maxHeartbeats 4000000
set_option pp.maxSteps 400
set_option pp.deepTerms false
namespace K64
open PySem PySem.Spec PyProof.Rows L2
open Xk Az Xtx
theorem scNoTextInit : FnScope ["self", "row", "wanted"] ["self", "row", "wanted"] (defScope sNoTextInit) := ⟨rfl, rfl, rfl, by decide +kernel, rfl, by decide +kernel, by decide +kernel⟩
theorem scIsWhole : FnScope ["thing"] ["thing"] (defScope sIsWhole) := ⟨rfl, rfl, rfl, by decide +kernel, rfl, by decide +kernel, by decide +kernel⟩
theorem scIsWithin : FnScope ["thing", "least", "most"] ["thing", "least", "most"] (defScope sIsWithin) := ⟨rfl, rfl, rfl, by decide +kernel, rfl, by decide +kernel, by decide +kernel⟩
theorem scIsTextOf : FnScope ["thing", "signs", "least", "most", "sign"] ["thing", "signs", "least", "most"] (defScope sIsTextOf) := ⟨rfl, rfl, rfl, by decide +kernel, rfl, by decide +kernel, by decide +kernel⟩
theorem scIsSmallText : FnScope ["thing", "least", "most"] ["thing", "least", "most"] (defScope sIsSmallText) := ⟨rfl, rfl, rfl, by decide +kernel, rfl, by decide +kernel, by decide +kernel⟩
theorem scIsWord : FnScope ["thing"] ["thing"] (defScope sIsWord) := ⟨rfl, rfl, rfl, by decide +kernel, rfl, by decide +kernel, by decide +kernel⟩
theorem scAreRising : FnScope ["things", "one", "other"] ["things"] (defScope sAreRising) := ⟨rfl, rfl, rfl, by decide +kernel, rfl, by decide +kernel, by decide +kernel⟩
theorem scIsLeap : FnScope ["year"] ["year"] (defScope sIsLeap) := ⟨rfl, rfl, rfl, by decide +kernel, rfl, by decide +kernel, by decide +kernel⟩
theorem scDaysIn : FnScope ["year", "month"] ["year", "month"] (defScope sDaysIn) := ⟨rfl, rfl, rfl, by decide +kernel, rfl, by decide +kernel, by decide +kernel⟩
theorem scMakesDay : FnScope ["year", "month", "day"] ["year", "month", "day"] (defScope sMakesDay) := ⟨rfl, rfl, rfl, by decide +kernel, rfl, by decide +kernel, by decide +kernel⟩
theorem scDayInit : FnScope ["self", "year", "month", "day"] ["self", "year", "month", "day"] (defScope sDayInit) := ⟨rfl, rfl, rfl, by decide +kernel, rfl, by decide +kernel, by decide +kernel⟩
theorem scDayEq : FnScope ["self", "other"] ["self", "other"] (defScope sDayEq) := ⟨rfl, rfl, rfl, by decide +kernel, rfl, by decide +kernel, by decide +kernel⟩
theorem scDayStr : FnScope ["self"] ["self"] (defScope sDayStr) := ⟨rfl, rfl, rfl, by decide +kernel, rfl, by decide +kernel, by decide +kernel⟩
theorem scDayRepr : FnScope ["self"] ["self"] (defScope sDayRepr) := ⟨rfl, rfl, rfl, by decide +kernel, rfl, by decide +kernel, by decide +kernel⟩
theorem scBeyondMinutes : FnScope ["seconds"] ["seconds"] (defScope sBeyondMinutes) := ⟨rfl, rfl, rfl, by decide +kernel, rfl, by decide +kernel, by decide +kernel⟩
theorem scLengthInit : FnScope ["self", "seconds"] ["self", "seconds"] (defScope sLengthInit) := ⟨rfl, rfl, rfl, by decide +kernel, rfl, by decide +kernel, by decide +kernel⟩
theorem scLengthEq : FnScope ["self", "other"] ["self", "other"] (defScope sLengthEq) := ⟨rfl, rfl, rfl, by decide +kernel, rfl, by decide +kernel, by decide +kernel⟩
theorem scLengthStr : FnScope ["self"] ["self"] (defScope sLengthStr) := ⟨rfl, rfl, rfl, by decide +kernel, rfl, by decide +kernel, by decide +kernel⟩
theorem scLengthRepr : FnScope ["self"] ["self"] (defScope sLengthRepr) := ⟨rfl, rfl, rfl, by decide +kernel, rfl, by decide +kernel, by decide +kernel⟩
theorem scIsTongue : FnScope ["thing"] ["thing"] (defScope sIsTongue) := ⟨rfl, rfl, rfl, by decide +kernel, rfl, by decide +kernel, by decide +kernel⟩
theorem scIsNameText : FnScope ["thing"] ["thing"] (defScope sIsNameText) := ⟨rfl, rfl, rfl, by decide +kernel, rfl, by decide +kernel, by decide +kernel⟩
theorem scIsName : FnScope ["thing"] ["thing"] (defScope sIsName) := ⟨rfl, rfl, rfl, by decide +kernel, rfl, by decide +kernel, by decide +kernel⟩
theorem scIsKey : FnScope ["thing", "house", "number"] ["thing"] (defScope sIsKey) := ⟨rfl, rfl, rfl, by decide +kernel, rfl, by decide +kernel, by decide +kernel⟩
theorem scIsCode : FnScope ["thing"] ["thing"] (defScope sIsCode) := ⟨rfl, rfl, rfl, by decide +kernel, rfl, by decide +kernel, by decide +kernel⟩
theorem scArePlayers : FnScope ["thing", "player"] ["thing"] (defScope sArePlayers) := ⟨rfl, rfl, rfl, by decide +kernel, rfl, by decide +kernel, by decide +kernel⟩
theorem scIsEntry : FnScope ["thing", "house", "number", "code", "title", "players", "day", "length"] ["thing"] (defScope sIsEntry) := ⟨rfl, rfl, rfl, by decide +kernel, rfl, by decide +kernel, by decide +kernel⟩
theorem scKeyOf : FnScope ["entry"] ["entry"] (defScope sKeyOf) := ⟨rfl, rfl, rfl, by decide +kernel, rfl, by decide +kernel, by decide +kernel⟩
theorem scFieldOf : FnScope ["entry", "field"] ["entry", "field"] (defScope sFieldOf) := ⟨rfl, rfl, rfl, by decide +kernel, rfl, by decide +kernel, by decide +kernel⟩
theorem scShowName : FnScope ["name", "tongue", "text"] ["name"] (defScope sShowName) := ⟨rfl, rfl, rfl, by decide +kernel, rfl, by decide +kernel, by decide +kernel⟩
theorem scShowKey : FnScope ["key", "house", "number"] ["key"] (defScope sShowKey) := ⟨rfl, rfl, rfl, by decide +kernel, rfl, by decide +kernel, by decide +kernel⟩
theorem scShowTold : FnScope ["field", "thing", "text", "player"] ["field", "thing"] (defScope sShowTold) := ⟨rfl, rfl, rfl, by decide +kernel, rfl, by decide +kernel, by decide +kernel⟩
theorem scShowEntry : FnScope ["entry", "fields", "field"] ["entry"] (defScope sShowEntry) := ⟨rfl, rfl, rfl, by decide +kernel, rfl, by decide +kernel, by decide +kernel⟩
theorem scAreFigures : FnScope ["text", "least", "most"] ["text", "least", "most"] (defScope sAreFigures) := ⟨rfl, rfl, rfl, by decide +kernel, rfl, by decide +kernel, by decide +kernel⟩
theorem scNumberIn : FnScope ["text"] ["text"] (defScope sNumberIn) := ⟨rfl, rfl, rfl, by decide +kernel, rfl, by decide +kernel, by decide +kernel⟩
theorem scDayIn : FnScope ["text", "parts", "year", "month", "day", "part"] ["text"] (defScope sDayIn) := ⟨rfl, rfl, rfl, by decide +kernel, rfl, by decide +kernel, by decide +kernel⟩
theorem scLengthIn : FnScope ["text", "minutes", "colon", "seconds", "whole", "total"] ["text"] (defScope sLengthIn) := ⟨rfl, rfl, rfl, by decide +kernel, rfl, by decide +kernel, by decide +kernel⟩
theorem scNameIn : FnScope ["text", "tongue", "colon", "rest"] ["text"] (defScope sNameIn) := ⟨rfl, rfl, rfl, by decide +kernel, rfl, by decide +kernel, by decide +kernel⟩
theorem scKeyIn : FnScope ["text", "house", "blank", "figures", "key"] ["text"] (defScope sKeyIn) := ⟨rfl, rfl, rfl, by decide +kernel, rfl, by decide +kernel, by decide +kernel⟩
theorem scAllIn : FnScope ["reader", "text", "things", "piece"] ["reader", "text"] (defScope sAllIn) := ⟨rfl, rfl, rfl, by decide +kernel, rfl, by decide +kernel, by decide +kernel⟩
theorem scNamesIn : FnScope ["text"] ["text"] (defScope sNamesIn) := ⟨rfl, rfl, rfl, by decide +kernel, rfl, by decide +kernel, by decide +kernel⟩
theorem scCodeIn : FnScope ["text"] ["text"] (defScope sCodeIn) := ⟨rfl, rfl, rfl, by decide +kernel, rfl, by decide +kernel, by decide +kernel⟩
theorem scToldIn : FnScope ["field", "pieces", "start", "reader", "piece"] ["field", "pieces"] (defScope sToldIn) := ⟨rfl, rfl, rfl, by decide +kernel, rfl, by decide +kernel, by decide +kernel⟩
theorem scEntryIn : FnScope ["text", "head", "pieces", "key", "entry", "field"] ["text"] (defScope sEntryIn) := ⟨rfl, rfl, rfl, by decide +kernel, rfl, by decide +kernel, by decide +kernel⟩
theorem scSoWritten : FnScope ["reader", "text", "wanted", "row", "thing"] ["reader", "text", "wanted", "row"] (defScope sSoWritten) := ⟨rfl, rfl, rfl, by decide +kernel, rfl, by decide +kernel, by decide +kernel⟩
theorem scReadEntry : FnScope ["text"] ["text"] (defScope sReadEntry) := ⟨rfl, rfl, rfl, by decide +kernel, rfl, by decide +kernel, by decide +kernel⟩
theorem scHand : FnScope ["_law_script", "_law_k", "_law_cell", "_law_great"] ["_law_script", "_law_k"] (defScope sHand) := ⟨rfl, rfl, rfl, by decide +kernel, rfl, by decide +kernel, by decide +kernel⟩
theorem scTake : FnScope ["_law_hand_here", "_law_many", "_law_digit", "_law_mixed"] ["_law_hand_here", "_law_many"] (defScope sTake) := ⟨rfl, rfl, rfl, by decide +kernel, rfl, by decide +kernel, by decide +kernel⟩
theorem scPick : FnScope ["_law_hand_here", "_law_some"] ["_law_hand_here", "_law_some"] (defScope sPick) := ⟨rfl, rfl, rfl, by decide +kernel, rfl, by decide +kernel, by decide +kernel⟩
theorem scLast : FnScope ["_law_y", "_law_m", "_law_fourth", "_law_hundredth"] ["_law_y", "_law_m"] (defScope sLast) := ⟨rfl, rfl, rfl, by decide +kernel, rfl, by decide +kernel, by decide +kernel⟩
theorem scParts : FnScope ["_law_hand_here", "_law_some", "_law_y", "_law_tells", "_law_m", "_law_last_here", "_law_d"] ["_law_hand_here"] (defScope sParts) := ⟨rfl, rfl, rfl, by decide +kernel, rfl, by decide +kernel, by decide +kernel⟩
theorem scDayText : FnScope ["_law_parts_here", "_law_text", "_law_part"] ["_law_parts_here"] (defScope sDayText) := ⟨rfl, rfl, rfl, by decide +kernel, rfl, by decide +kernel, by decide +kernel⟩
theorem scName : FnScope ["_law_hand_here", "_law_small", "_law_signs", "_law_tongue", "_law_words", "_law_turn", "_law_k"] ["_law_hand_here"] (defScope sName) := ⟨rfl, rfl, rfl, by decide +kernel, rfl, by decide +kernel, by decide +kernel⟩
theorem scKey : FnScope ["_law_hand_here", "_law_house", "_law_k"] ["_law_hand_here"] (defScope sKey) := ⟨rfl, rfl, rfl, by decide +kernel, rfl, by decide +kernel, by decide +kernel⟩
theorem scSeconds : FnScope ["_law_hand_here"] ["_law_hand_here"] (defScope sSeconds) := ⟨rfl, rfl, rfl, by decide +kernel, rfl, by decide +kernel, by decide +kernel⟩
theorem scEntry : FnScope ["_law_hand_here", "_law_k", "_law_code", "_law_players", "_law_player", "_law_fields", "_law_field"] ["_law_hand_here"] (defScope sEntry) := ⟨rfl, rfl, rfl, by decide +kernel, rfl, by decide +kernel, by decide +kernel⟩
theorem scMade : FnScope ["_law_entry_here", "_law_told"] ["_law_entry_here"] (defScope sMade) := ⟨rfl, rfl, rfl, by decide +kernel, rfl, by decide +kernel, by decide +kernel⟩
theorem scLengthText : FnScope ["_law_count", "_law_rest"] ["_law_count"] (defScope sLengthText) := ⟨rfl, rfl, rfl, by decide +kernel, rfl, by decide +kernel, by decide +kernel⟩
theorem scEntryText : FnScope ["_law_entry_here", "_law_house", "_law_number_here", "_law_code", "_law_title", "_law_players", "_law_parts_here", "_law_count", "_law_text", "_law_tongue", "_law_name_here"] ["_law_entry_here"] (defScope sEntryText) := ⟨rfl, rfl, rfl, by decide +kernel, rfl, by decide +kernel, by decide +kernel⟩
theorem scFigures : FnScope ["_law_word", "_law_sign"] ["_law_word"] (defScope sFigures) := ⟨rfl, rfl, rfl, by decide +kernel, rfl, by decide +kernel, by decide +kernel⟩
theorem scNumber : FnScope ["_law_word"] ["_law_word"] (defScope sNumber) := ⟨rfl, rfl, rfl, by decide +kernel, rfl, by decide +kernel, by decide +kernel⟩
theorem scLawDayIn : FnScope ["_law_text", "_law_parts_here", "_law_y", "_law_m", "_law_d", "_law_part"] ["_law_text"] (defScope sLawDayIn) := ⟨rfl, rfl, rfl, by decide +kernel, rfl, by decide +kernel, by decide +kernel⟩
theorem scLawLengthIn : FnScope ["_law_text", "_law_parts_here", "_law_count"] ["_law_text"] (defScope sLawLengthIn) := ⟨rfl, rfl, rfl, by decide +kernel, rfl, by decide +kernel, by decide +kernel⟩
theorem scLawNameIn : FnScope ["_law_text", "_law_signs", "_law_at", "_law_tongue", "_law_rest", "_law_sign"] ["_law_text"] (defScope sLawNameIn) := ⟨rfl, rfl, rfl, by decide +kernel, rfl, by decide +kernel, by decide +kernel⟩
theorem scLawKeyIn : FnScope ["_law_text", "_law_parts_here", "_law_sign"] ["_law_text"] (defScope sLawKeyIn) := ⟨rfl, rfl, rfl, by decide +kernel, rfl, by decide +kernel, by decide +kernel⟩
theorem scLawPlayersIn : FnScope ["_law_text", "_law_found", "_law_part", "_law_one", "_law_other"] ["_law_text"] (defScope sLawPlayersIn) := ⟨rfl, rfl, rfl, by decide +kernel, rfl, by decide +kernel, by decide +kernel⟩
theorem scLawCodeIn : FnScope ["_law_text", "_law_signs", "_law_sign"] ["_law_text"] (defScope sLawCodeIn) := ⟨rfl, rfl, rfl, by decide +kernel, rfl, by decide +kernel, by decide +kernel⟩
theorem scLawFieldIn : FnScope ["_law_spot", "_law_text"] ["_law_spot", "_law_text"] (defScope sLawFieldIn) := ⟨rfl, rfl, rfl, by decide +kernel, rfl, by decide +kernel, by decide +kernel⟩
theorem scLawEntryIn : FnScope ["_law_row", "_law_parts_here", "_law_heads", "_law_key_here", "_law_fields", "_law_last_here", "_law_part", "_law_spots", "_law_spot", "_law_head"] ["_law_row"] (defScope sLawEntryIn) := ⟨rfl, rfl, rfl, by decide +kernel, rfl, by decide +kernel, by decide +kernel⟩
theorem scBent : FnScope ["_law_hand_here", "_law_text", "_law_words", "_law_sign", "_law_way", "_law_joint", "_law_at", "_law_bits", "_law_spot", "_law_other"] ["_law_hand_here", "_law_text", "_law_words"] (defScope sBent) := ⟨rfl, rfl, rfl, by decide +kernel, rfl, by decide +kernel, by decide +kernel⟩
theorem scAlone : FnScope ["_law_e"] ["_law_e"] (defScope sAlone) := ⟨rfl, rfl, rfl, by decide +kernel, rfl, by decide +kernel, by decide +kernel⟩
theorem scAsked : FnScope ["_law_row", "_law_caught", "_law_found", "_law_e"] ["_law_row"] (defScope sAsked) := ⟨rfl, rfl, rfl, by decide +kernel, rfl, by decide +kernel, by decide +kernel⟩
theorem scDue : FnScope ["_law_row", "_law_entry_here"] ["_law_row"] (defScope sDue) := ⟨rfl, rfl, rfl, by decide +kernel, rfl, by decide +kernel, by decide +kernel⟩
theorem scRight : FnScope ["_law_hand_here", "_law_row", "_law_words", "_law_turn", "_law_some", "_law_bend"] ["_law_hand_here"] (defScope sRight) := ⟨rfl, rfl, rfl, by decide +kernel, rfl, by decide +kernel, by decide +kernel⟩
theorem scLaw : FnScope ["_law_script", "_law_k"] ["_law_script"] (defScope sLaw) := ⟨rfl, rfl, rfl, by decide +kernel, rfl, by decide +kernel, by decide +kernel⟩
def leap (y : Int) : Bool := decide (y % 4 = 0) && (decide (y % 100 ≠ 0) || decide (y % 400 = 0))
def lastDay (y m : Int) : Int := if m = 4 ∨ m = 6 ∨ m = 9 ∨ m = 11 then 30 else if m ≠ 2 then 31 else if leap y = true then 29 else 28
theorem lastDay_ge (y m : Int) : 28 ≤ lastDay y m ∧ lastDay y m ≤ 31 := by
  unfold lastDay
  split
  · omega
  · split
    · omega
    · split <;> omega
/-- the parts of a day -/
def Good (y : Int) (m d : Option Int) : Prop := 1 ≤ y ∧ y ≤ 9999 ∧ match m with
  | none => d = none
  | some i => 1 ≤ i ∧ i ≤ 12 ∧ match d with
    | none => True
    | some j => 1 ≤ j ∧ j ≤ lastDay y i
def oV : Option Int → V
  | none => .non
  | some i => .int i
def oD : Option Int → PyData
  | none => .none
  | some i => .int i
/-! ## objects -/
/-- all that was tracked stands but for the hand -/
def But (h : Addr) (H H' : Hp) : Prop := ∀ b o, b ≠ h → H b = some o → H' b = some o
theorem But.refl (h : Addr) (H : Hp) : But h H H := fun _ _ _ e => e
theorem But.trans {h : Addr} {H H1 H2 : Hp} (p : But h H H1) (q : But h H1 H2) : But h H H2 := fun b o n e => q b o n (p b o n e)
theorem Same.but {H H' : Hp} (s : Same H H') (h : Addr) : But h H H' := fun b o _ e => s b o e
theorem But.seqT {K : PySem.W.Frag} {h : Addr} {H H' : Hp} (s : But h H H') {t : Addr} {xs : List V} (n : t ≠ h) (q : SqT K H t xs) : SqT K H' t xs := by
  rcases q with (q | ⟨o, q⟩) | q
  · exact .inl (.inl (s _ _ n q))
  · exact .inl (.inr ⟨o, s _ _ n q⟩)
  · exact .inr q
theorem But.seqL {K : PySem.W.Frag} {h : Addr} {H H' : Hp} (s : But h H H') {t : Addr} {xs : List V} (n : t ≠ h) (q : SqL K H t xs) : SqL K H' t xs := by
  rcases q with (q | ⟨o, q⟩) | q
  · exact .inl (.inl (s _ _ n q))
  · exact .inl (.inr ⟨o, s _ _ n q⟩)
  · exact .inr q
theorem Same.seqT {K : PySem.W.Frag} {H H' : Hp} (s : Same H H') {t : Addr} {xs : List V} (q : SqT K H t xs) : SqT K H' t xs := by
  rcases q with (q | ⟨o, q⟩) | q
  · exact .inl (.inl (s _ _ q))
  · exact .inl (.inr ⟨o, s _ _ q⟩)
  · exact .inr q
theorem same_upd {H : Hp} {p : Addr} {o : HO} (h : H p = none) : Same H (upd H p o) := fun b x e => by
  rw [upd_ne (ne_of_none e h)]
  exact e
theorem but_upd {H : Hp} {p : Addr} {o : HO} : But p H (upd H p o) := fun b x n e => by
  rw [upd_ne n]
  exact e
/-- the hand: what is left of the cell, what it is mixed of, how often it was asked -/
def Hand (n : Int) (H : Hp) (a : Addr) : Prop := ∃ g m c : Int, H a = some (.lst [.int g, .int m, .int c]) ∧ 0 ≤ g ∧ 0 ≤ m ∧ m < 2305843009213693951 ∧ 0 ≤ c ∧ c ≤ n
theorem Hand.mono {n n' : Int} {H : Hp} {a : Addr} (h : Hand n H a) (l : n ≤ n') : Hand n' H a := by
  obtain ⟨g, m, c, e, h1, h2, h3, h4, h5⟩ := h
  exact ⟨g, m, c, e, h1, h2, h3, h4, Int.le_trans h5 l⟩
theorem Hand.same {n : Int} {H H' : Hp} {a : Addr} (h : Hand n H a) (s : Same H H') : Hand n H' a := by
  obtain ⟨g, m, c, e, r⟩ := h
  exact ⟨g, m, c, s _ _ e, r⟩
theorem Hand.at_ {n : Int} {H : Hp} {a : Addr} (h : Hand n H a) : ∃ xs, H a = some (.lst xs) := by
  obtain ⟨g, m, c, e, r⟩ := h
  exact ⟨_, e⟩
theorem Hand.ne_tup {K : PySem.W.Frag} {n : Int} {H : Hp} {a t : Addr} {xs : List V} (h : Hand n H a) (e : H t = some (.tup xs)) : t ≠ a := by
  obtain ⟨ys, e2⟩ := h.at_
  exact ne_of e e2 (by intro z; cases z)
theorem But.free {h l : Addr} {H H' : Hp} (b : But h H H') (ne : l ≠ h) (e : H' l = none) : H l = none := by
  cases q : H l with
  | none => rfl
  | some o =>
    rw [b l o ne q] at e
    cases e
theorem Hand.fresh {n : Int} {H : Hp} {a l : Addr} (h : Hand n H a) (e : H l = none) : l ≠ a := by
  obtain ⟨xs, q⟩ := h.at_
  exact (ne_of_none q e).symm
theorem Hand.upd {n : Int} {H : Hp} {a p : Addr} {x : HO} (h : Hand n H a) (ne : a ≠ p) : Hand n (L2.upd H p x) a := by
  obtain ⟨g, m, c, e, r⟩ := h
  exact ⟨g, m, c, by rw [upd_ne ne]; exact e, r⟩
/-- the fields of a Day -/
def dayF (y : Int) (m d : Option Int) : List (Str × V) := [("year", .int y), ("month", oV m), ("day", oV d)]
def DayAt (C : Addr) (H : Hp) (x : Addr) (y : Int) (m d : Option Int) : Prop := ∃ dx, H x = some (.ins C dx (dayF y m d))
theorem DayAt.same {C : Addr} {H H' : Hp} {x : Addr} {y : Int} {m d : Option Int} (h : DayAt C H x y m d) (s : Same H H') : DayAt C H' x y m d := by
  obtain ⟨dx, e⟩ := h
  exact ⟨dx, s _ _ e⟩
theorem DayAt.but {C h : Addr} {n : Int} {H H' : Hp} {x : Addr} {y : Int} {m d : Option Int} (q : DayAt C H x y m d) (hh : Hand n H h) (s : But h H H') : DayAt C H' x y m d := by
  obtain ⟨dx, e⟩ := q
  obtain ⟨ys, e2⟩ := hh.at_
  exact ⟨dx, s _ _ (ne_of e e2 (by intro z; cases z)) e⟩
theorem f_y (y : Int) (m d : Option Int) : (dayF y m d).lookup ("year" : Str) = some (.int y) := by
  unfold dayF
  rw [List.lookup_cons_self]
theorem f_m (y : Int) (m d : Option Int) : (dayF y m d).lookup ("month" : Str) = some (oV m) := by
  unfold dayF
  rw [List.lookup_cons, show (("month" : Str) == "year") = false by decide +kernel, List.lookup_cons_self]
theorem f_d (y : Int) (m d : Option Int) : (dayF y m d).lookup ("day" : Str) = some (oV d) := by
  unfold dayF
  rw [List.lookup_cons, show (("day" : Str) == "year") = false by decide +kernel, List.lookup_cons, show (("day" : Str) == "month") = false by decide +kernel, List.lookup_cons_self]
def LenAt (C : Addr) (H : Hp) (x : Addr) (i : Int) : Prop := ∃ dx, H x = some (.ins C dx [("seconds", .int i)])
theorem LenAt.same {C : Addr} {H H' : Hp} {x : Addr} {i : Int} (h : LenAt C H x i) (s : L2.Same H H') : LenAt C H' x i := by
  obtain ⟨dx, e⟩ := h
  exact ⟨dx, s _ _ e⟩
theorem LenAt.but {C h : Addr} {n : Int} {H H' : Hp} {x : Addr} {i : Int} (q : LenAt C H x i) (hh : Hand n H h) (s : But h H H') : LenAt C H' x i := by
  obtain ⟨dx, e⟩ := q
  obtain ⟨ys, e2⟩ := hh.at_
  exact ⟨dx, s _ _ (ne_of e e2 (by intro z; cases z)) e⟩
theorem f_s (i : Int) : ([(("seconds" : Str), V.int i)] : List (Str × V)).lookup ("seconds" : Str) = some (.int i) := by rw [List.lookup_cons_self]
/-- an exception's making ends so -/
theorem made_x {H H2 : Hp} {a d : Addr} {o : HO} (na : H a = none) (ne : d ≠ a) (off : ∀ b, b ≠ a → b ≠ d → H2 b = H b) : upd (del H2 a) d o = upd H d o := by
  funext b
  by_cases hd : b = d
  · rw [hd, upd_same, upd_same]
  · rw [upd_ne hd, upd_ne hd]
    by_cases ha : b = a
    · rw [ha, del_same, na]
    · rw [del_ne ha, off b ha hd]
theorem off_all {h : Addr} {H : Hp} : L2.Same (del H h) H := fun b o e => by
  by_cases z : b = h
  · rw [z, del_same] at e
    cases e
  · rw [del_ne z] at e
    exact e
theorem off_but {h : Addr} {H H' : Hp} (s : But h H H') : L2.Same (del H h) (del H' h) := fun b o e => by
  by_cases z : b = h
  · rw [z, del_same] at e
    cases e
  · rw [del_ne z] at e
    rw [del_ne z]
    exact s b o z e
theorem off_new {h p : Addr} {H : Hp} {o : HO} (ne : p ≠ h) : del (upd H p o) h p = some o := by rw [del_ne ne, upd_same]
theorem off_at {h p : Addr} {H : Hp} {o : HO} (ne : p ≠ h) (e : H p = some o) : del H h p = some o := by rw [del_ne ne, e]
/-- things of the built-in kinds that are asked -/
inductive Odd (H : Hp) : V → String → Prop where
  | int (i : Int) : Odd H (.int i) "int"
  | str (x : Str) : Odd H (.str x) "str"
  | non : Odd H .non "NoneType"
  | tup {a : Addr} {xs : List V} (e : H a = some (.tup xs)) : Odd H (.ref a) "tuple"
  | lst {a : Addr} {xs : List V} (e : H a = some (.lst xs)) : Odd H (.ref a) "list"
abbrev OddT (t : String) : Prop := t = "int" ∨ t = "str" ∨ t = "NoneType" ∨ t = "tuple" ∨ t = "list"
theorem Odd.one {H : Hp} {o : V} {t : String} (h : Odd H o t) : OddT t := by
  cases h <;> simp [OddT]
theorem Odd.ty {K : PySem.W.Frag} {H : Hp} {o : V} {t : String} (h : Odd H o t) : TyX K H o (.type t) := by
  cases h with
  | int i => exact .base (.int i)
  | str x => exact .base (.str x)
  | non => exact .base .non
  | tup e => exact .base (.tup e)
  | lst e => exact .base (.lst e)
theorem Odd.same {H H' : Hp} {o : V} {t : String} (h : Odd H o t) (s : Same H H') : Odd H' o t := by
  cases h with
  | int i => exact .int i
  | str x => exact .str x
  | non => exact .non
  | tup e => exact .tup (s _ _ e)
  | lst e => exact .lst (s _ _ e)
structure KitC (K : PySem.W.Frag) (C : Addr) : Prop where
  me : PySem.W.kitOne K (.ref C) (.ref C) = some true
  no : ∀ t : String, OddT t → PySem.W.kitOne K (.type t) (.ref C) = some false
  sub : ∀ t : String, OddT t → PySem.W.subIn K (.type t) (.ref C) = some false
theorem kitC_mk {K : PySem.W.Frag} {C : Addr} (ty : PySem.W.typeIn K (.ref C) = some (.type "type")) (mo : PySem.W.mroIn K C (.type "object") = some true) (s1 : PySem.W.subIn K (.type "int") (.ref C) = some false)
    (s2 : PySem.W.subIn K (.type "str") (.ref C) = some false) (s3 : PySem.W.subIn K (.type "NoneType") (.ref C) = some false) (s4 : PySem.W.subIn K (.type "tuple") (.ref C) = some false) (s5 : PySem.W.subIn K (.type "list") (.ref C) = some false) : KitC K C := by
  have cl : (PySem.W.clsIn K C).isSome = true := by
    unfold PySem.W.mroIn at mo
    cases e : PySem.W.clsIn K C with
    | none => rw [e] at mo; cases mo
    | some c => rfl
  have sub : ∀ t : String, OddT t → PySem.W.subIn K (.type t) (.ref C) = some false := fun t ht => by
    rcases ht with rfl | rfl | rfl | rfl | rfl
    · exact s1
    · exact s2
    · exact s3
    · exact s4
    · exact s5
  refine ⟨?_, fun t ht => ?_, sub⟩
  · unfold PySem.W.kitOne
    simp
  · have q : (Value.type t == Value.ref C) = false := rfl
    unfold PySem.W.kitOne
    rw [q]
    simp only [Bool.false_eq_true, if_false]
    unfold PySem.W.kitCls
    dsimp only
    rw [cl, ty]
    simp only [beq_self_eq_true, Bool.and_self, if_true]
    exact sub t ht
section
variable {X : Cx} {pins : List (Addr × Obj)} {σ : L2.St} {H : Hp} {s : Shared} {n : Nat} {f C : Addr} {fd : FuncData} {ps : List Str} {sp : Sp}
/-- a def of the written part is run somewhere below -/
theorem own_run {A : Around} {vs : List V} {us : List Value} {Q : VK} {E : Value → Shared → Prop} (fr : A.frames = some X.stack) (room : Room n A) (F : FnOk X.prog X.w X.K X.mg X.base CX0 n f fd ps sp) (bd : Binds X.K fd ps [])
    (I : Inv X pins σ H s) (rv : Vals vs us) (hsp : sp vs H Q E0) : wpAny (model X.prog X.w) A (call (.ref f) us) (EP X pins σ Q) E s := by
  have en : Env0 X.prog X.w X.K X.mg X.base A X.stack s H := by
    have z := I.env0
    exact ⟨fr, z.mod, z.bs, z.bsz, z.funs, z.frf, z.hok, z.bare⟩
  have hl : vs.length = ps.length := F.len _ _ _ _ hsp
  have b1 := bd s us I.kIn (by simpa [← rv.length] using hl)
  rw [List.append_nil] at b1
  refine wpAny_call (codeAny_mono (F.run A X.stack s H ⟨us, []⟩ us vs _ E0 room en b1 rv hsp) fun r s2 hr => ?_)
  match r, hr with
  | .error z, hr => exact False.elim hr
  | .ok .next, hr => exact False.elim hr
  | .ok .brk, hr => exact False.elim hr
  | .ok .cont, hr => exact False.elim hr
  | .ok (.ret u), hr => exact I.after hr
theorem odd_looks {y : V} {v : Value} {t : String} (I : Inv X pins σ H s) (rv : RelV y v) (o : Odd H y t) : PySem.W.Looks (model X.prog X.w) s.heap (typeOf v) (.type t) := by
  obtain ⟨P, Z, p, _⟩ := kit_of I rv (o.ty (K := X.K))
  exact Z.ty _ _ I.kIn p
/-- day == thing -/
def rEqL (C : Addr) (sp : Sp) : R2 := fun x y H Q => ∃ (a dx : Addr) (fs : List (Str × V)), x = .ref a ∧ H a = some (.ins C dx fs) ∧ ((∃ t, Odd H y t) ∨ ∃ b dz gs, y = .ref b ∧ H b = some (.ins C dz gs)) ∧
  sp [.ref a, y] H (fun z H' => ∃ b, z = .bl b ∧ Q (.bl b) H') E0
theorem op_eqL (W : OwnC X.K C f) (Z : KitC X.K C) (room : Room n X.A) (F : FnOk X.prog X.w X.K X.mg X.base CX0 n f fd ps sp) (bd : Binds X.K fd ps []) : OpR X (compareOp .Eq) (rEqL C sp) := by
  intro pins s σ H x y u v Q I rx ry h
  obtain ⟨a, dx, fs, rfl, ha, hy, hsp⟩ := h
  cases rx
  have fin : ∀ tb, PySem.W.Looks (model X.prog X.w) s.heap (typeOf v) tb → PySem.W.notFirst X.K C tb = true → wpAny (model X.prog X.w) X.A (compareOp .Eq (.ref a) v) (EP X pins σ Q) X.xe s := fun tb hb nf => by
    show wpAny (model X.prog X.w) X.A (richCompare .Eq (.ref a) v) _ _ s
    refine wpAny_mono (rc_L (Q := fun b H' => Q (.bl b) H') W I.ok.frames room F bd I ha ry hb nf hsp) (fun z s' hz => ?_) fun _ _ z => z
    obtain ⟨b, H', rfl, I', q⟩ := hz
    exact ⟨.bl b, H', I', rfl, q⟩
  rcases hy with ⟨t, o⟩ | ⟨b, dz, gs, rfl, hb⟩
  · refine fin _ (odd_looks I ry o) ?_
    unfold PySem.W.notFirst
    rw [Z.sub t o.one]
    simp
  · cases ry
    obtain ⟨mB, JB, _⟩ := ins_get I.hok hb
    obtain ⟨oB, JB, _⟩ := JB.look
    exact fin _ JB.type (by simp [PySem.W.notFirst])
/-- day != day -/
def rNeL (C : Addr) (sp : Sp) : R2 := fun x y H Q => ∃ (a dx : Addr) (fs : List (Str × V)) (b dz : Addr) (gs : List (Str × V)), x = .ref a ∧ H a = some (.ins C dx fs) ∧ y = .ref b ∧ H b = some (.ins C dz gs) ∧
  sp [.ref a, y] H (fun z H' => ∃ b, z = .bl b ∧ Q (.bl (!b)) H') E0
theorem op_neL (W : OwnC X.K C f) (room : Room (n + 1) X.A) (F : FnOk X.prog X.w X.K X.mg X.base CX0 n f fd ps sp) (bd : Binds X.K fd ps []) : OpR X (compareOp .NotEq) (rNeL C sp) := by
  intro pins s σ H x y u v Q I rx ry h
  obtain ⟨a, dx, fs, b, dz, gs, rfl, ha, rfl, hb, hsp⟩ := h
  cases rx
  cases ry
  obtain ⟨mB, JB, _⟩ := ins_get I.hok hb
  obtain ⟨oB, JB, _⟩ := JB.look
  show wpAny (model X.prog X.w) X.A (richCompare .NotEq (.ref a) (.ref b)) _ _ s
  refine wpAny_mono (rc_N (Q := fun b H' => Q (.bl b) H') (y := .ref b) W I.ok.frames room F bd I ha rfl JB.type (by simp [PySem.W.notFirst]) hsp) (fun z s' hz => ?_) fun _ _ z => z
  obtain ⟨b, H', rfl, I', q⟩ := hz
  exact ⟨.bl b, H', I', rfl, q⟩
/-- thing == day -/
def rEqR (C : Addr) (sp : Sp) : R2 := fun x y H Q => ∃ (a dx : Addr) (fs : List (Str × V)), y = .ref a ∧ H a = some (.ins C dx fs) ∧
  (((∃ t, Odd H x t) ∧ sp [.ref a, x] H (fun z H' => ∃ b, z = .bl b ∧ Q (.bl b) H') E0) ∨ ∃ b dz gs, x = .ref b ∧ H b = some (.ins C dz gs) ∧ sp [.ref b, .ref a] H (fun z H' => ∃ b, z = .bl b ∧ Q (.bl b) H') E0)
theorem op_eqR (W : OwnC X.K C f) (room : Room n X.A) (F : FnOk X.prog X.w X.K X.mg X.base CX0 n f fd ps sp) (bd : Binds X.K fd ps []) : OpR X (compareOp .Eq) (rEqR C sp) := by
  intro pins s σ H x y u v Q I rx ry h
  obtain ⟨a, dx, fs, rfl, ha, h⟩ := h
  cases ry
  show wpAny (model X.prog X.w) X.A (richCompare .Eq u (.ref a)) _ _ s
  have fin : ∀ {A : Around} {z : Value} {s' : Shared}, BP X pins σ (fun b H' => Q (.bl b) H') z s' → EP X pins σ Q z s' := fun {A z s'} hz => by
    obtain ⟨b, H', rfl, I', q⟩ := hz
    exact ⟨.bl b, H', I', rfl, q⟩
  obtain ⟨mA, J, eI⟩ := ins_get I.hok ha
  obtain ⟨oA, J', _⟩ := J.look
  rcases h with ⟨⟨t, o⟩, hsp⟩ | ⟨b, dz, gs, rfl, hb, hsp⟩
  · cases o with
    | int i =>
      obtain ⟨tk, rfl⟩ := rx
      refine wpAny_mono (rc_R (Q := fun b H' => Q (.bl b) H') (y := .int i) W I.ok.frames room F bd I ha ⟨tk, rfl⟩ (typeIs_int _ _ _) rfl W.sInt PySem.F.slot_int_eq (fun E' => dec_int J.obj) hsp) (fun z s' hz => fin (A := X.A) hz) fun _ _ z => z
    | str i =>
      obtain ⟨tk, rfl⟩ := rx
      refine wpAny_mono (rc_R (Q := fun b H' => Q (.bl b) H') (y := .str i) W I.ok.frames room F bd I ha ⟨tk, rfl⟩ (typeIs_str _ _ _) rfl W.sStr PySem.F.slot_str_eq (fun E' => dec_str J.obj) hsp) (fun z s' hz => fin (A := X.A) hz) fun _ _ z => z
    | non =>
      cases rx
      refine wpAny_mono (rc_R (Q := fun b H' => Q (.bl b) H') (y := .non) W I.ok.frames room F bd I ha rfl (T := "NoneType") rfl rfl W.sNon PySem.F.slot_NoneType_eq (fun E' => dec_none) hsp) (fun z s' hz => fin (A := X.A) hz) fun _ _ z => z
    | @tup b xs e =>
      cases rx
      obtain ⟨_, _, _, ob, h1, h2, _⟩ := (show ObjOk X.prog X.w H s.heap b (.tup xs) from I.hok b _ e)
      refine wpAny_mono (rc_R (Q := fun b H' => Q (.bl b) H') (y := .ref b) W I.ok.frames room F bd I ha rfl (T := "tuple") ⟨ob, h1, h2⟩ rfl W.sTup PySem.F.slot_tuple_eq (fun E' => dec_tup ⟨ob, h1, h2⟩ J' I.kIn W.sTup) hsp) (fun z s' hz => fin (A := X.A) hz) fun _ _ z => z
    | @lst b xs e =>
      cases rx
      obtain ⟨_, _, k, _, h1⟩ := (show ObjOk X.prog X.w H s.heap b (.lst xs) from I.hok b _ e)
      refine wpAny_mono (rc_R (Q := fun b H' => Q (.bl b) H') (y := .ref b) W I.ok.frames room F bd I ha rfl (T := "list") ⟨_, h1, rfl⟩ rfl W.sLst PySem.F.slot_list_eq (fun E' => dec_lst ⟨_, h1, rfl⟩ J' I.kIn W.sLst) hsp) (fun z s' hz => fin (A := X.A) hz) fun _ _ z => z
  · cases rx
    refine wpAny_mono (rc_L (Q := fun b H' => Q (.bl b) H') (y := .ref a) W I.ok.frames room F bd I hb rfl J'.type (by simp [PySem.W.notFirst]) hsp) (fun z s' hz => fin (A := X.A) hz) fun _ _ z => z
/-- str(o) by its own __str__ -/
theorem cr_strO (hs : PySem.W.findIn X.K (.ref C) "__str__" = some (some (.ref f))) (hf : PySem.W.isFn X.K (.ref f) = true) (room : Room (n + 2) X.A) (F : FnOk X.prog X.w X.K X.mg X.base CX0 n f fd ps sp) (bd : Binds X.K fd ps []) :
    CallR X (.type "str") (fun xs H Q => ∃ (a dx : Addr) (fs : List (Str × V)), xs = [.ref a] ∧ H a = some (.ins C dx fs) ∧ sp [.ref a] H (fun z H' => ∃ y, z = .str y ∧ Q (.str y) H') E0) := by
  intro pins s σ H xs us Q I r h
  obtain ⟨a, dx, fs, rfl, ha, hsp⟩ := h
  obtain ⟨u, rfl, rx⟩ := vals1 r
  cases rx
  obtain ⟨mA, J, _⟩ := ins_get I.hok ha
  obtain ⟨oA, J, _⟩ := J.look
  refine PySem.W.kso_call room.in1.in1.units0 I.kIn J hs hf (wpAny_mono (own_run (A := X.A.in1.in1) (vs := [.ref a]) I.ok.frames room.in1.in1 F bd I (.cons rfl .nil) hsp) (fun v s' hv => ?_) fun _ _ z => z)
  obtain ⟨v', H', I', rv, y, rfl, q⟩ := hv
  obtain ⟨tk, rfl⟩ := rv
  exact ⟨.str y, H', I', ⟨tk, rfl⟩, q⟩
/-- repr(o) by its own __repr__ -/
theorem cr_reprO (hs : PySem.W.findIn X.K (.ref C) "__repr__" = some (some (.ref f))) (hf : PySem.W.isFn X.K (.ref f) = true) (room : Room (n + 1) X.A) (F : FnOk X.prog X.w X.K X.mg X.base CX0 n f fd ps sp) (bd : Binds X.K fd ps []) :
    CallR X (.builtin "repr") (fun xs H Q => ∃ (a dx : Addr) (fs : List (Str × V)), xs = [.ref a] ∧ H a = some (.ins C dx fs) ∧ sp [.ref a] H (fun z H' => ∃ y, z = .str y ∧ Q (.str y) H') E0) := by
  intro pins s σ H xs us Q I r h
  obtain ⟨a, dx, fs, rfl, ha, hsp⟩ := h
  obtain ⟨u, rfl, rx⟩ := vals1 r
  cases rx
  obtain ⟨mA, J, _⟩ := ins_get I.hok ha
  obtain ⟨oA, J, _⟩ := J.look
  refine Calls.call_function_entry PySem.F.kind_repr PySem.F.plain_repr PySem.F.entry_repr (PySem.F.args_repr1 _) ?_
  unfold Builtin.«repr»
  refine wpAny_bind (m := oneArg "repr" _) (wpAny_pure ?_)
  refine wpAny_bind (wpAny_cRoomFor room.in1.units0 ?_)
  refine wpAny_bind (wpAny_bind (J.type.here ((PySem.W.looks_findIn I.kIn hs).here ?_)))
  refine wpAny_bind (m := callSpecialIfBound? (.ref a) (Str.ofString "__repr__") _) (PySem.W.ifBound_K I.kIn J hs hf (wpAny_mono (own_run (A := X.A.in1) (vs := [.ref a]) I.ok.frames room.in1 F bd I (.cons rfl .nil) hsp) (fun v s' hv => ?_) fun _ _ z => z))
  obtain ⟨v', H', I', rv, y, rfl, q⟩ := hv
  obtain ⟨tk, rfl⟩ := rv
  refine wpAny_bind (wpAny_isInstance (T := "str") (b := true) rfl isSubtype_str_str ?_)
  exact wpAny_pure ⟨_, rfl, .str y, H', I', ⟨tk, rfl⟩, q⟩
end
section
variable {X : Cx}
theorem cr_alt {f : Value} {r1 r2 : List V → Hp → VK → Prop} (h1 : CallR X f r1) (h2 : CallR X f r2) : CallR X f (fun xs H Q => r1 xs H Q ∨ r2 xs H Q) :=
  fun pins s σ H xs us Q I r h => h.elim (h1 pins s σ H xs us Q I r) (h2 pins s σ H xs us Q I r)
end
theorem ps_no {X : Cx} {st : Stmt} : PS X st (fun _ _ _ => False) := ⟨fun _ _ _ _ _ _ h => False.elim h⟩
theorem dInt (i j : Int) : decide (V.int i = V.int j) = decide (i = j) := decide_eq_decide.mpr ⟨fun z => V.int.inj z, fun z => by rw [z]⟩
theorem fitN {n : Nat} (h : n ≤ 100000) : n ≤ sizeLine := Nat.le_trans h (by decide)
theorem lg {i : Int} (h0 : -(10 ^ 31) < i) (h1 : i < 10 ^ 31) : i.natAbs.log2 < 1920 := by
  have h2 : i.natAbs < 2 ^ 110 := by
    have : (10 : Int) ^ 31 < 2 ^ 110 := by decide
    omega
  exact Nat.lt_of_lt_of_le (PySem.Flt.log2_lt_of (by decide) h2) (by decide)
theorem big39 : (10 : Int) ^ 30 < 10 ^ 39 := by decide
theorem tx_le {i : Int} (h0 : -(10 ^ 30) ≤ i) (h1 : i ≤ 10 ^ 30) : (Str.ofString (toString i)).length ≤ 40 := by
  have b := big39
  cases i with
  | ofNat m =>
    have c : (Int.ofNat m) = (m : Int) := rfl
    exact Nat.le_trans (toString_length_le (v := (m : Int)) (by omega) (k := 39) (by decide) (by omega)) (by decide)
  | negSucc m =>
    have c : Int.negSucc m = -((m : Int) + 1) := rfl
    have z := toString_length_le (v := ((m + 1 : Nat) : Int)) (by omega) (k := 39) (by decide) (by omega)
    rw [PySem.ofString_length] at z ⊢
    have z2 : (toString (m + 1)).length ≤ 39 := z
    show ("-" ++ toString (m + 1)).length ≤ 40
    rw [String.length_append]
    have : "-".length = 1 := rfl
    omega
/-! ## parts that make a day -/
def isI : V → Bool
  | .int _ => true
  | _ => false
def wiV (v : V) (a b : Int) : Bool := match v with
  | .int i => decide (a ≤ i) && decide (i ≤ b)
  | _ => false
def goodV (y m d : V) : Bool := match y with
  | .int i => wiV y 1 9999 && (if m = .non then decide (d = .non) else match m with
    | .int j => wiV m 1 12 && (if d = .non then true else wiV d 1 (lastDay i j))
    | _ => false)
  | _ => false
theorem good_no {y m d : V} (h : wiV y 1 9999 = false) : goodV y m d = false := by
  cases y with
  | int i =>
    show (wiV (.int i) 1 9999 && _) = false
    rw [h, Bool.false_and]
  | _ => rfl
theorem good_non {i : Int} {d : V} (h : wiV (.int i) 1 9999 = true) : goodV (.int i) .non d = decide (d = .non) := by
  show (wiV (.int i) 1 9999 && (if V.non = V.non then decide (d = .non) else _)) = _
  rw [h, Bool.true_and, if_pos rfl]
theorem good_m {i : Int} {m d : V} (h : wiV (.int i) 1 9999 = true) (n : m ≠ .non) (h2 : wiV m 1 12 = false) : goodV (.int i) m d = false := by
  unfold goodV
  dsimp only
  rw [if_neg n]
  cases m with
  | int j =>
    dsimp only
    rw [h2, Bool.false_and, Bool.and_false]
  | _ => exact Bool.and_false _
theorem good_d {i j : Int} {d : V} (h : wiV (.int i) 1 9999 = true) (h2 : wiV (.int j) 1 12 = true) : goodV (.int i) (.int j) d = (if d = .non then true else wiV d 1 (lastDay i j)) := by
  show (wiV (.int i) 1 9999 && (if V.int j = V.non then decide (d = .non) else (wiV (.int j) 1 12 && (if d = .non then true else wiV d 1 (lastDay i j))))) = _
  rw [if_neg (by intro z; cases z), h, h2, Bool.true_and, Bool.true_and]
theorem wiV_int {v : V} {a b : Int} (h : wiV v a b = true) : ∃ i, v = .int i ∧ a ≤ i ∧ i ≤ b := by
  cases v with
  | int i =>
    have h' : (decide (a ≤ i) && decide (i ≤ b)) = true := h
    rw [Bool.and_eq_true] at h'
    exact ⟨i, rfl, of_decide_eq_true h'.1, of_decide_eq_true h'.2⟩
  | _ => cases h
def zeros (n : Nat) : Str := ⟨(List.replicate n 48).toArray⟩
def nDig (i : Int) : Nat := (Nat.toDigits 10 i.natAbs).length
def zpad (W : Nat) (i : Int) : Str := zeros (W - nDig i) ++ Str.ofString (toString i)
theorem len_text {i : Int} (h : 0 ≤ i) : (Str.ofString (toString i)).length = nDig i := by
  obtain ⟨m, rfl⟩ := Int.eq_ofNat_of_zero_le h
  have e := text_ofNat m
  have e2 : Str.ofString (toString ((m : Nat) : Int)) = ⟨((Nat.toDigits 10 m).map Char.toNat).toArray⟩ := e
  rw [e2]
  show ((Nat.toDigits 10 m).map Char.toNat).toArray.size = _
  rw [List.size_toArray, List.length_map]
  rfl
def Tiny (i : Int) : Prop := 0 ≤ i ∧ i < 10000
theorem nDig_le {i : Int} (h : Tiny i) : nDig i ≤ 4 := (digitsFacts10 i.natAbs).lt10000 (by have := h.1; have := h.2; omega)
theorem nDig_le2 {i : Int} (h : 0 ≤ i) (h2 : i < 100) : nDig i ≤ 2 := (digitsFacts10 i.natAbs).lt100 (by omega)
theorem zeros_len (n : Nat) : (zeros n).length = n := by
  show (List.replicate n 48).toArray.size = n
  simp
theorem zpad_len {W : Nat} {i : Int} (hW : W ≤ 4) (h : Tiny i) : (zpad W i).length ≤ 4 := by
  unfold zpad
  rw [strLen_append, zeros_len, len_text h.1]
  have := nDig_le h
  omega
section
variable {X : Cx}
/-- {i:0Wd} -/
def tFmtS (W : Nat) (te : TE) : TE := fun σ H Q => te σ H fun x H1 => ∃ i : Int, x = .int i ∧ Tiny i ∧ Q (.str (zpad W i)) H1
theorem pe_fmtS {e sp : Expr} {te : TE} {spec : Str} {W : Nat} {pos : Pos} (nd : X.base.NoDigits) (hok : intSpecOk spec = true) (hW : intSpecWidthOf spec = W) (hz : intSpecZeroOf spec = true) (hsz : spec.length ≤ sizeLine) (he : PE X e te)
    (hs : PE X sp (tC (.str spec))) : PE X (.FormattedValue e (-1) (some sp) pos) (tFmtS W te) := by
  refine ⟨fun pins s σ H Q I h => ?_⟩
  refine wpAny_FormattedValue_spec (thn (he.run pins s σ H _ I h) fun v s1 hv => ?_)
  obtain ⟨x, H1, I1, r1, i, rfl, hi, q⟩ := hv
  obtain ⟨t, rfl⟩ := r1
  refine thn (hs.run pins s1 σ H1 (fun v H' => v = .str spec ∧ H' = H1) I1 ⟨rfl, rfl⟩) fun r s2 hr => ?_
  obtain ⟨v, H2, I2, r2, rfl, rfl⟩ := hr
  obtain ⟨t2, rfl⟩ := r2
  have a := hi.1
  have b := hi.2
  refine ⟨spec, t2, rfl, formatField_int_specOf (nd.keeps fun b o z => (I2.env0.bs b o z).1) (lt_digitLimit_of_lt (by omega)) hok (fun W' hW' F => ?_) hsz⟩
  have e : intSpecTextOf spec i = zpad W i := by
    rw [F.zeroG hz a, hW', hW]
    rfl
  rw [e]
  exact ⟨.str (zpad W i), H2, I2.tok _, ⟨_, rfl⟩, q⟩
/-- "0" * n -/
theorem op_zeros : OpR X (binaryOp .Mult) (fun x y H Q => ∃ n : Nat, x = .str "0" ∧ y = .int n ∧ n ≤ 4 ∧ Q (.str (zeros n)) H) := by
  intro pins s σ H x y v u Q I rx ry h
  obtain ⟨n, rfl, rfl, hn, q⟩ := h
  obtain ⟨t, rfl⟩ := rx
  obtain ⟨t2, rfl⟩ := ry
  have z0 : ("0" : Str) = ⟨#[48]⟩ := by decide +kernel
  match n, hn, q with
  | 0, _, q => exact PySem.P.mul_str_none (by decide) (by decide) ⟨.str (zeros 0), H, I.tok _, ⟨_, rfl⟩, q⟩
  | 1, _, q =>
    refine PySem.P.mul_str (by decide) (fun _ z => by cases z) (fun _ z => by cases z) ?_
    show EP X pins σ Q (.str "0" t) s
    refine ⟨.str (zeros 1), H, I, ⟨t, by rw [z0]; rfl⟩, q⟩
  | 2, _, q => exact PySem.P.mul_str (by decide) (fun _ _ => by decide +kernel) (fun _ _ => by decide +kernel) ⟨by decide +kernel, .str (zeros 2), H, I.tok _, ⟨_, by rw [z0]; rfl⟩, q⟩
  | 3, _, q => exact PySem.P.mul_str (by decide) (fun _ _ => by decide +kernel) (fun _ _ => by decide +kernel) ⟨by decide +kernel, .str (zeros 3), H, I.tok _, ⟨_, by rw [z0]; rfl⟩, q⟩
  | 4, _, q => exact PySem.P.mul_str (by decide) (fun _ _ => by decide +kernel) (fun _ _ => by decide +kernel) ⟨by decide +kernel, .str (zeros 4), H, I.tok _, ⟨_, by rw [z0]; rfl⟩, q⟩
end
end K64
set_option Elab.async false
set_option linter.all false
set_option maxRecDepth 100000
set_option maxHeartbeats 4000000
set_option pp.maxSteps 400
set_option pp.deepTerms false
namespace K64
open PySem PySem.Spec PyProof.Rows L2
open Xk Az Xtx
section
variable {P : Program} {w : World} {K : PySem.W.Frag} {mg : Str → Option Value} {base : Heap} {C CL : Addr}
/-- a def that may be called by its name -/
structure Ca (P : Program) (w : World) (K : PySem.W.Frag) (mg : Str → Option Value) (base : Heap) (k : Nat) (x : Str) (ps : List Str) (sp : Sp) : Prop where
  ex : ∃ (f : Addr) (fd : FuncData), FnOk P w K mg base CX0 k f fd ps sp ∧ mg x = some (.ref f) ∧ PySem.W.keepIn K (.ref f) = true ∧ Binds K fd ps []
/-- a def of the text, as the head finds it -/
structure Df (K : PySem.W.Frag) (mg : Str → Option Value) (x : Str) (ps : List Str) (st : Stmt) (f : Addr) (fd : FuncData) : Prop where
  fn : Fun K x x st f fd
  mgf : mg x = some (.ref f)
  bd : Binds K fd ps []
theorem Df.ca {k : Nat} {x : Str} {ps : List Str} {st : Stmt} {f : Addr} {fd : FuncData} {sp : Sp} (d : Df K mg x ps st f fd)
    (h : FnOk P w K mg base CX0 k f fd ps sp) : Ca P w K mg base k x ps sp := ⟨f, fd, h, d.mgf, d.fn.kp, d.bd⟩
section
variable {X : Cx} {k j : Nat} {x : Str} {ps : List Str} {sp : Sp} {p pos : Pos} {e : Expr} {es : List Expr} {t : TA}
theorem pe_ca (c : Ca X.prog X.w X.K X.mg X.base k x ps sp) (hr : Room j X.A) (hk : k ≤ j) (hg : Gl X x) (ha : PA X (e :: es) t) (hdb : (x == ("__debug__" : Str)) = false := by decide)
    (he : starEach (e :: es) X.env = (false, eval e X.env) :: starEach es X.env := by rfl) (hpl : (backTo pos (starEach es X.env)).any (·.1) = false := by rfl) :
    PE X (.Call (.Name x p) (e :: es) [] pos) (tCall sp [] E0 t) := by
  obtain ⟨f, fd, F, hm, kp, b⟩ := c.ex
  exact pe_call F (hr.mono hk) hg hm kp b .nil pass0 ha hdb he hpl
end
/-- the refusals: where their classes stand -/
structure Ex where
  NotSuch : Addr
  Lost : Addr
  Taken : Addr
  NoCustom : Addr
  NoDay : Addr
  NoDisc : Addr
  NoEntry : Addr
  NoKey : Addr
  NoLength : Addr
  NoLine : Addr
  NoName : Addr
  NoNumber : Addr
  NoPath : Addr
  Same : Addr
  Struck : Addr
  Twice : Addr
  NoText : Addr
def small : Str := "abcdefghijklmnopqrstuvwxyz"
def signs : Str := "abcdefghijklmnopqrstuvwxyzABCDEFGHIJKLMNOPQRSTUVWXYZ0123456789 '-."
def figs : Str := "0123456789"
def codes : Str := "ABCDEFGHIJKLMNOPQRSTUVWXYZ0123456789"
/-- the fields, and the words ahead of what is told in them -/
def flds : List Str := ["code", "title", "players", "day", "length"]
def wrds : List Str := ["code", "title", "by", "day", "long"]
/-- a dict of the top, with the fields as keys -/
structure Kd (K : PySem.W.Frag) (w : World) (mg : Str → Option Value) (x : Str) (vs : List V) : Prop where
  ex : ∃ (a : Addr) (es : Array DictEntry) (n : Nat), mg x = some (.ref a) ∧ K.lookup a = some ⟨.type "dict", none, .dict es n, #[]⟩ ∧ PySem.W.KeysLit w.params es.toList ∧
    ∀ (i : Nat) (k : Str) (v : V), flds[i]? = some k → vs[i]? = some v → ∃ u, findBy Value.isStrOf es k = some u ∧ RelV v u
/-- where the readers of the fields stand -/
structure Fs where
  code : Addr
  name : Addr
  names : Addr
  day : Addr
  len : Addr
/-- what the top has left, besides the defs -/
structure Txt (K : PySem.W.Frag) (mg : Str → Option Value) (C CL : Addr) (e : Ex) : Prop where
  cl : Cls K C
  nY : NoAttr K C "year"
  nM : NoAttr K C "month"
  nD : NoAttr K C "day"
  mgC : mg "Day" = some (.ref C)
  clL : Cls K CL
  nS : NoAttr K CL "seconds"
  mgL : mg "Length" = some (.ref CL)
  ins : C8.InsC K C
  insL : C8.InsC K CL
  me : PySem.W.kitOne K (.ref C) (.ref C) = some true
  meL : PySem.W.kitOne K (.ref CL) (.ref CL) = some true
  cKEY_PARTS : ∃ t, mg "KEY_PARTS" = some (.int 2 t)
  cLONGEST_WORD : ∃ t, mg "LONGEST_WORD" = some (.int 8 t)
  cLONGEST_CODE : ∃ t, mg "LONGEST_CODE" = some (.int 12 t)
  cMOST_PLAYERS : ∃ t, mg "MOST_PLAYERS" = some (.int 8 t)
  cLAST_YEAR : ∃ t, mg "LAST_YEAR" = some (.int 9999 t)
  cMONTHS : ∃ t, mg "MONTHS" = some (.int 12 t)
  cFEBRUARY : ∃ t, mg "FEBRUARY" = some (.int 2 t)
  cMOST_SECONDS : ∃ t, mg "MOST_SECONDS" = some (.int 359999 t)
  cSHORTEST_TONGUE : ∃ t, mg "SHORTEST_TONGUE" = some (.int 2 t)
  cLONGEST_TONGUE : ∃ t, mg "LONGEST_TONGUE" = some (.int 3 t)
  cLONGEST_TEXT : ∃ t, mg "LONGEST_TEXT" = some (.int 40 t)
  cMOST_FIGURES : ∃ t, mg "MOST_FIGURES" = some (.int 30 t)
  cDAY_PARTS : ∃ t, mg "DAY_PARTS" = some (.int 3 t)
  cYEAR_FIGURES : ∃ t, mg "YEAR_FIGURES" = some (.int 4 t)
  cSMALL_LETTERS : ∃ t, mg "SMALL_LETTERS" = some (.str small t)
  cTEXT_SIGNS : ∃ t, mg "TEXT_SIGNS" = some (.str signs t)
  cFIGURES : ∃ t, mg "FIGURES" = some (.str figs t)
  cCODE_SIGNS : ∃ t, mg "CODE_SIGNS" = some (.str codes t)
  md : ∃ a, mg "MONTH_DAYS" = some (.ref a) ∧ ∀ H, SqT K H a ([31, 28, 31, 30, 31, 30, 31, 31, 30, 31, 30, 31].map V.int)
  fd : ∃ a, mg "FIELDS" = some (.ref a) ∧ (∃ o, K.lookup a = some o ∧ o.cls = .type "tuple" ∧ o.dict = none) ∧ ∀ H, SqT K H a (flds.map V.str)
  mNotSuch : mg "NotSuch" = some (.ref e.NotSuch)
  mLost : mg "Lost" = some (.ref e.Lost)
  mTaken : mg "Taken" = some (.ref e.Taken)
  mNoCustom : mg "NoCustom" = some (.ref e.NoCustom)
  mNoDay : mg "NoDay" = some (.ref e.NoDay)
  mNoDisc : mg "NoDisc" = some (.ref e.NoDisc)
  mNoEntry : mg "NoEntry" = some (.ref e.NoEntry)
  mNoKey : mg "NoKey" = some (.ref e.NoKey)
  mNoLength : mg "NoLength" = some (.ref e.NoLength)
  mNoLine : mg "NoLine" = some (.ref e.NoLine)
  mNoName : mg "NoName" = some (.ref e.NoName)
  mNoNumber : mg "NoNumber" = some (.ref e.NoNumber)
  mNoPath : mg "NoPath" = some (.ref e.NoPath)
  mSame : mg "Same" = some (.ref e.Same)
  mStruck : mg "Struck" = some (.ref e.Struck)
  mTwice : mg "Twice" = some (.ref e.Twice)
  mNoText : mg "NoText" = some (.ref e.NoText)
  isi : mg "isinstance" = none
  int : mg "int" = none
  bool : mg "bool" = none
  str : mg "str" = none
  tuple : mg "tuple" = none
  list : mg "list" = none
  len : mg "len" = none
  all : mg "all" = none
  any : mg "any" = none
  abs : mg "abs" = none
  range : mg "range" = none
  repr : mg "repr" = none
  max : mg "max" = none
  min : mg "min" = none
  sorted : mg "sorted" = none
  zip : mg "zip" = none
  enumerate : mg "enumerate" = none
  ValueError : mg "ValueError" = none
  oex : OexC K e.NoText
  xc : XcC K e.NoText
  bi : BiC K e.NotSuch
  f1 : PySem.W.findIn K (.ref e.NoText) "row" = some none
  f2 : PySem.W.findIn K (.ref e.NoText) "wanted" = some none
  exm : PySem.W.exmAny K (.ref e.NoText) [.ref e.NotSuch, .ref e.Lost, .ref e.Taken] = some true
  kit1 : PySem.W.kitAny K (.ref e.NoText) [.ref e.Lost, .ref e.Taken, .ref e.NoCustom, .ref e.NoDay, .ref e.NoDisc, .ref e.NoEntry, .ref e.NoKey, .ref e.NoLength] = some false
  kit2 : PySem.W.kitAny K (.ref e.NoText) [.ref e.NoLine, .ref e.NoName, .ref e.NoNumber, .ref e.NoPath, .ref e.Same, .ref e.Struck, .ref e.Twice] = some false
  kit3 : PySem.W.kitOne K (.ref e.NoText) (.ref e.NoText) = some true
  kit4 : PySem.W.kitOne K (.ref e.NoText) (.ref e.NotSuch) = some true
  kit5 : PySem.W.kitOne K (.ref e.NoText) (.type "ValueError") = some true
def spWhole (K : PySem.W.Frag) : Sp := fun vs H Q _ => ∃ (v : V) (d : PyData), vs = [v] ∧ Dz K H v d ∧ Q (.bl (isI v)) H
def spWithin (K : PySem.W.Frag) : Sp := fun vs H Q _ => ∃ (v : V) (d : PyData) (a b : Int), vs = [v, .int a, .int b] ∧ Dz K H v d ∧ Q (.bl (wiV v a b)) H
def spLeap : Sp := fun vs H Q _ => ∃ y : Int, vs = [.int y] ∧ Q (.bl (leap y)) H
def spDaysIn : Sp := fun vs H Q _ => ∃ y m : Int, vs = [.int y, .int m] ∧ 1 ≤ m ∧ m ≤ 12 ∧ Q (.int (lastDay y m)) H
def spMakes (K : PySem.W.Frag) : Sp := fun vs H Q _ => ∃ (y m d : V) (dy dm dd : PyData), vs = [y, m, d] ∧ Dz K H y dy ∧ Dz K H m dm ∧ Dz K H d dd ∧ Q (.bl (goodV y m d)) H
theorem ok_whole {f : Addr} {fd : FuncData} {e : Ex} (D : Df K mg "is_whole" ["thing"] sIsWhole f fd) (T : Txt K mg C CL e) : FnOk P w K mg base CX0 1 f fd ["thing"] (spWhole K) := by
  refine D.fn.ok scIsWhole (fun vs H Q E h => ?_) (fun cdv A outer s H vs Q E hr h => ?_)
  · obtain ⟨v, d, rfl, h, q⟩ := h
    rfl
  · obtain ⟨v, d, rfl, h, q⟩ := h
    refine ⟨_, (pss_one (ps_ret (pe_and (pe_callB call_isi (by rfl) T.isi (by decide +kernel) (pa_cons (pv 0) (pa_cons (pe_bltn (v := .ty "int") (by rfl) T.int (by decide +kernel) rfl) pa_nil))) (pe_one (pe_not (pe_callB call_isi (by rfl) T.isi (by decide +kernel) (pa_cons (pv 0) (pa_cons (pe_bltn (v := .ty "bool") (by rfl) T.bool (by decide +kernel) rfl) pa_nil)))))))), ?_⟩
    cases h with
    | int i =>
      refine ⟨_, rfl, _, _, _, _, true, rfl, .ty _, (.base (.int i)), kit_ty (by decide +kernel), true, rfl, iteT ?_⟩
      exact ⟨_, rfl, _, _, _, _, false, rfl, .ty _, (.base (.int i)), kit_ty (by decide +kernel), false, rfl, q⟩
    | bl b =>
      refine ⟨_, rfl, _, _, _, _, true, rfl, .ty _, (.base (.bl b)), kit_ty (by decide +kernel), true, rfl, iteT ?_⟩
      exact ⟨_, rfl, _, _, _, _, true, rfl, .ty _, (.base (.bl b)), kit_ty (by decide +kernel), true, rfl, q⟩
    | non => exact ⟨_, rfl, _, _, _, _, false, rfl, .ty _, (.base .non : TyX K H .non (.type "NoneType")), kit_ty (by decide +kernel), false, rfl, iteF q⟩
    | str x => exact ⟨_, rfl, _, _, _, _, false, rfl, .ty _, (.base (.str x) : TyX K H (.str x) (.type "str")), kit_ty (by decide +kernel), false, rfl, iteF q⟩
    | lst e _ _ => exact ⟨_, rfl, _, _, _, _, false, rfl, .ty _, (.base (.lst e)), kit_ty (by decide +kernel), false, rfl, iteF q⟩
    | tup e _ => exact ⟨_, rfl, _, _, _, _, false, rfl, .ty _, (.base (.tup e)), kit_ty (by decide +kernel), false, rfl, iteF q⟩
    | dct e _ => exact ⟨_, rfl, _, _, _, _, false, rfl, .ty _, (.base (.dK e)), kit_ty (by decide +kernel), false, rfl, iteF q⟩
theorem ok_within {f : Addr} {fd : FuncData} (D : Df K mg "is_within" ["thing", "least", "most"] sIsWithin f fd) (cW : Ca P w K mg base 1 "is_whole" ["thing"] (spWhole K)) : FnOk P w K mg base CX0 2 f fd ["thing", "least", "most"] (spWithin K) := by
  refine D.fn.ok scIsWithin (fun vs H Q E h => ?_) (fun cdv A outer s H vs Q E hr h => ?_)
  · obtain ⟨v, d, a, b, rfl, h, q⟩ := h
    rfl
  · obtain ⟨v, d, a, b, rfl, h, q⟩ := h
    refine ⟨_, (pss_one (ps_ret (pe_and (pe_ca cW hr (by decide) (by rfl) (pa_cons (pv 0) pa_nil)) (pe_one (pe_chain op_le op_le (pv 1) (pv 0) (pv 2)))))), ?_⟩
    refine ⟨_, rfl, v, d, rfl, h, _, rfl, ?_⟩
    cases v with
    | int i =>
      refine iteT ⟨_, rfl, _, rfl, a, i, rfl, rfl, _, rfl, ?_⟩
      have q' : Q (.bl (decide (a ≤ i) && decide (i ≤ b))) H := q
      cases e : decide (a ≤ i) with
      | true =>
        rw [e, Bool.true_and] at q'
        exact iteT ⟨_, rfl, i, b, rfl, rfl, q'⟩
      | false =>
        rw [e, Bool.false_and] at q'
        exact iteF q'
    | _ => exact iteF q
theorem ok_leap {f : Addr} {fd : FuncData} (D : Df K mg "is_leap" ["year"] sIsLeap f fd) : FnOk P w K mg base CX0 1 f fd ["year"] spLeap := by
  refine D.fn.ok scIsLeap (fun vs H Q E h => ?_) (fun cdv A outer s H vs Q E hr h => ?_)
  · obtain ⟨y, rfl, _⟩ := h
    rfl
  · obtain ⟨y, rfl, q⟩ := h
    refine ⟨_, pss_one (ps_ret (pe_and (pe_cmpR op_eq (pe_op op_mod (pv 0) pe_int) pe_int (nomark _))
      (pe_one (pe_or (pe_cmpR op_ne (pe_op op_mod (pv 0) pe_int) pe_int (nomark _)) (pe_one (pe_cmpR op_eq (pe_op op_mod (pv 0) pe_int) pe_int (nomark _))))))), ?_⟩
    have e4 : decide (V.int (y % 4) = V.int 0) = decide (y % 4 = 0) := decide_eq_decide.mpr ⟨fun z => V.int.inj z, fun z => by rw [z]⟩
    have e1 : decide (V.int (y % 100) = V.int 0) = decide (y % 100 = 0) := decide_eq_decide.mpr ⟨fun z => V.int.inj z, fun z => by rw [z]⟩
    have e0 : decide (V.int (y % 400) = V.int 0) = decide (y % 400 = 0) := decide_eq_decide.mpr ⟨fun z => V.int.inj z, fun z => by rw [z]⟩
    refine ⟨_, rfl, y, 4, rfl, rfl, (by show (0 : Int) < 4; decide), rfl, _, rfl, ?_⟩
    rw [e4]
    refine ite2 (fun c4 => ?_) (fun c4 => ?_)
    · refine ⟨_, rfl, y, 100, rfl, rfl, (by show (0 : Int) < 100; decide), rfl, _, rfl, ?_⟩
      rw [e1]
      refine ite2 (fun c1 => ?_) (fun c1 => ?_)
      · have z : leap y = true := by
          have a := of_decide_eq_true c4
          have b : ¬ y % 100 = 0 := by simpa using c1
          unfold leap
          simp [a, b]
        rw [z] at q
        exact q
      · refine ⟨_, rfl, y, 400, rfl, rfl, (by show (0 : Int) < 400; decide), rfl, ?_⟩
        rw [e0]
        have z : leap y = decide (y % 400 = 0) := by
          have a := of_decide_eq_true c4
          have b : y % 100 = 0 := by simpa using c1
          unfold leap
          simp [a, b]
        rw [z] at q
        exact q
    · have z : leap y = false := by
        have a : ¬ y % 4 = 0 := by simpa using c4
        unfold leap
        simp [a]
      rw [z] at q
      exact q
theorem month_at (y m : Int) (h1 : 1 ≤ m) (h2 : m ≤ 12) (n : ¬ (m = 2 ∧ leap y = true)) :
    atI ([31, 28, 31, 30, 31, 30, 31, 31, 30, 31, 30, 31].map V.int) (m - 1) = some (.int (lastDay y m)) := by
  obtain ⟨j, rfl⟩ : ∃ j : Nat, m = (j : Int) + 1 := ⟨(m - 1).toNat, by omega⟩
  have hj : j < 12 := by omega
  rw [show (j : Int) + 1 - 1 = (j : Int) by omega]
  refine atI_nat ?_
  match j, hj with
  | 0, _ => simp [lastDay]
  | 1, _ =>
    have l : ¬ leap y = true := fun z => n ⟨by decide, z⟩
    simp [lastDay, l]
  | 2, _ => simp [lastDay]
  | 3, _ => simp [lastDay]
  | 4, _ => simp [lastDay]
  | 5, _ => simp [lastDay]
  | 6, _ => simp [lastDay]
  | 7, _ => simp [lastDay]
  | 8, _ => simp [lastDay]
  | 9, _ => simp [lastDay]
  | 10, _ => simp [lastDay]
  | 11, _ => simp [lastDay]
theorem ok_daysIn {f : Addr} {fd : FuncData} {e : Ex} (D : Df K mg "days_in" ["year", "month"] sDaysIn f fd) (T : Txt K mg C CL e) (cL : Ca P w K mg base 1 "is_leap" ["year"] spLeap) :
    FnOk P w K mg base CX0 2 f fd ["year", "month"] spDaysIn := by
  obtain ⟨tF, gF⟩ := T.cFEBRUARY
  obtain ⟨aM, gM, sM⟩ := T.md
  refine D.fn.ok scDaysIn (fun vs H Q E h => ?_) (fun cdv A outer s H vs Q E hr h => ?_)
  · obtain ⟨y, m, rfl, _⟩ := h
    rfl
  · obtain ⟨y, m, rfl, h1, h2, q⟩ := h
    refine ⟨_, pss_cons (ps_if (PW.pt (pw_and (pt_cmpR op_eq (pv 1) (pe_glob (v := .int 2) (by rfl) gF ⟨_, rfl⟩) (nomark _)) (pw_and1 (pt_val (pe_ca cL hr (by decide) (by rfl) (pa_cons (pv 0) pa_nil))))))
      (pss_one (ps_ret pe_int)) pss_nil)
      (pss_one (ps_ret (pe_ix ix_tup (pe_glob (v := .ref aM) (by rfl) gM rfl) (pe_op op_sub (pv 1) pe_int) (fun _ _ => rfl)))), ?_⟩
    refine ⟨_, rfl, rfl, _, rfl, ?_⟩
    rw [dInt]
    refine ite2 (fun c => ?_) (fun c => ?_)
    · have em : m = 2 := of_decide_eq_true c
      refine ⟨_, rfl, y, rfl, _, rfl, ?_⟩
      cases l : leap y with
      | true =>
        have z : lastDay y m = 29 := by
          rw [em]
          simp [lastDay, l]
        rw [z] at q
        exact iteT q
      | false => exact iteF ⟨_, rfl, m, 1, rfl, rfl, aM, _, m - 1, _, rfl, rfl, sM H, month_at y m h1 h2 (fun z => by rw [l] at z; cases z.2), q⟩
    · exact iteF ⟨_, rfl, m, 1, rfl, rfl, aM, _, m - 1, _, rfl, rfl, sM H, month_at y m h1 h2 (fun z => c (decide_eq_true z.1)), q⟩
theorem ok_makes {f : Addr} {fd : FuncData} {e : Ex} (D : Df K mg "makes_day" ["year", "month", "day"] sMakesDay f fd) (T : Txt K mg C CL e) (cI : Ca P w K mg base 2 "is_within" ["thing", "least", "most"] (spWithin K)) (cD : Ca P w K mg base 2 "days_in" ["year", "month"] spDaysIn) : FnOk P w K mg base CX0 3 f fd ["year", "month", "day"] (spMakes K) := by
  obtain ⟨tY, gY⟩ := T.cLAST_YEAR
  obtain ⟨tM, gM⟩ := T.cMONTHS
  refine D.fn.ok scMakesDay (fun vs H Q E h => ?_) (fun cdv A outer s H vs Q E hr h => ?_)
  · obtain ⟨y, m, d, dy, dm, dd, rfl, hy, hm, hd, q⟩ := h
    rfl
  · obtain ⟨y, m, d, dy, dm, dd, rfl, hy, hm, hd, q⟩ := h
    refine ⟨_, (pss_cons (ps_if (pt_not (pt_val (pe_ca cI hr (by decide) (by rfl) (pa_cons (pv 0) (pa_cons pe_int (pa_cons (pe_glob (v := .int 9999) (by rfl) gY ⟨_, rfl⟩) pa_nil)))))) (pss_one (ps_ret pe_bl)) pss_nil)
      (pss_cons (ps_if (pt_cmpR op_isN (pv 1) pe_non (nomark _)) (pss_one (ps_ret (pe_cmpR op_isN (pv 2) pe_non (nomark _)))) pss_nil)
      (pss_cons (ps_if (pt_not (pt_val (pe_ca cI hr (by decide) (by rfl) (pa_cons (pv 1) (pa_cons pe_int (pa_cons (pe_glob (v := .int 12) (by rfl) gM ⟨_, rfl⟩) pa_nil)))))) (pss_one (ps_ret pe_bl)) pss_nil)
      (pss_one (ps_ret (pe_or (pe_cmpR op_isN (pv 2) pe_non (nomark _)) (pe_one (pe_ca cI hr (by decide) (by rfl) (pa_cons (pv 2) (pa_cons pe_int (pa_cons (pe_ca cD hr (by decide) (by rfl) (pa_cons (pv 0) (pa_cons (pv 1) pa_nil))) pa_nil))))))))))), ?_⟩
    refine ⟨_, rfl, y, dy, 1, 9999, rfl, hy, _, rfl, ?_⟩
    cases cy : wiV y 1 9999 with
    | false =>
      rw [good_no cy] at q
      exact iteT q
    | true =>
      obtain ⟨i, rfl, _, _⟩ := wiV_int cy
      refine iteF ⟨_, rfl, rfl, _, rfl, ?_⟩
      refine ite2 (fun c => ?_) (fun c => ?_)
      · have em : m = .non := of_decide_eq_true c
        subst em
        rw [good_non cy] at q
        exact ⟨_, rfl, rfl, q⟩
      · have nm : m ≠ .non := fun z => c (decide_eq_true z)
        refine ⟨_, rfl, m, dm, 1, 12, rfl, hm, _, rfl, ?_⟩
        cases cm : wiV m 1 12 with
        | false =>
          rw [good_m cy nm cm] at q
          exact iteT q
        | true =>
          obtain ⟨j, rfl, j1, j2⟩ := wiV_int cm
          rw [good_d cy cm] at q
          refine iteF ⟨_, rfl, rfl, _, rfl, ?_⟩
          refine ite2 (fun c => ?_) (fun c => ?_)
          · rw [if_pos (of_decide_eq_true c)] at q
            exact q
          · rw [if_neg (fun z => c (decide_eq_true z))] at q
            exact ⟨_, rfl, _, rfl, _, rfl, i, j, rfl, j1, j2, d, dd, 1, lastDay i j, rfl, hd, q⟩
theorem len_cps (x : Str) : x.length = x.cps.toList.length := rfl
def isStr : PyData → Bool
  | .str _ => true
  | _ => false
def isTup : PyData → Bool
  | .tuple _ => true
  | _ => false
theorem z_str : ∀ d : PyData, PySem.W.kitOne K (.type (kindD d)) (.type "str") = some (isStr d)
  | .none => kit_ty (a := "NoneType") (b := "str") (r := false) (by decide +kernel)
  | .bool _ => kit_ty (a := "bool") (b := "str") (r := false) (by decide +kernel)
  | .int _ => kit_ty (a := "int") (b := "str") (r := false) (by decide +kernel)
  | .str _ => kit_ty (a := "str") (b := "str") (r := true) (by decide +kernel)
  | .list _ => kit_ty (a := "list") (b := "str") (r := false) (by decide +kernel)
  | .tuple _ => kit_ty (a := "tuple") (b := "str") (r := false) (by decide +kernel)
  | .dict _ => kit_ty (a := "dict") (b := "str") (r := false) (by decide +kernel)
theorem z_tup : ∀ d : PyData, PySem.W.kitOne K (.type (kindD d)) (.type "tuple") = some (isTup d)
  | .none => kit_ty (a := "NoneType") (b := "tuple") (r := false) (by decide +kernel)
  | .bool _ => kit_ty (a := "bool") (b := "tuple") (r := false) (by decide +kernel)
  | .int _ => kit_ty (a := "int") (b := "tuple") (r := false) (by decide +kernel)
  | .str _ => kit_ty (a := "str") (b := "tuple") (r := false) (by decide +kernel)
  | .list _ => kit_ty (a := "list") (b := "tuple") (r := false) (by decide +kernel)
  | .tuple _ => kit_ty (a := "tuple") (b := "tuple") (r := true) (by decide +kernel)
  | .dict _ => kit_ty (a := "dict") (b := "tuple") (r := false) (by decide +kernel)
def chk (x sg : Str) : Bool := x.cps.toList.all fun c => decide (c ∈ sg.cps.toList)
def ofT (d : PyData) (sg : Str) (a b : Int) : Bool := match d with
  | .str x => decide (a ≤ (x.length : Int)) && decide ((x.length : Int) ≤ b) && chk x sg
  | _ => false
def spTextOf (K : PySem.W.Frag) : Sp := fun vs H Q _ => ∃ (v : V) (d : PyData) (sg : Str) (a b : Int), vs = [v, .str sg, .int a, .int b] ∧ Dz K H v d ∧ (∀ x, d = .str x → x.length ≤ 50000) ∧ ∀ H', L2.Same H H' → Q (.bl (ofT d sg a b)) H'
theorem ok_of {f : Addr} {fd : FuncData} {e : Ex} (D : Df K mg "is_text_of" ["thing", "signs", "least", "most"] sIsTextOf f fd) (T : Txt K mg C CL e) : FnOk P w K mg base CX0 1 f fd ["thing", "signs", "least", "most"] (spTextOf K) := by
  refine D.fn.ok scIsTextOf (fun vs H Q E h => ?_) (fun cdv A outer s H vs Q E hr h => ?_)
  · obtain ⟨v, d, sg, a, b, rfl, hz, sz, q⟩ := h
    rfl
  · obtain ⟨v, d, sg, a, b, rfl, hz, sz, q⟩ := h
    refine ⟨_, (pss_cons (ps_if (PW.pt (pw_or (pt_not (pt_val (pe_callB call_isi (by rfl) T.isi (by decide +kernel) (pa_cons (pv 0) (pa_cons (pe_bltn (v := .ty "str") (by rfl) T.str (by decide +kernel) rfl) pa_nil))))) (pw_or1 (pt_not (pt_chain op_le op_le (pv 2) (pe_callB call_len_str (by rfl) T.len PySem.boot_len (pa_cons (pv 0) pa_nil)) (pv 3)))))) (pss_one (ps_ret pe_bl)) pss_nil)
      (pss_one (ps_ret (pe_callB (cr_all (by rfl)) (by rfl) T.all (by decide +kernel) (pa_cons (pe_lc (own := [("sign", 4)]) (g := gName 4) (tt := tYes) (by rfl) scIsTextOf.nd (pi_str (pv 0)) (blkOk_by (own := [("sign", 4)]) (N := ["thing", "signs", "least", "most", "sign"]) (sc := defScope sIsTextOf) (by decide +kernel)) (fun _ _ _ _ _ => pg_name (i := 4) scIsTextOf.nd rfl (.inl rfl)) (fun _ _ _ _ _ => pts_nil) (fun _ _ _ _ _ => pe_cmpR op_in_sign (pv 4) (pv 1) (by rfl))) pa_nil))))), ?_⟩
    refine ⟨_, rfl, _, _, _, _, isStr d, rfl, .ty _, hz.ty, z_str d, _, rfl, ?_⟩
    have qf : ofT d sg a b = false → Q (.bl false) H := fun e => by
      have w := q H (Same.refl H)
      rw [e] at w
      exact w
    cases hz with
    | str x =>
      have lx := sz x rfl
      have fit : x.length ≤ sizeLine := Nat.le_trans lx (by decide)
      refine iteF ⟨_, rfl, _, rfl, x, rfl, fit, a, _, rfl, rfl, _, rfl, ?_⟩
      have eo : ofT (.str x) sg a b = (decide (a ≤ (x.length : Int)) && decide ((x.length : Int) ≤ b) && chk x sg) := rfl
      cases c1 : decide (a ≤ (x.length : Int)) with
      | false => exact iteF ⟨_, rfl, iteT (qf (by rw [eo, c1]; rfl))⟩
      | true =>
        refine iteT ⟨_, rfl, _, b, rfl, rfl, _, rfl, ?_⟩
        cases c2 : decide ((x.length : Int) ≤ b) with
        | false => exact iteT (qf (by rw [eo, c1, c2]; rfl))
        | true =>
          refine iteF ⟨_, rfl, x, rfl, fun L nL => ?_⟩
          have sL := same_upd nL (o := .lst [])
          refine lc_it (walk_str (z := x)) (fun i Hi => ∃ bs : List Bool, bs = (x.cps.toList.take i).map (fun c => decide (c ∈ sg.cps.toList)) ∧ Hi L = some (.lst (bs.map V.bl)) ∧ L2.Same H Hi) ?_ (fun _ _ _ _ => trivial) ?_ ?_
          · exact ⟨[], rfl, upd_same, sL⟩
          · rintro i v Hi Hi' _ ⟨bs, eb, eL, sm⟩ ⟨rfl, c, ec, rfl⟩
            rw [← Array.getElem?_toList] at ec
            refine ⟨rfl, ?_⟩
            unfold tYes
            refine iteT ⟨_, rfl, _, rfl, c, sg, rfl, rfl, ?_⟩
            have il : i < x.cps.toList.length := (List.getElem?_eq_some_iff.mp ec).1
            refine ⟨_, eL, ?_, bs ++ [decide (c ∈ sg.cps.toList)], ?_, ?_, fun b o e => ?_⟩
            · rw [List.length_map, eb, List.length_map, List.length_take]
              refine Nat.lt_of_le_of_lt (show min i x.cps.toList.length ≤ 50000 from ?_) (by decide)
              rw [← len_cps]
              omega
            · rw [List.take_succ, ec, List.map_append, eb]
              rfl
            · rw [upd_same, List.map_append]
              rfl
            · rw [upd_ne (ne_of_none e nL)]
              exact sm _ _ e
          · rintro He ⟨bs, eb, eL, sm⟩
            refine ⟨L, _, rfl, SqL.of eL, ?_⟩
            have w := q He sm
            rw [eo, c1, c2] at w
            rw [eb, List.take_of_length_le (by rw [Array.length_toList]; exact Nat.le_refl _), List.all_map]
            exact w
    | _ => exact iteT (qf rfl)
def sk (x : Str) : Bool := decide (V.str x = V.str (Txt.stripChars x " "))
def db (x : Str) : Bool := !(Builtin.Str.occurrences x "  " 0 x.length 1).isEmpty
def ntx (d : PyData) : Bool := match d with
  | .str x => ofT (.str x) signs 1 40 && (sk x && !db x)
  | _ => false
def nmD (d : PyData) : Bool := match d with
  | .tuple [a, b] => ofT a small 2 3 && ntx b
  | _ => false
def Tx (d : PyData) : Prop := ∀ x, d = .str x → x.length ≤ 50000
def T2 (d : PyData) : Prop := ∀ ds, d = .tuple ds → ∀ e ∈ ds, Tx e
theorem ofT_str {d : PyData} {sg : Str} {a b : Int} (h : ofT d sg a b = true) : ∃ x, d = .str x := by
  cases d with
  | str x => exact ⟨x, rfl⟩
  | _ => cases h
theorem ntx_no {d : PyData} (h : ofT d signs 1 40 = false) : ntx d = false := by
  cases d with
  | str x =>
    show (ofT (.str x) signs 1 40 && (sk x && !db x)) = false
    rw [h]
    rfl
  | _ => rfl
theorem len3 {α : Type} {a b c : α} {r : List α} (e : ¬(!decide (V.int (((a :: b :: c :: r).length : Nat) : Int) = V.int 2)) = true) : (0 : Nat) ≠ 0 := fun _ => by
  have n : ¬ V.int (((a :: b :: c :: r).length : Nat) : Int) = V.int 2 := fun z => by
    have := V.int.inj z
    simp at this
    omega
  rw [decide_eq_false n] at e
  exact e rfl
def spSmall (K : PySem.W.Frag) : Sp := fun vs H Q _ => ∃ (v : V) (d : PyData) (a b : Int), vs = [v, .int a, .int b] ∧ Dz K H v d ∧ (∀ x, d = .str x → x.length ≤ 50000) ∧ ∀ H', L2.Same H H' → Q (.bl (ofT d small a b)) H'
def spTongueP (K : PySem.W.Frag) : Sp := fun vs H Q _ => ∃ (v : V) (d : PyData), vs = [v] ∧ Dz K H v d ∧ (∀ x, d = .str x → x.length ≤ 50000) ∧ ∀ H', L2.Same H H' → Q (.bl (ofT d small 2 3)) H'
def spNT (K : PySem.W.Frag) : Sp := fun vs H Q _ => ∃ (v : V) (d : PyData), vs = [v] ∧ Dz K H v d ∧ (∀ x, d = .str x → x.length ≤ 50000) ∧ ∀ H', L2.Same H H' → Q (.bl (ntx d)) H'
def spIsName (K : PySem.W.Frag) : Sp := fun vs H Q _ => ∃ (v : V) (d : PyData), vs = [v] ∧ Dz K H v d ∧ T2 d ∧ ∀ H', L2.Same H H' → Q (.bl (nmD d)) H'
theorem ok_smallt {f : Addr} {fd : FuncData} {e : Ex} (D : Df K mg "is_small_text" ["thing", "least", "most"] sIsSmallText f fd) (T : Txt K mg C CL e) (cO : Ca P w K mg base 1 "is_text_of" ["thing", "signs", "least", "most"] (spTextOf K)) : FnOk P w K mg base CX0 2 f fd ["thing", "least", "most"] (spSmall K) := by
  obtain ⟨_, gKEY_PARTS⟩ := T.cKEY_PARTS
  obtain ⟨_, gLONGEST_WORD⟩ := T.cLONGEST_WORD
  obtain ⟨_, gLONGEST_CODE⟩ := T.cLONGEST_CODE
  obtain ⟨_, gMOST_PLAYERS⟩ := T.cMOST_PLAYERS
  obtain ⟨_, gLAST_YEAR⟩ := T.cLAST_YEAR
  obtain ⟨_, gMONTHS⟩ := T.cMONTHS
  obtain ⟨_, gFEBRUARY⟩ := T.cFEBRUARY
  obtain ⟨_, gMOST_SECONDS⟩ := T.cMOST_SECONDS
  obtain ⟨_, gSHORTEST_TONGUE⟩ := T.cSHORTEST_TONGUE
  obtain ⟨_, gLONGEST_TONGUE⟩ := T.cLONGEST_TONGUE
  obtain ⟨_, gLONGEST_TEXT⟩ := T.cLONGEST_TEXT
  obtain ⟨_, gMOST_FIGURES⟩ := T.cMOST_FIGURES
  obtain ⟨_, gDAY_PARTS⟩ := T.cDAY_PARTS
  obtain ⟨_, gYEAR_FIGURES⟩ := T.cYEAR_FIGURES
  obtain ⟨_, gSMALL_LETTERS⟩ := T.cSMALL_LETTERS
  obtain ⟨_, gTEXT_SIGNS⟩ := T.cTEXT_SIGNS
  obtain ⟨_, gFIGURES⟩ := T.cFIGURES
  obtain ⟨_, gCODE_SIGNS⟩ := T.cCODE_SIGNS
  refine D.fn.ok scIsSmallText (fun vs H Q E h => ?_) (fun cdv A outer s H vs Q E hr h => ?_)
  · obtain ⟨v, d, a, b, rfl, hz, sz, q⟩ := h
    rfl
  · obtain ⟨v, d, a, b, rfl, hz, sz, q⟩ := h
    refine ⟨_, (pss_one (ps_ret (pe_ca cO hr (by decide) (by rfl) (pa_cons (pv 0) (pa_cons (pe_glob (v := .str small) (by rfl) gSMALL_LETTERS ⟨_, rfl⟩) (pa_cons (pv 1) (pa_cons (pv 2) pa_nil))))))), ?_⟩
    exact ⟨_, rfl, _, rfl, _, rfl, v, d, small, a, b, rfl, hz, sz, q⟩
theorem ok_tonguep {f : Addr} {fd : FuncData} {e : Ex} (D : Df K mg "is_tongue" ["thing"] sIsTongue f fd) (T : Txt K mg C CL e) (cSm : Ca P w K mg base 2 "is_small_text" ["thing", "least", "most"] (spSmall K)) : FnOk P w K mg base CX0 3 f fd ["thing"] (spTongueP K) := by
  obtain ⟨_, gKEY_PARTS⟩ := T.cKEY_PARTS
  obtain ⟨_, gLONGEST_WORD⟩ := T.cLONGEST_WORD
  obtain ⟨_, gLONGEST_CODE⟩ := T.cLONGEST_CODE
  obtain ⟨_, gMOST_PLAYERS⟩ := T.cMOST_PLAYERS
  obtain ⟨_, gLAST_YEAR⟩ := T.cLAST_YEAR
  obtain ⟨_, gMONTHS⟩ := T.cMONTHS
  obtain ⟨_, gFEBRUARY⟩ := T.cFEBRUARY
  obtain ⟨_, gMOST_SECONDS⟩ := T.cMOST_SECONDS
  obtain ⟨_, gSHORTEST_TONGUE⟩ := T.cSHORTEST_TONGUE
  obtain ⟨_, gLONGEST_TONGUE⟩ := T.cLONGEST_TONGUE
  obtain ⟨_, gLONGEST_TEXT⟩ := T.cLONGEST_TEXT
  obtain ⟨_, gMOST_FIGURES⟩ := T.cMOST_FIGURES
  obtain ⟨_, gDAY_PARTS⟩ := T.cDAY_PARTS
  obtain ⟨_, gYEAR_FIGURES⟩ := T.cYEAR_FIGURES
  obtain ⟨_, gSMALL_LETTERS⟩ := T.cSMALL_LETTERS
  obtain ⟨_, gTEXT_SIGNS⟩ := T.cTEXT_SIGNS
  obtain ⟨_, gFIGURES⟩ := T.cFIGURES
  obtain ⟨_, gCODE_SIGNS⟩ := T.cCODE_SIGNS
  refine D.fn.ok scIsTongue (fun vs H Q E h => ?_) (fun cdv A outer s H vs Q E hr h => ?_)
  · obtain ⟨v, d, rfl, hz, sz, q⟩ := h
    rfl
  · obtain ⟨v, d, rfl, hz, sz, q⟩ := h
    refine ⟨_, (pss_one (ps_ret (pe_ca cSm hr (by decide) (by rfl) (pa_cons (pv 0) (pa_cons (pe_glob (v := .int 2) (by rfl) gSHORTEST_TONGUE ⟨_, rfl⟩) (pa_cons (pe_glob (v := .int 3) (by rfl) gLONGEST_TONGUE ⟨_, rfl⟩) pa_nil)))))), ?_⟩
    exact ⟨_, rfl, v, d, 2, 3, rfl, hz, sz, q⟩
theorem ok_nmt {f : Addr} {fd : FuncData} {e : Ex} (D : Df K mg "is_name_text" ["thing"] sIsNameText f fd) (T : Txt K mg C CL e) (cO : Ca P w K mg base 1 "is_text_of" ["thing", "signs", "least", "most"] (spTextOf K)) : FnOk P w K mg base CX0 2 f fd ["thing"] (spNT K) := by
  obtain ⟨_, gKEY_PARTS⟩ := T.cKEY_PARTS
  obtain ⟨_, gLONGEST_WORD⟩ := T.cLONGEST_WORD
  obtain ⟨_, gLONGEST_CODE⟩ := T.cLONGEST_CODE
  obtain ⟨_, gMOST_PLAYERS⟩ := T.cMOST_PLAYERS
  obtain ⟨_, gLAST_YEAR⟩ := T.cLAST_YEAR
  obtain ⟨_, gMONTHS⟩ := T.cMONTHS
  obtain ⟨_, gFEBRUARY⟩ := T.cFEBRUARY
  obtain ⟨_, gMOST_SECONDS⟩ := T.cMOST_SECONDS
  obtain ⟨_, gSHORTEST_TONGUE⟩ := T.cSHORTEST_TONGUE
  obtain ⟨_, gLONGEST_TONGUE⟩ := T.cLONGEST_TONGUE
  obtain ⟨_, gLONGEST_TEXT⟩ := T.cLONGEST_TEXT
  obtain ⟨_, gMOST_FIGURES⟩ := T.cMOST_FIGURES
  obtain ⟨_, gDAY_PARTS⟩ := T.cDAY_PARTS
  obtain ⟨_, gYEAR_FIGURES⟩ := T.cYEAR_FIGURES
  obtain ⟨_, gSMALL_LETTERS⟩ := T.cSMALL_LETTERS
  obtain ⟨_, gTEXT_SIGNS⟩ := T.cTEXT_SIGNS
  obtain ⟨_, gFIGURES⟩ := T.cFIGURES
  obtain ⟨_, gCODE_SIGNS⟩ := T.cCODE_SIGNS
  refine D.fn.ok scIsNameText (fun vs H Q E h => ?_) (fun cdv A outer s H vs Q E hr h => ?_)
  · obtain ⟨v, d, rfl, hz, sz, q⟩ := h
    rfl
  · obtain ⟨v, d, rfl, hz, sz, q⟩ := h
    refine ⟨_, (pss_cons (ps_if (pt_not (pt_val (pe_ca cO hr (by decide) (by rfl) (pa_cons (pv 0) (pa_cons (pe_glob (v := .str signs) (by rfl) gTEXT_SIGNS ⟨_, rfl⟩) (pa_cons pe_int (pa_cons (pe_glob (v := .int 40) (by rfl) gLONGEST_TEXT ⟨_, rfl⟩) pa_nil))))))) (pss_one (ps_ret pe_bl)) pss_nil)
      (pss_one (ps_ret (pe_and (pe_cmpR op_eq (pv 0) (pe_m1 F.slot_str_strip F.type_str_strip mt_stripChars (pv 0) pe_str) (nomark _)) (pe_one (pe_cmpR op_notin_str pe_str (pv 0) (by rfl))))))), ?_⟩
    refine ⟨_, rfl, v, d, signs, 1, 40, rfl, hz, sz, fun H1 s1 => ⟨_, rfl, ?_⟩⟩
    have w := q H1 s1
    cases c : ofT d signs 1 40 with
    | false =>
      rw [ntx_no c] at w
      exact iteT w
    | true =>
      obtain ⟨x, rfl⟩ := ofT_str c
      obtain ⟨x', rfl⟩ : ∃ x', v = .str x' := by cases hz; exact ⟨_, rfl⟩
      have ex : x' = x := by cases hz; rfl
      subst ex
      have fit : x'.length ≤ sizeLine := Nat.le_trans (sz x' rfl) (by decide)
      have e : ntx (.str x') = (sk x' && !db x') := by
        show (ofT (.str x') signs 1 40 && (sk x' && !db x')) = _
        rw [c]
        rfl
      rw [e] at w
      refine iteF ⟨_, rfl, _, rfl, ⟨_, rfl⟩, x', " ", rfl, rfl, fit, rfl, _, rfl, ?_⟩
      refine ite2 (fun c2 => ?_) (fun c2 => ?_)
      · have cs : sk x' = true := c2
        rw [cs] at w
        exact ⟨_, rfl, "  ", x', rfl, rfl, w⟩
      · have cs : sk x' = false := Bool.eq_false_iff.mpr c2
        rw [cs] at w
        exact w
theorem ok_name {f : Addr} {fd : FuncData} {e : Ex} (D : Df K mg "is_name" ["thing"] sIsName f fd) (T : Txt K mg C CL e) (cTo : Ca P w K mg base 3 "is_tongue" ["thing"] (spTongueP K)) (cNt : Ca P w K mg base 2 "is_name_text" ["thing"] (spNT K)) : FnOk P w K mg base CX0 4 f fd ["thing"] (spIsName K) := by
  refine D.fn.ok scIsName (fun vs H Q E h => ?_) (fun cdv A outer s H vs Q E hr h => ?_)
  · obtain ⟨v, d, rfl, hz, t2, q⟩ := h
    rfl
  · obtain ⟨v, d, rfl, hz, t2, q⟩ := h
    refine ⟨_, (pss_cons (ps_if (PW.pt (pw_or (pt_not (pt_val (pe_callB call_isi (by rfl) T.isi (by decide +kernel) (pa_cons (pv 0) (pa_cons (pe_bltn (v := .ty "tuple") (by rfl) T.tuple (by decide +kernel) rfl) pa_nil))))) (pw_or1 (pt_cmpR op_ne (pe_callB call_len_seq (by rfl) T.len PySem.boot_len (pa_cons (pv 0) pa_nil)) pe_int (nomark _))))) (pss_one (ps_ret pe_bl)) pss_nil)
      (pss_one (ps_ret (pe_and (pe_ca cTo hr (by decide) (by rfl) (pa_cons (pe_ix ix_tup (pv 0) pe_int (fun _ _ => rfl)) pa_nil)) (pe_one (pe_ca cNt hr (by decide) (by rfl) (pa_cons (pe_ix ix_tup (pv 0) pe_int (fun _ _ => rfl)) pa_nil))))))), ?_⟩
    refine ⟨_, rfl, _, _, _, _, isTup d, rfl, .ty _, hz.ty, z_tup d, _, rfl, ?_⟩
    have qf : nmD d = false → Q (.bl false) H := fun e => by
      have w := q H (Same.refl H)
      rw [e] at w
      exact w
    cases hz with
    | @tup t xs ds et ra =>
      refine iteF ⟨_, rfl, t, xs, rfl, .inr (SqT.of et), rfl, _, rfl, ?_⟩
      match xs, ds, ra with
      | [], _, .nil => exact iteT (qf rfl)
      | [_], _, .cons _ .nil => exact iteT (qf rfl)
      | _ :: _ :: _ :: r, _, .cons _ (.cons _ (.cons _ _)) => exact ite2 (fun _ => qf rfl) (fun e => absurd rfl (len3 e))
      | [va, vb], _, .cons (d := a) ha (.cons (d := b) hb .nil) =>
        obtain ⟨ta, tb⟩ : Tx a ∧ Tx b := ⟨t2 _ rfl a (by simp), t2 _ rfl b (by simp)⟩
        refine iteF ⟨_, rfl, t, _, 0, va, rfl, rfl, SqT.of et, atI_nat (j := 0) rfl, va, a, rfl, ha, fun x e => ta x e, fun H1 s1 => ⟨_, rfl, ?_⟩⟩
        have w := fun H' sm => q H' sm
        cases c : ofT a small 2 3 with
        | false =>
          have w := q H1 s1
          rw [show nmD (.tuple [a, b]) = false by show (ofT a small 2 3 && ntx b) = false; rw [c]; rfl] at w
          exact iteF w
        | true =>
          refine iteT ⟨_, rfl, t, _, 1, vb, rfl, rfl, SqT.of (s1 _ _ et), atI_nat (j := 1) rfl, vb, b, rfl, hb.same s1, fun x e => tb x e, fun H2 s2 => ?_⟩
          have w := q H2 (s1.trans s2)
          rw [show nmD (.tuple [a, b]) = ntx b by show (ofT a small 2 3 && ntx b) = _; rw [c]; rfl] at w
          exact w
    | _ => exact iteT (qf rfl)
end
end K64
set_option Elab.async false
set_option linter.all false
set_option maxRecDepth 100000
set_option maxHeartbeats 4000000
set_option pp.maxSteps 400
set_option pp.deepTerms false
namespace K64
open PySem PySem.Spec PyProof.Rows L2
open Xk Az Xtx
section
variable {P : Program} {w : World} {K : PySem.W.Frag} {mg : Str → Option Value} {base : Heap} {C CL : Addr}
theorem oV_dz {H : Hp} : ∀ m : Option Int, Dz K H (oV m) (oD m)
  | none => .non
  | some i => .int i
theorem oV_non (m : Option Int) : oV m = .non ↔ m = none := by cases m <;> simp [oV]
theorem good_iff {y : Int} {m d : Option Int} : goodV (.int y) (oV m) (oV d) = true ↔ Good y m d := by
  unfold Good goodV
  cases m with
  | none => cases d <;> simp [wiV, oV, and_assoc]
  | some i => cases d <;> simp [wiV, oV, and_assoc]
theorem put3 (y : Int) (m d : Option Int) : putF "day" (oV d) (putF "month" (oV m) (putF "year" (.int y) [])) = dayF y m d := by
  show (if ("year" : Str) = "day" then _ else _) = _
  rw [if_neg (by decide +kernel)]
  rfl
def spInit (C : Addr) : Sp := fun vs H Q _ => ∃ (x dx : Addr) (y : Int) (m d : Option Int), vs = [.ref x, .int y, oV m, oV d] ∧ Good y m d ∧ H x = some (.ins C dx []) ∧
  ∀ H' : Hp, (∀ b o, H b = some o → b ≠ x → H' b = some o) → DayAt C H' x y m d → Q .non H'
def spLen (CL : Addr) : Sp := fun vs H Q _ => ∃ (x dx : Addr) (i : Int), vs = [.ref x, .int i] ∧ H x = some (.ins CL dx []) ∧ 0 ≤ i ∧ i ≤ 359999 ∧
  ∀ H' : Hp, (∀ b o, H b = some o → b ≠ x → H' b = some o) → LenAt CL H' x i → Q .non H'
theorem ok_init {f : Addr} {fd : FuncData} {e : Ex} (F : FunD K "__init__" "Day.__init__" (defArgs sDayInit) (defBody sDayInit) (defScope sDayInit) [.non, .non] [] f fd) (T : Txt K mg C CL e) (cM : Ca P w K mg base 3 "makes_day" ["year", "month", "day"] (spMakes K)) : FnOk P w K mg base CX0 4 f fd ["self", "year", "month", "day"] (spInit C) := by
  refine F.ok scDayInit (fun vs H Q E h => ?_) (fun cdv A outer s H vs Q E hr h => ?_)
  · obtain ⟨x, dx, y, m, d, rfl, g, hx, q⟩ := h
    rfl
  · obtain ⟨x, dx, y, m, d, rfl, g, hx, q⟩ := h
    refine ⟨_, (pss_cons (ps_if (pt_not (pt_val (pe_ca cM hr (by decide) (by rfl) (pa_cons (pv 1) (pa_cons (pv 2) (pa_cons (pv 3) pa_nil)))))) (pss_one ps_no) pss_nil)
      (pss_cons (ps_fld (pv 0) (pv 1) rfl)
      (pss_cons (ps_fld (pv 0) (pv 2) rfl)
      (pss_one (ps_fld (pv 0) (pv 3) rfl))))), ?_⟩
    refine ⟨_, rfl, _, rfl, _, rfl, .int y, oV m, oV d, .int y, oD m, oD d, rfl, .int y, oV_dz m, oV_dz d, _, rfl, ?_⟩
    rw [good_iff.mpr g]
    refine iteF ⟨_, rfl, _, rfl, x, C, dx, [], rfl, hx, T.cl, T.nY, (by decide), ?_⟩
    refine ⟨_, rfl, _, rfl, x, C, dx, _, rfl, upd_same, T.cl, T.nM, (by show 1 < 1000; decide), ?_⟩
    refine ⟨_, rfl, _, rfl, x, C, dx, _, rfl, upd_same, T.cl, T.nD, ?_, ?_⟩
    · show (putF "month" (oV m) [(("year" : Str), V.int y)]).length < 1000
      unfold putF
      split <;> simp [putF]
    · rw [upd_upd, upd_upd]
      refine q _ (fun b o e n => by rw [upd_ne n]; exact e) ⟨dx, ?_⟩
      rw [upd_same]
      exact congrArg (fun z => some (HO.ins C dx z)) (put3 y m d)
theorem init_binds {f : Addr} {fd : FuncData} (F : FunD K "__init__" "Day.__init__" (defArgs sDayInit) (defBody sDayInit) (defScope sDayInit) [.non, .non] [] f fd) : Binds K fd ["self", "year", "month", "day"] [] := by
  obtain ⟨ds, r, b⟩ := F.binds1 (ps := ["self", "year", "month", "day"]) 4 2 (by simp) rfl fun T kV doc pm an cdv ct us its h1 h2 => by
    match us, its, h1, h2 with
    | [_, _, _, _], [_, _], _, _ => exact ⟨_, rfl, rfl⟩
  cases r
  exact b
theorem ok_len {f : Addr} {fd : FuncData} {e : Ex} (F : Fun K "__init__" "Length.__init__" sLengthInit f fd) (T : Txt K mg C CL e) (cI : Ca P w K mg base 2 "is_within" ["thing", "least", "most"] (spWithin K)) : FnOk P w K mg base CX0 3 f fd ["self", "seconds"] (spLen CL) := by
  obtain ⟨_, gKEY_PARTS⟩ := T.cKEY_PARTS
  obtain ⟨_, gLONGEST_WORD⟩ := T.cLONGEST_WORD
  obtain ⟨_, gLONGEST_CODE⟩ := T.cLONGEST_CODE
  obtain ⟨_, gMOST_PLAYERS⟩ := T.cMOST_PLAYERS
  obtain ⟨_, gLAST_YEAR⟩ := T.cLAST_YEAR
  obtain ⟨_, gMONTHS⟩ := T.cMONTHS
  obtain ⟨_, gFEBRUARY⟩ := T.cFEBRUARY
  obtain ⟨_, gMOST_SECONDS⟩ := T.cMOST_SECONDS
  obtain ⟨_, gSHORTEST_TONGUE⟩ := T.cSHORTEST_TONGUE
  obtain ⟨_, gLONGEST_TONGUE⟩ := T.cLONGEST_TONGUE
  obtain ⟨_, gLONGEST_TEXT⟩ := T.cLONGEST_TEXT
  obtain ⟨_, gMOST_FIGURES⟩ := T.cMOST_FIGURES
  obtain ⟨_, gDAY_PARTS⟩ := T.cDAY_PARTS
  obtain ⟨_, gYEAR_FIGURES⟩ := T.cYEAR_FIGURES
  obtain ⟨_, gSMALL_LETTERS⟩ := T.cSMALL_LETTERS
  obtain ⟨_, gTEXT_SIGNS⟩ := T.cTEXT_SIGNS
  obtain ⟨_, gFIGURES⟩ := T.cFIGURES
  obtain ⟨_, gCODE_SIGNS⟩ := T.cCODE_SIGNS
  refine F.ok scLengthInit (fun vs H Q E h => ?_) (fun cdv A outer s H vs Q E hr h => ?_)
  · obtain ⟨x, dx, i, rfl, hx, h0, h1, q⟩ := h
    rfl
  · obtain ⟨x, dx, i, rfl, hx, h0, h1, q⟩ := h
    refine ⟨_, (pss_cons (ps_if (pt_not (pt_val (pe_ca cI hr (by decide) (by rfl) (pa_cons (pv 1) (pa_cons pe_int (pa_cons (pe_glob (v := .int 359999) (by rfl) gMOST_SECONDS ⟨_, rfl⟩) pa_nil)))))) (pss_one ps_no) pss_nil)
      (pss_one (ps_fld (pv 0) (pv 1) rfl))), ?_⟩
    refine ⟨_, rfl, .int i, .int i, 0, 359999, rfl, .int i, _, rfl, ?_⟩
    have c : wiV (.int i) 0 359999 = true := by simp [wiV, h0, h1]
    rw [c]
    refine iteF ⟨_, rfl, _, rfl, x, CL, dx, [], rfl, hx, T.clL, T.nS, (by decide), ?_⟩
    exact q _ (fun b o e n => by rw [upd_ne n]; exact e) ⟨dx, upd_same⟩
def addP (acc : Str) : Option Int → Str
  | none => acc
  | some i => acc ++ "-" ++ zpad 2 i
def dayText (y : Int) (m d : Option Int) : Str := addP (addP (zpad 4 y) m) d
def toldS : Int → Option Int → Option Int → List Str
  | y, none, _ => [Str.ofString (toString y)]
  | y, some m, none => [Str.ofString (toString y), Str.ofString (toString m)]
  | y, some m, some d => [Str.ofString (toString y), Str.ofString (toString m), Str.ofString (toString d)]
def dayRepr (y : Int) (m d : Option Int) : Str := "Day(" ++ Str.join ", " (toldS y m d) ++ ")"
def spStrD (C : Addr) : Sp := fun vs H Q _ => ∃ (a : Addr) (y : Int) (m d : Option Int), vs = [.ref a] ∧ DayAt C H a y m d ∧ Good y m d ∧ Q (.str (dayText y m d)) H
def spReprD (C : Addr) : Sp := fun vs H Q _ => ∃ (a : Addr) (y : Int) (m d : Option Int), vs = [.ref a] ∧ DayAt C H a y m d ∧ Good y m d ∧ Q (.str (dayRepr y m d)) H
def TinyO : Option Int → Prop
  | none => True
  | some i => Tiny i
theorem good_tiny {y : Int} {m d : Option Int} (g : Good y m d) : Tiny y ∧ TinyO m ∧ TinyO d := by
  obtain ⟨g1, g2, g3⟩ := g
  refine ⟨⟨by omega, by omega⟩, ?_⟩
  cases m with
  | none =>
    have : d = none := g3
    subst this
    exact ⟨trivial, trivial⟩
  | some i =>
    obtain ⟨g4, g5, g6⟩ := g3
    have l := lastDay_ge y i
    refine ⟨⟨by omega, by omega⟩, ?_⟩
    cases d with
    | none => trivial
    | some j => exact ⟨by have := g6.1; omega, by have := g6.2; omega⟩
theorem int_small {i : Int} (h : Tiny i) : i.natAbs.log2 < 1920 := by
  have h1 : i.natAbs < 2 ^ 14 := by
    obtain ⟨a, b⟩ := h
    omega
  exact Nat.lt_of_lt_of_le (PySem.Flt.log2_lt_of (by decide) h1) (by decide)
theorem int_short {i : Int} (h : Tiny i) : (PyData.shown (.int i)).length ≤ 4 := by
  simp only [PyData.shown]
  exact toString_length_le h.1 (by decide) (by have := h.2; omega)
theorem emp : Str.empty.length = 0 := rfl
theorem dsh : ("-" : Str).length = 1 := by decide +kernel
theorem ok_strD {f : Addr} {fd : FuncData} (F : Fun K "__str__" "Day.__str__" sDayStr f fd) (T : Txt K mg C CL e) (nd : base.NoDigits) : FnOk P w K mg base CX0 1 f fd ["self"] (spStrD C) := by
  refine F.ok scDayStr (fun vs H Q E h => ?_) (fun cdv A outer s H vs Q E hr h => ?_)
  · obtain ⟨a, y, m, d, rfl, _⟩ := h
    rfl
  · obtain ⟨a, y, m, d, rfl, ⟨dx, ha⟩, g, q⟩ := h
    obtain ⟨ty, tm, td⟩ := good_tiny g
    refine ⟨_, pss_cons (ps_if (pt_cmpR op_isN (pe_fld (pv 0) rfl) pe_non (nomark _)) (pss_one (ps_ret (pe_joined1 (pe_fmtS (spec := "04d") (W := 4) nd (by decide +kernel) (by decide +kernel) (by decide +kernel) (by decide +kernel) (pe_fld (pv 0) rfl) (pe_joined1 pe_str))))) pss_nil)
      (pss_cons (ps_if (pt_cmpR op_isN (pe_fld (pv 0) rfl) pe_non (nomark _)) (pss_one (ps_ret (pe_joined (.cons (pe_fmtS (spec := "04d") (W := 4) nd (by decide +kernel) (by decide +kernel) (by decide +kernel) (by decide +kernel) (pe_fld (pv 0) rfl) (pe_joined1 pe_str))
          (.cons pe_str (.cons (pe_fmtS (spec := "02d") (W := 2) nd (by decide +kernel) (by decide +kernel) (by decide +kernel) (by decide +kernel) (pe_fld (pv 0) rfl) (pe_joined1 pe_str)) .nil)))))) pss_nil)
      (pss_one (ps_ret (pe_joined (.cons (pe_fmtS (spec := "04d") (W := 4) nd (by decide +kernel) (by decide +kernel) (by decide +kernel) (by decide +kernel) (pe_fld (pv 0) rfl) (pe_joined1 pe_str))
          (.cons pe_str (.cons (pe_fmtS (spec := "02d") (W := 2) nd (by decide +kernel) (by decide +kernel) (by decide +kernel) (by decide +kernel) (pe_fld (pv 0) rfl) (pe_joined1 pe_str))
          (.cons pe_str (.cons (pe_fmtS (spec := "02d") (W := 2) nd (by decide +kernel) (by decide +kernel) (by decide +kernel) (by decide +kernel) (pe_fld (pv 0) rfl) (pe_joined1 pe_str)) .nil))))))))), ?_⟩
    have l4 := zpad_len (W := 4) (by decide) ty
    cases m with
    | none =>
      have ed : d = none := g.2.2
      subst ed
      refine ⟨_, rfl, a, C, dx, _, _, rfl, ha, T.cl, T.nM, f_m _ _ _, rfl, _, rfl, iteT ?_⟩
      exact ⟨_, rfl, a, C, dx, _, _, rfl, ha, T.cl, T.nY, f_y _ _ _, y, rfl, ty, q⟩
    | some i =>
      have l2 := zpad_len (W := 2) (i := i) (by decide) tm
      refine ⟨_, rfl, a, C, dx, _, _, rfl, ha, T.cl, T.nM, f_m _ _ _, rfl, _, rfl, iteF ?_⟩
      refine ⟨_, rfl, a, C, dx, _, _, rfl, ha, T.cl, T.nD, f_d _ _ _, rfl, _, rfl, ?_⟩
      cases d with
      | none =>
        refine iteT ⟨_, rfl, a, C, dx, _, _, rfl, ha, T.cl, T.nY, f_y _ _ _, y, rfl, ty, _, rfl, fitN ?_, _, rfl, fitN ?_, _, rfl, a, C, dx, _, _, rfl, ha, T.cl, T.nM, f_m _ _ _, i, rfl, tm, _, rfl, fitN ?_, ?_⟩
        · rw [strLen_append, emp]; omega
        · rw [strLen_append, strLen_append, emp, dsh]; omega
        · rw [strLen_append, strLen_append, strLen_append, emp, dsh]; omega
        · show Q (V.str (Str.empty ++ zpad 4 y ++ "-" ++ zpad 2 i)) H
          rw [Str.empty_append]
          exact q
      | some j =>
        have l3 := zpad_len (W := 2) (i := j) (by decide) td
        refine iteF ⟨_, rfl, a, C, dx, _, _, rfl, ha, T.cl, T.nY, f_y _ _ _, y, rfl, ty, _, rfl, fitN ?_, _, rfl, fitN ?_, _, rfl, a, C, dx, _, _, rfl, ha, T.cl, T.nM, f_m _ _ _, i, rfl, tm, _, rfl, fitN ?_, _, rfl, fitN ?_, _, rfl, a, C, dx, _, _, rfl, ha, T.cl, T.nD, f_d _ _ _, j, rfl, td, _, rfl, fitN ?_, ?_⟩
        · rw [strLen_append, emp]; omega
        · rw [strLen_append, strLen_append, emp, dsh]; omega
        · rw [strLen_append, strLen_append, strLen_append, emp, dsh]; omega
        · rw [strLen_append, strLen_append, strLen_append, strLen_append, emp, dsh]; omega
        · rw [strLen_append, strLen_append, strLen_append, strLen_append, strLen_append, emp, dsh]; omega
        · show Q (V.str (Str.empty ++ zpad 4 y ++ "-" ++ zpad 2 i ++ "-" ++ zpad 2 j)) H
          rw [Str.empty_append]
          exact q
theorem dPar : ("Day(" : Str).length = 4 := by decide +kernel
theorem dCom : (", " : Str).length = 2 := by decide +kernel
theorem dEnd : (")" : Str).length = 1 := by decide +kernel
theorem txt_len {i : Int} (h : Tiny i) : (Str.ofString (toString i)).length ≤ 4 := by
  rw [len_text h.1]
  exact nDig_le h
theorem ok_reprD {f : Addr} {fd : FuncData} (F : Fun K "__repr__" "Day.__repr__" sDayRepr f fd) (T : Txt K mg C CL e) : FnOk P w K mg base CX0 1 f fd ["self"] (spReprD C) := by
  refine F.ok scDayRepr (fun vs H Q E h => ?_) (fun cdv A outer s H vs Q E hr h => ?_)
  · obtain ⟨a, y, m, d, rfl, _⟩ := h
    rfl
  · obtain ⟨a, y, m, d, rfl, ⟨dx, ha⟩, g, q⟩ := h
    obtain ⟨ty, tm, td⟩ := good_tiny g
    refine ⟨_, pss_cons (ps_if (pt_cmpR op_isN (pe_fld (pv 0) rfl) pe_non (nomark _)) (pss_one (ps_ret (pe_joined (.cons pe_str (.cons (pe_fmt (pe_fld (pv 0) rfl)) (.cons pe_str .nil)))))) pss_nil)
      (pss_cons (ps_if (pt_cmpR op_isN (pe_fld (pv 0) rfl) pe_non (nomark _)) (pss_one (ps_ret (pe_joined (.cons pe_str (.cons (pe_fmt (pe_fld (pv 0) rfl)) (.cons pe_str (.cons (pe_fmt (pe_fld (pv 0) rfl)) (.cons pe_str .nil)))))))) pss_nil)
      (pss_one (ps_ret (pe_joined (.cons pe_str (.cons (pe_fmt (pe_fld (pv 0) rfl)) (.cons pe_str (.cons (pe_fmt (pe_fld (pv 0) rfl)) (.cons pe_str (.cons (pe_fmt (pe_fld (pv 0) rfl)) (.cons pe_str .nil))))))))))), ?_⟩
    have ly := txt_len ty
    cases m with
    | none =>
      have ed : d = none := g.2.2
      subst ed
      refine ⟨_, rfl, a, C, dx, _, _, rfl, ha, T.cl, T.nM, f_m _ _ _, rfl, _, rfl, iteT ?_⟩
      refine ⟨_, rfl, fitN ?_, _, rfl, a, C, dx, _, _, rfl, ha, T.cl, T.nY, f_y _ _ _, .inr ⟨y, rfl, int_small ty, _, rfl, fitN ?_, _, rfl, fitN ?_, ?_⟩⟩
      · rw [strLen_append, emp, dPar]; omega
      · rw [strLen_append, strLen_append, emp, dPar]; omega
      · rw [strLen_append, strLen_append, strLen_append, emp, dPar, dEnd]; omega
      · show Q (V.str (Str.empty ++ "Day(" ++ Str.ofString (toString y) ++ ")")) H
        rw [Str.empty_append]
        exact q
    | some i =>
      have li := txt_len (i := i) tm
      refine ⟨_, rfl, a, C, dx, _, _, rfl, ha, T.cl, T.nM, f_m _ _ _, rfl, _, rfl, iteF ?_⟩
      refine ⟨_, rfl, a, C, dx, _, _, rfl, ha, T.cl, T.nD, f_d _ _ _, rfl, _, rfl, ?_⟩
      cases d with
      | none =>
        refine iteT ⟨_, rfl, fitN ?_, _, rfl, a, C, dx, _, _, rfl, ha, T.cl, T.nY, f_y _ _ _, .inr ⟨y, rfl, int_small ty, _, rfl, fitN ?_, _, rfl, fitN ?_, _, rfl, a, C, dx, _, _, rfl, ha, T.cl, T.nM, f_m _ _ _, .inr ⟨i, rfl, int_small tm, _, rfl, fitN ?_, _, rfl, fitN ?_, ?_⟩⟩⟩
        · rw [strLen_append, emp, dPar]; omega
        · rw [strLen_append, strLen_append, emp, dPar]; omega
        · rw [strLen_append, strLen_append, strLen_append, emp, dPar, dCom]; omega
        · rw [strLen_append, strLen_append, strLen_append, strLen_append, emp, dPar, dCom]; omega
        · rw [strLen_append, strLen_append, strLen_append, strLen_append, strLen_append, emp, dPar, dCom, dEnd]; omega
        · show Q (V.str (Str.empty ++ "Day(" ++ Str.ofString (toString y) ++ ", " ++ Str.ofString (toString i) ++ ")")) H
          have e : Str.empty ++ "Day(" ++ Str.ofString (toString y) ++ ", " ++ Str.ofString (toString i) ++ ")" = dayRepr y (some i) none := by
            show _ = "Day(" ++ (Str.ofString (toString y) ++ ", " ++ Str.ofString (toString i)) ++ ")"
            simp only [Str.append_assoc, Str.empty_append]
          rw [e]
          exact q
      | some j =>
        have lj := txt_len (i := j) td
        refine iteF ⟨_, rfl, fitN ?_, _, rfl, a, C, dx, _, _, rfl, ha, T.cl, T.nY, f_y _ _ _, .inr ⟨y, rfl, int_small ty, _, rfl, fitN ?_, _, rfl, fitN ?_, _, rfl, a, C, dx, _, _, rfl, ha, T.cl, T.nM, f_m _ _ _, .inr ⟨i, rfl, int_small tm, _, rfl, fitN ?_, _, rfl, fitN ?_,
          _, rfl, a, C, dx, _, _, rfl, ha, T.cl, T.nD, f_d _ _ _, .inr ⟨j, rfl, int_small td, _, rfl, fitN ?_, _, rfl, fitN ?_, ?_⟩⟩⟩⟩
        · rw [strLen_append, emp, dPar]; omega
        · rw [strLen_append, strLen_append, emp, dPar]; omega
        · rw [strLen_append, strLen_append, strLen_append, emp, dPar, dCom]; omega
        · rw [strLen_append, strLen_append, strLen_append, strLen_append, emp, dPar, dCom]; omega
        · rw [strLen_append, strLen_append, strLen_append, strLen_append, strLen_append, emp, dPar, dCom]; omega
        · rw [strLen_append, strLen_append, strLen_append, strLen_append, strLen_append, strLen_append, emp, dPar, dCom]; omega
        · rw [strLen_append, strLen_append, strLen_append, strLen_append, strLen_append, strLen_append, strLen_append, emp, dPar, dCom, dEnd]; omega
        · show Q (V.str (Str.empty ++ "Day(" ++ Str.ofString (toString y) ++ ", " ++ Str.ofString (toString i) ++ ", " ++ Str.ofString (toString j) ++ ")")) H
          have e : Str.empty ++ "Day(" ++ Str.ofString (toString y) ++ ", " ++ Str.ofString (toString i) ++ ", " ++ Str.ofString (toString j) ++ ")" = dayRepr y (some i) (some j) := by
            show _ = "Day(" ++ (Str.ofString (toString y) ++ ", " ++ (Str.ofString (toString i) ++ ", " ++ Str.ofString (toString j))) ++ ")"
            simp only [Str.append_assoc, Str.empty_append]
          rw [e]
          exact q
def spBey : Sp := fun vs H Q _ => ∃ i : Int, vs = [.int i] ∧ Q (.int (i % 60)) H
def lenText (i : Int) : Str := Str.ofString (toString (i / 60)) ++ ":" ++ zpad 2 (i % 60)
def lenRepr (i : Int) : Str := "Length(" ++ Str.ofString (toString i) ++ ")"
def spStrL (C : Addr) : Sp := fun vs H Q _ => ∃ (a : Addr) (i : Int), vs = [.ref a] ∧ LenAt C H a i ∧ 0 ≤ i ∧ i ≤ 359999 ∧ Q (.str (lenText i)) H
def spReprL (C : Addr) : Sp := fun vs H Q _ => ∃ (a : Addr) (i : Int), vs = [.ref a] ∧ LenAt C H a i ∧ 0 ≤ i ∧ i ≤ 359999 ∧ Q (.str (lenRepr i)) H
theorem tx_len {i : Int} (h0 : 0 ≤ i) (h1 : i < 10 ^ 9) : (Str.ofString (toString i)).length ≤ 9 := toString_length_le h0 (by decide) h1
theorem ok_bey {f : Addr} {fd : FuncData} (D : Df K mg "beyond_minutes" ["seconds"] sBeyondMinutes f fd)  : FnOk P w K mg base CX0 1 f fd ["seconds"] spBey := by
  refine D.fn.ok scBeyondMinutes (fun vs H Q E h => ?_) (fun cdv A outer s H vs Q E hr h => ?_)
  · obtain ⟨i, rfl, q⟩ := h
    rfl
  · obtain ⟨i, rfl, q⟩ := h
    refine ⟨_, (pss_one (ps_ret (pe_op op_mod (pv 0) pe_int))), ?_⟩
    exact ⟨_, rfl, i, 60, rfl, rfl, (by show (0 : Int) < 60; decide), q⟩
theorem ok_strL {f : Addr} {fd : FuncData} {e : Ex} (F : Fun K "__str__" "Length.__str__" sLengthStr f fd) (T : Txt K mg C CL e) (nd : base.NoDigits) (cB : Ca P w K mg base 1 "beyond_minutes" ["seconds"] spBey) : FnOk P w K mg base CX0 2 f fd ["self"] (spStrL CL) := by
  refine F.ok scLengthStr (fun vs H Q E h => ?_) (fun cdv A outer s H vs Q E hr h => ?_)
  · obtain ⟨a, i, rfl, ⟨dx, ha⟩, h0, h1, q⟩ := h
    rfl
  · obtain ⟨a, i, rfl, ⟨dx, ha⟩, h0, h1, q⟩ := h
    refine ⟨_, (pss_one (ps_ret (pe_joined (.cons (pe_fmt (pe_op op_fdiv (pe_fld (pv 0) rfl) pe_int)) (.cons pe_str (.cons (pe_fmtS (spec := "02d") (W := 2) nd (by decide +kernel) (by decide +kernel) (by decide +kernel) (by decide +kernel) (pe_ca cB hr (by decide) (by rfl) (pa_cons (pe_fld (pv 0) rfl) pa_nil)) (pe_joined1 pe_str)) .nil)))))), ?_⟩
    have t6 : Tiny (i % 60) := ⟨by omega, by omega⟩
    have l2 := zpad_len (W := 2) (by decide) t6
    have l1 := tx_len (i := i / 60) (by omega) (by omega)
    have c1 : (":" : Str).length = 1 := by decide +kernel
    have e0 : Str.empty.length = 0 := rfl
    refine ⟨_, rfl, a, CL, dx, _, _, rfl, ha, T.clL, T.nS, f_s i, i, 60, rfl, rfl, ⟨by decide, by decide⟩, .inr ⟨_, rfl, lg (by omega) (by omega), ?_⟩⟩
    refine ⟨_, rfl, fitN ?_, _, rfl, fitN ?_, _, rfl, a, CL, dx, _, _, rfl, ha, T.clL, T.nS, f_s i, i, rfl, _, rfl, t6, _, rfl, fitN ?_, ?_⟩
    · rw [strLen_append, e0]; omega
    · rw [strLen_append, strLen_append, e0, c1]; omega
    · rw [strLen_append, strLen_append, strLen_append, e0, c1]; omega
    · show Q (V.str (Str.empty ++ Str.ofString (toString (i / 60)) ++ ":" ++ zpad 2 (i % 60))) H
      rw [Str.empty_append]
      exact q
theorem ok_reprL {f : Addr} {fd : FuncData} {e : Ex} (F : Fun K "__repr__" "Length.__repr__" sLengthRepr f fd) (T : Txt K mg C CL e) : FnOk P w K mg base CX0 1 f fd ["self"] (spReprL CL) := by
  refine F.ok scLengthRepr (fun vs H Q E h => ?_) (fun cdv A outer s H vs Q E hr h => ?_)
  · obtain ⟨a, i, rfl, ⟨dx, ha⟩, h0, h1, q⟩ := h
    rfl
  · obtain ⟨a, i, rfl, ⟨dx, ha⟩, h0, h1, q⟩ := h
    refine ⟨_, (pss_one (ps_ret (pe_joined (.cons pe_str (.cons (pe_fmt (pe_fld (pv 0) rfl)) (.cons pe_str .nil)))))), ?_⟩
    have l1 := tx_len (i := i) (by omega) (by omega)
    have c1 : ("Length(" : Str).length = 7 := by decide +kernel
    have c2 : (")" : Str).length = 1 := by decide +kernel
    have e0 : Str.empty.length = 0 := rfl
    refine ⟨_, rfl, fitN ?_, _, rfl, a, CL, dx, _, _, rfl, ha, T.clL, T.nS, f_s i, .inr ⟨_, rfl, lg (by omega) (by omega), _, rfl, fitN ?_, _, rfl, fitN ?_, ?_⟩⟩
    · rw [strLen_append, e0, c1]; omega
    · rw [strLen_append, strLen_append, e0, c1]; omega
    · rw [strLen_append, strLen_append, strLen_append, e0, c1, c2]; omega
    · show Q (V.str (Str.empty ++ "Length(" ++ Str.ofString (toString i) ++ ")")) H
      rw [Str.empty_append]
      exact q
end
end K64
set_option Elab.async false
set_option linter.all false
set_option maxRecDepth 100000
set_option maxHeartbeats 4000000
set_option pp.maxSteps 400
set_option pp.deepTerms false
namespace K64
open PySem PySem.Spec PyProof.Rows L2
open Xk Az Xtx
section
variable {P : Program} {w : World} {K : PySem.W.Frag} {mg : Str → Option Value} {base : Heap} {C CL : Addr}
abbrev far : Int := 1000000
def spHand (K : PySem.W.Frag) : Sp := fun vs H Q _ => ∃ (a : Addr) (k : Int) (ns : List Int), vs = [.ref a, .int k] ∧ 0 ≤ k ∧ SqL K H a (ns.map V.int) ∧
  ∀ p g m, H p = none → 0 ≤ g → 0 ≤ m → m < 2305843009213693951 → Q (.ref p) (upd H p (.lst [.int g, .int m, .int 0]))
def spTake : Sp := fun vs H Q _ => ∃ (h : Addr) (many n : Int), vs = [.ref h, .int many] ∧ 0 < many ∧ many < 10 ^ 30 ∧ Hand n H h ∧ n ≤ far ∧
  ∀ d H', 0 ≤ d → d < many → Hand (n + 1) H' h → But h H H' → Q (.int d) H'
def spPick : Sp := fun vs H Q _ => ∃ (h : Addr) (n : Int) (s : V), vs = [.ref h, s] ∧ Hand n H h ∧ n ≤ far ∧
  ((∃ (l : Addr) (xs : List V), s = .ref l ∧ H l = some (.lst xs) ∧ l ≠ h ∧ xs ≠ [] ∧ xs.length < 1000 ∧ ∀ v H', v ∈ xs → Hand (n + 1) H' h → But h H H' → Q v H') ∨
   (∃ x : Str, s = .str x ∧ 0 < x.length ∧ x.length < 1000 ∧ ∀ c H', c ∈ x.cps.toList → Hand (n + 1) H' h → But h H H' → Q (.str ⟨#[c]⟩) H'))
theorem wide30 {g many : Int} (m1 : 0 < many) (m2 : many < 10 ^ 30) : CDivW g many := by
  have h : (10 : Int) ^ 30 < 2 ^ 110 := by decide
  exact wide_div (b := 110) m1 (by omega) (by decide) (by decide)
theorem lt30 {n : Nat} (h : n < 1000) : (n : Int) < 10 ^ 30 := Int.lt_trans (Int.ofNat_lt.mpr h) (by decide)
theorem lt30i {i : Int} (h : i < 1000000) : i < 10 ^ 30 := Int.lt_trans h (by decide)
theorem b01 (b : Bool) : -(2 ^ 64) < (if b = true then (1 : Int) else 0) ∧ (if b = true then (1 : Int) else 0) < 2 ^ 64 := by cases b <;> decide
theorem b0 (b : Bool) : 0 ≤ (if b = true then (1 : Int) else 0) := by cases b <;> decide
theorem ok_hand {f : Addr} {fd : FuncData} (D : Df K mg "_law_hand" ["_law_script", "_law_k"] sHand f fd) (T : Txt K mg C CL e) : FnOk P w K mg base CX0 1 f fd ["_law_script", "_law_k"] (spHand K) := by
  refine D.fn.ok scHand (fun vs H Q E h => ?_) (fun cdv A outer s H vs Q E hr h => ?_)
  · obtain ⟨a, k, ns, rfl, _⟩ := h
    rfl
  · obtain ⟨a, k, ns, rfl, hk, hS, q⟩ := h
    refine ⟨_, pss_cons (ps_set (i := 2) scHand.nd rfl (.inl rfl) (pe_ifExp (pt_cmpR op_lt (pv 1) (pe_callB call_len_seq (by rfl) T.len PySem.boot_len (pa_cons (pv 0) pa_nil)) (nomark _)) (pe_ix ix_list (pv 0) (pv 1) (fun _ _ => rfl)) pe_int))
      (pss_cons (ps_set (i := 3) scHand.nd rfl (.inl rfl) (pe_op op_mul (pe_op op_mod (pe_callB call_abs (by rfl) T.abs (by decide +kernel) (pa_cons (pv 2) pa_nil)) (pe_op op_mulW (pe_op op_pow pe_int pe_int) (pe_op op_pow pe_int pe_int)))
        (pe_callTy call_int1 (by rfl) T.int (by decide +kernel) (pa_cons (pe_cmpR op_ge (pe_callB call_abs (by rfl) T.abs (by decide +kernel) (pa_cons (pv 2) pa_nil)) (pe_op op_pow pe_int pe_int) (nomark _)) pa_nil))))
      (pss_one (ps_ret (pe_lst (pa_cons (pv 3) (pa_cons (pe_op op_mod (pe_op op_add (pe_op op_add (pe_op op_mod (pv 2) pe_int) (pe_op op_mul pe_int (pv 1))) pe_int) pe_int) (pa_cons pe_int pa_nil))))))), ?_⟩
    refine ⟨_, rfl, _, rfl, a, _, rfl, .inl hS, k, _, rfl, rfl, _, rfl, ?_⟩
    refine ite2 (fun e => ?_) (fun e => ?_)
    · have hlt : k < ((ns.map V.int).length : Int) := of_decide_eq_true e
      rw [List.length_map] at hlt
      obtain ⟨j, rfl⟩ : ∃ j : Nat, k = (j : Int) := ⟨k.toNat, by omega⟩
      have hj : j < ns.length := by omega
      have hat : atI (ns.map V.int) ((j : Nat) : Int) = some (.int ns[j]) := atI_nat (by rw [List.getElem?_map, List.getElem?_eq_getElem hj]; rfl)
      refine ⟨_, rfl, _, rfl, a, _, _, _, rfl, rfl, hS, hat, ?_⟩
      refine ⟨_, rfl, ns[j], rfl, 10, 60, rfl, rfl, ⟨by decide, by decide, by decide⟩, 10, 60, rfl, rfl, ⟨by decide, by decide, by decide⟩, _, _, rfl, rfl, ?_, _, _, rfl, rfl, ?_, ?_⟩
      · exact wide_mul (a := 300) (b := 300) (by decide +kernel) (by decide +kernel) (by decide) (by decide) (by decide)
      · show (0 : Int) < 10 ^ (60 : Int).toNat * 10 ^ (60 : Int).toNat
        decide +kernel
      · refine ⟨_, rfl, ns[j], rfl, 10, 18, rfl, rfl, ⟨by decide, by decide, by decide⟩, _, _, rfl, rfl, .inr ⟨_, rfl, _, _, rfl, rfl, .inr ?_, ?_⟩⟩
        · exact b01 _
        · refine ⟨_, rfl, _, rfl, ns[j], 2305843009213693951, rfl, rfl, (by show (0 : Int) < 2305843009213693951; decide), _, rfl, 7919, _, rfl, rfl, .inl (by decide), _, _, rfl, rfl, _, _, rfl, rfl, _, _, rfl, rfl, (by show (0 : Int) < 2305843009213693951; decide), (by show 3 ≤ sizeLine; decide), fun p np => ?_⟩
          refine q p _ _ np ?_ (Int.emod_nonneg _ (by decide)) (Int.emod_lt_of_pos _ (by decide))
          refine Int.mul_nonneg (Int.emod_nonneg _ (by decide +kernel)) ?_
          exact b0 _
    · refine ⟨_, rfl, 0, rfl, 10, 60, rfl, rfl, ⟨by decide, by decide, by decide⟩, 10, 60, rfl, rfl, ⟨by decide, by decide, by decide⟩, _, _, rfl, rfl, ?_, _, _, rfl, rfl, ?_, ?_⟩
      · exact wide_mul (a := 300) (b := 300) (by decide +kernel) (by decide +kernel) (by decide) (by decide) (by decide)
      · show (0 : Int) < 10 ^ (60 : Int).toNat * 10 ^ (60 : Int).toNat
        decide +kernel
      · refine ⟨_, rfl, 0, rfl, 10, 18, rfl, rfl, ⟨by decide, by decide, by decide⟩, _, _, rfl, rfl, .inr ⟨_, rfl, _, _, rfl, rfl, .inr ?_, ?_⟩⟩
        · exact b01 _
        · refine ⟨_, rfl, _, rfl, 0, 2305843009213693951, rfl, rfl, (by show (0 : Int) < 2305843009213693951; decide), _, rfl, 7919, _, rfl, rfl, .inl (by decide), _, _, rfl, rfl, _, _, rfl, rfl, _, _, rfl, rfl, (by show (0 : Int) < 2305843009213693951; decide), (by show 3 ≤ sizeLine; decide), fun p np => ?_⟩
          refine q p _ _ np ?_ (Int.emod_nonneg _ (by decide)) (Int.emod_lt_of_pos _ (by decide))
          refine Int.mul_nonneg (Int.emod_nonneg _ (by decide +kernel)) ?_
          exact b0 _
theorem ok_take {f : Addr} {fd : FuncData} (D : Df K mg "_law_take" ["_law_hand_here", "_law_many"] sTake f fd) : FnOk P w K mg base CX0 1 f fd ["_law_hand_here", "_law_many"] spTake := by
  refine D.fn.ok scTake (fun vs H Q E h => ?_) (fun cdv A outer s H vs Q E hr h => ?_)
  · obtain ⟨h, many, n, rfl, _⟩ := h
    rfl
  · obtain ⟨h, many, n, rfl, m1, m2, ⟨g, m, c, hh, g0, k0, k1, c0, c1⟩, hn, q⟩ := h
    refine ⟨_, pss_cons (ps_if (pt_cmpR op_gt (pe_ix ix_list (pv 0) pe_int (fun _ _ => rfl)) pe_int (nomark _))
        (pss_cons (ps_set (i := 2) scTake.nd rfl (.inl rfl) (pe_op op_mod (pe_ix ix_list (pv 0) pe_int (fun _ _ => rfl)) (pv 1)))
        (pss_cons (ps_asg (pe_op op_fdivW (pe_ix ix_list (pv 0) pe_int (fun _ _ => rfl)) (pv 1)) (pg_sub (pv 0) pe_int set_list))
        (pss_one (ps_ret (pv 2))))) pss_nil)
      (pss_cons (ps_asg (pe_op op_add (pe_ix ix_list (pv 0) pe_int (fun _ _ => rfl)) pe_int) (pg_sub (pv 0) pe_int set_list))
      (pss_cons (ps_set (i := 3) scTake.nd rfl (.inl rfl) (pe_op op_mod (pe_op op_mul (pe_op op_add (pe_op op_add (pe_ix ix_list (pv 0) pe_int (fun _ _ => rfl))
          (pe_op op_mul (pe_op op_mul pe_int (pe_ix ix_list (pv 0) pe_int (fun _ _ => rfl))) (pe_ix ix_list (pv 0) pe_int (fun _ _ => rfl)))) pe_int) pe_int) pe_int))
      (pss_cons (ps_set (i := 3) scTake.nd rfl (.inl rfl) (pe_op op_mod (pe_op op_mul (pv 3) (pe_op op_add (pe_op op_mod (pv 3) pe_int) (pe_op op_mul pe_int (pe_ix ix_list (pv 0) pe_int (fun _ _ => rfl))))) pe_int))
      (pss_one (ps_ret (pe_op op_mod (pe_op op_add (pe_op op_fdiv (pv 3) pe_int) (pe_op op_fdiv (pv 3) pe_int)) (pv 1))))))), ?_⟩
    have far' : n ≤ 1000000 := hn
    refine ⟨_, rfl, h, _, 0, _, rfl, rfl, SqL.of hh, atI_nat (j := 0) rfl, g, 0, rfl, rfl, _, rfl, ite2 (fun e => ?_) (fun e => ?_)⟩
    · refine ⟨_, rfl, h, _, 0, _, rfl, rfl, SqL.of hh, atI_nat (j := 0) rfl, _, rfl, g, many, rfl, rfl, m1, ?_⟩
      refine ⟨_, rfl, h, _, 0, _, rfl, rfl, SqL.of hh, atI_nat (j := 0) rfl, _, rfl, g, many, rfl, rfl, wide30 m1 m2, _, rfl, h, _, 0, 0, rfl, rfl, hh, rfl, ?_⟩
      refine ⟨_, rfl, ?_⟩
      exact q _ _ (Int.emod_nonneg _ (by omega)) (Int.emod_lt_of_pos _ m1) ⟨g / many, m, c, upd_same, Int.ediv_nonneg g0 (by omega), k0, k1, c0, by omega⟩ but_upd
    · refine ⟨_, rfl, h, _, 2, _, rfl, rfl, SqL.of hh, atI_nat (j := 2) rfl, c, 1, rfl, rfl, _, rfl, h, _, 2, 2, rfl, rfl, hh, rfl, ?_⟩
      have h2 : (upd H h (.lst [.int g, .int m, .int (c + 1)])) h = some (.lst [.int g, .int m, .int (c + 1)]) := upd_same
      have s2 := SqL.of (K := K) h2
      refine ⟨_, rfl, h, _, 1, _, rfl, rfl, s2, atI_nat (j := 1) rfl, _, rfl, h, _, 2, _, rfl, rfl, s2, atI_nat (j := 2) rfl, 65537, c + 1, rfl, rfl, .inl (by decide), _, rfl, h, _, 2, _, rfl, rfl, s2, atI_nat (j := 2) rfl, _, c + 1, rfl, rfl, .inr (by omega),
        m, _, rfl, rfl, _, 11, rfl, rfl, _, 48271, rfl, rfl, .inr (by decide), _, 2305843009213693921, rfl, rfl, (by show (0 : Int) < 2305843009213693921; decide), ?_⟩
      generalize (m + 65537 * (c + 1) * (c + 1) + 11) * 48271 = z
      have z0 : 0 ≤ z % 2305843009213693921 := Int.emod_nonneg _ (by decide)
      have z1 : z % 2305843009213693921 < 2305843009213693921 := Int.emod_lt_of_pos _ (by decide)
      refine ⟨_, rfl, _, rfl, _, 1000003, rfl, rfl, (by show (0 : Int) < 1000003; decide), _, rfl, h, _, 2, _, rfl, rfl, s2, atI_nat (j := 2) rfl, 99991, c + 1, rfl, rfl, .inl (by decide), _, _, rfl, rfl, _, _, rfl, rfl, .inl (by omega),
        _, 2305843009213693907, rfl, rfl, (by show (0 : Int) < 2305843009213693907; decide), ?_⟩
      refine ⟨_, rfl, _, 97, rfl, rfl, ⟨by decide, by decide⟩, _, rfl, _, 1000033, rfl, rfl, ⟨by decide, by decide⟩, _, _, rfl, rfl, _, rfl, _, many, rfl, rfl, m1, ?_⟩
      exact q _ _ (Int.emod_nonneg _ (by omega)) (Int.emod_lt_of_pos _ m1) ⟨g, m, c + 1, h2, g0, k0, k1, by omega, by omega⟩ but_upd
theorem ok_pick {f : Addr} {fd : FuncData} {e : Ex} (D : Df K mg "_law_pick" ["_law_hand_here", "_law_some"] sPick f fd) (T : Txt K mg C CL e) (cT : Ca P w K mg base 1 "_law_take" ["_law_hand_here", "_law_many"] spTake) : FnOk P w K mg base CX0 2 f fd ["_law_hand_here", "_law_some"] spPick := by
  refine D.fn.ok scPick (fun vs H Q E h => ?_) (fun cdv A outer s H vs Q E hr h => ?_)
  · obtain ⟨h, n, s, rfl, hh, hn, q⟩ := h
    rfl
  · obtain ⟨h, n, s, rfl, hh, hn, q⟩ := h
    refine ⟨_, (pss_one (ps_ret (pe_ix ix_seq (pv 1) (pe_ca cT hr (by decide) (by rfl) (pa_cons (pv 0) (pa_cons (pe_callB (cr_alt call_len_seq call_len_str) (by rfl) T.len PySem.boot_len (pa_cons (pv 1) pa_nil)) pa_nil))) (fun _ _ => rfl)))), ?_⟩
    refine ⟨_, rfl, _, rfl, _, rfl, ?_⟩
    rcases q with ⟨l, xs, rfl, hl, nl, ne, few, q⟩ | ⟨x, rfl, pos, few, q⟩
    · have pos : 0 < xs.length := List.length_pos_iff.mpr ne
      refine .inl ⟨l, xs, rfl, .inl (SqL.of hl), h, (xs.length : Int), n, rfl, by omega, lt30 few, hh, hn, fun d H' d0 d1 hh' bt => ?_⟩
      obtain ⟨j, rfl⟩ : ∃ j : Nat, d = (j : Int) := ⟨d.toNat, by omega⟩
      have hj : j < xs.length := by omega
      refine .inl ⟨l, xs, _, xs[j], rfl, rfl, SqL.of (bt _ _ nl hl), atI_nat (List.getElem?_eq_getElem hj), ?_⟩
      exact q _ H' (List.getElem_mem hj) hh' bt
    · have sz : x.length ≤ sizeLine := Nat.le_trans (show x.length ≤ 1000 by omega) (by decide)
      refine .inr ⟨x, rfl, sz, h, (x.length : Int), n, rfl, by omega, lt30 few, hh, hn, fun d H' d0 d1 hh' bt => ?_⟩
      obtain ⟨j, rfl⟩ : ∃ j : Nat, d = (j : Int) := ⟨d.toNat, by omega⟩
      have hj : j < x.cps.toList.length := by
        have : x.length = x.cps.toList.length := by rw [Array.length_toList]; rfl
        omega
      refine .inr (.inr ⟨x, _, x.cps.toList[j], rfl, rfl, sz, atI_nat (List.getElem?_eq_getElem hj), ?_⟩)
      exact q _ H' (List.getElem_mem hj) hh' bt
def spLast : Sp := fun vs H Q _ => ∃ y m : Int, vs = [.int y, .int m] ∧ ∀ H', Same H H' → Q (.int (lastDay y m)) H'
theorem ok_last {f : Addr} {fd : FuncData} (D : Df K mg "_law_last" ["_law_y", "_law_m"] sLast f fd) : FnOk P w K mg base CX0 1 f fd ["_law_y", "_law_m"] spLast := by
  refine D.fn.ok scLast (fun vs H Q E h => ?_) (fun cdv A outer s H vs Q E hr h => ?_)
  · obtain ⟨y, m, rfl, _⟩ := h
    rfl
  · obtain ⟨y, m, rfl, q⟩ := h
    refine ⟨_, pss_cons (ps_if (pt_cmpR op_in_seq (pv 1) (pe_tup (pa_cons pe_int (pa_cons pe_int (pa_cons pe_int (pa_cons pe_int pa_nil))))) (by rfl)) (pss_one (ps_ret pe_int)) pss_nil)
      (pss_cons (ps_if (pt_cmpR op_ne (pv 1) pe_int (nomark _)) (pss_one (ps_ret pe_int)) pss_nil)
      (pss_cons (ps_par (i := 2) (j := 3) (by rfl) scLast.nd rfl rfl (by decide) rfl rfl (pa_cons (pe_cmpR op_eq (pe_op op_mul (pe_op op_fdiv (pv 0) pe_int) pe_int) (pv 0) (nomark _))
        (pa_cons (pe_cmpR op_eq (pe_op op_mul (pe_op op_fdiv (pv 0) pe_int) pe_int) (pv 0) (nomark _)) pa_nil)) (by rfl))
      (pss_one (ps_ret (pe_ifExp (PW.pt (pw_and (pt_val (pv 2)) (pw_and1 (PW.pt (pw_or (pt_not (pt_val (pv 3))) (pw_or1 (pt_cmpR op_eq (pe_op op_mul (pe_op op_fdiv (pv 0) pe_int) pe_int) (pv 0) (nomark _)))))))) pe_int pe_int))))), ?_⟩
    refine ⟨_, rfl, (by show 4 ≤ sizeLine; decide), fun t ht => ?_⟩
    have s1 : Same H (upd H t (.tup [.int 4, .int 6, .int 9, .int 11])) := same_upd ht
    refine ⟨t, _, rfl, .inr (SqT.of upd_same), rfl, rfl, _, rfl, ?_⟩
    have q1 := q _ s1
    have e1 : inV (V.int m) [.int 4, .int 6, .int 9, .int 11] = decide (m = 4 ∨ m = 6 ∨ m = 9 ∨ m = 11) := by
      show ((4 : Int) == m || ((6 : Int) == m || ((9 : Int) == m || ((11 : Int) == m || false)))) = _
      by_cases a : m = 4
      · subst a
        rfl
      · by_cases b : m = 6
        · subst b
          rfl
        · by_cases c : m = 9
          · subst c
            rfl
          · by_cases d : m = 11
            · subst d
              rfl
            · rw [beq_eq_false_iff_ne.mpr (Ne.symm a), beq_eq_false_iff_ne.mpr (Ne.symm b), beq_eq_false_iff_ne.mpr (Ne.symm c), beq_eq_false_iff_ne.mpr (Ne.symm d), decide_eq_false (by omega)]
              rfl
    show (if inV (V.int m) [.int 4, .int 6, .int 9, .int 11] = true then _ else _)
    rw [e1]
    refine ite2 (fun e => ?_) (fun e => ?_)
    · have z : lastDay y m = 30 := by
        unfold lastDay
        rw [if_pos (of_decide_eq_true e)]
      rw [z] at q1
      exact q1
    · have n1 : ¬ (m = 4 ∨ m = 6 ∨ m = 9 ∨ m = 11) := fun z => e (decide_eq_true z)
      refine ⟨_, rfl, rfl, _, rfl, ?_⟩
      rw [dInt]
      refine ite2 (fun c => ?_) (fun c => ?_)
      · have z : lastDay y m = 31 := by
          have c' : m ≠ 2 := by simpa using c
          unfold lastDay
          rw [if_neg n1, if_pos c']
        rw [z] at q1
        exact q1
      · have c' : m = 2 := by simpa using c
        have zz : lastDay y m = if leap y = true then 29 else 28 := by
          unfold lastDay
          rw [if_neg n1, if_neg (by simpa using c')]
        refine ⟨_, rfl, y, 4, rfl, rfl, ⟨by decide, by decide⟩, _, 4, rfl, rfl, .inr (by decide), _, rfl, rfl, _, rfl, y, 100, rfl, rfl, ⟨by decide, by decide⟩, _, 100, rfl, rfl, .inr (by decide), _, rfl, rfl, _, _, rfl, ?_⟩
        rw [dInt, dInt]
        refine ⟨_, rfl, _, rfl, ?_⟩
        refine ite2 (fun a4 => ?_) (fun a4 => ?_)
        · have b4 : y % 4 = 0 := by
            have := of_decide_eq_true a4
            omega
          refine ⟨_, rfl, _, rfl, ?_⟩
          refine ite2 (fun a1 => ?_) (fun a1 => ?_)
          · have b1 : ¬ y % 100 = 0 := by
              have : ¬ y / 100 * 100 = y := by simpa using a1
              omega
            have l : leap y = true := by
              unfold leap
              simp [b4, b1]
            rw [zz, l, if_pos rfl] at q1
            exact iteT q1
          · have b1 : y % 100 = 0 := by
              have : y / 100 * 100 = y := by simpa using a1
              omega
            refine ⟨_, rfl, y, 400, rfl, rfl, ⟨by decide, by decide⟩, _, 400, rfl, rfl, .inr (by decide), _, rfl, rfl, _, rfl, ?_⟩
            rw [dInt]
            refine ite2 (fun a0 => ?_) (fun a0 => ?_)
            · have b0 : y % 400 = 0 := by
                have := of_decide_eq_true a0
                omega
              have l : leap y = true := by
                unfold leap
                simp [b4, b0]
              rw [zz, l, if_pos rfl] at q1
              exact q1
            · have b0 : ¬ y % 400 = 0 := by
                have : ¬ y / 400 * 400 = y := by simpa using a0
                omega
              have l : leap y = false := by
                unfold leap
                simp [b1, b0]
              rw [zz, l] at q1
              exact q1
        · have b4 : ¬ y % 4 = 0 := by
            have : ¬ y / 4 * 4 = y := by simpa using a4
            omega
          have l : leap y = false := by
            unfold leap
            simp [b4]
          rw [zz, l] at q1
          exact iteF q1
abbrev pV (y : Int) (m d : Option Int) : List V := [.int y, oV m, oV d]
def spParts : Sp := fun vs H Q _ => ∃ (h : Addr) (n : Int), vs = [.ref h] ∧ Hand n H h ∧ n + 20 ≤ far ∧
  ∀ t y m d H', H' t = some (.tup (pV y m d)) → Good y m d → Hand (n + 9) H' h → But h H H' → Q (.ref t) H'
theorem ok_parts {f : Addr} {fd : FuncData} (D : Df K mg "_law_parts" ["_law_hand_here"] sParts f fd) (cT : Ca P w K mg base 1 "_law_take" ["_law_hand_here", "_law_many"] spTake)
    (cP : Ca P w K mg base 2 "_law_pick" ["_law_hand_here", "_law_some"] spPick) (cL : Ca P w K mg base 1 "_law_last" ["_law_y", "_law_m"] spLast) : FnOk P w K mg base CX0 3 f fd ["_law_hand_here"] spParts := by
  refine D.fn.ok scParts (fun vs H Q E h => ?_) (fun cdv A outer s H vs Q E hr h => ?_)
  · obtain ⟨h, n, rfl, _⟩ := h
    rfl
  · obtain ⟨h, n, rfl, hh, hn, q⟩ := h
    have fr : n + 20 ≤ 1000000 := hn
    refine ⟨_, pss_cons (ps_set (i := 1) scParts.nd rfl (.inl rfl) (pe_lst (pa_cons (pe_op op_add pe_int (pe_ca cT hr (by decide) (by rfl) (pa_cons (pv 0) (pa_cons pe_int pa_nil))))
          (pa_cons pe_int (pa_cons pe_int (pa_cons (pe_op op_mul pe_int (pe_op op_add pe_int (pe_ca cT hr (by decide) (by rfl) (pa_cons (pv 0) (pa_cons pe_int pa_nil)))))
            (pa_cons (pe_op op_mul pe_int (pe_op op_add pe_int (pe_ca cT hr (by decide) (by rfl) (pa_cons (pv 0) (pa_cons pe_int pa_nil))))) pa_nil)))))))
      (pss_cons (ps_set (i := 2) scParts.nd rfl (.inl rfl) (pe_ca cP hr (by decide) (by rfl) (pa_cons (pv 0) (pa_cons (pv 1) pa_nil))))
      (pss_cons (ps_par (i := 3) (j := 4) (by rfl) scParts.nd rfl rfl (by decide) rfl rfl (pa_cons (pe_ca cT hr (by decide) (by rfl) (pa_cons (pv 0) (pa_cons pe_int pa_nil)))
          (pa_cons (pe_ca cP hr (by decide) (by rfl) (pa_cons (pv 0) (pa_cons (pe_lst (pa_cons (pe_op op_add pe_int (pe_ca cT hr (by decide) (by rfl) (pa_cons (pv 0) (pa_cons pe_int pa_nil))))
            (pa_cons pe_int (pa_cons pe_int (pa_cons pe_int (pa_cons pe_int pa_nil)))))) pa_nil))) pa_nil)) (by rfl))
      (pss_cons (ps_set (i := 5) scParts.nd rfl (.inl rfl) (pe_ca cL hr (by decide) (by rfl) (pa_cons (pv 2) (pa_cons (pv 4) pa_nil))))
      (pss_cons (ps_set (i := 6) scParts.nd rfl (.inl rfl) (pe_ca cP hr (by decide) (by rfl) (pa_cons (pv 0) (pa_cons (pe_lst (pa_cons (pe_op op_add pe_int (pe_ca cT hr (by decide) (by rfl) (pa_cons (pv 0) (pa_cons (pv 5) pa_nil))))
            (pa_cons pe_int (pa_cons (pv 5) pa_nil)))) pa_nil))))
      (pss_one (ps_ret (pe_ix ix_list (pe_lst (pa_cons (pe_tup (pa_cons (pv 2) (pa_cons pe_non (pa_cons pe_non pa_nil)))) (pa_cons (pe_tup (pa_cons (pv 2) (pa_cons (pv 4) (pa_cons pe_non pa_nil))))
          (pa_cons (pe_tup (pa_cons (pv 2) (pa_cons (pv 4) (pa_cons (pv 6) pa_nil)))) pa_nil)))) (pv 3) (fun _ _ => rfl)))))))), ?_⟩
    -- some
    refine ⟨_, rfl, h, 9999, n, rfl, by decide, by decide, hh, by omega, fun a1 H1 a10 a11 h1 b1 => ?_⟩
    refine ⟨1, a1, rfl, rfl, ?_⟩
    refine ⟨_, rfl, h, 2499, n + 1, rfl, by decide, by decide, h1, by omega, fun a2 H2 a20 a21 h2 b2 => ?_⟩
    refine ⟨1, a2, rfl, rfl, 4, _, rfl, rfl, .inl (by decide), ?_⟩
    refine ⟨_, rfl, h, 99, n + 1 + 1, rfl, by decide, by decide, h2, by omega, fun a3 H3 a30 a31 h3 b3 => ?_⟩
    refine ⟨1, a3, rfl, rfl, 100, _, rfl, rfl, .inl (by decide), (by show 5 ≤ sizeLine; decide), fun l nl => ?_⟩
    -- y
    refine ⟨_, rfl, _, rfl, h, n + 1 + 1 + 1, _, rfl, h3.same (same_upd nl), by show _ ≤ (1000000 : Int); omega, .inl ⟨l, _, rfl, upd_same, h3.fresh nl, by simp, by show 5 < 1000; decide, fun yv H4 my h4 b4 => ?_⟩⟩
    obtain ⟨y, rfl, y1, y2⟩ : ∃ y : Int, yv = .int y ∧ 1 ≤ y ∧ y ≤ 9999 := by
      simp only [List.mem_cons, List.not_mem_nil, or_false] at my
      rcases my with e | e | e | e | e
      · exact ⟨_, e, by omega, by omega⟩
      · exact ⟨_, e, by decide, by decide⟩
      · exact ⟨_, e, by decide, by decide⟩
      · exact ⟨_, e, by omega, by omega⟩
      · exact ⟨_, e, by omega, by omega⟩
    -- tells, m
    refine ⟨_, rfl, h, 3, n + 1 + 1 + 1 + 1, rfl, by decide, by decide, h4, by omega, fun tl H5 t0 t1 h5 b5 => ?_⟩
    refine ⟨_, rfl, _, rfl, h, 12, n + 1 + 1 + 1 + 1 + 1, rfl, by decide, by decide, h5, by omega, fun a6 H6 a60 a61 h6 b6 => ?_⟩
    refine ⟨1, a6, rfl, rfl, (by show 5 ≤ sizeLine; decide), fun l2 nl2 => ?_⟩
    refine ⟨h, n + 1 + 1 + 1 + 1 + 1 + 1, _, rfl, h6.same (same_upd nl2), by show _ ≤ (1000000 : Int); omega, .inl ⟨l2, _, rfl, upd_same, h6.fresh nl2, by simp, by show 5 < 1000; decide, fun mv H7 mm h7 b7 => ?_⟩⟩
    obtain ⟨m, rfl, m1, m2⟩ : ∃ m : Int, mv = .int m ∧ 1 ≤ m ∧ m ≤ 12 := by
      simp only [List.mem_cons, List.not_mem_nil, or_false] at mm
      rcases mm with e | e | e | e | e
      · exact ⟨_, e, by omega, by omega⟩
      · exact ⟨_, e, by decide, by decide⟩
      · exact ⟨_, e, by decide, by decide⟩
      · exact ⟨_, e, by decide, by decide⟩
      · exact ⟨_, e, by decide, by decide⟩
    refine ⟨_, _, rfl, ?_⟩
    -- last_here
    refine ⟨_, rfl, _, rfl, y, m, rfl, fun H8 s8 => ?_⟩
    have h8 := h7.same s8
    have ld := lastDay_ge y m
    -- d
    refine ⟨_, rfl, _, rfl, _, rfl, h, lastDay y m, n + 1 + 1 + 1 + 1 + 1 + 1 + 1, rfl, by omega, by omega, h8, by omega, fun a9 H9 a90 a91 h9 b9 => ?_⟩
    refine ⟨1, a9, rfl, rfl, _, rfl, (by show 3 ≤ sizeLine; decide), fun l3 nl3 => ?_⟩
    refine ⟨h, n + 1 + 1 + 1 + 1 + 1 + 1 + 1 + 1, _, rfl, h9.same (same_upd nl3), by show _ ≤ (1000000 : Int); omega, .inl ⟨l3, _, rfl, upd_same, h9.fresh nl3, by simp, by show 3 < 1000; decide, fun dv HA dm hA bA => ?_⟩⟩
    obtain ⟨d, rfl, d1, d2⟩ : ∃ d : Int, dv = .int d ∧ 1 ≤ d ∧ d ≤ lastDay y m := by
      simp only [List.mem_cons, List.not_mem_nil, or_false] at dm
      rcases dm with e | e | e
      · exact ⟨_, e, by omega, by omega⟩
      · exact ⟨_, e, by decide, by omega⟩
      · exact ⟨_, e, by omega, by omega⟩
    -- the three
    refine ⟨_, rfl, (by show 3 ≤ sizeLine; decide), fun u1 n1 => ?_⟩
    refine ⟨_, rfl, _, rfl, (by show 3 ≤ sizeLine; decide), fun u2 n2 => ?_⟩
    refine ⟨_, rfl, _, rfl, _, rfl, (by show 3 ≤ sizeLine; decide), fun u3 n3 => ?_⟩
    refine ⟨(by show 3 ≤ sizeLine; decide), fun l4 nl4 => ?_⟩
    have sB := (((same_upd n1).trans (same_upd n2)).trans (same_upd n3)).trans (same_upd nl4 (o := .lst [.ref u1, .ref u2, .ref u3]))
    have hB := (hA.same sB).mono (show n + 1 + 1 + 1 + 1 + 1 + 1 + 1 + 1 + 1 ≤ n + 9 by omega)
    have bt : But h H _ := (((((((((b1.trans b2).trans b3).trans (Same.but (same_upd nl) h)).trans b4).trans b5).trans b6).trans (Same.but (same_upd nl2) h)).trans b7).trans (Same.but s8 h)).trans
      (((b9.trans (Same.but (same_upd nl3) h)).trans bA).trans (Same.but sB h))
    have e1 := (((same_upd n2).trans (same_upd n3)).trans (same_upd nl4 (o := .lst [.ref u1, .ref u2, .ref u3]))) u1 _ upd_same
    have e2 := ((same_upd n3).trans (same_upd nl4 (o := .lst [.ref u1, .ref u2, .ref u3]))) u2 _ upd_same
    have e3 := (same_upd nl4 (o := .lst [.ref u1, .ref u2, .ref u3])) u3 _ upd_same
    obtain ⟨j, rfl⟩ : ∃ j : Nat, tl = (j : Int) := ⟨tl.toNat, by omega⟩
    have hj : j < 3 := by omega
    match j, hj with
    | 0, _ => exact ⟨_, rfl, l4, _, _, _, rfl, rfl, SqL.of upd_same, atI_nat (j := 0) rfl, q u1 y none none _ e1 ⟨y1, y2, rfl⟩ hB bt⟩
    | 1, _ => exact ⟨_, rfl, l4, _, _, _, rfl, rfl, SqL.of upd_same, atI_nat (j := 1) rfl, q u2 y (some m) none _ e2 ⟨y1, y2, m1, m2, trivial⟩ hB bt⟩
    | 2, _ => exact ⟨_, rfl, l4, _, _, _, rfl, rfl, SqL.of upd_same, atI_nat (j := 2) rfl, q u3 y (some m) (some d) _ e3 ⟨y1, y2, m1, m2, d1, d2⟩ hB bt⟩
end
end K64
set_option Elab.async false
set_option linter.all false
set_option maxRecDepth 100000
set_option maxHeartbeats 4000000
set_option pp.maxSteps 400
set_option pp.deepTerms false
namespace K64
open PySem PySem.Spec PyProof.Rows L2
open Xk Az Xtx
section
variable {P : Program} {w : World} {K : PySem.W.Frag} {mg : Str → Option Value} {base : Heap} {C CL : Addr}
def letts (x : Str) : Prop := ∀ c ∈ x.cps.toList, c ∈ small.cps.toList
theorem fig_iff (c : Nat) : c ∈ figs.cps.toList ↔ 48 ≤ c ∧ c ≤ 57 := by
  rw [show figs.cps.toList = [48, 49, 50, 51, 52, 53, 54, 55, 56, 57] by decide +kernel]
  simp only [List.mem_cons, List.not_mem_nil, or_false]
  omega
theorem chk_figs (z : Str) : chk z figs = true ↔ NumText.AllDigits z.cps.toList := by
  unfold chk
  rw [List.all_eq_true]
  constructor
  · intro h c hc
    exact (fig_iff c).mp (of_decide_eq_true (h c hc))
  · intro h c hc
    exact decide_eq_true ((fig_iff c).mpr (h c hc))
theorem ofT_iff {x sg : Str} {a b : Int} : ofT (.str x) sg a b = true ↔ a ≤ (x.length : Int) ∧ (x.length : Int) ≤ b ∧ chk x sg = true := by
  show (decide (a ≤ (x.length : Int)) && decide ((x.length : Int) ≤ b) && chk x sg) = true ↔ _
  rw [Bool.and_eq_true, Bool.and_eq_true, decide_eq_true_eq, decide_eq_true_eq]
  exact ⟨fun h => ⟨h.1.1, h.1.2, h.2⟩, fun h => ⟨⟨h.1, h.2.1⟩, h.2.2⟩⟩
theorem chk_iff {x sg : Str} : chk x sg = true ↔ ∀ c ∈ x.cps.toList, c ∈ sg.cps.toList := by
  unfold chk
  rw [List.all_eq_true]
  exact ⟨fun h c hc => of_decide_eq_true (h c hc), fun h c hc => decide_eq_true (h c hc)⟩
/-- the text of a number -/
abbrev nT (n : Int) : Str := Str.ofString (toString n)
theorem nT_list (m : Nat) : (nT (m : Int)).cps.toList = TL.numL m := TL.tl_num m
theorem numL_head {n : Nat} (h : 0 < n) : ∃ c r, TL.numL n = c :: r ∧ 49 ≤ c := by
  induction n using Nat.strongRecOn with
  | _ n ih =>
    by_cases c : n < 10
    · exact ⟨48 + n, [], TL.numL_lt c, by omega⟩
    · obtain ⟨d, r, e, g⟩ := ih (n / 10) (by omega) (by omega)
      exact ⟨d, r ++ [48 + n % 10], by rw [TL.numL_step (by omega), e]; rfl, g⟩
theorem digits_lt : ∀ (cs : List Nat) (a : Nat), NumText.AllDigits cs → cs.foldl (fun acc c => acc * 10 + (c - 48)) a < (a + 1) * 10 ^ cs.length
  | [], a, _ => by simp
  | c :: r, a, h => by
    have hc := h c List.mem_cons_self
    have ih := digits_lt r (a * 10 + (c - 48)) fun d hd => h d (List.mem_cons_of_mem _ hd)
    rw [List.foldl_cons, List.length_cons]
    refine Nat.lt_of_lt_of_le ih ?_
    rw [Nat.pow_succ, Nat.mul_comm (10 ^ r.length) 10, ← Nat.mul_assoc]
    exact Nat.mul_le_mul_right _ (by omega)
def numP (z : Str) : Option Int :=
  if ofT (.str z) figs 1 30 = true then (if z.cps.toList.head? = some 48 ∧ z ≠ "0" then none else some ((NumText.digitsVal z.cps.toList : Nat) : Int)) else none
theorem num_of {m : Nat} (h : m < 10 ^ 30) : numP (nT (m : Int)) = some (m : Int) := by
  have el := nT_list m
  have len : (nT (m : Int)).length = (TL.numL m).length := by rw [len_cps, el]
  have a : ofT (.str (nT (m : Int))) figs 1 30 = true := by
    rw [ofT_iff, len]
    have l1 := TL.numL_len (k := 30) (by decide) h
    have l2 : 0 < (TL.numL m).length := List.length_pos_iff.mpr (TL.numL_ne m)
    exact ⟨by omega, by omega, (chk_figs _).mpr (by rw [el]; exact TL.numL_digits m)⟩
  unfold numP
  rw [if_pos a, if_neg, el, TL.numL_val]
  rintro ⟨h1, h2⟩
  by_cases z : m = 0
  · subst z
    exact h2 (by decide +kernel)
  · obtain ⟨c, r, e, g⟩ := numL_head (Nat.pos_of_ne_zero z)
    rw [el, e] at h1
    have : c = 48 := by simpa using h1
    omega
theorem num_back {z : Str} {n : Int} (h : numP z = some n) : ∃ m : Nat, n = (m : Int) ∧ m < 10 ^ 30 ∧ z = nT (m : Int) := by
  unfold numP at h
  by_cases a : ofT (.str z) figs 1 30 = true
  · rw [if_pos a] at h
    by_cases b : z.cps.toList.head? = some 48 ∧ z ≠ "0"
    · rw [if_pos b] at h; cases h
    · rw [if_neg b] at h
      cases h
      obtain ⟨l1, l30, ck⟩ := ofT_iff.mp a
      have ad := (chk_figs z).mp ck
      have lz := len_cps z
      refine ⟨_, rfl, ?_, Xtx.str_eq ?_⟩
      · have d := digits_lt z.cps.toList 0 ad
        rw [Nat.zero_add, Nat.one_mul] at d
        exact Nat.lt_of_lt_of_le d (Nat.pow_le_pow_right (by decide) (by omega))
      · rw [nT_list]
        unfold TL.numL
        obtain ⟨k, hk⟩ : ∃ k, z.cps.toList.length = k + 1 := ⟨z.cps.toList.length - 1, by omega⟩
        rw [NumText.toDigits_digitsVal k z.cps.toList hk ad, List.map_map]
        · conv => lhs; rw [← List.map_id z.cps.toList]
          refine List.map_congr_left fun c hc => ?_
          have := ad c hc
          have v : ∀ c : Nat, 48 ≤ c → c ≤ 57 → (Char.ofNat c).toNat = c := by
            intro c h1 h2
            have cs : c = 48 ∨ c = 49 ∨ c = 50 ∨ c = 51 ∨ c = 52 ∨ c = 53 ∨ c = 54 ∨ c = 55 ∨ c = 56 ∨ c = 57 := by omega
            rcases cs with rfl | rfl | rfl | rfl | rfl | rfl | rfl | rfl | rfl | rfl <;> rfl
          exact (v c this.1 this.2).symm
        · by_cases k0 : k = 0
          · exact .inl k0
          · right
            cases e : z.cps.toList with
            | nil => rw [e] at hk; cases hk
            | cons c r =>
              refine ⟨c, r, rfl, ?_⟩
              have hc := ad c (by rw [e]; exact List.mem_cons_self)
              have n48 : c ≠ 48 := fun q => b ⟨by rw [e, q]; rfl, fun q2 => by
                rw [q2] at hk
                exact k0 (by have : ("0" : Str).cps.toList.length = 1 := by decide +kernel
                             omega)⟩
              omega
  · rw [if_neg a] at h; cases h
theorem tl_bl : TL.tl " " = 32 :: [] := by decide +kernel
theorem tl_cb : TL.tl ", " = 44 :: [32] := by decide +kernel
theorem tl_cl : TL.tl ": " = 58 :: [32] := by decide +kernel
theorem joinL_cons (S p : List Nat) {X : List (List Nat)} (h : X ≠ []) : TL.joinL S (p :: X) = p ++ (S ++ TL.joinL S X) := by
  cases X with
  | nil => exact absurd rfl h
  | cons q r => rfl
theorem spl_ne (S : List Nat) : ∀ (n k : Nat) (acc L : List Nat), L.length ≤ n → TL.spl S k acc L ≠ []
  | _, k, acc, [], _ => by rw [TL.spl_nil]; simp
  | n + 1, k, acc, c :: r, h => by
    rw [List.length_cons] at h
    cases k with
    | succ k =>
      rw [TL.spl_pass]
      rw [List.drop_succ_cons, ← TL.spl_pass S k]
      exact spl_ne S n k acc r (by omega)
    | zero =>
      cases hp : TL.pre S (c :: r) with
      | true => rw [TL.spl_hit hp]; simp
      | false => rw [TL.spl_miss hp]; exact spl_ne S n 0 _ r (by omega)
theorem join_spl {S : List Nat} (hS : S ≠ []) : ∀ (n : Nat) (acc L : List Nat), L.length ≤ n → TL.joinL S (TL.spl S 0 acc L) = acc ++ L
  | _, acc, [], _ => by rw [TL.spl_nil, List.append_nil]; rfl
  | n + 1, acc, c :: r, h => by
    rw [List.length_cons] at h
    cases hp : TL.pre S (c :: r) with
    | true =>
      rw [TL.spl_hit hp, TL.spl_pass, joinL_cons _ _ (spl_ne S _ 0 [] _ (Nat.le_refl _)), join_spl hS n [] (r.drop (S.length - 1)) (by rw [List.length_drop]; omega), List.nil_append]
      have e : (c :: r).take S.length = S := eq_of_beq hp
      have l : 0 < S.length := List.length_pos_iff.mpr hS
      congr 1
      have d := List.take_append_drop S.length (c :: r)
      rw [e] at d
      obtain ⟨m, hm⟩ : ∃ m, S.length = m + 1 := ⟨S.length - 1, by omega⟩
      rw [hm, List.drop_succ_cons] at d
      rw [hm, Nat.add_sub_cancel]
      exact d
    | false =>
      rw [TL.spl_miss hp, join_spl hS n (acc ++ [c]) r (by omega), List.append_assoc]
      rfl
theorem join_split {x y : Str} (hy : TL.tl y ≠ []) (hk : y.cps.all (· < 256) = true) : Txt.join y (Txt.split x y) = x := by
  refine Xtx.str_eq ?_
  show TL.tl (Txt.join y (Txt.split x y)) = TL.tl x
  rw [TL.join_eq, TL.tl_join, TL.split_spl x y hy (TL.kind_ok hk), join_spl hy _ [] (TL.tl x) (Nat.le_refl _), List.nil_append]
theorem small_month {y : Int} {m d : Option Int} (g : Good y m d) : (∀ i, m = some i → 0 ≤ i ∧ i < 100) ∧ ∀ i, d = some i → 0 ≤ i ∧ i < 100 := by
  obtain ⟨g1, g2, g3⟩ := g
  cases m with
  | none =>
    have : d = none := g3
    subst this
    exact ⟨fun i z => (by cases z), fun i z => (by cases z)⟩
  | some i =>
    obtain ⟨g4, g5, g6⟩ := g3
    refine ⟨fun k z => ?_, fun k z => ?_⟩
    · cases z
      omega
    · subst z
      have := lastDay_ge y i
      obtain ⟨a, b⟩ := g6
      omega
theorem tl_da : TL.tl "-" = 45 :: [] := by decide +kernel
theorem tl_c1 : TL.tl ":" = 58 :: [] := by decide +kernel
theorem dv_zeros (k : Nat) (l : List Nat) : NumText.digitsVal (List.replicate k 48 ++ l) = NumText.digitsVal l := by
  induction k with
  | zero => rfl
  | succ k ih =>
    rw [List.replicate_succ, List.cons_append, NumText.digitsVal_zero]
    exact ih
theorem nDig_num (m : Nat) : nDig (m : Int) = (TL.numL m).length := by
  rw [← nT_list, ← len_cps, len_text (by omega)]
theorem zp_list (W m : Nat) : (zpad W (m : Int)).cps.toList = List.replicate (W - (TL.numL m).length) 48 ++ TL.numL m := by
  unfold zpad
  rw [Str.cps_append, Array.toList_append, nT_list, nDig_num]
  rfl
theorem ad_num (m : Nat) : NumText.AllDigits (TL.numL m) := TL.numL_digits m
theorem zp_digits (W m : Nat) : NumText.AllDigits (zpad W (m : Int)).cps.toList := fun c hc => by
  rw [zp_list] at hc
  rcases List.mem_append.mp hc with h | h
  · have := (List.mem_replicate.mp h).2
    omega
  · exact ad_num m c h
theorem zp_val (W m : Nat) : NumText.digitsVal (zpad W (m : Int)).cps.toList = m := by
  rw [zp_list, dv_zeros, TL.numL_val]
theorem zp_len {W m : Nat} (h : (TL.numL m).length ≤ W) : (zpad W (m : Int)).length = W := by
  rw [len_cps, zp_list, List.length_append, List.length_replicate]
  omega
theorem num2 {m : Nat} (h : m < 100) : (TL.numL m).length ≤ 2 := TL.numL_len (k := 2) (by decide) (by omega)
theorem num4 {m : Nat} (h : m < 10000) : (TL.numL m).length ≤ 4 := TL.numL_len (k := 4) (by decide) (by omega)
theorem dw_48 : ∀ cs : List Nat, ∃ k, cs = List.replicate k 48 ++ cs.dropWhile (· == 48)
  | [] => ⟨0, rfl⟩
  | c :: r => by
    obtain ⟨k, e⟩ := dw_48 r
    by_cases h : c = 48
    · refine ⟨k + 1, ?_⟩
      rw [List.dropWhile_cons, if_pos (by rw [beq_iff_eq]; exact h), List.replicate_succ, List.cons_append, ← e, h]
    · refine ⟨0, ?_⟩
      rw [List.dropWhile_cons, if_neg (by rw [beq_iff_eq]; exact h)]
      rfl
theorem chr_id : ∀ {cs : List Nat}, NumText.AllDigits cs → (cs.map Char.ofNat).map Char.toNat = cs
  | [], _ => rfl
  | c :: r, h => by
    have hc := h c List.mem_cons_self
    have v : (Char.ofNat c).toNat = c := by
      have cs : c = 48 ∨ c = 49 ∨ c = 50 ∨ c = 51 ∨ c = 52 ∨ c = 53 ∨ c = 54 ∨ c = 55 ∨ c = 56 ∨ c = 57 := by omega
      rcases cs with rfl | rfl | rfl | rfl | rfl | rfl | rfl | rfl | rfl | rfl <;> rfl
    rw [List.map_cons, List.map_cons, v, chr_id fun d hd => h d (List.mem_cons_of_mem _ hd)]
theorem zp_back {z : Str} {W : Nat} (h : NumText.AllDigits z.cps.toList) (l : z.length = W) (w : 1 ≤ W) : z = zpad W ((NumText.digitsVal z.cps.toList : Nat) : Int) := by
  refine Xtx.str_eq ?_
  rw [zp_list]
  obtain ⟨k, e⟩ := dw_48 z.cps.toList
  have t := NumText.toDigits_all z.cps.toList h
  have len := l
  rw [len_cps, e, List.length_append, List.length_replicate] at len
  have nl : TL.numL (NumText.digitsVal z.cps.toList) = (Nat.toDigits 10 (NumText.digitsVal z.cps.toList)).map Char.toNat := rfl
  cases dd : z.cps.toList.dropWhile (· == 48) with
  | nil =>
    rw [dd] at t e len
    have t2 : Nat.toDigits 10 (NumText.digitsVal z.cps.toList) = ['0'] := t
    have n2 : TL.numL (NumText.digitsVal z.cps.toList) = [48] := by rw [nl, t2]; rfl
    rw [n2, e, List.append_nil]
    have kw : k = W := by simpa using len
    obtain ⟨v, rfl⟩ : ∃ v, W = v + 1 := ⟨W - 1, by omega⟩
    rw [kw]
    exact List.replicate_succ'
  | cons c r =>
    rw [dd] at t e len
    have t2 : Nat.toDigits 10 (NumText.digitsVal z.cps.toList) = (c :: r).map Char.ofNat := t
    have ad : NumText.AllDigits (c :: r) := fun d hd => h d (by rw [e]; exact List.mem_append_right _ hd)
    have n2 : TL.numL (NumText.digitsVal z.cps.toList) = c :: r := by rw [nl, t2, chr_id ad]
    rw [n2]
    have k2 : k = W - (c :: r).length := by omega
    rw [← k2]
    exact e
/-- what the figures of a text tell -/
def dv (z : Str) : Int := ((NumText.digitsVal z.cps.toList : Nat) : Int)
theorem dv_zp {W : Nat} {i : Int} (h : 0 ≤ i) : dv (zpad W i) = i := by
  obtain ⟨m, rfl⟩ := Int.eq_ofNat_of_zero_le h
  exact congrArg (fun n : Nat => (n : Int)) (zp_val W m)
/-- what is written of the parts of a day -/
def partsT (y : Int) : Option Int → Option Int → List Str
  | none, _ => [zpad 4 y]
  | some m, none => [zpad 4 y, zpad 2 m]
  | some m, some d => [zpad 4 y, zpad 2 m, zpad 2 d]
theorem day_join {y : Int} {m d : Option Int} (g : Good y m d) : dayText y m d = Txt.join "-" (partsT y m d) := by
  rw [TL.join_eq]
  unfold dayText partsT
  cases m with
  | none =>
    have : d = none := g.2.2
    subst this
    rfl
  | some i =>
    cases d with
    | none => rfl
    | some j =>
      show zpad 4 y ++ "-" ++ zpad 2 i ++ "-" ++ zpad 2 j = zpad 4 y ++ "-" ++ (zpad 2 i ++ "-" ++ zpad 2 j)
      simp only [Str.append_assoc]
/-- a part that is written so -/
structure Pt (W : Nat) (z : Str) (i : Int) : Prop where
  ad : NumText.AllDigits z.cps.toList
  len : z.length = W
  val : dv z = i
theorem pt_zp {W : Nat} {i : Int} (h0 : 0 ≤ i) (h : nDig i ≤ W) : Pt W (zpad W i) i := by
  obtain ⟨m, rfl⟩ := Int.eq_ofNat_of_zero_le h0
  rw [nDig_num] at h
  exact ⟨zp_digits W m, zp_len h, dv_zp (by omega)⟩
theorem prt_not {W : Nat} {z : Str} {i : Int} (p : Pt W z i) {c : Nat} (h : c < 48 ∨ 57 < c) : c ∉ z.cps.toList := fun m => by
  have := p.ad c m
  omega
theorem good_parts {y : Int} {m d : Option Int} (g : Good y m d) : Pt 4 (zpad 4 y) y ∧ (∀ i, m = some i → Pt 2 (zpad 2 i) i) ∧ ∀ i, d = some i → Pt 2 (zpad 2 i) i := by
  obtain ⟨a, b⟩ := small_month g
  have g1 := g.1
  have g2 := g.2.1
  exact ⟨pt_zp (by omega) (nDig_le ⟨by omega, by omega⟩), fun i e => pt_zp (a i e).1 (nDig_le2 (a i e).1 (a i e).2), fun i e => pt_zp (b i e).1 (nDig_le2 (b i e).1 (b i e).2)⟩
theorem day_split {y : Int} {m d : Option Int} (g : Good y m d) : Txt.split (dayText y m d) "-" = partsT y m d := by
  rw [day_join g]
  obtain ⟨p1, p2, p3⟩ := good_parts g
  refine TL.split_join tl_da (by decide +kernel) ?_ ?_
  · unfold partsT
    split <;> simp
  · intro p hp
    unfold partsT at hp
    cases m with
    | none =>
      rw [List.mem_singleton.mp hp]
      exact prt_not p1 (.inl (by decide))
    | some i =>
      cases d with
      | none =>
        rcases List.mem_cons.mp hp with z | z
        · rw [z]; exact prt_not p1 (.inl (by decide))
        · rw [List.mem_singleton.mp z]; exact prt_not (p2 i rfl) (.inl (by decide))
      | some j =>
        rcases List.mem_cons.mp hp with z | z
        · rw [z]; exact prt_not p1 (.inl (by decide))
        · rcases List.mem_cons.mp z with z | z
          · rw [z]; exact prt_not (p2 i rfl) (.inl (by decide))
          · rw [List.mem_singleton.mp z]; exact prt_not (p3 j rfl) (.inl (by decide))
/-- the numbers that the parts write, in three places -/
def three : List Str → Int × Option Int × Option Int
  | [a] => (dv a, none, none)
  | [a, b] => (dv a, some (dv b), none)
  | [a, b, c] => (dv a, some (dv b), some (dv c))
  | _ => (0, none, none)
theorem three_of {y : Int} {m d : Option Int} (g : Good y m d) : three (partsT y m d) = (y, m, d) := by
  obtain ⟨p1, p2, p3⟩ := good_parts g
  unfold partsT
  cases m with
  | none =>
    have : d = none := g.2.2
    subst this
    simp only [three, p1.val]
  | some i =>
    cases d with
    | none => simp only [three, p1.val, (p2 i rfl).val]
    | some j => simp only [three, p1.val, (p2 i rfl).val, (p3 j rfl).val]
theorem parts_len {y : Int} {m d : Option Int} : 1 ≤ (partsT y m d).length ∧ (partsT y m d).length ≤ 3 := by
  unfold partsT
  split <;> simp
theorem parts_lens {y : Int} {m d : Option Int} (g : Good y m d) : (partsT y m d).map (fun p => (p.length : Int)) = ([4, 2, 2] : List Int).take (partsT y m d).length ∧ ∀ p ∈ partsT y m d, NumText.AllDigits p.cps.toList ∧ 1 ≤ p.length ∧ p.length ≤ 4 := by
  obtain ⟨p1, p2, p3⟩ := good_parts g
  have l1 := p1.len
  unfold partsT
  cases m with
  | none =>
    refine ⟨by simp [l1], fun p hp => ?_⟩
    rw [List.mem_singleton.mp hp]
    exact ⟨p1.ad, by omega, by omega⟩
  | some i =>
    have q2 := p2 i rfl
    have l2 := q2.len
    cases d with
    | none =>
      refine ⟨by simp [l1, l2], fun p hp => ?_⟩
      rcases List.mem_cons.mp hp with z | z
      · rw [z]; exact ⟨p1.ad, by omega, by omega⟩
      · rw [List.mem_singleton.mp z]; exact ⟨q2.ad, by omega, by omega⟩
    | some j =>
      have q3 := p3 j rfl
      have l3 := q3.len
      refine ⟨by simp [l1, l2, l3], fun p hp => ?_⟩
      rcases List.mem_cons.mp hp with z | z
      · rw [z]; exact ⟨p1.ad, by omega, by omega⟩
      · rcases List.mem_cons.mp z with z | z
        · rw [z]; exact ⟨q2.ad, by omega, by omega⟩
        · rw [List.mem_singleton.mp z]; exact ⟨q3.ad, by omega, by omega⟩
/-- parts of these lengths, of figures, whose numbers make a day: the text is its text -/
theorem day_back {x : Str} {ps : List Str} (e : Txt.split x "-" = ps) (h1 : 1 ≤ ps.length) (h3 : ps.length ≤ 3) (ad : ∀ p ∈ ps, NumText.AllDigits p.cps.toList) (ll : ps.map (fun p => (p.length : Int)) = ([4, 2, 2] : List Int).take ps.length)
    (g : Good (three ps).1 (three ps).2.1 (three ps).2.2) : x = dayText (three ps).1 (three ps).2.1 (three ps).2.2 := by
  have j := join_split (x := x) (y := "-") (by rw [tl_da]; simp) (by decide +kernel)
  rw [e] at j
  rw [day_join g, ← j]
  congr 1
  match ps, h1, h3, ad, ll with
  | [a], _, _, ad, ll =>
    have la : a.length = 4 := by
      simp at ll
      omega
    have := zp_back (ad a (by simp)) la (by decide)
    simp only [three, partsT, dv]
    rw [← this]
  | [a, b], _, _, ad, ll =>
    have la : a.length = 4 ∧ b.length = 2 := by
      simp at ll
      omega
    have t1 := zp_back (ad a (by simp)) la.1 (by decide)
    have t2 := zp_back (ad b (by simp)) la.2 (by decide)
    simp only [three, partsT, dv]
    rw [← t1, ← t2]
  | [a, b, c], _, _, ad, ll =>
    have la : a.length = 4 ∧ b.length = 2 ∧ c.length = 2 := by
      simp at ll
      omega
    have t1 := zp_back (ad a (by simp)) la.1 (by decide)
    have t2 := zp_back (ad b (by simp)) la.2.1 (by decide)
    have t3 := zp_back (ad c (by simp)) la.2.2 (by decide)
    simp only [three, partsT, dv]
    rw [← t1, ← t2, ← t3]
/-! lengths -/
theorem num_zp {i : Int} (h0 : 0 ≤ i) (h1 : i < 60) : Pt 2 (zpad 2 i) i := pt_zp h0 (nDig_le2 h0 (by omega))
theorem nT_ad {m : Int} (h : 0 ≤ m) : NumText.AllDigits (nT m).cps.toList := by
  obtain ⟨n, rfl⟩ := Int.eq_ofNat_of_zero_le h
  have := nT_list n
  rw [this]
  exact TL.numL_digits n
theorem nT_dv {m : Int} (h : 0 ≤ m) : dv (nT m) = m := by
  obtain ⟨n, rfl⟩ := Int.eq_ofNat_of_zero_le h
  unfold dv
  rw [nT_list n, TL.numL_val]
theorem ad_not {z : Str} (h : NumText.AllDigits z.cps.toList) {c : Nat} (hc : c < 48 ∨ 57 < c) : c ∉ z.cps.toList := fun m => by
  have := h c m
  omega
theorem len_parts {c : Int} (h0 : 0 ≤ c) (h1 : c ≤ 359999) : Txt.partition (lenText c) ":" = (nT (c / 60), (":" : Str), zpad 2 (c % 60)) :=
  TL.partition_app tl_c1 (ad_not (nT_ad (by omega)) (.inr (by decide)))
theorem len_split {c : Int} (h0 : 0 ≤ c) (h1 : c ≤ 359999) : Txt.split (lenText c) ":" = [nT (c / 60), zpad 2 (c % 60)] := by
  have e : lenText c = Txt.join ":" [nT (c / 60), zpad 2 (c % 60)] := by rw [TL.join_eq]; rfl
  rw [e]
  refine TL.split_join tl_c1 (by decide +kernel) (by simp) fun p hp => ?_
  rcases List.mem_cons.mp hp with z | z
  · rw [z]; exact ad_not (nT_ad (by omega)) (.inr (by decide))
  · rw [List.mem_singleton.mp z]; exact prt_not (num_zp (by omega) (by omega)) (.inr (by decide))
theorem len_num {c : Int} (h0 : 0 ≤ c) (h1 : c ≤ 359999) : numP (nT (c / 60)) = some (c / 60) := by
  obtain ⟨m, hm⟩ : ∃ m : Nat, c / 60 = (m : Int) := ⟨(c / 60).toNat, by omega⟩
  rw [hm]
  exact num_of (by omega)
theorem nT_4 {c : Int} (h0 : 0 ≤ c) (h1 : c ≤ 359999) : 1 ≤ (nT (c / 60)).length ∧ (nT (c / 60)).length ≤ 4 := by
  have t : Tiny (c / 60) := ⟨by omega, by omega⟩
  have l := nDig_le t
  rw [len_text t.1]
  refine ⟨?_, l⟩
  obtain ⟨m, hm⟩ : ∃ m : Nat, c / 60 = (m : Int) := ⟨(c / 60).toNat, by omega⟩
  rw [hm, nDig_num]
  exact List.length_pos_iff.mpr (TL.numL_ne m)
end
end K64
set_option Elab.async false
set_option linter.all false
set_option maxRecDepth 100000
set_option maxHeartbeats 4000000
set_option pp.maxSteps 400
set_option pp.deepTerms false
namespace K64
open PySem PySem.Spec PyProof.Rows L2
open Xk Az Xtx
section
variable {P : Program} {w : World} {K : PySem.W.Frag} {mg : Str → Option Value} {base : Heap} {C CL : Addr}
theorem fitN' {n : Nat} (h : n ≤ 50000) : n ≤ sizeLine := Nat.le_trans h (by decide)
def nV : Option Int → V
  | none => .non
  | some n => .int n
def spFig : Sp := fun vs H Q _ => ∃ (z : Str) (a b : Int), vs = [.str z, .int a, .int b] ∧ z.length ≤ 50000 ∧ ∀ H', L2.Same H H' → Q (.bl (ofT (.str z) figs a b)) H'
def spNum : Sp := fun vs H Q _ => ∃ (z : Str), vs = [.str z] ∧ z.length ≤ 50000 ∧ ∀ H', L2.Same H H' → Q (nV (numP z)) H'
def spDi (C : Addr) : Sp := fun vs H Q _ => ∃ (x : Str), vs = [.str x] ∧ x.length ≤ 50000 ∧ (∀ y m d, Good y m d → x = dayText y m d → ∀ o H', L2.Same H H' → DayAt C H' o y m d → Q (.ref o) H') ∧
  ((∀ y m d, Good y m d → x ≠ dayText y m d) → ∀ H', L2.Same H H' → Q .non H')
def spLi (CL : Addr) : Sp := fun vs H Q _ => ∃ (x : Str), vs = [.str x] ∧ x.length ≤ 50000 ∧ (∀ c, 0 ≤ c → c ≤ 359999 → x = lenText c → ∀ o H', L2.Same H H' → LenAt CL H' o c → Q (.ref o) H') ∧
  ((∀ c, 0 ≤ c → c ≤ 359999 → x ≠ lenText c) → ∀ H', L2.Same H H' → Q .non H')
theorem part_len (x y : Str) : (Txt.partition x y).1.length ≤ x.length ∧ (Txt.partition x y).2.2.length ≤ x.length := by
  rcases partition_whole x y with ⟨h, _⟩ | ⟨i, h, a, _⟩
  · rw [h]
    exact ⟨Nat.le_refl _, Nat.zero_le _⟩
  · rw [h]
    have l : ∀ i j, (Builtin.Str.strSub x i j).length ≤ x.length := fun i j => by
      rw [len_cps, len_cps, StrLaws.strSub_toList, List.length_take, List.length_drop]
      omega
    exact ⟨l _ _, l _ _⟩
theorem spl_len {S : List Nat} (hS : S ≠ []) : ∀ (n k : Nat) (acc L : List Nat), L.length ≤ n → (TL.spl S k acc L).length ≤ L.length + 1 ∧ ∀ p ∈ TL.spl S k acc L, p.length ≤ acc.length + L.length
  | _, k, acc, [], _ => by
    rw [TL.spl_nil]
    refine ⟨by simp, fun p hp => ?_⟩
    rw [List.mem_singleton.mp hp]
    simp
  | n + 1, k, acc, c :: r, h => by
    rw [List.length_cons] at h ⊢
    cases k with
    | succ k =>
      rw [TL.spl_pass, List.drop_succ_cons, ← TL.spl_pass S k]
      obtain ⟨a, b⟩ := spl_len hS n k acc r (by omega)
      exact ⟨by omega, fun p hp => by have := b p hp; omega⟩
    | zero =>
      cases hp : TL.pre S (c :: r) with
      | true =>
        rw [TL.spl_hit hp, List.length_cons]
        obtain ⟨a, b⟩ := spl_len hS n (S.length - 1) [] r (by omega)
        refine ⟨by omega, fun p hq => ?_⟩
        rcases List.mem_cons.mp hq with z | z
        · rw [z]; omega
        · have := b p z
          simp only [List.length_nil] at this
          omega
      | false =>
        rw [TL.spl_miss hp]
        obtain ⟨a, b⟩ := spl_len hS n 0 (acc ++ [c]) r (by omega)
        refine ⟨by omega, fun p hq => ?_⟩
        have := b p hq
        rw [List.length_append] at this
        simp only [List.length_cons, List.length_nil] at this
        omega
theorem split_len {x y : Str} (hy : TL.tl y ≠ []) (hk : y.cps.all (· < 256) = true) : (Txt.split x y).length ≤ x.length + 1 ∧ ∀ p ∈ Txt.split x y, p.length ≤ x.length := by
  have e := TL.split_spl x y hy (TL.kind_ok hk)
  obtain ⟨a, b⟩ := spl_len hy _ 0 [] (TL.tl x) (Nat.le_refl _)
  rw [← e, List.length_map] at a
  refine ⟨by rw [len_cps x]; exact a, fun p hp => ?_⟩
  have := b (TL.tl p) (by rw [← e]; exact List.mem_map_of_mem hp)
  rw [len_cps p, len_cps x]
  simpa using this
theorem da_ne : TL.tl "-" ≠ [] := by rw [tl_da]; simp
theorem da_256 : ("-" : Str).cps.all (· < 256) = true := by decide +kernel
theorem c1_ne : TL.tl ":" ≠ [] := by rw [tl_c1]; simp
theorem c1_256 : (":" : Str).cps.all (· < 256) = true := by decide +kernel
theorem split_pos {x y : Str} (hy : TL.tl y ≠ []) (hk : y.cps.all (· < 256) = true) : 1 ≤ (Txt.split x y).length := by
  have e := TL.split_spl x y hy (TL.kind_ok hk)
  have n := spl_ne (TL.tl y) _ 0 [] (TL.tl x) (Nat.le_refl _)
  rw [← e] at n
  rcases Nat.eq_zero_or_pos (Txt.split x y).length with z | z
  · rw [List.eq_nil_of_length_eq_zero z] at n
    exact absurd rfl n
  · exact z
theorem ok_fig {f : Addr} {fd : FuncData} {e : Ex} (D : Df K mg "are_figures" ["text", "least", "most"] sAreFigures f fd) (T : Txt K mg C CL e) (cO : Ca P w K mg base 1 "is_text_of" ["thing", "signs", "least", "most"] (spTextOf K)) : FnOk P w K mg base CX0 2 f fd ["text", "least", "most"] spFig := by
  obtain ⟨_, gKEY_PARTS⟩ := T.cKEY_PARTS
  obtain ⟨_, gLONGEST_WORD⟩ := T.cLONGEST_WORD
  obtain ⟨_, gLONGEST_CODE⟩ := T.cLONGEST_CODE
  obtain ⟨_, gMOST_PLAYERS⟩ := T.cMOST_PLAYERS
  obtain ⟨_, gLAST_YEAR⟩ := T.cLAST_YEAR
  obtain ⟨_, gMONTHS⟩ := T.cMONTHS
  obtain ⟨_, gFEBRUARY⟩ := T.cFEBRUARY
  obtain ⟨_, gMOST_SECONDS⟩ := T.cMOST_SECONDS
  obtain ⟨_, gSHORTEST_TONGUE⟩ := T.cSHORTEST_TONGUE
  obtain ⟨_, gLONGEST_TONGUE⟩ := T.cLONGEST_TONGUE
  obtain ⟨_, gLONGEST_TEXT⟩ := T.cLONGEST_TEXT
  obtain ⟨_, gMOST_FIGURES⟩ := T.cMOST_FIGURES
  obtain ⟨_, gDAY_PARTS⟩ := T.cDAY_PARTS
  obtain ⟨_, gYEAR_FIGURES⟩ := T.cYEAR_FIGURES
  obtain ⟨_, gSMALL_LETTERS⟩ := T.cSMALL_LETTERS
  obtain ⟨_, gTEXT_SIGNS⟩ := T.cTEXT_SIGNS
  obtain ⟨_, gFIGURES⟩ := T.cFIGURES
  obtain ⟨_, gCODE_SIGNS⟩ := T.cCODE_SIGNS
  refine D.fn.ok scAreFigures (fun vs H Q E h => ?_) (fun cdv A outer s H vs Q E hr h => ?_)
  · obtain ⟨z, a, b, rfl, lz, q⟩ := h
    rfl
  · obtain ⟨z, a, b, rfl, lz, q⟩ := h
    refine ⟨_, (pss_one (ps_ret (pe_ca cO hr (by decide) (by rfl) (pa_cons (pv 0) (pa_cons (pe_glob (v := .str figs) (by rfl) gFIGURES ⟨_, rfl⟩) (pa_cons (pv 1) (pa_cons (pv 2) pa_nil))))))), ?_⟩
    exact ⟨_, rfl, _, rfl, _, rfl, .str z, .str z, figs, a, b, rfl, .str z, fun x e => by cases e; exact lz, fun H1 s1 => q H1 s1⟩
theorem ok_num {f : Addr} {fd : FuncData} {e : Ex} (D : Df K mg "number_in" ["text"] sNumberIn f fd) (T : Txt K mg C CL e) (cFg : Ca P w K mg base 2 "are_figures" ["text", "least", "most"] spFig) : FnOk P w K mg base CX0 3 f fd ["text"] spNum := by
  obtain ⟨_, gKEY_PARTS⟩ := T.cKEY_PARTS
  obtain ⟨_, gLONGEST_WORD⟩ := T.cLONGEST_WORD
  obtain ⟨_, gLONGEST_CODE⟩ := T.cLONGEST_CODE
  obtain ⟨_, gMOST_PLAYERS⟩ := T.cMOST_PLAYERS
  obtain ⟨_, gLAST_YEAR⟩ := T.cLAST_YEAR
  obtain ⟨_, gMONTHS⟩ := T.cMONTHS
  obtain ⟨_, gFEBRUARY⟩ := T.cFEBRUARY
  obtain ⟨_, gMOST_SECONDS⟩ := T.cMOST_SECONDS
  obtain ⟨_, gSHORTEST_TONGUE⟩ := T.cSHORTEST_TONGUE
  obtain ⟨_, gLONGEST_TONGUE⟩ := T.cLONGEST_TONGUE
  obtain ⟨_, gLONGEST_TEXT⟩ := T.cLONGEST_TEXT
  obtain ⟨_, gMOST_FIGURES⟩ := T.cMOST_FIGURES
  obtain ⟨_, gDAY_PARTS⟩ := T.cDAY_PARTS
  obtain ⟨_, gYEAR_FIGURES⟩ := T.cYEAR_FIGURES
  obtain ⟨_, gSMALL_LETTERS⟩ := T.cSMALL_LETTERS
  obtain ⟨_, gTEXT_SIGNS⟩ := T.cTEXT_SIGNS
  obtain ⟨_, gFIGURES⟩ := T.cFIGURES
  obtain ⟨_, gCODE_SIGNS⟩ := T.cCODE_SIGNS
  refine D.fn.ok scNumberIn (fun vs H Q E h => ?_) (fun cdv A outer s H vs Q E hr h => ?_)
  · obtain ⟨z, rfl, lz, q⟩ := h
    rfl
  · obtain ⟨z, rfl, lz, q⟩ := h
    refine ⟨_, (pss_cons (ps_if (PW.pt (pw_or (pt_not (pt_val (pe_ca cFg hr (by decide) (by rfl) (pa_cons (pv 0) (pa_cons pe_int (pa_cons (pe_glob (v := .int 30) (by rfl) gMOST_FIGURES ⟨_, rfl⟩) pa_nil)))))) (pw_or1 (PW.pt (pw_and (pt_cmpR op_eq (pe_ix ix_str (pv 0) pe_int (fun _ _ => rfl)) pe_str (nomark _)) (pw_and1 (pt_cmpR op_ne (pv 0) pe_str (nomark _)))))))) (pss_one (ps_ret pe_non)) pss_nil)
      (pss_one (ps_ret (pe_callTy call_int_str (by rfl) T.int (by decide +kernel) (pa_cons (pv 0) pa_nil))))), ?_⟩
    refine ⟨_, rfl, z, 1, 30, rfl, lz, fun H1 s1 => ⟨_, rfl, ?_⟩⟩
    have qn : numP z = none → Q .non H1 := fun e => by
      have w := q H1 s1
      rw [e] at w
      exact w
    cases c : ofT (.str z) figs 1 30 with
    | false => exact iteT (qn (by unfold numP; rw [c]; rfl))
    | true =>
      obtain ⟨l1, l30, ck⟩ := ofT_iff.mp c
      have ne : z.cps.toList ≠ [] := fun e => by rw [len_cps, e] at l1; exact absurd l1 (by decide)
      obtain ⟨c0, e0⟩ : ∃ d, z.cps.toList.head? = some d := by
        cases e : z.cps.toList.head? with
        | none => exact absurd (List.head?_eq_none_iff.mp e) ne
        | some d => exact ⟨d, rfl⟩
      have a0 : atI z.cps.toList 0 = some c0 := atI_nat (j := 0) (by rw [← List.head?_eq_getElem?]; exact e0)
      have fit := fitN' lz
      have d0 : decide (V.str ⟨#[c0]⟩ = V.str "0") = decide (c0 = 48) := by
        rw [decide_eq_decide]
        constructor
        · intro e
          injection e with e
          have := congrArg (fun s : Str => s.cps.toList) e
          rw [show ("0" : Str).cps.toList = [48] by decide +kernel] at this
          simpa using this
        · intro e
          rw [e]
          exact congrArg V.str (Xtx.str_eq (by decide +kernel))
      have yes : ¬ (z.cps.toList.head? = some 48 ∧ z ≠ "0") → PySem.intText? z = some ((NumText.digitsVal z.cps.toList : Nat) : Int) ∧ Q (.int ((NumText.digitsVal z.cps.toList : Nat) : Int)) H1 := fun h => by
        have w := q H1 s1
        unfold numP at w
        rw [if_pos c, if_neg h] at w
        exact ⟨intText_digits ((chk_figs z).mp ck) ne (by omega), w⟩
      refine iteF ⟨_, rfl, z, 0, c0, rfl, rfl, fit, a0, rfl, _, rfl, ?_⟩
      rw [d0]
      by_cases h0 : c0 = 48
      · rw [decide_eq_true h0]
        refine iteT ⟨_, rfl, rfl, _, rfl, ?_⟩
        by_cases h1 : z = "0"
        · have e1 : (!decide (V.str z = V.str "0")) = false := by rw [h1]; rfl
          rw [e1]
          obtain ⟨g1, g2⟩ := yes fun x => x.2 h1
          exact iteF ⟨_, rfl, z, _, rfl, g1, by omega, g2⟩
        · have e1 : (!decide (V.str z = V.str "0")) = true := by rw [decide_eq_false (fun e => h1 (by injection e))]; rfl
          rw [e1]
          refine iteT (qn ?_)
          unfold numP
          rw [if_pos c, if_pos ⟨by rw [e0, h0], h1⟩]
      · rw [decide_eq_false h0]
        obtain ⟨g1, g2⟩ := yes fun x => by
          rw [e0] at x
          exact h0 (Option.some.inj x.1)
        exact iteF ⟨_, rfl, z, _, rfl, g1, by omega, g2⟩
/-- Day, made -/
structure Dc (P : Program) (w : World) (K : PySem.W.Frag) (mg : Str → Option Value) (base : Heap) (C : Addr) (f : Addr) (fd : FuncData) : Prop where
  mm : Mk K C f
  ok : FnOk P w K mg base CX0 4 f fd ["self", "year", "month", "day"] (spInit C)
  bd : Binds K fd ["self", "year", "month", "day"] []
/-- Length, made -/
structure Lc (P : Program) (w : World) (K : PySem.W.Frag) (mg : Str → Option Value) (base : Heap) (CL : Addr) (f : Addr) (fd : FuncData) : Prop where
  mm : Mk K CL f
  ok : FnOk P w K mg base CX0 3 f fd ["self", "seconds"] (spLen CL)
  bd : Binds K fd ["self", "seconds"] []
/-- what str and repr of a Day, a Length ask -/
structure Sh (P : Program) (w : World) (K : PySem.W.Frag) (mg : Str → Option Value) (base : Heap) (C : Addr) (n : Nat) (fS fR : Addr) (fdS fdR : FuncData) (spS spR : Sp) : Prop where
  hs : PySem.W.findIn K (.ref C) "__str__" = some (some (.ref fS))
  sf : PySem.W.isFn K (.ref fS) = true
  okS : FnOk P w K mg base CX0 n fS fdS ["self"] spS
  bdS : Binds K fdS ["self"] []
  hr : PySem.W.findIn K (.ref C) "__repr__" = some (some (.ref fR))
  rf : PySem.W.isFn K (.ref fR) = true
  okR : FnOk P w K mg base CX0 1 fR fdR ["self"] spR
  bdR : Binds K fdR ["self"] []
theorem ok_di {f : Addr} {fd : FuncData} {e : Ex} {fG fS fR : Addr} {fdG fdS fdR : FuncData} (D : Df K mg "day_in" ["text"] sDayIn f fd) (T : Txt K mg C CL e) (G : Dc P w K mg base C fG fdG) (O : Sh P w K mg base C 1 fS fR fdS fdR (spStrD C) (spReprD C)) (cFg : Ca P w K mg base 2 "are_figures" ["text", "least", "most"] spFig) (cM : Ca P w K mg base 3 "makes_day" ["year", "month", "day"] (spMakes K)) : FnOk P w K mg base CX0 6 f fd ["text"] (spDi C) := by
  obtain ⟨_, gKEY_PARTS⟩ := T.cKEY_PARTS
  obtain ⟨_, gLONGEST_WORD⟩ := T.cLONGEST_WORD
  obtain ⟨_, gLONGEST_CODE⟩ := T.cLONGEST_CODE
  obtain ⟨_, gMOST_PLAYERS⟩ := T.cMOST_PLAYERS
  obtain ⟨_, gLAST_YEAR⟩ := T.cLAST_YEAR
  obtain ⟨_, gMONTHS⟩ := T.cMONTHS
  obtain ⟨_, gFEBRUARY⟩ := T.cFEBRUARY
  obtain ⟨_, gMOST_SECONDS⟩ := T.cMOST_SECONDS
  obtain ⟨_, gSHORTEST_TONGUE⟩ := T.cSHORTEST_TONGUE
  obtain ⟨_, gLONGEST_TONGUE⟩ := T.cLONGEST_TONGUE
  obtain ⟨_, gLONGEST_TEXT⟩ := T.cLONGEST_TEXT
  obtain ⟨_, gMOST_FIGURES⟩ := T.cMOST_FIGURES
  obtain ⟨_, gDAY_PARTS⟩ := T.cDAY_PARTS
  obtain ⟨_, gYEAR_FIGURES⟩ := T.cYEAR_FIGURES
  obtain ⟨_, gSMALL_LETTERS⟩ := T.cSMALL_LETTERS
  obtain ⟨_, gTEXT_SIGNS⟩ := T.cTEXT_SIGNS
  obtain ⟨_, gFIGURES⟩ := T.cFIGURES
  obtain ⟨_, gCODE_SIGNS⟩ := T.cCODE_SIGNS
  refine D.fn.ok scDayIn (fun vs H Q E h => ?_) (fun cdv A outer s H vs Q E hr h => ?_)
  · obtain ⟨x, rfl, lx, q1, q2⟩ := h
    rfl
  · obtain ⟨x, rfl, lx, q1, q2⟩ := h
    refine ⟨_, (pss_cons (ps_set (i := 1) scDayIn.nd rfl (.inl rfl) (pe_m1 F.slot_str_split F.type_str_split mt_split (pv 0) pe_str))
      (pss_cons (ps_if (PW.pt (pw_or (pt_cmpR op_gt (pe_callB call_len_seq (by rfl) T.len PySem.boot_len (pa_cons (pv 1) pa_nil)) (pe_glob (v := .int 3) (by rfl) gDAY_PARTS ⟨_, rfl⟩) (nomark _)) (pw_or1 (pt_not (pt_val (pe_callB (cr_all (by rfl)) (by rfl) T.all (by decide +kernel) (pa_cons (pe_lc (own := [("part", 5)]) (g := gName 5) (tt := tYes) (te := tCall spFig [] E0 (tCons (tVar 5) (tCons (tC (.int 1)) (tCons (tC (.int 4)) tNil)))) (by rfl) scDayIn.nd (pi_list (pv 1)) (blkOk_by (own := [("part", 5)]) (N := ["text", "parts", "year", "month", "day", "part"]) (sc := defScope sDayIn) (by decide +kernel)) (fun _ _ _ _ _ => pg_name (i := 5) scDayIn.nd rfl (.inl rfl)) (fun _ _ _ _ _ => pts_nil) (fun _ _ _ _ _ => pe_ca cFg hr (by decide) (by rfl) (pa_cons (pv 5) (pa_cons pe_int (pa_cons (pe_glob (v := .int 4) (by rfl) gYEAR_FIGURES ⟨_, rfl⟩) pa_nil))))) pa_nil))))))) (pss_one (ps_ret pe_non)) pss_nil)
      (pss_cons (ps_asg (pe_op op_cat (pe_lc (own := [("part", 5)]) (g := gName 5) (tt := tYes) (by rfl) scDayIn.nd (pi_list (pv 1)) (blkOk_by (own := [("part", 5)]) (N := ["text", "parts", "year", "month", "day", "part"]) (sc := defScope sDayIn) (by decide +kernel)) (fun _ _ _ _ _ => pg_name (i := 5) scDayIn.nd rfl (.inl rfl)) (fun _ _ _ _ _ => pts_nil) (fun _ _ _ _ _ => pe_callTy call_int_str (by rfl) T.int (by decide +kernel) (pa_cons (pv 5) pa_nil))) (pe_op op_rep (pe_lst (pa_cons pe_non pa_nil)) (pe_op op_sub (pe_glob (v := .int 3) (by rfl) gDAY_PARTS ⟨_, rfl⟩) (pe_callB call_len_seq (by rfl) T.len PySem.boot_len (pa_cons (pv 1) pa_nil))))) (pg_lst (by rfl) (pgs_cons (pg_name (i := 2) scDayIn.nd rfl (.inl rfl)) (pgs_cons (pg_name (i := 3) scDayIn.nd rfl (.inl rfl)) (pgs_cons (pg_name (i := 4) scDayIn.nd rfl (.inl rfl)) pgs_nil)))))
      (pss_one (ps_ret (pe_ifExp (PW.pt (pw_and (pt_val (pe_ca cM hr (by decide) (by rfl) (pa_cons (pv 2) (pa_cons (pv 3) (pa_cons (pv 4) pa_nil))))) (pw_and1 (pt_cmpR op_eq (pe_callTy (cr_strO O.hs O.sf (hr.mono (by decide)) O.okS O.bdS) (by rfl) T.str (by decide +kernel) (pa_cons (pe_make G.mm G.ok (hr.mono (by decide)) (by rfl) T.mgC G.bd .nil pass0 (pa_cons (pv 2) (pa_cons (pv 3) (pa_cons (pv 4) pa_nil)))) pa_nil)) (pv 0) (nomark _))))) (pe_make G.mm G.ok (hr.mono (by decide)) (by rfl) T.mgC G.bd .nil pass0 (pa_cons (pv 2) (pa_cons (pv 3) (pa_cons (pv 4) pa_nil)))) pe_non)))))), ?_⟩
    obtain ⟨pl1, pl2⟩ := split_len (x := x) da_ne da_256
    have pp := split_pos (x := x) da_ne da_256
    refine ⟨_, rfl, ⟨_, rfl⟩, x, "-", rfl, rfl, rfl, Nat.le_trans (show _ ≤ 60000 by omega) (by decide), fun S nS => ?_⟩
    have sS := same_upd nS (o := .lst ((Txt.split x "-").map V.str))
    have eS : (L2.upd H S (.lst ((Txt.split x "-").map V.str))) S = some (.lst ((Txt.split x "-").map V.str)) := upd_same
    generalize L2.upd H S (.lst ((Txt.split x "-").map V.str)) = H1 at sS eS ⊢
    generalize hps : Txt.split x "-" = ps at pl1 pl2 pp eS ⊢
    have fw : ∀ y m d, Good y m d → x = dayText y m d → ps = partsT y m d := fun y m d g e => by rw [← hps, e, day_split g]
    refine ⟨_, rfl, S, _, rfl, .inl (SqL.of eS), _, _, rfl, rfl, _, rfl, ?_⟩
    rw [List.length_map]
    by_cases c3 : (3 : Int) < (ps.length : Int)
    · rw [decide_eq_true c3]
      refine iteT (q2 (fun y m d g e => ?_) H1 sS)
      have := (parts_len (y := y) (m := m) (d := d)).2
      rw [← fw y m d g e] at this
      omega
    rw [decide_eq_false c3]
    refine iteF ⟨_, rfl, S, rfl, ⟨_, SqL.of eS⟩, fun W nW => ?_⟩
    refine lc_list (K := K) (a := S) (xs := ps.map V.str) (fun i Hi => L2.Same H1 Hi ∧ Hi W = some (.lst (((ps.take i).map fun p => ofT (.str p) figs 1 4).map V.bl))) ⟨same_upd nW, upd_same⟩ (fun i Hi _ z => SqL.of (z.1 _ _ eS)) ?_ ?_
    · rintro i v Hi hv ⟨sm, eW⟩
      rw [List.getElem?_map] at hv
      obtain ⟨p, ep, rfl⟩ := Option.map_eq_some_iff.mp hv
      have il := (List.getElem?_eq_some_iff.mp ep).1
      have pl := pl2 p (List.mem_of_getElem? ep)
      refine ⟨rfl, ?_⟩
      unfold tYes
      refine iteT ⟨_, rfl, p, 1, 4, rfl, by omega, fun H2 s2 => ⟨_, s2 _ _ eW, ?_, fun b o e => ?_, ?_⟩⟩
      · rw [List.length_map, List.length_map, List.length_take]
        exact Nat.lt_of_le_of_lt (show min i ps.length ≤ 50001 by omega) (by decide)
      · rw [upd_ne (ne_of_none e nW)]
        exact s2 _ _ (sm _ _ e)
      · rw [upd_same, List.take_add_one, ep]
        simp
    rintro H2 ⟨s2, eW⟩
    rw [List.take_of_length_le (by rw [List.length_map]; exact Nat.le_refl _)] at eW
    refine ⟨W, _, rfl, SqL.of eW, _, rfl, ?_⟩
    have s02 := sS.trans s2
    have eS2 := s2 _ _ eS
    cases ca : (ps.map fun p => ofT (.str p) figs 1 4).all id with
    | false =>
      refine iteT (q2 (fun y m d g e => ?_) H2 s02)
      have a := (parts_lens g).2
      rw [← fw y m d g e] at a
      rw [Bool.eq_false_iff] at ca
      refine ca (List.all_eq_true.mpr fun b hb => ?_)
      obtain ⟨p, hp, rfl⟩ := List.mem_map.mp hb
      obtain ⟨a1, a2, a3⟩ := a p hp
      exact ofT_iff.mpr ⟨by omega, by omega, (chk_figs _).mpr a1⟩
    | true =>
      have al : ∀ p ∈ ps, NumText.AllDigits p.cps.toList ∧ 1 ≤ p.length ∧ p.length ≤ 4 := fun p hp => by
        have := ofT_iff.mp (List.all_eq_true.mp ca _ (List.mem_map_of_mem hp))
        exact ⟨(chk_figs _).mp this.2.2, by omega, by omega⟩
      refine iteF ⟨_, rfl, S, rfl, ⟨_, SqL.of eS2⟩, fun V1 nV => ?_⟩
      refine lc_list (K := K) (a := S) (xs := ps.map V.str) (fun i Hi => L2.Same H2 Hi ∧ Hi V1 = some (.lst ((ps.take i).map fun p => V.int (dv p)))) ⟨same_upd nV, upd_same⟩ (fun i Hi _ z => SqL.of (z.1 _ _ eS2)) ?_ ?_
      · rintro i v Hi hv ⟨sm, eV⟩
        rw [List.getElem?_map] at hv
        obtain ⟨p, ep, rfl⟩ := Option.map_eq_some_iff.mp hv
        have il := (List.getElem?_eq_some_iff.mp ep).1
        obtain ⟨a1, a2, a3⟩ := al p (List.mem_of_getElem? ep)
        refine ⟨rfl, ?_⟩
        unfold tYes
        refine iteT ⟨_, rfl, p, _, rfl, intText_digits a1 (fun z => by rw [len_cps, z] at a2; exact absurd a2 (by decide)) (by omega), by omega, ?_⟩
        refine ⟨_, eV, ?_, fun b o e => ?_, ?_⟩
        · rw [List.length_map, List.length_take]
          exact Nat.lt_of_le_of_lt (show min i ps.length ≤ 50001 by omega) (by decide)
        · rw [upd_ne (ne_of_none e nV)]
          exact sm _ _ e
        · rw [upd_same, List.take_add_one, ep]
          simp [dv]
      rintro H3 ⟨s3, eV⟩
      rw [List.take_of_length_le (by rw [List.length_map]; exact Nat.le_refl _)] at eV
      have s03 := s02.trans s3
      have eS3 := s3 _ _ eS2
      refine ⟨(by show 1 ≤ sizeLine; decide), fun N1 n1 => ?_⟩
      have sl := same_upd n1 (o := .lst [.non])
      refine ⟨_, rfl, S, _, rfl, .inl (SqL.of (sl _ _ eS3)), 3, _, rfl, rfl, N1, _, _, rfl, rfl, upd_same, ?_, ?_, ?_, fun N2 n2 => ?_⟩
      · rw [List.length_map]; omega
      · rw [List.length_map]; omega
      · rw [List.length_map]
        exact Nat.le_trans (show 1 * _ ≤ 100 by omega) (by decide)
      refine ⟨V1, N2, ps.map fun p => V.int (dv p), _, rfl, rfl, ?_, upd_same, ?_, fun M nM => ?_⟩
      · rw [upd_ne (ne_of_none (sl _ _ eV) n2)]
        exact sl _ _ eV
      · rw [List.length_map, List.length_map]
        exact Nat.le_trans (show _ ≤ 100 by simp; omega) (by decide)
      have e3 : (ps.map fun p => V.int (dv p)) ++ (List.replicate ((3 : Int) - (((ps.map V.str).length : Nat) : Int)).toNat [V.non]).flatten = [.int (three ps).1, oV (three ps).2.1, oV (three ps).2.2] := by
        match ps, pp, c3 with
        | [a], _, _ => rfl
        | [a, b], _, _ => rfl
        | [a, b, c], _, _ => rfl
        | _ :: _ :: _ :: _ :: r, _, c3 => exact absurd (show (3 : Int) < _ by simp only [List.length_cons]; omega) c3
      rw [e3]
      have s04 : L2.Same H (L2.upd (L2.upd (L2.upd H3 N1 (.lst [.non])) N2 (.lst (List.replicate ((3 : Int) - (((ps.map V.str).length : Nat) : Int)).toNat [V.non]).flatten)) M (.lst [.int (three ps).1, oV (three ps).2.1, oV (three ps).2.2])) :=
        ((s03.trans sl).trans (same_upd n2)).trans (same_upd nM)
      have eM : (L2.upd (L2.upd (L2.upd H3 N1 (.lst [.non])) N2 (.lst (List.replicate ((3 : Int) - (((ps.map V.str).length : Nat) : Int)).toNat [V.non]).flatten)) M (.lst [.int (three ps).1, oV (three ps).2.1, oV (three ps).2.2])) M = some (.lst [.int (three ps).1, oV (three ps).2.1, oV (three ps).2.2]) := upd_same
      generalize L2.upd (L2.upd (L2.upd H3 N1 (.lst [.non])) N2 (.lst (List.replicate ((3 : Int) - (((ps.map V.str).length : Nat) : Int)).toNat [V.non]).flatten)) M (.lst [.int (three ps).1, oV (three ps).2.1, oV (three ps).2.2]) = H4 at s04 eM ⊢
      have tf : ∀ y m d, Good y m d → x = dayText y m d → three ps = (y, m, d) := fun y m d g e => by rw [fw y m d g e, three_of g]
      obtain ⟨⟨y, m, d⟩, ht⟩ : ∃ t, three ps = t := ⟨_, rfl⟩
      rw [ht] at eM tf
      dsimp only at eM tf
      refine ⟨M, _, rfl, SqL.of eM, rfl, _, _, rfl, _, _, rfl, _, _, rfl, rfl, ?_⟩
      refine ⟨_, rfl, _, rfl, _, rfl, .int y, oV m, oV d, .int y, oD m, oD d, rfl, .int y, oV_dz m, oV_dz d, _, rfl, ?_⟩
      cases cg : goodV (.int y) (oV m) (oV d) with
      | false =>
        refine iteF (q2 (fun y2 m2 d2 g e => ?_) H4 s04)
        have := tf y2 m2 d2 g e
        cases this
        rw [good_iff.mpr g] at cg
        cases cg
      | true =>
        have g := good_iff.mp cg
        have made : ∀ {Hx : Hp} {o dx : Addr}, Hx o = none → Hx dx = none → L2.Same Hx (L2.upd (L2.upd Hx dx (.own o)) o (.ins C dx [])) := fun {Hx o dx} no nd b z e => by
          rw [upd_ne (ne_of_none e no), upd_ne (ne_of_none e nd)]
          exact e
        refine iteT ⟨_, rfl, _, rfl, _, rfl, fun o dx no nd ne => ⟨o, dx, y, m, d, rfl, g, upd_same, fun H5 keep al => ⟨rfl, ?_⟩⟩⟩
        have s5 : L2.Same H4 H5 := fun b z e => keep b z (made no nd b z e) (ne_of_none e no)
        obtain ⟨dy, eo⟩ := id al
        refine ⟨o, dy, _, rfl, eo, o, y, m, d, rfl, al, g, _, rfl, _, rfl, rfl, _, rfl, ?_⟩
        have es : decide (V.str (dayText y m d) = V.str x) = decide (x = dayText y m d) := decide_eq_decide.mpr ⟨fun z => (V.str.inj z).symm, fun z => by rw [z]⟩
        rw [es]
        have s05 := s04.trans s5
        by_cases ex : x = dayText y m d
        · rw [decide_eq_true ex]
          refine iteT ⟨_, rfl, _, rfl, _, rfl, fun o dx no nd ne => ⟨o, dx, y, m, d, rfl, g, upd_same, fun H6 keep al => ⟨rfl, ?_⟩⟩⟩
          exact q1 y m d g ex o H6 (s05.trans fun b z e => keep b z (made no nd b z e) (ne_of_none e no)) al
        · rw [decide_eq_false ex]
          refine iteF (q2 (fun y2 m2 d2 g2 e => ?_) H5 s05)
          have := tf y2 m2 d2 g2 e
          cases this
          exact ex e
theorem ok_li {f : Addr} {fd : FuncData} {e : Ex} {gG gS gR : Addr} {gdG gdS gdR : FuncData} (D : Df K mg "length_in" ["text"] sLengthIn f fd) (T : Txt K mg C CL e) (GL : Lc P w K mg base CL gG gdG) (OL : Sh P w K mg base CL 2 gS gR gdS gdR (spStrL CL) (spReprL CL)) (cFg : Ca P w K mg base 2 "are_figures" ["text", "least", "most"] spFig) (cNu : Ca P w K mg base 3 "number_in" ["text"] spNum) (cI : Ca P w K mg base 2 "is_within" ["thing", "least", "most"] (spWithin K)) : FnOk P w K mg base CX0 5 f fd ["text"] (spLi CL) := by
  obtain ⟨_, gKEY_PARTS⟩ := T.cKEY_PARTS
  obtain ⟨_, gLONGEST_WORD⟩ := T.cLONGEST_WORD
  obtain ⟨_, gLONGEST_CODE⟩ := T.cLONGEST_CODE
  obtain ⟨_, gMOST_PLAYERS⟩ := T.cMOST_PLAYERS
  obtain ⟨_, gLAST_YEAR⟩ := T.cLAST_YEAR
  obtain ⟨_, gMONTHS⟩ := T.cMONTHS
  obtain ⟨_, gFEBRUARY⟩ := T.cFEBRUARY
  obtain ⟨_, gMOST_SECONDS⟩ := T.cMOST_SECONDS
  obtain ⟨_, gSHORTEST_TONGUE⟩ := T.cSHORTEST_TONGUE
  obtain ⟨_, gLONGEST_TONGUE⟩ := T.cLONGEST_TONGUE
  obtain ⟨_, gLONGEST_TEXT⟩ := T.cLONGEST_TEXT
  obtain ⟨_, gMOST_FIGURES⟩ := T.cMOST_FIGURES
  obtain ⟨_, gDAY_PARTS⟩ := T.cDAY_PARTS
  obtain ⟨_, gYEAR_FIGURES⟩ := T.cYEAR_FIGURES
  obtain ⟨_, gSMALL_LETTERS⟩ := T.cSMALL_LETTERS
  obtain ⟨_, gTEXT_SIGNS⟩ := T.cTEXT_SIGNS
  obtain ⟨_, gFIGURES⟩ := T.cFIGURES
  obtain ⟨_, gCODE_SIGNS⟩ := T.cCODE_SIGNS
  refine D.fn.ok scLengthIn (fun vs H Q E h => ?_) (fun cdv A outer s H vs Q E hr h => ?_)
  · obtain ⟨x, rfl, lx, q1, q2⟩ := h
    rfl
  · obtain ⟨x, rfl, lx, q1, q2⟩ := h
    refine ⟨_, (pss_cons (ps_asg (pe_partition (pv 0) pe_str) (pg_tup (by rfl) (pgs_cons (pg_name (i := 1) scLengthIn.nd rfl (.inl rfl)) (pgs_cons (pg_name (i := 2) scLengthIn.nd rfl (.inl rfl)) (pgs_cons (pg_name (i := 3) scLengthIn.nd rfl (.inl rfl)) pgs_nil)))))
      (pss_cons (ps_set (i := 4) scLengthIn.nd rfl (.inl rfl) (pe_ca cNu hr (by decide) (by rfl) (pa_cons (pv 1) pa_nil)))
      (pss_cons (ps_if (PW.pt (pw_or (pt_cmpR op_isN (pv 4) pe_non (nomark _)) (pw_or1 (pt_not (pt_val (pe_ca cFg hr (by decide) (by rfl) (pa_cons (pv 3) (pa_cons pe_int (pa_cons pe_int pa_nil))))))))) (pss_one (ps_ret pe_non)) pss_nil)
      (pss_cons (ps_set (i := 5) scLengthIn.nd rfl (.inl rfl) (pe_op op_add (pe_op op_mul (pv 4) pe_int) (pe_callTy call_int_str (by rfl) T.int (by decide +kernel) (pa_cons (pv 3) pa_nil))))
      (pss_one (ps_ret (pe_ifExp (PW.pt (pw_and (pt_val (pe_ca cI hr (by decide) (by rfl) (pa_cons (pv 5) (pa_cons pe_int (pa_cons (pe_glob (v := .int 359999) (by rfl) gMOST_SECONDS ⟨_, rfl⟩) pa_nil))))) (pw_and1 (pt_cmpR op_eq (pe_callTy (cr_strO OL.hs OL.sf (hr.mono (by decide)) OL.okS OL.bdS) (by rfl) T.str (by decide +kernel) (pa_cons (pe_make GL.mm GL.ok (hr.mono (by decide)) (by rfl) T.mgL GL.bd .nil pass0 (pa_cons (pv 5) pa_nil)) pa_nil)) (pv 0) (nomark _))))) (pe_make GL.mm GL.ok (hr.mono (by decide)) (by rfl) T.mgL GL.bd .nil pass0 (pa_cons (pv 5) pa_nil)) pe_non))))))), ?_⟩
    obtain ⟨pl1, pl2⟩ := part_len x ":"
    have fw0 : ∀ c, 0 ≤ c → c ≤ 359999 → x = lenText c → Txt.partition x ":" = (nT (c / 60), (":" : Str), zpad 2 (c % 60)) := fun c h0 h1 e => by rw [e, len_parts h0 h1]
    refine ⟨_, rfl, ⟨_, rfl⟩, x, ":", rfl, rfl, rfl, fitN' lx, fun p np => ?_⟩
    have sp := same_upd np (o := .tup [.str (Txt.partition x ":").1, .str (Txt.partition x ":").2.1, .str (Txt.partition x ":").2.2])
    refine ⟨p, _, rfl, SqT.of upd_same, rfl, _, _, rfl, _, _, rfl, _, _, rfl, rfl, ?_⟩
    generalize L2.upd H p (.tup [.str (Txt.partition x ":").1, .str (Txt.partition x ":").2.1, .str (Txt.partition x ":").2.2]) = H1 at sp ⊢
    obtain ⟨⟨a, b, r⟩, ht⟩ : ∃ t, Txt.partition x ":" = t := ⟨_, rfl⟩
    rw [ht] at fw0 pl1 pl2 ⊢
    dsimp only at pl1 pl2 ⊢
    have fw : ∀ c, 0 ≤ c → c ≤ 359999 → x = lenText c → a = nT (c / 60) ∧ r = zpad 2 (c % 60) := fun c h0 h1 e => by
      have := fw0 c h0 h1 e
      cases this
      exact ⟨rfl, rfl⟩
    refine ⟨_, rfl, a, rfl, by omega, fun H2 s2 => ?_⟩
    have s02 := sp.trans s2
    cases hn : numP a with
    | none =>
      refine ⟨_, rfl, rfl, _, rfl, iteT (q2 (fun c h0 h1 e => ?_) H2 s02)⟩
      rw [(fw c h0 h1 e).1, len_num h0 h1] at hn
      cases hn
    | some n =>
      obtain ⟨m, rfl, m1, ea⟩ := num_back hn
      refine ⟨_, rfl, rfl, _, rfl, iteF ⟨_, rfl, r, 2, 2, rfl, by omega, fun H3 s3 => ⟨_, rfl, ?_⟩⟩⟩
      have s03 := s02.trans s3
      cases c2 : ofT (.str r) figs 2 2 with
      | false =>
        refine iteT (q2 (fun c h0 h1 e => ?_) H3 s03)
        have p := num_zp (i := c % 60) (by omega) (by omega)
        rw [(fw c h0 h1 e).2, Bool.eq_false_iff] at c2
        have := p.len
        exact c2 (ofT_iff.mpr ⟨by omega, by omega, (chk_figs _).mpr p.ad⟩)
      | true =>
        obtain ⟨r1, r2, rc⟩ := ofT_iff.mp c2
        have ad := (chk_figs _).mp rc
        have val : ∀ c, 0 ≤ c → c ≤ 359999 → x = lenText c → (m : Int) * 60 + dv r = c := fun c h0 h1 e => by
          obtain ⟨g1, g2⟩ := fw c h0 h1 e
          rw [g1, len_num h0 h1] at hn
          have hm := Option.some.inj hn
          have p := num_zp (i := c % 60) (by omega) (by omega)
          rw [g2, p.val, ← hm]
          omega
        refine iteF ⟨_, rfl, m, 60, rfl, rfl, ?_, _, rfl, r, _, rfl, intText_digits ad (fun z => by rw [len_cps, z] at r1; exact absurd r1 (by decide)) (by omega), by omega, _, _, rfl, rfl, ?_⟩
        · exact .inr ⟨by decide, by decide⟩
        have hv : ((NumText.digitsVal r.cps.toList : Nat) : Int) = dv r := rfl
        obtain ⟨c, ht2⟩ : ∃ c, (m : Int) * 60 + dv r = c := ⟨_, rfl⟩
        rw [ht2] at val
        have hb : (fun i j : Int => V.int (i + j)) ((m : Int) * 60) ((NumText.digitsVal r.cps.toList : Nat) : Int) = V.int c := by rw [← ht2]; rfl
        rw [hb]
        refine ⟨_, rfl, .int c, .int c, 0, 359999, rfl, .int c, _, rfl, ?_⟩
        cases cw : wiV (.int c) 0 359999 with
        | false =>
          refine iteF (q2 (fun c2 h0 h1 e => ?_) H3 s03)
          have := val c2 h0 h1 e
          subst this
          have : wiV (.int c) 0 359999 = true := by simp [wiV, h0, h1]
          rw [cw] at this
          cases this
        | true =>
          obtain ⟨h0, h1⟩ : 0 ≤ c ∧ c ≤ 359999 := by simpa [wiV] using cw
          have made : ∀ {Hx : Hp} {o dx : Addr}, Hx o = none → Hx dx = none → L2.Same Hx (L2.upd (L2.upd Hx dx (.own o)) o (.ins CL dx [])) := fun {Hx o dx} no nd b z e => by
            rw [upd_ne (ne_of_none e no), upd_ne (ne_of_none e nd)]
            exact e
          refine iteT ⟨_, rfl, fun o dx no nd ne => ⟨o, dx, c, rfl, upd_same, h0, h1, fun H5 keep al => ⟨rfl, ?_⟩⟩⟩
          have s5 : L2.Same H3 H5 := fun b z e => keep b z (made no nd b z e) (ne_of_none e no)
          obtain ⟨dy, eo⟩ := id al
          refine ⟨o, dy, _, rfl, eo, o, c, rfl, al, h0, h1, _, rfl, _, rfl, rfl, _, rfl, ?_⟩
          have es : decide (V.str (lenText c) = V.str x) = decide (x = lenText c) := decide_eq_decide.mpr ⟨fun z => (V.str.inj z).symm, fun z => by rw [z]⟩
          rw [es]
          have s05 := s03.trans s5
          by_cases ex : x = lenText c
          · rw [decide_eq_true ex]
            refine iteT ⟨_, rfl, fun o dx no nd ne => ⟨o, dx, c, rfl, upd_same, h0, h1, fun H6 keep al => ⟨rfl, ?_⟩⟩⟩
            exact q1 c h0 h1 ex o H6 (s05.trans fun b z e => keep b z (made no nd b z e) (ne_of_none e no)) al
          · rw [decide_eq_false ex]
            refine iteF (q2 (fun c2 h02 h12 e => ?_) H5 s05)
            have := val c2 h02 h12 e
            subst this
            exact ex e
end
end K64
set_option Elab.async false
set_option linter.all false
set_option maxRecDepth 100000
set_option maxHeartbeats 4000000
set_option pp.maxSteps 400
set_option pp.deepTerms false
namespace K64
open PySem PySem.Spec PyProof.Rows L2
open Xk Az Xtx
section
variable {P : Program} {w : World} {K : PySem.W.Frag} {mg : Str → Option Value} {base : Heap} {C CL : Addr}
/-- nothing but blanks between: no word is empty -/
def gd : Bool → List Nat → Bool
  | p, [] => !p
  | p, c :: r => if c = 32 then !p && gd true r else gd false r
theorem tl_b1 : TL.tl " " = [32] := by decide +kernel
theorem spl_gd : ∀ (L acc : List Nat), ([] ∉ TL.spl [32] 0 acc L) ↔ gd acc.isEmpty L = true
  | [], acc => by
    rw [TL.spl_nil]
    cases acc <;> simp [gd]
  | c :: r, acc => by
    unfold gd
    by_cases h : c = 32
    · rw [TL.spl_hit (by rw [h]; rfl), if_pos h, List.mem_cons, not_or, Bool.and_eq_true]
      have ih := spl_gd r []
      have e : TL.spl [32] ([32].length - 1) [] r = TL.spl [32] 0 [] r := rfl
      rw [e, ih]
      cases acc <;> simp
    · rw [TL.spl_miss (TL.pre_of_head [] r h), if_neg h]
      have ih := spl_gd r (acc ++ [c])
      have e : (acc ++ [c]).isEmpty = false := by cases acc <;> rfl
      rw [ih, e]
/-- no two blanks side by side -/
def ND (l : List Nat) : Prop := ∀ a b, l ≠ a ++ 32 :: 32 :: b
theorem gd_iff : ∀ L : List Nat, (gd false L = true ↔ L.getLast? ≠ some 32 ∧ ND L) ∧ (gd true L = true ↔ L ≠ [] ∧ L.head? ≠ some 32 ∧ L.getLast? ≠ some 32 ∧ ND L)
  | [] => by
    refine ⟨?_, ?_⟩
    · simp only [gd, Bool.not_false, true_iff]
      exact ⟨by simp, fun a b e => by cases a <;> cases e⟩
    · simp [gd]
  | c :: r => by
    obtain ⟨i1, i2⟩ := gd_iff r
    have la : r ≠ [] → (c :: r).getLast? = r.getLast? := fun h => by
      cases r with
      | nil => exact absurd rfl h
      | cons a t => rfl
    by_cases h : c = 32
    · subst h
      refine ⟨?_, by simp [gd]⟩
      simp only [gd, if_true, Bool.not_false, Bool.true_and]
      rw [i2]
      constructor
      · rintro ⟨ne, hd, l, nd⟩
        refine ⟨by rw [la ne]; exact l, fun a b e => ?_⟩
        cases a with
        | nil => exact hd (by rw [(List.cons.inj e).2]; rfl)
        | cons x a => exact nd a b (List.cons.inj e).2
      · rintro ⟨l, nd⟩
        have ne : r ≠ [] := fun z => l (by rw [z]; rfl)
        rw [la ne] at l
        refine ⟨ne, fun z => ?_, l, fun a b e => nd (32 :: a) b (by rw [e]; rfl)⟩
        cases r with
        | nil => exact ne rfl
        | cons a t =>
          have : a = 32 := Option.some.inj z
          exact nd [] t (by rw [this]; rfl)
    · have nd1 : ND (c :: r) ↔ ND r := ⟨fun nd a b e => nd (c :: a) b (by rw [e]; rfl), fun nd a b e => by
        cases a with
        | nil => exact h (List.cons.inj e).1
        | cons x a => exact nd a b (List.cons.inj e).2⟩
      have l1 : (c :: r).getLast? ≠ some 32 ↔ r.getLast? ≠ some 32 := by
        cases r with
        | nil => simp [h]
        | cons a t => exact Iff.rfl
      have e1 : ∀ p, gd p (c :: r) = gd false r := fun p => by simp only [gd, if_neg h]
      refine ⟨by rw [e1, i1, l1, nd1], ?_⟩
      rw [e1, i1, l1, nd1]
      simp [h]
theorem bl_len (L : List Nat) : (L.dropWhile bl).length ≤ L.length := (List.dropWhile_suffix bl).length_le
theorem bl_32 (r : List Nat) : (32 :: r).dropWhile bl = r.dropWhile bl := by
  rw [List.dropWhile_cons, bl_iff]
  rfl
theorem bare_nil {l : List Nat} (h : l.head? ≠ some 32) : l.dropWhile bl = l := by
  cases l with
  | nil => rfl
  | cons a r =>
    have ha : a ≠ 32 := fun z => h (by rw [z]; rfl)
    rw [List.dropWhile_cons, bl_iff, decide_eq_false ha]
    rfl
theorem sk_iff {z : Str} : sk z = true ↔ z.cps.toList.head? ≠ some 32 ∧ z.cps.toList.getLast? ≠ some 32 := by
  unfold sk
  rw [decide_eq_true_iff]
  constructor
  · intro e
    have e2 := congrArg (fun s : Str => s.cps.toList) (V.str.inj e)
    simp only [st_list] at e2
    have hd : z.cps.toList.head? ≠ some 32 := fun h => by
      cases l : z.cps.toList with
      | nil => rw [l] at h; cases h
      | cons a r =>
        rw [l] at h e2
        have : a = 32 := Option.some.inj h
        subst this
        have n := congrArg List.length e2
        rw [bl_32, List.length_reverse, List.length_cons] at n
        have n1 := bl_len (r.dropWhile bl).reverse
        rw [List.length_reverse] at n1
        have n2 := bl_len r
        omega
    refine ⟨hd, fun h => ?_⟩
    rw [bare_nil hd] at e2
    rw [← List.head?_reverse] at h
    cases l : z.cps.toList.reverse with
    | nil => rw [l] at h; cases h
    | cons a r =>
      rw [l] at h e2
      have : a = 32 := Option.some.inj h
      subst this
      have n := congrArg List.length e2
      have n0 := congrArg List.length l
      rw [List.length_reverse, List.length_cons] at n0
      rw [bl_32, List.length_reverse] at n
      have n1 := bl_len r
      omega
  · rintro ⟨hd, la⟩
    refine congrArg V.str (Xtx.str_eq ?_)
    rw [st_list, bare_nil hd, bare_nil (by rw [List.head?_reverse]; exact la), List.reverse_reverse]
theorem db_iff {z : Str} : db z = false ↔ ND z.cps.toList := by
  have e2 : ("  " : Str).cps.toList = [32, 32] := by decide +kernel
  have l2 : ("  " : Str).length = 2 := by decide +kernel
  unfold db
  rcases StrLaws.occ_head z "  " 1 (Nat.le_refl _) with ⟨e, no⟩ | ⟨i, r, e, ⟨hl, ha⟩, _⟩
  · rw [e]
    refine ⟨fun _ a b w => ?_, fun _ => rfl⟩
    refine no a.length ⟨?_, ?_⟩
    · rw [l2, len_cps, w]
      simp
    · rw [StrLaws.subAt_eq, beq_iff_eq, e2, l2, w]
      simp
  · rw [e]
    refine ⟨(fun w => nomatch w), fun nd => ?_⟩
    exfalso
    rw [StrLaws.subAt_eq, beq_iff_eq] at ha
    rw [e2, l2] at ha
    refine nd (z.cps.toList.take i) ((z.cps.toList.drop i).drop 2) ?_
    have w := List.take_append_drop 2 (z.cps.toList.drop i)
    rw [ha] at w
    have w2 := List.take_append_drop i z.cps.toList
    rw [← w] at w2
    exact w2.symm
/-- no empty word, said in two ways -/
theorem words_iff {z : Str} (h : 1 ≤ z.length) : (("" : Str) ∉ Txt.split z " ") ↔ (sk z = true ∧ db z = false) := by
  have sp := TL.split_spl z " " (by rw [tl_b1]; simp) (TL.kind_ok (by decide +kernel))
  rw [tl_b1] at sp
  have m : (("" : Str) ∉ Txt.split z " ") ↔ ([] ∉ TL.spl [32] 0 [] (TL.tl z)) := by
    rw [← sp, List.mem_map]
    refine not_congr ⟨fun h => ⟨"", h, rfl⟩, ?_⟩
    rintro ⟨y, hy, e⟩
    have : y = "" := Xtx.str_eq (by rw [show (("" : Str)).cps.toList = [] from rfl]; exact e)
    rw [← this]; exact hy
  have ne : z.cps.toList ≠ [] := fun e => by rw [len_cps, e] at h; exact absurd h (by decide)
  rw [m, spl_gd, show List.isEmpty ([] : List Nat) = true from rfl, (gd_iff _).2, sk_iff, db_iff]
  exact ⟨fun ⟨_, a, b, c⟩ => ⟨⟨a, b⟩, c⟩, fun ⟨⟨a, b⟩, c⟩ => ⟨ne, a, b, c⟩⟩
/-- the name that a text writes, if any -/
def nmF (x : Str) : Option (Str × Str) := if nmD (.tuple [.str (Txt.partition x ":").1, .str (Txt.partition x ":").2.2]) = true then some ((Txt.partition x ":").1, (Txt.partition x ":").2.2) else none
def NmR (H : Hp) (v : V) : Option (Str × Str) → Prop
  | none => v = .non
  | some n => ∃ t, v = .ref t ∧ H t = some (.tup [.str n.1, .str n.2])
def R0 (C : Addr) (x : Str) (H : Hp) (v : V) : Prop := (v = .non ∧ ∀ y m d, Good y m d → x ≠ dayText y m d) ∨ ∃ o y m d, v = .ref o ∧ Good y m d ∧ x = dayText y m d ∧ DayAt C H o y m d
def R1 (CL : Addr) (x : Str) (H : Hp) (v : V) : Prop := (v = .non ∧ ∀ c, 0 ≤ c → c ≤ 359999 → x ≠ lenText c) ∨ ∃ o c, v = .ref o ∧ 0 ≤ c ∧ c ≤ 359999 ∧ x = lenText c ∧ LenAt CL H o c
def R2 (x : Str) (H : Hp) (v : V) : Prop := NmR H v (nmF x)
theorem R0_v {C : Addr} : ∀ x H v, R0 C x H v → v = .non ∨ ∃ o, v = .ref o := fun _ _ _ h => h.elim (fun h => .inl h.1) (fun ⟨o, _, _, _, e, _⟩ => .inr ⟨o, e⟩)
theorem R1_v {CL : Addr} : ∀ x H v, R1 CL x H v → v = .non ∨ ∃ o, v = .ref o := fun _ _ _ h => h.elim (fun h => .inl h.1) (fun ⟨o, _, e, _⟩ => .inr ⟨o, e⟩)
theorem R2_v : ∀ x H v, R2 x H v → v = .non ∨ ∃ o, v = .ref o := fun x H v h => by
  unfold R2 at h
  cases e : nmF x with
  | none => rw [e] at h; exact .inl h
  | some n => rw [e] at h; obtain ⟨t, e, _⟩ := h; exact .inr ⟨t, e⟩
/-- a reader's promise -/
def spR (R : Str → Hp → V → Prop) : Sp := fun vs H Q _ => ∃ (x : Str), vs = [.str x] ∧ x.length ≤ 50000 ∧ ∀ v H', L2.Same H H' → R x H' v → Q v H'
def spNi : Sp := fun vs H Q _ => ∃ (x : Str), vs = [.str x] ∧ x.length ≤ 50000 ∧ ∀ v H', L2.Same H H' → R2 x H' v → Q v H'
theorem di_R {vs : List V} {H : Hp} {Q : VK} {E : XK} (h : spR (R0 C) vs H Q E) : spDi C vs H Q E := by
  obtain ⟨x, rfl, lx, q⟩ := h
  exact ⟨x, rfl, lx, fun y m d g e o H' s da => q _ H' s (.inr ⟨o, y, m, d, rfl, g, e, da⟩), fun no H' s => q _ H' s (.inl ⟨rfl, no⟩)⟩
theorem li_R {vs : List V} {H : Hp} {Q : VK} {E : XK} (h : spR (R1 CL) vs H Q E) : spLi CL vs H Q E := by
  obtain ⟨x, rfl, lx, q⟩ := h
  exact ⟨x, rfl, lx, fun c h0 h1 e o H' s da => q _ H' s (.inr ⟨o, c, rfl, h0, h1, e, da⟩), fun no H' s => q _ H' s (.inl ⟨rfl, no⟩)⟩
def lawSigns : Str := "abcdefghijklmnopqrstuvwxyzABCDEFGHIJKLMNOPQRSTUVWXYZ0123456789'-."
theorem ND.pre {l r : List Nat} (h : ND (l ++ r)) : ND l := fun a b e => h a (b ++ r) (by rw [e]; simp)
theorem ND.suf {l r : List Nat} (h : ND (l ++ r)) : ND r := fun a b e => h (l ++ a) b (by rw [e]; simp)
/-- a text that a name may have -/
structure OkT (x : Str) : Prop where
  sg : ∀ c ∈ x.cps.toList, c ∈ signs.cps.toList
  ne : x.cps.toList ≠ []
  hd : x.cps.toList.head? ≠ some 32
  la : x.cps.toList.getLast? ≠ some 32
  nd : ND x.cps.toList
  l40 : x.length ≤ 40
structure NmOk (n : Str × Str) : Prop where
  tl : n.1.length = 2 ∨ n.1.length = 3
  ts : ∀ c ∈ n.1.cps.toList, c ∈ small.cps.toList
  tx : OkT n.2
/-- words of signs, put together with blanks -/
theorem words_ok : ∀ (ws : List Str), ws ≠ [] → (∀ w ∈ ws, w.cps.toList ≠ [] ∧ ∀ c ∈ w.cps.toList, c ∈ lawSigns.cps.toList) →
    (∀ c ∈ (Str.join (s1 32) ws).cps.toList, c ∈ signs.cps.toList) ∧ (Str.join (s1 32) ws).cps.toList ≠ [] ∧ (Str.join (s1 32) ws).cps.toList.head? ≠ some 32 ∧ ND (Str.join (s1 32) ws).cps.toList
  | [], h, _ => absurd rfl h
  | [w], _, hw => by
    obtain ⟨h1, h2⟩ := hw w List.mem_cons_self
    have no : (32 : Nat) ∉ w.cps.toList := fun m => absurd (h2 32 m) (by decide +kernel)
    have su : ∀ c ∈ lawSigns.cps.toList, c ∈ signs.cps.toList := by decide +kernel
    refine ⟨fun c hc => su c (h2 c hc), h1, fun e => no (List.mem_of_mem_head? e), fun a b e => no ?_⟩
    show 32 ∈ (Str.join (s1 32) [w]).cps.toList
    rw [e]; simp
  | w :: w2 :: ws, _, hw => by
    obtain ⟨h1, h2⟩ := hw w List.mem_cons_self
    have no : (32 : Nat) ∉ w.cps.toList := fun m => absurd (h2 32 m) (by decide +kernel)
    have su : ∀ c ∈ lawSigns.cps.toList, c ∈ signs.cps.toList := by decide +kernel
    obtain ⟨i1, i2, i3, i4⟩ := words_ok (w2 :: ws) (List.cons_ne_nil _ _) fun z hz => hw z (List.mem_cons_of_mem _ hz)
    rw [Xtx.join_one]
    refine ⟨fun c hc => ?_, by simp, ?_, fun a b e => ?_⟩
    · rcases List.mem_append.mp hc with m | m
      · exact su c (h2 c m)
      · rcases List.mem_cons.mp m with z | z
        · rw [z]; decide +kernel
        · exact i1 c z
    · cases e : w.cps.toList with
      | nil => exact absurd e h1
      | cons c r =>
        rw [e] at no
        exact fun z => no (by rw [List.cons_append] at z; cases z; exact List.mem_cons_self)
    · -- two blanks: the first one is the joint, or behind it
      rcases List.append_eq_append_iff.mp e with ⟨d, e1, e2⟩ | ⟨d, e1, e2⟩
      · cases d with
        | nil =>
          rw [List.nil_append] at e2
          have e3 := (List.cons.inj e2).2
          exact i3 (by rw [e3]; rfl)
        | cons c d =>
          rw [List.cons_append] at e2
          exact i4 d b (List.cons.inj e2).2
      · cases d with
        | nil =>
          rw [List.nil_append] at e2
          have e3 := (List.cons.inj e2).2
          exact i3 (by rw [← e3]; rfl)
        | cons c d =>
          rw [List.cons_append] at e2
          have e3 := (List.cons.inj e2).1
          exact no (by rw [e1, ← e3]; simp)
theorem dw_suf (p : Nat → Bool) : ∀ l : List Nat, ∃ u, l = u ++ l.dropWhile p ∧ ∀ c ∈ u, p c = true
  | [] => ⟨[], rfl, fun c h => by cases h⟩
  | a :: r => by
    rw [List.dropWhile_cons]
    by_cases h : p a = true
    · rw [if_pos h]
      obtain ⟨u, e, hu⟩ := dw_suf p r
      refine ⟨a :: u, by rw [List.cons_append, ← e], fun c hc => ?_⟩
      rcases List.mem_cons.mp hc with z | z
      · rw [z]; exact h
      · exact hu c z
    · rw [if_neg h]
      exact ⟨[], rfl, fun c hc => by cases hc⟩
/-- the end without blanks -/
theorem rs_parts (x : Str) : ∃ v, x.cps.toList = (Txt.rstripChars x " ").cps.toList ++ v ∧ (∀ c ∈ v, c = 32) ∧ (Txt.rstripChars x " ").cps.toList.getLast? ≠ some 32 := by
  obtain ⟨u, e, hu⟩ := dw_suf bl x.cps.toList.reverse
  refine ⟨u.reverse, ?_, fun c hc => ?_, ?_⟩
  · rw [rs_list, ← List.reverse_append, ← e, List.reverse_reverse]
  · have := hu c (List.mem_reverse.mp hc)
    rw [bl_iff] at this
    exact of_decide_eq_true this
  · rw [rs_list, List.getLast?_reverse]
    intro z
    have w := List.head?_dropWhile_not bl x.cps.toList.reverse
    rw [z] at w
    simp [bl_iff] at w
theorem cut_text {x : Str} (h1 : ∀ c ∈ x.cps.toList, c ∈ signs.cps.toList) (h2 : x.cps.toList ≠ []) (h3 : x.cps.toList.head? ≠ some 32) (h4 : ND x.cps.toList) (l : x.length ≤ 40) : OkT (Txt.rstripChars x " ") := by
  obtain ⟨v, e, hv, la⟩ := rs_parts x
  have ne : (Txt.rstripChars x " ").cps.toList ≠ [] := fun z => by
    rw [z, List.nil_append] at e
    cases e2 : x.cps.toList with
    | nil => exact h2 e2
    | cons c r =>
      rw [e2] at e h3
      have hc := hv c (by rw [← e]; exact List.mem_cons_self)
      exact h3 (by rw [hc]; rfl)
  refine ⟨fun c hc => h1 c (by rw [e]; exact List.mem_append_left _ hc), ne, fun z => h3 ?_, la, ND.pre (by rw [← e]; exact h4), ?_⟩
  · rw [e]
    cases e2 : (Txt.rstripChars x " ").cps.toList with
    | nil => exact absurd e2 ne
    | cons c r => rw [e2] at z; exact z
  · have w := congrArg List.length e
    rw [List.length_append] at w
    have lx : x.length = x.cps.toList.length := rfl
    show (Txt.rstripChars x " ").cps.toList.length ≤ 40
    omega
theorem join_cps' : ∀ ys : List Str, (Str.join "" ys).cps.toList = (ys.map fun y => y.cps.toList).flatten
  | [] => rfl
  | [x] => by simp [Str.join]
  | x :: z :: r => by
    show (x ++ "" ++ Str.join "" (z :: r)).cps.toList = _
    rw [Str.cps_append, Array.toList_append, Str.cps_append, Array.toList_append, join_cps' (z :: r)]
    have e0 : (("" : Str)).cps.toList = [] := rfl
    rw [e0, List.append_nil]
    rfl
theorem join_cps (ys : List Str) : (Txt.join "" ys).cps.toList = (ys.map fun y => y.cps.toList).flatten := by
  rw [TL.join_eq]
  exact join_cps' ys
theorem join_len (ys : List Str) : (Txt.join "" ys).length = (ys.map (·.length)).sum := by
  rw [len_cps, join_cps, List.length_flatten, List.map_map]
  congr 1
theorem ones_sum : ∀ ys : List Str, (∀ y ∈ ys, y.length = 1) → (ys.map (·.length)).sum = ys.length
  | [], _ => rfl
  | y :: r, h => by
    rw [List.map_cons, List.sum_cons, h y List.mem_cons_self, ones_sum r (fun z hz => h z (List.mem_cons_of_mem _ hz)), List.length_cons]
    omega
/-- a name, where it stands -/
def NmAt (H : Hp) (v : V) (n : Str × Str) : Prop := ∃ t : Addr, v = .ref t ∧ H t = some (.tup [.str n.1, .str n.2])
def spNm : Sp := fun vs H Q _ => ∃ (h : Addr) (n : Int), vs = [.ref h] ∧ Hand n H h ∧ n + 300 ≤ far ∧ ∀ v nm H', NmAt H' v nm → NmOk nm → Hand (n + 300) H' h → But h H H' → Q v H'
theorem ok_ni {f : Addr} {fd : FuncData} {e : Ex} (D : Df K mg "name_in" ["text"] sNameIn f fd) (T : Txt K mg C CL e) (cIs : Ca P w K mg base 4 "is_name" ["thing"] (spIsName K)) : FnOk P w K mg base CX0 5 f fd ["text"] spNi := by
  refine D.fn.ok scNameIn (fun vs H Q E h => ?_) (fun cdv A outer s H vs Q E hr h => ?_)
  · obtain ⟨x, rfl, lx, q⟩ := h
    rfl
  · obtain ⟨x, rfl, lx, q⟩ := h
    refine ⟨_, (pss_cons (ps_asg (pe_partition (pv 0) pe_str) (pg_tup (by rfl) (pgs_cons (pg_name (i := 1) scNameIn.nd rfl (.inl rfl)) (pgs_cons (pg_name (i := 2) scNameIn.nd rfl (.inl rfl)) (pgs_cons (pg_name (i := 3) scNameIn.nd rfl (.inl rfl)) pgs_nil)))))
      (pss_one (ps_ret (pe_ifExp (pt_val (pe_ca cIs hr (by decide) (by rfl) (pa_cons (pe_tup (pa_cons (pv 1) (pa_cons (pv 3) pa_nil))) pa_nil))) (pe_tup (pa_cons (pv 1) (pa_cons (pv 3) pa_nil))) pe_non)))), ?_⟩
    obtain ⟨pl1, pl2⟩ := part_len x ":"
    refine ⟨_, rfl, ⟨_, rfl⟩, x, ":", rfl, rfl, rfl, fitN' lx, fun p np => ?_⟩
    have sp := same_upd np (o := .tup [.str (Txt.partition x ":").1, .str (Txt.partition x ":").2.1, .str (Txt.partition x ":").2.2])
    refine ⟨p, _, rfl, SqT.of upd_same, rfl, _, _, rfl, _, _, rfl, _, _, rfl, rfl, ?_⟩
    refine ⟨_, rfl, _, rfl, (by show 2 ≤ sizeLine; decide), fun t nt => ?_⟩
    have st := same_upd nt (o := .tup [.str (Txt.partition x ":").1, .str (Txt.partition x ":").2.2])
    refine ⟨.ref t, .tuple [.str (Txt.partition x ":").1, .str (Txt.partition x ":").2.2], rfl, .tup upd_same (.cons (.str _) (.cons (.str _) .nil)), fun ds e y hy => ?_, fun H' s' => ⟨_, rfl, ?_⟩⟩
    · injection e with e
      rw [← e] at hy
      simp only [List.mem_cons, List.not_mem_nil, or_false] at hy
      rcases hy with z | z
      · rw [z]; intro y ey; cases ey; omega
      · rw [z]; intro y ey; cases ey; omega
    have s0 := (sp.trans st).trans s'
    have q2 : ∀ v H2, L2.Same H H2 → NmR H2 v (nmF x) → Q v H2 := q
    unfold nmF at q2
    cases c : nmD (.tuple [.str (Txt.partition x ":").1, .str (Txt.partition x ":").2.2]) with
    | false =>
      rw [c] at q2
      exact iteF (q2 _ _ s0 rfl)
    | true =>
      rw [c] at q2
      refine iteT ⟨_, rfl, _, rfl, (by show 2 ≤ sizeLine; decide), fun t2 nt2 => ?_⟩
      exact q2 _ _ (s0.trans (same_upd nt2)) ⟨t2, rfl, upd_same⟩
def nmT (n : Str × Str) : Str := n.1 ++ ":" ++ n.2
abbrev Ky := Str × Int
def kyT (k : Ky) : Str := k.1 ++ " " ++ nT k.2
structure GoodK (k : Ky) : Prop where
  w1 : 1 ≤ k.1.length
  w8 : k.1.length ≤ 8
  ws : ∀ c ∈ k.1.cps.toList, c ∈ small.cps.toList
  n0 : 0 ≤ k.2
  n1 : k.2 < 10 ^ 30
theorem kyn_len {k : Ky} (h : GoodK k) : (nT k.2).length ≤ 31 := by
  obtain ⟨m, hm⟩ : ∃ m : Nat, k.2 = (m : Int) := ⟨k.2.toNat, by have := h.n0; omega⟩
  have n1 := h.n1
  rw [hm] at n1 ⊢
  rw [len_cps, nT_list]
  exact TL.numL_len (k := 31) (by decide) (by omega)
theorem nm_len {n : Str × Str} (ok : NmOk n) : (nmT n).length ≤ 44 := by
  have l1 := ok.tx.l40
  have l2 := ok.tl
  have l4 : (":" : Str).length = 1 := by decide +kernel
  unfold nmT
  rw [strLen_append, strLen_append, l4]
  omega
theorem ky_len {k : Ky} (h : GoodK k) : (kyT k).length ≤ 40 := by
  have a := kyn_len h
  have b := h.w8
  unfold kyT
  rw [strLen_append, strLen_append, show (" " : Str).length = 1 by decide +kernel]
  omega
theorem nmF_ok {n : Str × Str} (ok : NmOk n) : nmF (nmT n) = some n := by
  have no : (58 : Nat) ∉ TL.tl n.1 := fun m => by
    have := ok.ts 58 m
    revert this
    decide +kernel
  have p : Txt.partition (nmT n) ":" = (n.1, (":" : Str), n.2) := TL.partition_app tl_c1 no
  have a1 : ofT (.str n.1) small 2 3 = true := by
    unfold ofT chk
    simp only [Bool.and_eq_true, decide_eq_true_eq, List.all_eq_true]
    have := ok.tl
    exact ⟨⟨by omega, by omega⟩, fun c hc => ok.ts c hc⟩
  have a2 : ofT (.str n.2) signs 1 40 = true := by
    unfold ofT chk
    simp only [Bool.and_eq_true, decide_eq_true_eq, List.all_eq_true]
    have l := ok.tx.l40
    have ne := ok.tx.ne
    have l1 : 1 ≤ n.2.length := by
      rw [len_cps]
      exact List.length_pos_iff.mpr ne
    exact ⟨⟨by omega, by omega⟩, fun c hc => ok.tx.sg c hc⟩
  have s1 : sk n.2 = true := sk_iff.mpr ⟨ok.tx.hd, ok.tx.la⟩
  have s2 : db n.2 = false := db_iff.mpr ok.tx.nd
  have z : nmD (.tuple [.str n.1, .str n.2]) = true := by
    show (ofT (.str n.1) small 2 3 && (ofT (.str n.2) signs 1 40 && (sk n.2 && !db n.2))) = true
    rw [a1, a2, s1, s2]
    rfl
  unfold nmF
  rw [p, if_pos z]
theorem nmD_ok {n : Str × Str} (ok : NmOk n) : nmD (.tuple [.str n.1, .str n.2]) = true := by
  have h := nmF_ok ok
  have no : (58 : Nat) ∉ TL.tl n.1 := fun m => by
    have := ok.ts 58 m
    revert this
    decide +kernel
  have p : Txt.partition (nmT n) ":" = (n.1, (":" : Str), n.2) := TL.partition_app tl_c1 no
  unfold nmF at h
  rw [p] at h
  by_cases c : nmD (.tuple [.str n.1, .str n.2]) = true
  · exact c
  · rw [if_neg c] at h
    cases h
theorem ky_part {k : Ky} (h : GoodK k) : Txt.partition (kyT k) " " = (k.1, (" " : Str), nT k.2) := TL.partition_app tl_bl (fun m => by
  have := h.ws 32 m
  revert this
  decide +kernel)
theorem ky_num {k : Ky} (h : GoodK k) : numP (nT k.2) = some k.2 := by
  obtain ⟨m, hm⟩ : ∃ m : Nat, k.2 = (m : Int) := ⟨k.2.toNat, by have := h.n0; omega⟩
  have n1 := h.n1
  rw [hm] at n1 ⊢
  exact num_of (by omega)
/-- a key, where it stands -/
def KyAt (H : Hp) (v : V) (k : Ky) : Prop := ∃ t : Addr, v = .ref t ∧ H t = some (.tup [.str k.1, .int k.2])
def spWord (K : PySem.W.Frag) : Sp := fun vs H Q _ => ∃ (v : V) (d : PyData), vs = [v] ∧ Dz K H v d ∧ (∀ x, d = .str x → x.length ≤ 50000) ∧ ∀ H', L2.Same H H' → Q (.bl (ofT d small 1 8)) H'
def wh : PyData → Option Int
  | .int i => some i
  | _ => none
theorem isI_wh {K : PySem.W.Frag} {H : Hp} {v : V} {d : PyData} (h : Dz K H v d) : isI v = (wh d).isSome := by cases h <;> rfl
def nn (d : PyData) : Bool := match wh d with
  | some i => decide (0 ≤ i)
  | none => false
def kyD (d : PyData) : Bool := match d with
  | .tuple [a, b] => ofT a small 1 8 && nn b
  | _ => false
def spIsKeyG (K : PySem.W.Frag) : Sp := fun vs H Q _ => ∃ (v : V) (d : PyData), vs = [v] ∧ Dz K H v d ∧ T2 d ∧ ∀ H', L2.Same H H' → Q (.bl (kyD d)) H'
def spIsKey : Sp := fun vs H Q _ => ∃ (v : V) (k : Ky), vs = [v] ∧ KyAt H v k ∧ GoodK k ∧ ∀ H', L2.Same H H' → Q (.bl true) H'
theorem gk_house {k : Ky} (g : GoodK k) : ofT (.str k.1) small 1 8 = true := ofT_iff.mpr ⟨by have := g.w1; omega, by have := g.w8; omega, chk_iff.mpr g.ws⟩
theorem fn_imp {k : Nat} {f : Addr} {fd : FuncData} {ps : List Str} {CX : CXT} {sp sq : Sp} (F : FnOk P w K mg base CX k f fd ps sp) (h : ∀ vs H Q E, sq vs H Q E → sp vs H Q E) : FnOk P w K mg base CX k f fd ps sq :=
  ⟨fun vs H Q E q => F.len vs H Q E (h _ _ _ _ q), fun A outer s H args us vs Q E hr e0 hb hv q => F.run A outer s H args us vs Q E hr e0 hb hv (h _ _ _ _ q)⟩
theorem fn_or {k : Nat} {f : Addr} {fd : FuncData} {ps : List Str} {CX : CXT} {sp sq : Sp} (F : FnOk P w K mg base CX k f fd ps sp) (G : FnOk P w K mg base CX k f fd ps sq) : FnOk P w K mg base CX k f fd ps (fun vs H Q E => sp vs H Q E ∨ sq vs H Q E) :=
  ⟨fun vs H Q E q => q.elim (F.len vs H Q E) (G.len vs H Q E), fun A outer s H args us vs Q E hr e0 hb hv q => q.elim (F.run A outer s H args us vs Q E hr e0 hb hv) (G.run A outer s H args us vs Q E hr e0 hb hv)⟩
theorem small_not {x : Str} {c : Nat} (h : letts x) (nc : c ∉ small.cps.toList) : c ∉ x.cps.toList := fun m => nc (h c m)
def keyP (x : Str) : Option Ky := match numP (Txt.partition x " ").2.2 with
  | some n => if ofT (.str (Txt.partition x " ").1) small 1 8 = true then some ((Txt.partition x " ").1, n) else none
  | none => none
theorem gk_num {k : Ky} (g : GoodK k) : numP (nT k.2) = some k.2 := ky_num g
theorem key_of {k : Ky} (g : GoodK k) : keyP (kyT k) = some k := by
  unfold keyP
  rw [ky_part g]
  dsimp only
  rw [gk_num g]
  dsimp only
  rw [if_pos (gk_house g)]
theorem good_of {a : Str} {z : Str} {n : Int} (h : numP z = some n) (ha : ofT (.str a) small 1 8 = true) : GoodK (a, n) := by
  obtain ⟨m, rfl, m1, _⟩ := num_back h
  obtain ⟨l1, l8, ck⟩ := ofT_iff.mp ha
  have e : ((10 : Int) ^ 30) = ((10 ^ 30 : Nat) : Int) := by decide
  exact ⟨by show 1 ≤ a.length; omega, by show a.length ≤ 8; omega, chk_iff.mp ck, by show (0 : Int) ≤ (m : Int); omega, by show (m : Int) < 10 ^ 30; rw [e]; exact Int.ofNat_lt.mpr m1⟩
theorem key_good {x : Str} {k : Ky} (h : keyP x = some k) : GoodK k := by
  unfold keyP at h
  split at h
  · rename_i n hn
    by_cases a : ofT (.str (Txt.partition x " ").1) small 1 8 = true
    · rw [if_pos a] at h
      cases h
      exact good_of hn a
    · rw [if_neg a] at h; cases h
  · cases h
theorem nT_free {k : Ky} (g : GoodK k) {c : Nat} (h : c < 48 ∨ 57 < c) : c ∉ (nT k.2).cps.toList := by
  have h0 := g.n0
  obtain ⟨m, hm⟩ : ∃ m : Nat, k.2 = (m : Int) := ⟨k.2.toNat, by omega⟩
  rw [hm, nT_list]
  exact TL.numL_free h
theorem ky_join (k : Ky) : kyT k = Txt.join " " [k.1, nT k.2] := by
  rw [TL.join_eq]
  rfl
theorem ky_parts {k : Ky} (g : GoodK k) : Txt.split (kyT k) " " = [k.1, nT k.2] := by
  rw [ky_join]
  refine TL.split_join tl_bl (by decide +kernel) (by simp) fun p hp => ?_
  rcases List.mem_cons.mp hp with z | z
  · rw [z]; exact small_not g.ws (by decide +kernel)
  · rw [List.mem_singleton.mp z]; exact nT_free g (by omega)
def lkeyP (x : Str) : Option Ky := match Txt.split x " " with
  | [a, b] => match numP b with
    | some n => if ofT (.str a) small 1 8 = true then some (a, n) else none
    | none => none
  | _ => none
theorem lkey_of {k : Ky} (g : GoodK k) : lkeyP (kyT k) = some k := by
  unfold lkeyP
  rw [ky_parts g]
  dsimp only
  rw [gk_num g]
  dsimp only
  rw [if_pos (gk_house g)]
theorem lkey_back {x : Str} {k : Ky} (h : lkeyP x = some k) : GoodK k ∧ x = kyT k := by
  unfold lkeyP at h
  split at h
  · rename_i a b e
    cases hn : numP b with
    | none => rw [hn] at h; cases h
    | some n =>
      rw [hn] at h
      dsimp only at h
      by_cases c : ofT (.str a) small 1 8 = true
      · rw [if_pos c] at h
        cases h
        refine ⟨good_of hn c, ?_⟩
        obtain ⟨m, rfl, _, eb⟩ := num_back hn
        have j := join_split (x := x) (y := " ") (by rw [tl_bl]; simp) (by decide +kernel)
        rw [e, eb] at j
        rw [← j, ky_join]
      · rw [if_neg c] at h; cases h
  · cases h
def nD : Option Int → PyData
  | none => .none
  | some n => .int n
theorem nV_dz {H : Hp} : ∀ o : Option Int, Dz K H (nV o) (nD o)
  | none => .non
  | some n => .int n
def OkAt (H : Hp) (v : V) : Option Ky → Prop
  | none => v = .non
  | some k => KyAt H v k
def spKi : Sp := fun vs H Q _ => ∃ (x : Str), vs = [.str x] ∧ x.length ≤ 50000 ∧ ∀ v H', L2.Same H H' → OkAt H' v (keyP x) → Q v H'
def spSk : Sp := fun vs H Q _ => ∃ (v : V) (k : Ky), vs = [v] ∧ KyAt H v k ∧ GoodK k ∧ Q (.str (kyT k)) H
def spSn : Sp := fun vs H Q _ => ∃ (v : V) (n : Str × Str), vs = [v] ∧ NmAt H v n ∧ NmOk n ∧ Q (.str (nmT n)) H
theorem ok_word {f : Addr} {fd : FuncData} {e : Ex} (D : Df K mg "is_word" ["thing"] sIsWord f fd) (T : Txt K mg C CL e) (cSm : Ca P w K mg base 2 "is_small_text" ["thing", "least", "most"] (spSmall K)) : FnOk P w K mg base CX0 3 f fd ["thing"] (spWord K) := by
  obtain ⟨_, gKEY_PARTS⟩ := T.cKEY_PARTS
  obtain ⟨_, gLONGEST_WORD⟩ := T.cLONGEST_WORD
  obtain ⟨_, gLONGEST_CODE⟩ := T.cLONGEST_CODE
  obtain ⟨_, gMOST_PLAYERS⟩ := T.cMOST_PLAYERS
  obtain ⟨_, gLAST_YEAR⟩ := T.cLAST_YEAR
  obtain ⟨_, gMONTHS⟩ := T.cMONTHS
  obtain ⟨_, gFEBRUARY⟩ := T.cFEBRUARY
  obtain ⟨_, gMOST_SECONDS⟩ := T.cMOST_SECONDS
  obtain ⟨_, gSHORTEST_TONGUE⟩ := T.cSHORTEST_TONGUE
  obtain ⟨_, gLONGEST_TONGUE⟩ := T.cLONGEST_TONGUE
  obtain ⟨_, gLONGEST_TEXT⟩ := T.cLONGEST_TEXT
  obtain ⟨_, gMOST_FIGURES⟩ := T.cMOST_FIGURES
  obtain ⟨_, gDAY_PARTS⟩ := T.cDAY_PARTS
  obtain ⟨_, gYEAR_FIGURES⟩ := T.cYEAR_FIGURES
  obtain ⟨_, gSMALL_LETTERS⟩ := T.cSMALL_LETTERS
  obtain ⟨_, gTEXT_SIGNS⟩ := T.cTEXT_SIGNS
  obtain ⟨_, gFIGURES⟩ := T.cFIGURES
  obtain ⟨_, gCODE_SIGNS⟩ := T.cCODE_SIGNS
  refine D.fn.ok scIsWord (fun vs H Q E h => ?_) (fun cdv A outer s H vs Q E hr h => ?_)
  · obtain ⟨v, d, rfl, hz, sz, q⟩ := h
    rfl
  · obtain ⟨v, d, rfl, hz, sz, q⟩ := h
    refine ⟨_, (pss_one (ps_ret (pe_ca cSm hr (by decide) (by rfl) (pa_cons (pv 0) (pa_cons pe_int (pa_cons (pe_glob (v := .int 8) (by rfl) gLONGEST_WORD ⟨_, rfl⟩) pa_nil)))))), ?_⟩
    exact ⟨_, rfl, v, d, 1, 8, rfl, hz, sz, q⟩
theorem ok_keyG {f : Addr} {fd : FuncData} {e : Ex} (D : Df K mg "is_key" ["thing"] sIsKey f fd) (T : Txt K mg C CL e) (cWd : Ca P w K mg base 3 "is_word" ["thing"] (spWord K)) (cWh : Ca P w K mg base 1 "is_whole" ["thing"] (spWhole K)) : FnOk P w K mg base CX0 4 f fd ["thing"] (spIsKeyG K) := by
  obtain ⟨_, gKEY_PARTS⟩ := T.cKEY_PARTS
  obtain ⟨_, gLONGEST_WORD⟩ := T.cLONGEST_WORD
  obtain ⟨_, gLONGEST_CODE⟩ := T.cLONGEST_CODE
  obtain ⟨_, gMOST_PLAYERS⟩ := T.cMOST_PLAYERS
  obtain ⟨_, gLAST_YEAR⟩ := T.cLAST_YEAR
  obtain ⟨_, gMONTHS⟩ := T.cMONTHS
  obtain ⟨_, gFEBRUARY⟩ := T.cFEBRUARY
  obtain ⟨_, gMOST_SECONDS⟩ := T.cMOST_SECONDS
  obtain ⟨_, gSHORTEST_TONGUE⟩ := T.cSHORTEST_TONGUE
  obtain ⟨_, gLONGEST_TONGUE⟩ := T.cLONGEST_TONGUE
  obtain ⟨_, gLONGEST_TEXT⟩ := T.cLONGEST_TEXT
  obtain ⟨_, gMOST_FIGURES⟩ := T.cMOST_FIGURES
  obtain ⟨_, gDAY_PARTS⟩ := T.cDAY_PARTS
  obtain ⟨_, gYEAR_FIGURES⟩ := T.cYEAR_FIGURES
  obtain ⟨_, gSMALL_LETTERS⟩ := T.cSMALL_LETTERS
  obtain ⟨_, gTEXT_SIGNS⟩ := T.cTEXT_SIGNS
  obtain ⟨_, gFIGURES⟩ := T.cFIGURES
  obtain ⟨_, gCODE_SIGNS⟩ := T.cCODE_SIGNS
  refine D.fn.ok scIsKey (fun vs H Q E h => ?_) (fun cdv A outer s H vs Q E hr h => ?_)
  · obtain ⟨v, d, rfl, hz, s2, q⟩ := h
    rfl
  · obtain ⟨v, d, rfl, hz, s2, q⟩ := h
    refine ⟨_, (pss_cons (ps_if (PW.pt (pw_or (pt_not (pt_val (pe_callB call_isi (by rfl) T.isi (by decide +kernel) (pa_cons (pv 0) (pa_cons (pe_bltn (v := .ty "tuple") (by rfl) T.tuple (by decide +kernel) rfl) pa_nil))))) (pw_or1 (pt_cmpR op_ne (pe_callB call_len_seq (by rfl) T.len PySem.boot_len (pa_cons (pv 0) pa_nil)) (pe_glob (v := .int 2) (by rfl) gKEY_PARTS ⟨_, rfl⟩) (nomark _))))) (pss_one (ps_ret pe_bl)) pss_nil)
      (pss_cons (ps_asg (pv 0) (pg_tup (by rfl) (pgs_cons (pg_name (i := 1) scIsKey.nd rfl (.inl rfl)) (pgs_cons (pg_name (i := 2) scIsKey.nd rfl (.inl rfl)) pgs_nil))))
      (pss_one (ps_ret (pe_and (pe_ca cWd hr (by decide) (by rfl) (pa_cons (pv 1) pa_nil)) (pe_and (pe_ca cWh hr (by decide) (by rfl) (pa_cons (pv 2) pa_nil)) (pe_one (pe_cmpR op_ge (pv 2) pe_int (nomark _))))))))), ?_⟩
    refine ⟨_, rfl, _, _, _, _, isTup d, rfl, .ty _, hz.ty, z_tup d, _, rfl, ?_⟩
    have qf : kyD d = false → Q (.bl false) H := fun e => by
      have w := q H (Same.refl H)
      rw [e] at w
      exact w
    cases hz with
    | @tup t xs ds et ra =>
      refine iteF ⟨_, rfl, t, xs, rfl, .inr (SqT.of et), rfl, _, rfl, ?_⟩
      match xs, ds, ra with
      | [], _, .nil => exact iteT (qf rfl)
      | [_], _, .cons _ .nil => exact iteT (qf rfl)
      | _ :: _ :: _ :: r, _, .cons _ (.cons _ (.cons _ _)) => exact ite2 (fun _ => qf rfl) (fun e => absurd rfl (len3 e))
      | [va, vb], _, .cons (d := a) ha (.cons (d := b) hb .nil) =>
        obtain ⟨ta, tb⟩ : Tx a ∧ Tx b := ⟨s2 _ rfl a (by simp), s2 _ rfl b (by simp)⟩
        refine iteF ⟨_, rfl, t, _, rfl, SqT.of et, rfl, _, _, rfl, _, _, rfl, rfl, ?_⟩
        refine ⟨_, rfl, va, a, rfl, ha, ta, fun H1 s1 => ⟨_, rfl, ?_⟩⟩
        cases c : ofT a small 1 8 with
        | false =>
          have w := q H1 s1
          rw [show kyD (.tuple [a, b]) = false by show (ofT a small 1 8 && nn b) = false; rw [c]; rfl] at w
          exact iteF w
        | true =>
          have w := fun H' sm => q H' sm
          rw [show kyD (.tuple [a, b]) = nn b by show (ofT a small 1 8 && nn b) = _; rw [c]; rfl] at w
          refine iteT ⟨_, rfl, vb, b, rfl, hb.same s1, _, rfl, ?_⟩
          rw [isI_wh (hb.same s1)]
          unfold nn at w
          cases wb : wh b with
          | none =>
            rw [wb] at w
            exact iteF (w H1 s1)
          | some i =>
            have eb : vb = .int i := by
              cases hb <;> simp [wh] at wb
              rw [wb]
            subst eb
            rw [wb] at w
            exact iteT ⟨_, rfl, i, 0, rfl, rfl, w H1 s1⟩
    | _ => exact iteT (qf rfl)
theorem key_imp {K : PySem.W.Frag} (vs : List V) (H : Hp) (Q : VK) (E : XK) (h : spIsKey vs H Q E) : spIsKeyG K vs H Q E := by
  obtain ⟨v, k, rfl, ⟨t, rfl, et⟩, g, q⟩ := h
  refine ⟨_, .tuple [.str k.1, .int k.2], rfl, .tup et (.cons (.str _) (.cons (.int _) .nil)), fun ds e d hd x ex => ?_, fun H' s => ?_⟩
  · cases e
    rcases List.mem_cons.mp hd with z | z
    · rw [z] at ex; cases ex; have := g.w8; omega
    · rw [List.mem_singleton.mp z] at ex; cases ex
  · have z : kyD (.tuple [.str k.1, .int k.2]) = true := by
      show (ofT (.str k.1) small 1 8 && decide (0 ≤ k.2)) = true
      rw [gk_house g, decide_eq_true g.n0]
      rfl
    rw [z]
    exact q H' s
theorem ok_ki {f : Addr} {fd : FuncData} {e : Ex} (D : Df K mg "key_in" ["text"] sKeyIn f fd) (T : Txt K mg C CL e) (cNu : Ca P w K mg base 3 "number_in" ["text"] spNum) (cK : Ca P w K mg base 4 "is_key" ["thing"] (spIsKeyG K)) : FnOk P w K mg base CX0 5 f fd ["text"] spKi := by
  obtain ⟨_, gKEY_PARTS⟩ := T.cKEY_PARTS
  obtain ⟨_, gLONGEST_WORD⟩ := T.cLONGEST_WORD
  obtain ⟨_, gLONGEST_CODE⟩ := T.cLONGEST_CODE
  obtain ⟨_, gMOST_PLAYERS⟩ := T.cMOST_PLAYERS
  obtain ⟨_, gLAST_YEAR⟩ := T.cLAST_YEAR
  obtain ⟨_, gMONTHS⟩ := T.cMONTHS
  obtain ⟨_, gFEBRUARY⟩ := T.cFEBRUARY
  obtain ⟨_, gMOST_SECONDS⟩ := T.cMOST_SECONDS
  obtain ⟨_, gSHORTEST_TONGUE⟩ := T.cSHORTEST_TONGUE
  obtain ⟨_, gLONGEST_TONGUE⟩ := T.cLONGEST_TONGUE
  obtain ⟨_, gLONGEST_TEXT⟩ := T.cLONGEST_TEXT
  obtain ⟨_, gMOST_FIGURES⟩ := T.cMOST_FIGURES
  obtain ⟨_, gDAY_PARTS⟩ := T.cDAY_PARTS
  obtain ⟨_, gYEAR_FIGURES⟩ := T.cYEAR_FIGURES
  obtain ⟨_, gSMALL_LETTERS⟩ := T.cSMALL_LETTERS
  obtain ⟨_, gTEXT_SIGNS⟩ := T.cTEXT_SIGNS
  obtain ⟨_, gFIGURES⟩ := T.cFIGURES
  obtain ⟨_, gCODE_SIGNS⟩ := T.cCODE_SIGNS
  refine D.fn.ok scKeyIn (fun vs H Q E h => ?_) (fun cdv A outer s H vs Q E hr h => ?_)
  · obtain ⟨x, rfl, lx, q⟩ := h
    rfl
  · obtain ⟨x, rfl, lx, q⟩ := h
    refine ⟨_, (pss_cons (ps_asg (pe_partition (pv 0) pe_str) (pg_tup (by rfl) (pgs_cons (pg_name (i := 1) scKeyIn.nd rfl (.inl rfl)) (pgs_cons (pg_name (i := 2) scKeyIn.nd rfl (.inl rfl)) (pgs_cons (pg_name (i := 3) scKeyIn.nd rfl (.inl rfl)) pgs_nil)))))
      (pss_cons (ps_set (i := 4) scKeyIn.nd rfl (.inl rfl) (pe_tup (pa_cons (pv 1) (pa_cons (pe_ca cNu hr (by decide) (by rfl) (pa_cons (pv 3) pa_nil)) pa_nil))))
      (pss_one (ps_ret (pe_ifExp (pt_val (pe_ca cK hr (by decide) (by rfl) (pa_cons (pv 4) pa_nil))) (pv 4) pe_non))))), ?_⟩
    obtain ⟨pl1, pl2⟩ := part_len x " "
    refine ⟨_, rfl, ⟨_, rfl⟩, x, " ", rfl, rfl, rfl, fitN' lx, fun p np => ?_⟩
    have sp := same_upd np (o := .tup [.str (Txt.partition x " ").1, .str (Txt.partition x " ").2.1, .str (Txt.partition x " ").2.2])
    refine ⟨p, _, rfl, SqT.of upd_same, rfl, _, _, rfl, _, _, rfl, _, _, rfl, rfl, ?_⟩
    generalize L2.upd H p (.tup [.str (Txt.partition x " ").1, .str (Txt.partition x " ").2.1, .str (Txt.partition x " ").2.2]) = H1 at sp ⊢
    refine ⟨_, rfl, _, rfl, (Txt.partition x " ").2.2, rfl, by omega, fun H2 s2 => ⟨(by show 2 ≤ sizeLine; decide), fun t nt => ?_⟩⟩
    have st := same_upd nt (o := .tup [.str (Txt.partition x " ").1, nV (numP (Txt.partition x " ").2.2)])
    have et : (L2.upd H2 t (.tup [.str (Txt.partition x " ").1, nV (numP (Txt.partition x " ").2.2)])) t = some (.tup [.str (Txt.partition x " ").1, nV (numP (Txt.partition x " ").2.2)]) := upd_same
    generalize L2.upd H2 t (.tup [.str (Txt.partition x " ").1, nV (numP (Txt.partition x " ").2.2)]) = H3 at st et ⊢
    have s03 := (sp.trans s2).trans st
    have dz : Dz K H3 (.ref t) (.tuple [.str (Txt.partition x " ").1, nD (numP (Txt.partition x " ").2.2)]) := .tup et (.cons (.str _) (.cons (nV_dz _) .nil))
    refine ⟨_, rfl, _, _, rfl, dz, fun ds e => ?_, fun H4 s4 => ⟨_, rfl, ?_⟩⟩
    · cases e
      intro d hd y ey
      rcases List.mem_cons.mp hd with z | z
      · rw [z] at ey
        cases ey
        omega
      · rw [List.mem_singleton.mp z] at ey
        cases e : numP (Txt.partition x " ").2.2 <;> rw [e] at ey <;> cases ey
    have s04 := s03.trans s4
    have et4 := s4 _ _ et
    have kd : kyD (.tuple [.str (Txt.partition x " ").1, nD (numP (Txt.partition x " ").2.2)]) = (ofT (.str (Txt.partition x " ").1) small 1 8 && nn (nD (numP (Txt.partition x " ").2.2))) := rfl
    rw [kd]
    cases hn : numP (Txt.partition x " ").2.2 with
    | none =>
      rw [show nn (nD none) = false from rfl, Bool.and_false]
      refine iteF (q _ H4 s04 ?_)
      unfold keyP
      rw [hn]
      rfl
    | some n =>
      obtain ⟨m, em, _⟩ := num_back hn
      rw [show nn (nD (some n)) = decide (0 ≤ n) from rfl, decide_eq_true (by omega), Bool.and_true]
      rw [hn] at et4
      by_cases a : ofT (.str (Txt.partition x " ").1) small 1 8 = true
      · rw [a]
        refine iteT ⟨_, rfl, q _ H4 s04 ?_⟩
        unfold keyP
        rw [hn]
        dsimp only
        rw [if_pos a]
        exact ⟨t, rfl, et4⟩
      · rw [Bool.eq_false_iff.mpr a]
        refine iteF (q _ H4 s04 ?_)
        unfold keyP
        rw [hn]
        dsimp only
        rw [if_neg a]
        rfl
theorem ok_sk {f : Addr} {fd : FuncData} {e : Ex} (D : Df K mg "show_key" ["key"] sShowKey f fd) (T : Txt K mg C CL e) : FnOk P w K mg base CX0 1 f fd ["key"] spSk := by
  refine D.fn.ok scShowKey (fun vs H Q E h => ?_) (fun cdv A outer s H vs Q E hr h => ?_)
  · obtain ⟨v, k, rfl, ⟨t, rfl, et⟩, g, q⟩ := h
    rfl
  · obtain ⟨v, k, rfl, ⟨t, rfl, et⟩, g, q⟩ := h
    refine ⟨_, (pss_cons (ps_asg (pv 0) (pg_tup (by rfl) (pgs_cons (pg_name (i := 1) scShowKey.nd rfl (.inl rfl)) (pgs_cons (pg_name (i := 2) scShowKey.nd rfl (.inl rfl)) pgs_nil))))
      (pss_one (ps_ret (pe_joined (.cons (pe_fmt (pv 1)) (.cons pe_str (.cons (pe_fmt (pv 2)) .nil))))))), ?_⟩
    have e0 : Str.empty.length = 0 := rfl
    have e1 : (" " : Str).length = 1 := by decide +kernel
    have lw := g.w8
    have ln := kyn_len g
    refine ⟨_, rfl, t, _, rfl, SqT.of et, rfl, _, _, rfl, _, _, rfl, rfl, ?_⟩
    refine ⟨_, rfl, .inl ⟨_, rfl, fitN (by omega), _, rfl, fitN ?_, _, rfl, fitN ?_, _, rfl, .inr ⟨_, rfl, lg (by have := g.n0; omega) (by have := g.n1; omega), _, rfl, fitN ?_, ?_⟩⟩⟩
    · rw [strLen_append, e0]; omega
    · rw [strLen_append, strLen_append, e0, e1]; omega
    · rw [strLen_append, strLen_append, strLen_append, e0, e1]
      have : (toString k.2 : Str).length = (nT k.2).length := rfl
      omega
    · show Q (V.str (Str.empty ++ k.1 ++ " " ++ nT k.2)) H
      rw [Str.empty_append]
      exact q
theorem ok_sn {f : Addr} {fd : FuncData} {e : Ex} (D : Df K mg "show_name" ["name"] sShowName f fd) (T : Txt K mg C CL e) : FnOk P w K mg base CX0 1 f fd ["name"] spSn := by
  refine D.fn.ok scShowName (fun vs H Q E h => ?_) (fun cdv A outer s H vs Q E hr h => ?_)
  · obtain ⟨v, n, rfl, nv, ok, q⟩ := h
    rfl
  · obtain ⟨v, n, rfl, nv, ok, q⟩ := h
    refine ⟨_, (pss_cons (ps_asg (pv 0) (pg_tup (by rfl) (pgs_cons (pg_name (i := 1) scShowName.nd rfl (.inl rfl)) (pgs_cons (pg_name (i := 2) scShowName.nd rfl (.inl rfl)) pgs_nil))))
      (pss_one (ps_ret (pe_joined (.cons (pe_fmt (pv 1)) (.cons pe_str (.cons (pe_fmt (pv 2)) .nil))))))), ?_⟩
    obtain ⟨t, rfl, et⟩ := nv
    have l1 := ok.tx.l40
    have l2 := ok.tl
    have l4 : (":" : Str).length = 1 := by decide +kernel
    have e0 : Str.empty.length = 0 := rfl
    refine ⟨_, rfl, t, _, rfl, SqT.of et, rfl, _, _, rfl, _, _, rfl, rfl, ?_⟩
    refine ⟨_, rfl, .inl ⟨_, rfl, fitN (by omega), _, rfl, fitN ?_, _, rfl, fitN ?_, _, rfl, .inl ⟨_, rfl, fitN (by omega), _, rfl, fitN ?_, ?_⟩⟩⟩
    · rw [strLen_append, e0]; omega
    · rw [strLen_append, strLen_append, e0, l4]; omega
    · rw [strLen_append, strLen_append, strLen_append, e0, l4]; omega
    · show Q (V.str (Str.empty ++ n.1 ++ ":" ++ n.2)) _
      rw [Str.empty_append]
      exact q
end
end K64
set_option Elab.async false
set_option linter.all false
set_option maxRecDepth 100000
set_option maxHeartbeats 4000000
set_option pp.maxSteps 400
set_option pp.deepTerms false
namespace K64
open PySem PySem.Spec PyProof.Rows L2
open Xk Az Xtx Xkd Xst Xsp
section
variable {P : Program} {w : World} {K : PySem.W.Frag} {mg : Str → Option Value} {base : Heap} {C CL : Addr}
/-- an entry -/
structure En where
  k : Ky
  code : Option Str
  title : Option (Str × Str)
  pl : Option (List (Str × Str))
  day : Option (Int × Option Int × Option Int)
  len : Option Int
structure OkE (e : En) : Prop where
  gk : GoodK e.k
  gc : ∀ c, e.code = some c → ofT (.str c) codes 1 12 = true
  gt : ∀ n, e.title = some n → NmOk n
  gp : ∀ ps, e.pl = some ps → 1 ≤ ps.length ∧ ps.length ≤ 8 ∧ (∀ n ∈ ps, NmOk n) ∧ Ris ps
  gd : ∀ d, e.day = some d → Good d.1 d.2.1 d.2.2
  gl : ∀ c, e.len = some c → 0 ≤ c ∧ c ≤ 359999
def cV : Option Str → V
  | none => .non
  | some c => .str c
def PlO (H : Hp) (v : V) : Option (List (Str × Str)) → Prop
  | none => v = .non
  | some ps => ∃ (t : Addr) (xs : List V), v = .ref t ∧ H t = some (.tup xs) ∧ NAs H xs ps
def DyO (C : Addr) (H : Hp) (v : V) : Option (Int × Option Int × Option Int) → Prop
  | none => v = .non
  | some d => ∃ o : Addr, v = .ref o ∧ DayAt C H o d.1 d.2.1 d.2.2
def LnO (CL : Addr) (H : Hp) (v : V) : Option Int → Prop
  | none => v = .non
  | some c => ∃ o : Addr, v = .ref o ∧ LenAt CL H o c
theorem NmR.same {H H' : Hp} {v : V} {o : Option (Str × Str)} (h : NmR H v o) (s : L2.Same H H') : NmR H' v o := by
  cases o with
  | none => exact h
  | some n => obtain ⟨t, e, et⟩ := h; exact ⟨t, e, s _ _ et⟩
theorem PlO.same {H H' : Hp} {v : V} {o : Option (List (Str × Str))} (h : PlO H v o) (s : L2.Same H H') : PlO H' v o := by
  cases o with
  | none => exact h
  | some n => obtain ⟨t, xs, e, et, z⟩ := h; exact ⟨t, xs, e, s _ _ et, z.tp fun b ys e => s _ _ e⟩
theorem DyO.same {H H' : Hp} {v : V} {o : Option (Int × Option Int × Option Int)} (h : DyO C H v o) (s : L2.Same H H') : DyO C H' v o := by
  cases o with
  | none => exact h
  | some n => obtain ⟨t, e, dx, et⟩ := h; exact ⟨t, e, dx, s _ _ et⟩
theorem LnO.same {H H' : Hp} {v : V} {o : Option Int} (h : LnO CL H v o) (s : L2.Same H H') : LnO CL H' v o := by
  cases o with
  | none => exact h
  | some n => obtain ⟨t, e, dx, et⟩ := h; exact ⟨t, e, dx, s _ _ et⟩
/-- an entry, where it stands -/
def EnAt (C CL : Addr) (H : Hp) (t : Addr) (e : En) : Prop := ∃ v2 v3 v4 v5 v6 : V, H t = some (.tup [.str e.k.1, .int e.k.2, v2, v3, v4, v5, v6]) ∧ v2 = cV e.code ∧ NmR H v3 e.title ∧ PlO H v4 e.pl ∧ DyO C H v5 e.day ∧ LnO CL H v6 e.len
theorem EnAt.same {H H' : Hp} {t : Addr} {e : En} (h : EnAt C CL H t e) (s : L2.Same H H') : EnAt C CL H' t e := by
  obtain ⟨v2, v3, v4, v5, v6, et, h2, h3, h4, h5, h6⟩ := h
  exact ⟨v2, v3, v4, v5, v6, s _ _ et, h2, h3.same s, h4.same s, h5.same s, h6.same s⟩
/-- what stands in a field -/
def Fv (C CL : Addr) (H : Hp) (e : En) : Nat → V → Prop
  | 0 => fun v => v = cV e.code
  | 1 => fun v => NmR H v e.title
  | 2 => fun v => PlO H v e.pl
  | 3 => fun v => DyO C H v e.day
  | 4 => fun v => LnO CL H v e.len
  | _ => fun _ => False
theorem Fv.same {H H' : Hp} {e : En} {i : Nat} {v : V} (h : Fv C CL H e i v) (s : L2.Same H H') : Fv C CL H' e i v := by
  match i, h with
  | 0, h => exact h
  | 1, h => exact NmR.same h s
  | 2, h => exact PlO.same h s
  | 3, h => exact DyO.same h s
  | 4, h => exact LnO.same h s
def plT (ps : List (Str × Str)) : Str := Txt.join ", " (ps.map nmT)
/-- how what is told in a field is written -/
def fT (e : En) : Nat → Option Str
  | 0 => e.code
  | 1 => e.title.map nmT
  | 2 => e.pl.map plT
  | 3 => e.day.map fun d => dayText d.1 d.2.1 d.2.2
  | 4 => e.len.map lenText
  | _ => none
def fldN : Nat → Str
  | 0 => "code"
  | 1 => "title"
  | 2 => "players"
  | 3 => "day"
  | _ => "length"
def wrdN : Nat → Str
  | 0 => "code"
  | 1 => "title"
  | 2 => "by"
  | 3 => "day"
  | _ => "long"
theorem flds_at {i : Nat} {k : Str} (h : flds[i]? = some k) : i < 5 ∧ k = fldN i := by
  match i, h with
  | 0, h => exact ⟨by decide, (Option.some.inj h).symm⟩
  | 1, h => exact ⟨by decide, (Option.some.inj h).symm⟩
  | 2, h => exact ⟨by decide, (Option.some.inj h).symm⟩
  | 3, h => exact ⟨by decide, (Option.some.inj h).symm⟩
  | 4, h => exact ⟨by decide, (Option.some.inj h).symm⟩
theorem flds_one {i j : Nat} {k : Str} (ne : i ≠ j) (h : flds[i]? = some k) (h2 : flds[j]? = some k) : False := by
  obtain ⟨a, rfl⟩ := flds_at h
  obtain ⟨b, e⟩ := flds_at h2
  have g : ∀ i : Nat, i < 5 → ∀ j : Nat, j < 5 → fldN i = fldN j → i = j := by decide +kernel
  exact ne (g i a j b e)
/-- where a field stands, and what is told there -/
def FldAt (C CL : Addr) (H : Hp) (t : Addr) (e : En) (i : Nat) (v : V) : Prop := ∃ xs, H t = some (.tup xs) ∧ xs[2 + i]? = some v ∧ Fv C CL H e i v
theorem fld_of {H : Hp} {t : Addr} {e : En} (h : EnAt C CL H t e) {i : Nat} (hi : i < 5) : ∃ v, FldAt C CL H t e i v := by
  obtain ⟨v2, v3, v4, v5, v6, et, h2, h3, h4, h5, h6⟩ := h
  match i, hi with
  | 0, _ => exact ⟨v2, _, et, rfl, h2⟩
  | 1, _ => exact ⟨v3, _, et, rfl, h3⟩
  | 2, _ => exact ⟨v4, _, et, rfl, h4⟩
  | 3, _ => exact ⟨v5, _, et, rfl, h5⟩
  | 4, _ => exact ⟨v6, _, et, rfl, h6⟩
def spKo (C CL : Addr) : Sp := fun vs H Q _ => ∃ (t : Addr) (e : En), vs = [.ref t] ∧ EnAt C CL H t e ∧ ∀ v H', L2.Same H H' → KyAt H' v e.k → Q v H'
def spFo (C CL : Addr) : Sp := fun vs H Q _ => ∃ (t : Addr) (e : En) (i : Nat) (k : Str) (v : V), vs = [.ref t, .str k] ∧ EnAt C CL H t e ∧ flds[i]? = some k ∧ FldAt C CL H t e i v ∧ Q v H
theorem ok_ko {f : Addr} {fd : FuncData} {e : Ex} (D : Df K mg "key_of" ["entry"] sKeyOf f fd) (T : Txt K mg C CL e) : FnOk P w K mg base CX0 1 f fd ["entry"] (spKo C CL) := by
  obtain ⟨_, gKEY_PARTS⟩ := T.cKEY_PARTS
  obtain ⟨_, gLONGEST_WORD⟩ := T.cLONGEST_WORD
  obtain ⟨_, gLONGEST_CODE⟩ := T.cLONGEST_CODE
  obtain ⟨_, gMOST_PLAYERS⟩ := T.cMOST_PLAYERS
  obtain ⟨_, gLAST_YEAR⟩ := T.cLAST_YEAR
  obtain ⟨_, gMONTHS⟩ := T.cMONTHS
  obtain ⟨_, gFEBRUARY⟩ := T.cFEBRUARY
  obtain ⟨_, gMOST_SECONDS⟩ := T.cMOST_SECONDS
  obtain ⟨_, gSHORTEST_TONGUE⟩ := T.cSHORTEST_TONGUE
  obtain ⟨_, gLONGEST_TONGUE⟩ := T.cLONGEST_TONGUE
  obtain ⟨_, gLONGEST_TEXT⟩ := T.cLONGEST_TEXT
  obtain ⟨_, gMOST_FIGURES⟩ := T.cMOST_FIGURES
  obtain ⟨_, gDAY_PARTS⟩ := T.cDAY_PARTS
  obtain ⟨_, gYEAR_FIGURES⟩ := T.cYEAR_FIGURES
  obtain ⟨_, gSMALL_LETTERS⟩ := T.cSMALL_LETTERS
  obtain ⟨_, gTEXT_SIGNS⟩ := T.cTEXT_SIGNS
  obtain ⟨_, gFIGURES⟩ := T.cFIGURES
  obtain ⟨_, gCODE_SIGNS⟩ := T.cCODE_SIGNS
  refine D.fn.ok scKeyOf (fun vs H Q E h => ?_) (fun cdv A outer s H vs Q E hr h => ?_)
  · obtain ⟨t, e, rfl, h, q⟩ := h
    rfl
  · obtain ⟨t, e, rfl, h, q⟩ := h
    refine ⟨_, (pss_one (ps_ret (pe_slice Xtu.sl_tupU (pv 0) po_none (po_some (pe_glob (v := .int 2) (by rfl) gKEY_PARTS ⟨_, rfl⟩))))), ?_⟩
    obtain ⟨v2, v3, v4, v5, v6, et, _⟩ := id h
    exact ⟨_, rfl, 2, rfl, t, _, rfl, et, fun p H' s ep => q _ _ s ⟨p, rfl, ep⟩⟩
theorem ok_fo {f : Addr} {fd : FuncData} {e : Ex} (D : Df K mg "field_of" ["entry", "field"] sFieldOf f fd) (T : Txt K mg C CL e) : FnOk P w K mg base CX0 1 f fd ["entry", "field"] (spFo C CL) := by
  obtain ⟨_, gKEY_PARTS⟩ := T.cKEY_PARTS
  obtain ⟨_, gLONGEST_WORD⟩ := T.cLONGEST_WORD
  obtain ⟨_, gLONGEST_CODE⟩ := T.cLONGEST_CODE
  obtain ⟨_, gMOST_PLAYERS⟩ := T.cMOST_PLAYERS
  obtain ⟨_, gLAST_YEAR⟩ := T.cLAST_YEAR
  obtain ⟨_, gMONTHS⟩ := T.cMONTHS
  obtain ⟨_, gFEBRUARY⟩ := T.cFEBRUARY
  obtain ⟨_, gMOST_SECONDS⟩ := T.cMOST_SECONDS
  obtain ⟨_, gSHORTEST_TONGUE⟩ := T.cSHORTEST_TONGUE
  obtain ⟨_, gLONGEST_TONGUE⟩ := T.cLONGEST_TONGUE
  obtain ⟨_, gLONGEST_TEXT⟩ := T.cLONGEST_TEXT
  obtain ⟨_, gMOST_FIGURES⟩ := T.cMOST_FIGURES
  obtain ⟨_, gDAY_PARTS⟩ := T.cDAY_PARTS
  obtain ⟨_, gYEAR_FIGURES⟩ := T.cYEAR_FIGURES
  obtain ⟨_, gSMALL_LETTERS⟩ := T.cSMALL_LETTERS
  obtain ⟨_, gTEXT_SIGNS⟩ := T.cTEXT_SIGNS
  obtain ⟨_, gFIGURES⟩ := T.cFIGURES
  obtain ⟨_, gCODE_SIGNS⟩ := T.cCODE_SIGNS
  obtain ⟨aF, gF, oF, sF⟩ := T.fd
  refine D.fn.ok scFieldOf (fun vs H Q E h => ?_) (fun cdv A outer s H vs Q E hr h => ?_)
  · obtain ⟨t, e, i, k, v, rfl, h, ek, ev, q⟩ := h
    rfl
  · obtain ⟨t, e, i, k, v, rfl, h, ek, ev, q⟩ := h
    refine ⟨_, (pss_one (ps_ret (pe_ix ix_tup (pv 0) (pe_op op_add (pe_glob (v := .int 2) (by rfl) gKEY_PARTS ⟨_, rfl⟩) (pe_bm PySem.F.plainAttrs_tuple PySem.F.slot_tuple_index PySem.F.type_tuple_index mt_tup_index (pe_glob (v := .ref aF) (by rfl) gF rfl) (pa_cons (pv 1) pa_nil))) (fun _ _ => rfl)))), ?_⟩
    obtain ⟨v2, v3, v4, v5, v6, et, h2, h3, h4, h5, h6⟩ := id h
    refine ⟨_, rfl, .inr (.inl ⟨rfl, oF⟩), _, rfl, aF, flds, k, i, rfl, rfl, sF H, ek, fun m hm z => ?_, 2, (i : Int), rfl, rfl, t, _, 2 + (i : Int), v, rfl, rfl, SqT.of et, ?_, q⟩
    · exact flds_one (Nat.ne_of_lt hm) z ek
    · have ee : 2 + (i : Int) = ((2 + i : Nat) : Int) := by push_cast; rfl
      rw [ee]
      refine atI_nat ?_
      obtain ⟨xs, ex, eq, _⟩ := ev
      rw [et] at ex
      cases ex
      exact eq
end
end K64
set_option Elab.async false
set_option linter.all false
set_option maxRecDepth 100000
set_option maxHeartbeats 4000000
set_option pp.maxSteps 400
set_option pp.deepTerms false
namespace K64
open PySem PySem.Spec PyProof.Rows L2
open Xk Az Xtx Xkd Xst Xsp
section
variable {P : Program} {w : World} {K : PySem.W.Frag} {mg : Str → Option Value} {base : Heap} {C CL : Addr}
theorem day_len {y : Int} {m d : Option Int} (g : Good y m d) : (dayText y m d).length ≤ 20 := by
  obtain ⟨p1, p2, p3⟩ := good_parts g
  have l1 := p1.len
  unfold dayText
  cases m with
  | none =>
    have : d = none := g.2.2
    subst this
    show (zpad 4 y).length ≤ 20
    omega
  | some i =>
    have l2 := (p2 i rfl).len
    cases d with
    | none =>
      show (zpad 4 y ++ "-" ++ zpad 2 i).length ≤ 20
      rw [strLen_append, strLen_append, dsh]
      omega
    | some j =>
      have l3 := (p3 j rfl).len
      show (zpad 4 y ++ "-" ++ zpad 2 i ++ "-" ++ zpad 2 j).length ≤ 20
      rw [strLen_append, strLen_append, strLen_append, strLen_append, dsh]
      omega
theorem len_len {c : Int} (h0 : 0 ≤ c) (h1 : c ≤ 359999) : (lenText c).length ≤ 20 := by
  have a := (nT_4 h0 h1).2
  have p := (num_zp (i := c % 60) (by omega) (by omega)).len
  have k1 : (":" : Str).length = 1 := by decide +kernel
  show (nT (c / 60) ++ ":" ++ zpad 2 (c % 60)).length ≤ 20
  rw [strLen_append, strLen_append, k1]
  omega
/-- how long a joined row may be at most -/
def S (j : Str) (ps : List Str) : Nat := (ps.map fun p => p.length + j.length).sum
theorem S_app (j : Str) (xs ys : List Str) : S j (xs ++ ys) = S j xs + S j ys := by
  unfold S
  rw [List.map_append, List.sum_append]
theorem S_one (j x : Str) : S j [x] = x.length + j.length := by
  unfold S
  simp
theorem S_mem {j : Str} : ∀ {ps : List Str} {p : Str}, p ∈ ps → p.length + j.length ≤ S j ps
  | x :: r, p, h => by
    unfold S
    rw [List.map_cons, List.sum_cons]
    rcases List.mem_cons.mp h with z | z
    · rw [z]; omega
    · have := S_mem (j := j) z
      unfold S at this
      omega
theorem join_S (j : Str) : ∀ (ps : List Str), ps ≠ [] → (Str.join j ps).length + j.length = S j ps
  | [], h => absurd rfl h
  | [x], _ => by rw [S_one]; rfl
  | x :: y :: r, _ => by
    have ih := join_S j (y :: r) (List.cons_ne_nil _ _)
    show (x ++ j ++ Str.join j (y :: r)).length + j.length = _
    rw [strLen_append, strLen_append]
    unfold S at ih ⊢
    rw [List.map_cons, List.sum_cons, ← ih]
    omega
theorem joint_len (j : Str) (ps : List Str) : (Txt.join j ps).length ≤ S j ps := by
  rw [TL.join_eq]
  cases ps with
  | nil => exact Nat.zero_le _
  | cons x r =>
    have := join_S j (x :: r) (List.cons_ne_nil _ _)
    omega
theorem sum_S (j : Str) (ps : List Str) : (ps.map (·.length)).sum + ps.length * j.length = S j ps := by
  induction ps with
  | nil => unfold S; simp
  | cons x r ih =>
    unfold S at ih ⊢
    rw [List.map_cons, List.map_cons, List.sum_cons, List.sum_cons, ← ih, List.length_cons, Nat.add_mul]
    omega
theorem S_le {j : Str} {m : Nat} : ∀ {ps : List Str}, (∀ p ∈ ps, p.length ≤ m) → S j ps ≤ ps.length * (m + j.length)
  | [], _ => by unfold S; simp
  | x :: r, h => by
    have a := h x List.mem_cons_self
    have b := S_le (j := j) fun p hp => h p (List.mem_cons_of_mem _ hp)
    unfold S at b ⊢
    rw [List.map_cons, List.sum_cons, List.length_cons, Nat.succ_mul]
    omega
theorem names_le {ps : List (Str × Str)} (h : ∀ n ∈ ps, NmOk n) : ∀ p ∈ ps.map nmT, p.length ≤ 44 := fun p hp => by
  obtain ⟨n, hn, rfl⟩ := List.mem_map.mp hp
  exact nm_len (h n hn)
theorem pl_S {ps : List (Str × Str)} (h : ∀ n ∈ ps, NmOk n) (l : ps.length ≤ 8) : S ", " (ps.map nmT) ≤ 400 := by
  have a := S_le (j := ", ") (names_le h)
  have c : (", " : Str).length = 2 := by decide +kernel
  rw [List.length_map, c] at a
  have : ps.length * 46 ≤ 8 * 46 := Nat.mul_le_mul_right _ l
  omega
theorem fT_len {e : En} (ok : OkE e) {i : Nat} {t : Str} (h : fT e i = some t) : t.length ≤ 400 := by
  match i, h with
  | 0, h =>
    have := (ofT_iff.mp (ok.gc t h)).2.1
    omega
  | 1, h =>
    obtain ⟨n, en, rfl⟩ := Option.map_eq_some_iff.mp h
    have := nm_len (ok.gt n en)
    omega
  | 2, h =>
    obtain ⟨ps, ep, rfl⟩ := Option.map_eq_some_iff.mp h
    obtain ⟨_, l8, hn, _⟩ := ok.gp ps ep
    exact Nat.le_trans (joint_len _ _) (pl_S hn l8)
  | 3, h =>
    obtain ⟨d, ed, rfl⟩ := Option.map_eq_some_iff.mp h
    have := day_len (ok.gd d ed)
    omega
  | 4, h =>
    obtain ⟨c, ec, rfl⟩ := Option.map_eq_some_iff.mp h
    obtain ⟨h0, h1⟩ := ok.gl c ec
    have := len_len h0 h1
    omega
/-- a field with its word -/
def pc (i : Nat) (t : Str) : Str := wrdN i ++ " " ++ t
theorem wrd_len (i : Nat) : (wrdN i).length ≤ 5 := by
  match i with
  | 0 => decide +kernel
  | 1 => decide +kernel
  | 2 => decide +kernel
  | 3 => decide +kernel
  | n + 4 => show ("long" : Str).length ≤ 5; decide +kernel
theorem pc_len {i : Nat} {t : Str} (h : t.length ≤ 400) : (pc i t).length ≤ 406 := by
  have := wrd_len i
  unfold pc
  rw [strLen_append, strLen_append, show (" " : Str).length = 1 by decide +kernel]
  omega
/-- the fields that are told, with their texts -/
def told (e : En) : List (Nat × Str) := [0, 1, 2, 3, 4].filterMap fun i => (fT e i).map fun t => (i, t)
/-- the row of an entry -/
def enT (e : En) : Str := Txt.join " | " (kyT e.k :: (told e).map fun p => pc p.1 p.2)
theorem told_mem {e : En} {p : Nat × Str} (h : p ∈ told e) : p.1 < 5 ∧ fT e p.1 = some p.2 := by
  obtain ⟨i, hi, hp⟩ := List.mem_filterMap.mp h
  obtain ⟨t, ht, rfl⟩ := Option.map_eq_some_iff.mp hp
  simp only [List.mem_cons, List.not_mem_nil, or_false] at hi
  exact ⟨by show i < 5; omega, ht⟩
theorem told_len (e : En) : (told e).length ≤ 5 := List.length_filterMap_le _ _
theorem en_S {e : En} (ok : OkE e) : S " | " (kyT e.k :: (told e).map fun p => pc p.1 p.2) ≤ 3000 := by
  have a := S_le (j := " | ") (m := 406) (ps := kyT e.k :: (told e).map fun p => pc p.1 p.2) fun p hp => by
    rcases List.mem_cons.mp hp with z | z
    · rw [z]; have := ky_len ok.gk; omega
    · obtain ⟨q, hq, rfl⟩ := List.mem_map.mp z
      exact pc_len (fT_len ok (told_mem hq).2)
  have c : (" | " : Str).length = 3 := by decide +kernel
  have l := told_len e
  rw [List.length_cons, List.length_map, c] at a
  have : ((told e).length + 1) * (406 + 3) ≤ 6 * 409 := Nat.mul_le_mul (by omega) (Nat.le_refl _)
  omega
theorem en_len {e : En} (ok : OkE e) : (enT e).length ≤ 3000 := Nat.le_trans (joint_len _ _) (en_S ok)
/-- a field is told where its value is not None -/
theorem fv_non {H : Hp} {e : En} {i : Nat} {v : V} (h : Fv C CL H e i v) (hi : i < 5) : v = .non ↔ fT e i = none := by
  match i, hi, h with
  | 0, _, h =>
    have h2 : v = cV e.code := h
    show _ ↔ e.code = none
    rw [h2]
    cases e.code <;> simp [cV]
  | 1, _, h =>
    have h2 : NmR H v e.title := h
    show _ ↔ e.title.map nmT = none
    cases ee : e.title with
    | none => rw [ee] at h2; simp [show v = .non from h2]
    | some n => rw [ee] at h2; obtain ⟨t, rfl, _⟩ := h2; simp
  | 2, _, h =>
    have h2 : PlO H v e.pl := h
    show _ ↔ e.pl.map plT = none
    cases ee : e.pl with
    | none => rw [ee] at h2; simp [show v = .non from h2]
    | some n => rw [ee] at h2; obtain ⟨t, _, rfl, _⟩ := h2; simp
  | 3, _, h =>
    have h2 : DyO C H v e.day := h
    show _ ↔ (e.day.map fun d => dayText d.1 d.2.1 d.2.2) = none
    cases ee : e.day with
    | none => rw [ee] at h2; simp [show v = .non from h2]
    | some n => rw [ee] at h2; obtain ⟨t, rfl, _⟩ := h2; simp
  | 4, _, h =>
    have h2 : LnO CL H v e.len := h
    show _ ↔ e.len.map lenText = none
    cases ee : e.len with
    | none => rw [ee] at h2; simp [show v = .non from h2]
    | some n => rw [ee] at h2; obtain ⟨t, rfl, _⟩ := h2; simp
def spTd (C CL : Addr) : Sp := fun vs H Q _ => ∃ (e : En) (i : Nat) (k : Str) (v : V) (t : Str), vs = [.str k, v] ∧ OkE e ∧ flds[i]? = some k ∧ Fv C CL H e i v ∧ fT e i = some t ∧ ∀ H', L2.Same H H' → Q (.str (pc i t)) H'
def spSe (C CL : Addr) : Sp := fun vs H Q _ => ∃ (t : Addr) (e : En), vs = [.ref t] ∧ EnAt C CL H t e ∧ OkE e ∧ ∀ H', L2.Same H H' → Q (.str (enT e)) H'
theorem sel_told (e : En) : ∀ l : List Nat, (l.filter fun i => (fT e i).isSome).map fldN = (l.filterMap fun i => (fT e i).map fun t => (i, t)).map fun p => fldN p.1
  | [] => rfl
  | i :: r => by
    have ih := sel_told e r
    cases h : fT e i with
    | none => simp [h, ih]
    | some t => simp [h, ih]
theorem ok_td {f : Addr} {fd : FuncData} {e : Ex} {fS fR gS gR : Addr} {fdS fdR gdS gdR : FuncData} (D : Df K mg "show_told" ["field", "thing"] sShowTold f fd) (T : Txt K mg C CL e) (O : Sh P w K mg base C 1 fS fR fdS fdR (spStrD C) (spReprD C)) (OL : Sh P w K mg base CL 2 gS gR gdS gdR (spStrL CL) (spReprL CL)) (WK : Kd K w mg "FIELD_WORDS" (wrds.map V.str)) (cSn : Ca P w K mg base 1 "show_name" ["name"] spSn) : FnOk P w K mg base CX0 5 f fd ["field", "thing"] (spTd C CL) := by
  obtain ⟨aW, esW, nW, gW, lW, kW, fW⟩ := WK.ex
  refine D.fn.ok scShowTold (fun vs H Q E h => ?_) (fun cdv A outer s H vs Q E hr h => ?_)
  · obtain ⟨e, i, k, v, t, rfl, ok, ek, fv, et, q⟩ := h
    rfl
  · obtain ⟨e, i, k, v, t, rfl, ok, ek, fv, et, q⟩ := h
    refine ⟨_, (C8.pss_cut (ps_if (pt_cmpR op_eq (pv 0) pe_str (nomark _)) (pss_one (ps_set (i := 2) scShowTold.nd rfl (.inl rfl) (pe_ca cSn hr (by decide) (by rfl) (pa_cons (pv 1) pa_nil)))) (pss_one (ps_if (pt_cmpR op_eq (pv 0) pe_str (nomark _)) (pss_one (ps_set (i := 2) scShowTold.nd rfl (.inl rfl) (pe_m1 F.slot_str_join F.type_str_join mt_join pe_str (pe_lc (own := [("player", 3)]) (g := gName 3) (tt := tYes) (by rfl) scShowTold.nd (pi_tup (pv 1)) (blkOk_by (own := [("player", 3)]) (N := ["field", "thing", "text", "player"]) (sc := defScope sShowTold) (by decide +kernel)) (fun _ _ _ _ _ => pg_name (i := 3) scShowTold.nd rfl (.inl rfl)) (fun _ _ _ _ _ => pts_nil) (fun _ _ _ _ _ => pe_ca cSn hr (by decide) (by rfl) (pa_cons (pv 3) pa_nil)))))) (pss_one (ps_set (i := 2) scShowTold.nd rfl (.inl rfl) (pe_callTy (cr_alt SkE.call_str_str (cr_alt (cr_strO O.hs O.sf (hr.mono (by decide)) O.okS O.bdS) (cr_strO OL.hs OL.sf (hr.mono (by decide)) OL.okS OL.bdS))) (by rfl) T.str (by decide +kernel) (pa_cons (pv 1) pa_nil)))))))
      (pss_one (ps_ret (pe_joined (.cons (pe_fmt (pe_kd (pe_glob (v := .ref aW) (by rfl) gW rfl) (pv 0) (fun _ _ => rfl))) (.cons pe_str (.cons (pe_fmt (pv 2)) .nil))))))), ?_⟩
    obtain ⟨i5, rfl⟩ := flds_at ek
    have lt := fT_len ok et
    refine ⟨fun σ Hx => ∃ c3 : Option V, σ = [some (.str (fldN i)), some v, some (.str t), c3] ∧ L2.Same H Hx, ?_, ?_⟩
    · match i, i5, fv, et with
      | 0, _, fv, et =>
        have h2 : v = cV e.code := fv
        have h3 : e.code = some t := et
        rw [h3] at h2
        subst h2
        exact ⟨_, rfl, rfl, _, rfl, iteF ⟨_, rfl, rfl, _, rfl, iteF ⟨_, rfl, .inl ⟨t, rfl, none, rfl, Same.refl H⟩⟩⟩⟩
      | 1, _, fv, et =>
        obtain ⟨n, en, rfl⟩ := Option.map_eq_some_iff.mp et
        have h2 : NmR H v e.title := fv
        rw [en] at h2
        exact ⟨_, rfl, rfl, _, rfl, iteT ⟨_, rfl, v, n, rfl, h2, ok.gt n en, none, rfl, Same.refl H⟩⟩
      | 2, _, fv, et =>
        obtain ⟨ps, ep, rfl⟩ := Option.map_eq_some_iff.mp et
        have h2 : PlO H v e.pl := fv
        rw [ep] at h2
        obtain ⟨p, xs, rfl, ex, na⟩ := h2
        obtain ⟨p1, p8, pn, _⟩ := ok.gp ps ep
        have xl := na.len
        refine ⟨_, rfl, rfl, _, rfl, iteF ⟨_, rfl, rfl, _, rfl, iteT ⟨⟨_, rfl⟩, _, rfl, p, rfl, ⟨_, SqT.of ex⟩, fun L nL => ?_⟩⟩⟩
        refine lc_tup (K := K) (a := p) (xs := xs) (fun j Hi => L2.Same H Hi ∧ Hi L = some (.lst (((ps.take j).map nmT).map V.str))) ⟨same_upd nL, upd_same⟩ (fun j Hi _ z => SqT.of (z.1 _ _ ex)) ?_ ?_
        · rintro j y Hi hy ⟨sm, eL⟩
          obtain ⟨n, en, nat⟩ := na.get hy
          have jl := (List.getElem?_eq_some_iff.mp en).1
          refine ⟨rfl, ?_⟩
          unfold tYes
          refine iteT ⟨_, rfl, y, n, rfl, nat.tp fun b zs e => sm _ _ e, pn n (List.mem_of_getElem? en), _, eL, ?_, fun b o e => ?_, ?_⟩
          · rw [List.length_map, List.length_map, List.length_take]
            exact Nat.lt_of_le_of_lt (show min j ps.length ≤ 100 by omega) (by decide)
          · rw [upd_ne (ne_of_none e nL)]
            exact sm _ _ e
          · rw [upd_same, List.take_add_one, en]
            simp
        · rintro He ⟨sm, eL⟩
          rw [List.take_of_length_le (by omega)] at eL
          refine ⟨", ", L, ps.map nmT, rfl, rfl, .inl (SqL.of eL), ?_, none, rfl, sm⟩
          rw [sum_S]
          exact fitN (Nat.le_trans (pl_S pn p8) (by decide))
      | 3, _, fv, et =>
        obtain ⟨d, ed, rfl⟩ := Option.map_eq_some_iff.mp et
        have h2 : DyO C H v e.day := fv
        rw [ed] at h2
        obtain ⟨o, rfl, dx, eo⟩ := h2
        exact ⟨_, rfl, rfl, _, rfl, iteF ⟨_, rfl, rfl, _, rfl, iteF ⟨_, rfl, .inr (.inl ⟨o, dx, _, rfl, eo, o, d.1, d.2.1, d.2.2, rfl, ⟨dx, eo⟩, ok.gd d ed, _, rfl, none, rfl, Same.refl H⟩)⟩⟩⟩
      | 4, _, fv, et =>
        obtain ⟨c, ec, rfl⟩ := Option.map_eq_some_iff.mp et
        have h2 : LnO CL H v e.len := fv
        rw [ec] at h2
        obtain ⟨o, rfl, dx, eo⟩ := h2
        obtain ⟨h0, h1⟩ := ok.gl c ec
        exact ⟨_, rfl, rfl, _, rfl, iteF ⟨_, rfl, rfl, _, rfl, iteF ⟨_, rfl, .inr (.inr ⟨o, dx, _, rfl, eo, o, c, rfl, ⟨dx, eo⟩, h0, h1, _, rfl, none, rfl, Same.refl H⟩)⟩⟩⟩
    rintro σ Hx ⟨c3, rfl, sm⟩
    have ew : (wrds.map V.str)[i]? = some (.str (wrdN i)) := by
      match i, i5 with
      | 0, _ => rfl
      | 1, _ => rfl
      | 2, _ => rfl
      | 3, _ => rfl
      | 4, _ => rfl
    obtain ⟨u, fu, ru⟩ := fW i _ _ ek ew
    have lw := wrd_len i
    have e0 : Str.empty.length = 0 := rfl
    have e1 : (" " : Str).length = 1 := by decide +kernel
    refine ⟨_, rfl, aW, esW, nW, fldN i, u, .str (wrdN i), rfl, rfl, lW, kW, fu, ru, .inl ⟨_, rfl, fitN (by omega), _, rfl, fitN ?_, _, rfl, fitN ?_, _, rfl, .inl ⟨_, rfl, fitN (by omega), _, rfl, fitN ?_, ?_⟩⟩⟩
    · rw [strLen_append, e0]; omega
    · rw [strLen_append, strLen_append, e0, e1]; omega
    · rw [strLen_append, strLen_append, strLen_append, e0, e1]; omega
    · show Q (V.str (Str.empty ++ wrdN i ++ " " ++ t)) _
      rw [Str.empty_append]
      exact q _ sm
theorem ok_se {f : Addr} {fd : FuncData} {e : Ex} (D : Df K mg "show_entry" ["entry"] sShowEntry f fd) (T : Txt K mg C CL e) (cSk : Ca P w K mg base 1 "show_key" ["key"] spSk) (cKo : Ca P w K mg base 1 "key_of" ["entry"] (spKo C CL)) (cFo : Ca P w K mg base 1 "field_of" ["entry", "field"] (spFo C CL)) (cTd : Ca P w K mg base 5 "show_told" ["field", "thing"] (spTd C CL)) : FnOk P w K mg base CX0 6 f fd ["entry"] (spSe C CL) := by
  obtain ⟨aF, gF, oF, sF⟩ := T.fd
  refine D.fn.ok scShowEntry (fun vs H Q E h => ?_) (fun cdv A outer s H vs Q E hr h => ?_)
  · obtain ⟨t, e, rfl, h, ok, q⟩ := h
    rfl
  · obtain ⟨t, e, rfl, h, ok, q⟩ := h
    refine ⟨_, (C8.pss_cut (ps_setLc (i := 1) (own := [("field", 2)]) (g := gName 2) (by rfl) scShowEntry.nd rfl rfl (sw_true rfl rfl rfl (by decide +kernel)) (pi_tup (pe_glob (v := .ref aF) (by rfl) gF rfl)) (blkOk_by (own := [("field", 2)]) (N := ["entry", "fields", "field"]) (sc := defScope sShowEntry) (by decide +kernel)) (fun _ _ _ _ _ => pg_name (i := 2) scShowEntry.nd rfl (.inl rfl)) (fun _ _ _ _ _ => (pts_one (pt_cmpR op_notN (pe_ca cFo hr (by decide) (by rfl) (pa_cons (pv 0) (pa_cons (pv 2) pa_nil))) pe_non (nomark _)))) (fun _ _ _ _ _ => pv 2))
      (pss_one (ps_ret (pe_m1 F.slot_str_join F.type_str_join mt_join pe_str (pe_op op_cat (pe_lst (pa_cons (pe_ca cSk hr (by decide) (by rfl) (pa_cons (pe_ca cKo hr (by decide) (by rfl) (pa_cons (pv 0) pa_nil)) pa_nil)) pa_nil)) (pe_lc (own := [("field", 2)]) (g := gName 2) (tt := tYes) (by rfl) scShowEntry.nd (pi_list (pv 1)) (blkOk_by (own := [("field", 2)]) (N := ["entry", "fields", "field"]) (sc := defScope sShowEntry) (by decide +kernel)) (fun _ _ _ _ _ => pg_name (i := 2) scShowEntry.nd rfl (.inl rfl)) (fun _ _ _ _ _ => pts_nil) (fun _ _ _ _ _ => pe_ca cTd hr (by decide) (by rfl) (pa_cons (pv 2) (pa_cons (pe_ca cFo hr (by decide) (by rfl) (pa_cons (pv 0) (pa_cons (pv 2) pa_nil))) pa_nil))))))))), ?_⟩
    have fl : ∀ i : Nat, i < 5 → ([0, 1, 2, 3, 4] : List Nat)[i]? = some i := by decide +kernel
    refine ⟨fun σ Hx => ∃ (L : Addr) (c2 : Option V), σ = [some (.ref t), some (.ref L), c2] ∧ L2.Same H Hx ∧ Hx L = some (.lst ((told e).map fun p => V.str (fldN p.1))), ?_, ?_⟩
    · refine ⟨aF, rfl, ⟨_, sF H⟩, fun L nL => ?_⟩
      refine lc_tup (K := K) (a := aF) (xs := flds.map V.str) (fun j Hi => L2.Same H Hi ∧ Hi L = some (.lst ((((([0, 1, 2, 3, 4] : List Nat).take j).filter fun i => (fT e i).isSome).map fldN).map V.str))) ⟨same_upd nL, upd_same⟩ (fun j Hi _ z => sF Hi) ?_ ?_
      · rintro j y Hi hy ⟨sm, eL⟩
        rw [List.getElem?_map] at hy
        obtain ⟨k, ek, rfl⟩ := Option.map_eq_some_iff.mp hy
        obtain ⟨j5, rfl⟩ := flds_at ek
        obtain ⟨v, fv⟩ := fld_of (h.same sm) j5
        obtain ⟨xs, ex, eq, fv2⟩ := id fv
        have nn := fv_non fv2 j5
        have tk : ([0, 1, 2, 3, 4] : List Nat).take (j + 1) = ([0, 1, 2, 3, 4] : List Nat).take j ++ [j] := by rw [List.take_add_one, fl j j5]; rfl
        refine ⟨rfl, _, rfl, _, rfl, t, e, j, fldN j, v, rfl, h.same sm, ek, fv, rfl, ?_⟩
        cases hf : fT e j with
        | none =>
          have e1 : (!decide (v = V.non)) = false := by rw [decide_eq_true (nn.mpr hf)]; rfl
          refine ⟨_, rfl, ?_⟩
          rw [e1]
          refine iteF ⟨sm, ?_⟩
          rw [tk, List.filter_append]
          simp only [List.filter_cons, hf, Option.isSome_none, Bool.false_eq_true, if_false, List.filter_nil, List.append_nil]
          exact eL
        | some tx =>
          have e1 : (!decide (v = V.non)) = true := by rw [decide_eq_false (fun z => by rw [nn.mp z] at hf; cases hf)]; rfl
          refine ⟨_, rfl, ?_⟩
          rw [e1]
          refine iteT ⟨_, rfl, _, eL, ?_, fun b o eb => ?_, ?_⟩
          · rw [List.length_map, List.length_map]
            refine Nat.lt_of_le_of_lt (Nat.le_trans (List.length_filter_le _ _) (Nat.le_trans (List.length_take_le _ _) (show j ≤ 100 by omega))) (by decide)
          · rw [upd_ne (ne_of_none eb nL)]
            exact sm _ _ eb
          · rw [upd_same, tk, List.filter_append]
            simp only [List.filter_cons, hf, Option.isSome_some, if_true, List.filter_nil, List.map_append, List.map_cons, List.map_nil]
      · rintro He ⟨sm, eL⟩
        refine ⟨L, none, rfl, sm, ?_⟩
        rw [show flds.map V.str = [_, _, _, _, _] from rfl] at eL
        have tk : ([0, 1, 2, 3, 4] : List Nat).take ([V.str "code", V.str "title", V.str "players", V.str "day", V.str "length"].length) = [0, 1, 2, 3, 4] := rfl
        rw [tk, sel_told] at eL
        rw [eL, List.map_map]
        rfl
    rintro σ H1 ⟨L, c2, rfl, s1, eL⟩
    have h1 := h.same s1
    refine ⟨⟨_, rfl⟩, _, rfl, t, e, rfl, h1, fun v H2 s2 ka => ⟨v, e.k, rfl, ka, ok.gk, (by show 1 ≤ sizeLine; decide), fun L1 n1 => ?_⟩⟩
    have sL1 := same_upd n1 (o := .lst [.str (kyT e.k)])
    have eL1 : (L2.upd H2 L1 (.lst [.str (kyT e.k)])) L1 = some (.lst [.str (kyT e.k)]) := upd_same
    generalize L2.upd H2 L1 (.lst [.str (kyT e.k)]) = H3 at sL1 eL1 ⊢
    have s13 := s2.trans sL1
    have eL3 := s13 _ _ eL
    have tl := told_len e
    refine ⟨_, rfl, L, rfl, ⟨_, SqL.of eL3⟩, fun M nM => ?_⟩
    refine lc_list (K := K) (a := L) (xs := (told e).map fun p => V.str (fldN p.1)) (fun j Hi => L2.Same H3 Hi ∧ Hi M = some (.lst ((((told e).take j).map fun p => pc p.1 p.2).map V.str))) ⟨same_upd nM, upd_same⟩ (fun j Hi _ z => SqL.of (z.1 _ _ eL3)) ?_ ?_
    · rintro j y Hi hy ⟨sm, eM⟩
      rw [List.getElem?_map] at hy
      obtain ⟨p, ep, rfl⟩ := Option.map_eq_some_iff.mp hy
      obtain ⟨p5, pt⟩ := told_mem (List.mem_of_getElem? ep)
      have hi := (h1.same s13).same sm
      obtain ⟨w, fw⟩ := fld_of hi p5
      obtain ⟨xs, ex, eq, fv2⟩ := id fw
      have ek : flds[p.1]? = some (fldN p.1) := by
        have g : ∀ i : Nat, i < 5 → flds[i]? = some (fldN i) := by decide +kernel
        exact g _ p5
      refine ⟨rfl, ?_⟩
      unfold tYes
      refine iteT ⟨_, rfl, _, rfl, _, rfl, t, e, p.1, fldN p.1, w, rfl, hi, ek, fw, e, p.1, fldN p.1, w, p.2, rfl, ok, ek, fv2, pt, fun H5 s5 => ⟨_, s5 _ _ eM, ?_, fun b o eb => ?_, ?_⟩⟩
      · rw [List.length_map, List.length_map]
        exact Nat.lt_of_le_of_lt (Nat.le_trans (List.length_take_le' _ _) (show (told e).length ≤ 100 by omega)) (by decide)
      · rw [upd_ne (ne_of_none eb nM)]
        exact s5 _ _ (sm _ _ eb)
      · rw [upd_same, List.take_add_one, ep]
        simp
    rintro H5 ⟨s5, eM⟩
    rw [List.take_of_length_le (by rw [List.length_map]; exact Nat.le_refl _)] at eM
    refine ⟨L1, M, _, _, rfl, rfl, s5 _ _ eL1, eM, ?_, fun N nN => ?_⟩
    · rw [List.length_map, List.length_map]
      exact Nat.le_trans (show 1 + _ ≤ 100 by omega) (by decide)
    have sN := same_upd nN (o := .lst ([.str (kyT e.k)] ++ ((told e).map fun p => pc p.1 p.2).map V.str))
    obtain ⟨rws, hr2⟩ : ∃ rws : List Str, kyT e.k :: (told e).map (fun p => pc p.1 p.2) = rws := ⟨_, rfl⟩
    have eN : (L2.upd H5 N (.lst ([.str (kyT e.k)] ++ ((told e).map fun p => pc p.1 p.2).map V.str))) N = some (.lst (rws.map V.str)) := by rw [upd_same, ← hr2]; rfl
    have qq : Q (.str (Txt.join " | " rws)) (L2.upd H5 N (.lst ([.str (kyT e.k)] ++ ((told e).map fun p => pc p.1 p.2).map V.str))) := by
      rw [← hr2]
      exact q _ ((s1.trans s13).trans (s5.trans sN))
    have sz := en_S ok
    rw [hr2] at sz
    refine ⟨" | ", N, rws, rfl, rfl, .inl (SqL.of eN), ?_, qq⟩
    rw [sum_S]
    exact fitN (Nat.le_trans sz (by decide))
end
end K64
set_option Elab.async false
set_option linter.all false
set_option maxRecDepth 100000
set_option maxHeartbeats 4000000
set_option pp.maxSteps 400
set_option pp.deepTerms false
namespace K64
open PySem PySem.Spec PyProof.Rows L2
open Xk Az Xtx Xkd Xst Xsp
section
variable {P : Program} {w : World} {K : PySem.W.Frag} {mg : Str → Option Value} {base : Heap} {C CL : Addr}
theorem join_mem {j : Str} {c : Nat} : ∀ {ps : List Str}, c ∈ (Str.join j ps).cps.toList → c ∈ j.cps.toList ∨ ∃ p ∈ ps, c ∈ p.cps.toList
  | [], h => by cases h
  | [x], h => .inr ⟨x, List.mem_cons_self, h⟩
  | x :: y :: r, h => by
    have h2 : c ∈ (x ++ j ++ Str.join j (y :: r)).cps.toList := h
    rw [Str.cps_append, Array.toList_append, Str.cps_append, Array.toList_append] at h2
    rcases List.mem_append.mp h2 with h2 | h2
    · rcases List.mem_append.mp h2 with h2 | h2
      · exact .inr ⟨x, List.mem_cons_self, h2⟩
      · exact .inl h2
    · rcases join_mem h2 with z | ⟨p, hp, hc⟩
      · exact .inl z
      · exact .inr ⟨p, List.mem_cons_of_mem _ hp, hc⟩
theorem app_mem {x y : Str} {c : Nat} (h : c ∈ (x ++ y).cps.toList) : c ∈ x.cps.toList ∨ c ∈ y.cps.toList := by
  rw [Str.cps_append, Array.toList_append] at h
  exact List.mem_append.mp h
theorem nm_no {n : Str × Str} (ok : NmOk n) {c : Nat} (h1 : c ∉ small.cps.toList) (h2 : c ∉ signs.cps.toList) (h3 : c ≠ 58) : c ∉ (nmT n).cps.toList := fun m => by
  unfold nmT at m
  rcases app_mem m with m | m
  · rcases app_mem m with m | m
    · exact h1 (ok.ts c m)
    · rw [show (":" : Str).cps.toList = [58] by decide +kernel] at m
      exact h3 (by simpa using m)
  · exact h2 (ok.tx.sg c m)
theorem bar_small : (124 : Nat) ∉ small.cps.toList := by decide +kernel
theorem bar_signs : (124 : Nat) ∉ signs.cps.toList := by decide +kernel
theorem fT_bar {e : En} (ok : OkE e) {i : Nat} {t : Str} (h : fT e i = some t) : (124 : Nat) ∉ t.cps.toList := by
  match i, h with
  | 0, h =>
    intro m
    have := chk_iff.mp (ofT_iff.mp (ok.gc t h)).2.2 _ m
    revert this
    decide +kernel
  | 1, h =>
    obtain ⟨n, en, rfl⟩ := Option.map_eq_some_iff.mp h
    exact nm_no (ok.gt n en) bar_small bar_signs (by decide)
  | 2, h =>
    obtain ⟨ps, ep, rfl⟩ := Option.map_eq_some_iff.mp h
    obtain ⟨_, _, pn, _⟩ := ok.gp ps ep
    intro m
    unfold plT at m
    rw [TL.join_eq] at m
    rcases join_mem m with m | ⟨p, hp, hc⟩
    · revert m; decide +kernel
    · obtain ⟨n, hn, rfl⟩ := List.mem_map.mp hp
      exact nm_no (pn n hn) bar_small bar_signs (by decide) hc
  | 3, h =>
    obtain ⟨d, ed, rfl⟩ := Option.map_eq_some_iff.mp h
    have g := ok.gd d ed
    intro m
    rw [day_join g, TL.join_eq] at m
    rcases join_mem m with m | ⟨p, hp, hc⟩
    · revert m; decide +kernel
    · exact ad_not ((parts_lens g).2 p hp).1 (.inr (by decide)) hc
  | 4, h =>
    obtain ⟨c, ec, rfl⟩ := Option.map_eq_some_iff.mp h
    obtain ⟨h0, h1⟩ := ok.gl c ec
    intro m
    have m2 : 124 ∈ (nT (c / 60) ++ ":" ++ zpad 2 (c % 60)).cps.toList := m
    rcases app_mem m2 with m | m
    · rcases app_mem m with m | m
      · exact ad_not (nT_ad (by omega)) (.inr (by decide)) m
      · revert m; decide +kernel
    · exact prt_not (num_zp (by omega) (by omega)) (.inr (by decide)) m
theorem pc_bar {e : En} (ok : OkE e) {i : Nat} {t : Str} (h : fT e i = some t) : (124 : Nat) ∉ (pc i t).cps.toList := fun m => by
  unfold pc at m
  rcases app_mem m with m | m
  · rcases app_mem m with m | m
    · have g : ∀ i : Nat, i < 5 → (124 : Nat) ∉ (wrdN i).cps.toList := by decide +kernel
      match i with
      | 0 => exact g 0 (by decide) m
      | 1 => exact g 1 (by decide) m
      | 2 => exact g 2 (by decide) m
      | 3 => exact g 3 (by decide) m
      | n + 4 => exact g 4 (by decide) m
    · revert m; decide +kernel
  · exact fT_bar ok h m
theorem ky_bar {k : Ky} (h : GoodK k) : (124 : Nat) ∉ (kyT k).cps.toList := fun m => by
  unfold kyT at m
  rcases app_mem m with m | m
  · rcases app_mem m with m | m
    · exact bar_small (h.ws _ m)
    · revert m; decide +kernel
  · exact ad_not (nT_ad h.n0) (.inr (by decide)) m
theorem tl_br : TL.tl " | " = [32, 124, 32] := by decide +kernel
/-- a part without the middle sign: no joint begins within it -/
theorem free_br {p r : List Nat} (h : (124 : Nat) ∉ p) : (∀ i, i < p.length → TL.pre [32, 124, 32] ((p ++ ([32, 124, 32] ++ r)).drop i) = false) ∧ ∀ i, i < p.length → TL.pre [32, 124, 32] (p.drop i) = false := by
  have key : ∀ q : List Nat, q[1]? ≠ some 124 → TL.pre [32, 124, 32] q = false := fun q hq => by
    unfold TL.pre
    rw [beq_eq_false_iff_ne]
    intro e
    have w := congrArg (fun z => z[1]?) e
    simp only [List.length_cons, List.length_nil] at w
    rw [List.getElem?_take] at w
    simp at w
    exact hq w
  constructor
  · intro i hi
    refine key _ fun e => ?_
    rw [List.getElem?_drop] at e
    rcases Nat.lt_or_ge (i + 1) p.length with c | c
    · rw [List.getElem?_append_left c] at e
      exact h (List.mem_of_getElem? e)
    · rw [List.getElem?_append_right c, show i + 1 - p.length = 0 by omega] at e
      revert e
      simp
  · intro i hi
    refine key _ fun e => ?_
    rw [List.getElem?_drop] at e
    exact h (List.mem_of_getElem? e)
theorem spl_br : ∀ {ps : List (List Nat)}, ps ≠ [] → (∀ p ∈ ps, (124 : Nat) ∉ p) → TL.spl [32, 124, 32] 0 [] (TL.joinL [32, 124, 32] ps) = ps
  | [], h, _ => absurd rfl h
  | [p], _, h => by
    show TL.spl [32, 124, 32] 0 [] p = [p]
    rw [TL.spl_last (free_br (r := []) (h p List.mem_cons_self)).2, List.nil_append]
  | p :: q :: r, _, h => by
    rw [joinL_cons _ _ (List.cons_ne_nil _ _), TL.spl_part (by simp) (free_br (h p List.mem_cons_self)).1, List.nil_append, spl_br (List.cons_ne_nil _ _) fun z hz => h z (List.mem_cons_of_mem _ hz)]
/-- the pieces of an entry's row -/
def pcs (e : En) : List Str := (told e).map fun p => pc p.1 p.2
theorem en_split {e : En} (ok : OkE e) : Txt.split (enT e) " | " = kyT e.k :: pcs e := by
  have sp := TL.split_spl (enT e) " | " (by rw [tl_br]; simp) (TL.kind_ok (by decide +kernel))
  have j : TL.tl (enT e) = TL.joinL [32, 124, 32] ((kyT e.k :: pcs e).map TL.tl) := by
    have := TL.tl_join " | " (kyT e.k :: pcs e)
    rw [tl_br, ← TL.join_eq] at this
    exact this
  rw [tl_br, j, spl_br (by simp) ?_] at sp
  · exact TL.map_tl_inj sp
  · intro p hp
    obtain ⟨s, hs, rfl⟩ := List.mem_map.mp hp
    rcases List.mem_cons.mp hs with z | z
    · rw [z]; exact ky_bar ok.gk
    · obtain ⟨q, hq, rfl⟩ := List.mem_map.mp z
      exact pc_bar ok (told_mem hq).2
/-! which piece has the word of a field -/
def hdN : Nat → Nat
  | 0 => 99
  | 1 => 116
  | 2 => 98
  | 3 => 100
  | _ => 108
def stN (i : Nat) : Str := wrdN i ++ " "
theorem st_head : ∀ i : Nat, i < 5 → ∃ r, (stN i).cps.toList = hdN i :: r := by
  intro i hi
  have g : ∀ i : Nat, i < 5 → (stN i).cps.toList.head? = some (hdN i) := by decide +kernel
  have := g i hi
  cases e : (stN i).cps.toList with
  | nil => rw [e] at this; cases this
  | cons c r => rw [e] at this; exact ⟨r, by rw [Option.some.inj this]⟩
theorem pc_list (i : Nat) (t : Str) : (pc i t).cps.toList = (stN i).cps.toList ++ t.cps.toList := by
  show (wrdN i ++ " " ++ t).cps.toList = _
  rw [Str.cps_append, Array.toList_append]
  rfl
theorem sw_eq {i j : Nat} (hi : i < 5) (hj : j < 5) (t : Str) : Txt.startswith (pc j t) (stN i) = decide (i = j) := by
  unfold Txt.startswith
  by_cases h : i = j
  · subst h
    rw [decide_eq_true rfl]
    have a : decide (0 + (stN i).length ≤ (pc i t).length) = true := decide_eq_true (by rw [len_cps, len_cps, pc_list, List.length_append]; omega)
    have b : Builtin.Str.subAt (pc i t) (stN i) 0 = true := by
      refine (StrLaws.subAt_eq _ _ _).trans ?_
      rw [List.drop_zero, pc_list, len_cps, List.take_left]
      simp
    simp only [a, b, Bool.and_self]
  · rw [decide_eq_false h]
    have b : Builtin.Str.subAt (pc j t) (stN i) 0 = false := by
      refine (StrLaws.subAt_eq _ _ _).trans ?_
      obtain ⟨r, e⟩ := st_head i hi
      obtain ⟨r2, e2⟩ := st_head j hj
      rw [List.drop_zero, pc_list, len_cps, e, e2]
      have ne : hdN j ≠ hdN i := by
        have g : ∀ i : Nat, i < 5 → ∀ j : Nat, j < 5 → hdN j = hdN i → i = j := by decide
        exact fun z => h (g i hi j hj z)
      rw [beq_eq_false_iff_ne]
      intro z
      rw [List.cons_append, List.length_cons, List.take_succ_cons] at z
      exact ne (List.cons.inj z).1
    simp only [b, Bool.and_false]
theorem rp_eq (i : Nat) (t : Str) : Txt.removeprefix (pc i t) (stN i) = t := by
  have a : decide (0 + (stN i).length ≤ (pc i t).length) = true := decide_eq_true (by rw [len_cps, len_cps, pc_list, List.length_append]; omega)
  have b : Builtin.Str.subAt (pc i t) (stN i) 0 = true := by
    refine (StrLaws.subAt_eq _ _ _).trans ?_
    rw [List.drop_zero, pc_list, len_cps, List.take_left]
    simp
  refine (StrLaws.removeprefix_eq _ _).trans ?_
  rw [if_pos (by simp only [a, b, Bool.and_self])]
  refine Xtx.str_eq ?_
  show (((pc i t).cps.toList.drop (stN i).length).take ((pc i t).length - (stN i).length)) = t.cps.toList
  rw [pc_list, len_cps (stN i), List.drop_left, List.take_of_length_le]
  rw [len_cps, pc_list, List.length_append]
  omega
/-- which piece tells the field -/
theorem told_at (e : En) {i : Nat} (hi : i < 5) : (∃ (n : Nat) (t : Str), fT e i = some t ∧ (told e)[n]? = some (i, t) ∧ ∀ m q, m < n → (told e)[m]? = some q → q.1 ≠ i) ∨ (fT e i = none ∧ ∀ q ∈ told e, q.1 ≠ i) := by
  have nd : ((told e).map (·.1)).Nodup := by
    have sub : ((told e).map (·.1)).Sublist [0, 1, 2, 3, 4] := by
      unfold told
      have g : ∀ l : List Nat, ((l.filterMap fun i => (fT e i).map fun t => (i, t)).map (·.1)).Sublist l := fun l => by
        induction l with
        | nil => exact .slnil
        | cons a r ih =>
          cases h : fT e a with
          | none => simp only [List.filterMap_cons, h, Option.map_none]; exact ih.cons a
          | some t => simp only [List.filterMap_cons, h, Option.map_some, List.map_cons]; exact ih.cons₂ a
      exact g _
    exact sub.nodup (by decide)
  cases h : fT e i with
  | none => exact .inr ⟨rfl, fun q hq z => by
      have := (told_mem hq).2
      rw [z, h] at this
      cases this⟩
  | some t =>
    have m : (i, t) ∈ told e := by
      refine List.mem_filterMap.mpr ⟨i, ?_, by rw [h]; rfl⟩
      have g : ∀ i : Nat, i < 5 → i ∈ ([0, 1, 2, 3, 4] : List Nat) := by decide
      exact g i hi
    obtain ⟨n, hn⟩ := List.getElem?_of_mem m
    refine .inl ⟨n, t, rfl, hn, fun k q kn hq z => ?_⟩
    have e1 : ((told e).map (·.1))[k]? = some i := by rw [List.getElem?_map, hq]; exact congrArg some z
    have e2 : ((told e).map (·.1))[n]? = some i := by rw [List.getElem?_map, hn]; rfl
    obtain ⟨k1, v1⟩ := List.getElem?_eq_some_iff.mp e1
    obtain ⟨n1, v2⟩ := List.getElem?_eq_some_iff.mp e2
    exact List.pairwise_iff_getElem.mp nd k n k1 n1 kn (v1.trans v2.symm)
theorem day_inj {y y2 : Int} {m m2 d d2 : Option Int} (g : Good y m d) (g2 : Good y2 m2 d2) (e : dayText y m d = dayText y2 m2 d2) : y = y2 ∧ m = m2 ∧ d = d2 := by
  have h := day_split g
  rw [e, day_split g2] at h
  have h3 := three_of g
  rw [← h, three_of g2] at h3
  injection h3 with a b
  injection b with b c
  exact ⟨a.symm, b.symm, c.symm⟩
theorem len_inj {c c2 : Int} (h0 : 0 ≤ c) (h1 : c ≤ 359999) (g0 : 0 ≤ c2) (g1 : c2 ≤ 359999) (e : lenText c = lenText c2) : c = c2 := by
  have h := len_split h0 h1
  rw [e, len_split g0 g1] at h
  injection h with a b
  injection b with b _
  have p := num_zp (i := c % 60) (by omega) (by omega)
  have p2 := num_zp (i := c2 % 60) (by omega) (by omega)
  have n := nT_dv (m := c / 60) (by omega)
  have n2 := nT_dv (m := c2 / 60) (by omega)
  rw [← a, n2] at n
  have v := p.val
  rw [← b, p2.val] at v
  omega
/-! two names, one less than the other -/
theorem nle_lt {a b : Str × Str} (h : nlt a b = true) : nle a b = true := by
  rcases nle_total.2 a b with z | z
  · exact z
  · rw [nle_iff, h] at z
    cases z
theorem nlt_trans {a b c : Str × Str} (h1 : nlt a b = true) (h2 : nlt b c = true) : nlt a c = true := by
  refine nlt_of (nle_total.1 a b c (nle_lt h1) (nle_lt h2)) fun e => ?_
  subst e
  have z := nle_lt h2
  rw [nle_iff, h1] at z
  cases z
def rb (ps : List (Str × Str)) : List Bool := List.zipWith nlt ps (ps.drop 1)
def risB (ps : List (Str × Str)) : Bool := (rb ps).all id
theorem risB_iff : ∀ {ps : List (Str × Str)}, risB ps = true ↔ Ris ps
  | [] => ⟨fun _ => List.Pairwise.nil, fun _ => rfl⟩
  | [a] => ⟨fun _ => List.pairwise_singleton _ _, fun _ => rfl⟩
  | a :: b :: r => by
    have ih := risB_iff (ps := b :: r)
    have e : risB (a :: b :: r) = (nlt a b && risB (b :: r)) := rfl
    rw [e, Bool.and_eq_true, ih]
    constructor
    · rintro ⟨h1, h2⟩
      refine List.pairwise_cons.mpr ⟨fun c hc => ?_, h2⟩
      rcases List.mem_cons.mp hc with z | z
      · rw [z]; exact h1
      · exact nlt_trans h1 ((List.pairwise_cons.mp h2).1 c z)
    · intro h
      obtain ⟨h1, h2⟩ := List.pairwise_cons.mp h
      exact ⟨h1 b List.mem_cons_self, h2⟩
/-! names written -/
theorem part_join {x y : Str} {i : Nat} (a : StrLaws.At x y x.length i) : x = Builtin.Str.strSub x 0 i ++ y ++ Builtin.Str.strSub x (i + y.length) x.length := by
  obtain ⟨hl, ha⟩ := a
  have ha2 : (x.cps.toList.drop i).take y.length = y.cps.toList := by
    have := ha
    rw [StrLaws.subAt_eq, beq_iff_eq] at this
    exact this
  refine Xtx.str_eq ?_
  rw [Str.cps_append, Array.toList_append, Str.cps_append, Array.toList_append, StrLaws.strSub_toList, StrLaws.strSub_toList, List.drop_zero, Nat.sub_zero]
  have e1 : (x.cps.toList.drop (i + y.length)).take (x.length - (i + y.length)) = (x.cps.toList.drop i).drop y.length := by
    rw [List.drop_drop, List.take_of_length_le]
    rw [List.length_drop, len_cps x]
    exact Nat.le_refl _
  rw [e1, ← ha2, List.append_assoc, List.take_append_drop, List.take_append_drop]
theorem nmF_back {x : Str} {n : Str × Str} (h : nmF x = some n) : NmOk n ∧ x = nmT n := by
  unfold nmF at h
  by_cases c : nmD (.tuple [.str (Txt.partition x ":").1, .str (Txt.partition x ":").2.2]) = true
  case neg => rw [if_neg c] at h; cases h
  rw [if_pos c] at h
  cases h
  have c2 : (ofT (.str (Txt.partition x ":").1) small 2 3 && (ofT (.str (Txt.partition x ":").2.2) signs 1 40 && (sk (Txt.partition x ":").2.2 && !db (Txt.partition x ":").2.2))) = true := c
  simp only [Bool.and_eq_true, Bool.not_eq_true'] at c2
  obtain ⟨c1, c3, c4, c5⟩ := c2
  obtain ⟨l1, l2, l3⟩ := ofT_iff.mp c1
  obtain ⟨m1, m2, m3⟩ := ofT_iff.mp c3
  obtain ⟨k1, k2⟩ := sk_iff.mp c4
  have xe : x = (Txt.partition x ":").1 ++ ":" ++ (Txt.partition x ":").2.2 := by
    rcases partition_whole x ":" with ⟨h, _⟩ | ⟨i, h, a, _⟩
    · rw [h] at m1
      exact absurd m1 (by show ¬ (1 ≤ ((Str.empty.length : Nat) : Int)); decide)
    · rw [h]; exact part_join a
  refine ⟨⟨by show (Txt.partition x ":").1.length = 2 ∨ (Txt.partition x ":").1.length = 3; omega, chk_iff.mp l3, ?_⟩, xe⟩
  exact ⟨chk_iff.mp m3, fun e => by rw [len_cps, e] at m1; exact absurd m1 (by decide), k1, k2, db_iff.mp c5, by show (Txt.partition x ":").2.2.length ≤ 40; omega⟩
/-- all of them, or none -/
def allS {α : Type} : List (Option α) → Option (List α)
  | [] => some []
  | none :: _ => none
  | some a :: r => (allS r).map (a :: ·)
theorem allS_some {α : Type} : ∀ {os : List (Option α)} {ps : List α}, allS os = some ps ↔ os = ps.map some
  | [], ps => by cases ps <;> simp [allS]
  | none :: r, ps => by cases ps <;> simp [allS]
  | some a :: r, ps => by
    have ih := fun qs => allS_some (os := r) (ps := qs)
    simp only [allS, Option.map_eq_some_iff, ih]
    constructor
    · rintro ⟨qs, rfl, rfl⟩; rfl
    · intro e
      cases ps with
      | nil => cases e
      | cons p qs =>
        injection e with e1 e2
        cases e1
        exact ⟨qs, e2, rfl⟩
theorem allS_none {α : Type} : ∀ {os : List (Option α)}, allS os = none ↔ none ∈ os
  | [] => by simp [allS]
  | none :: r => by simp [allS]
  | some a :: r => by simp [allS, Option.map_eq_none_iff, allS_none (os := r)]
/-- the names that a text writes, with commas between -/
def plF (x : Str) : Option (List (Str × Str)) := allS ((Txt.split x ", ").map nmF)
theorem plF_back {x : Str} {ps : List (Str × Str)} (h : plF x = some ps) : x = plT ps ∧ 1 ≤ ps.length ∧ ps.length = (Txt.split x ", ").length ∧ ∀ n ∈ ps, NmOk n := by
  have e := allS_some.mp h
  have l := congrArg List.length e
  rw [List.length_map, List.length_map] at l
  have all : ∀ (xs : List Str) (ps : List (Str × Str)), xs.map nmF = ps.map some → xs = ps.map nmT ∧ ∀ n ∈ ps, NmOk n := by
    intro xs
    induction xs with
    | nil => intro ps e; cases ps with | nil => exact ⟨rfl, by simp⟩ | cons p r => cases e
    | cons y r ih =>
      intro ps e
      cases ps with
      | nil => cases e
      | cons p q =>
        rw [List.map_cons, List.map_cons] at e
        injection e with e1 e2
        obtain ⟨a, b⟩ := nmF_back e1
        obtain ⟨c, d⟩ := ih q e2
        refine ⟨by rw [List.map_cons, ← b, ← c], fun n hn => ?_⟩
        rcases List.mem_cons.mp hn with z | z
        · rw [z]; exact a
        · exact d n z
  obtain ⟨e1, e2⟩ := all _ _ e
  have p := split_pos (x := x) (y := ", ") (by rw [tl_cb]; simp) (by decide +kernel)
  refine ⟨?_, by omega, by omega, e2⟩
  have j := join_split (x := x) (y := ", ") (by rw [tl_cb]; simp) (by decide +kernel)
  rw [e1] at j
  exact j.symm
theorem pl_split {ps : List (Str × Str)} (h1 : 1 ≤ ps.length) (h : ∀ n ∈ ps, NmOk n) : Txt.split (plT ps) ", " = ps.map nmT := by
  unfold plT
  refine TL.split_join tl_cb (by decide +kernel) (fun z => ?_) fun p hp => ?_
  · rw [List.map_eq_nil_iff] at z
    rw [z] at h1
    cases h1
  · obtain ⟨n, hn, rfl⟩ := List.mem_map.mp hp
    exact nm_no (h n hn) (by decide +kernel) (by decide +kernel) (by decide)
theorem plF_ok {ps : List (Str × Str)} (h1 : 1 ≤ ps.length) (h : ∀ n ∈ ps, NmOk n) : plF (plT ps) = some ps := by
  unfold plF
  rw [pl_split h1 h, allS_some, List.map_map]
  exact List.map_congr_left fun n hn => nmF_ok (h n hn)
/-! days, lengths written -/
open Classical in
noncomputable def dyF (x : Str) : Option (Int × Option Int × Option Int) := if h : ∃ d : Int × Option Int × Option Int, Good d.1 d.2.1 d.2.2 ∧ x = dayText d.1 d.2.1 d.2.2 then some h.choose else none
theorem dyF_ok {y : Int} {m d : Option Int} (g : Good y m d) : dyF (dayText y m d) = some (y, m, d) := by
  have h : ∃ e : Int × Option Int × Option Int, Good e.1 e.2.1 e.2.2 ∧ dayText y m d = dayText e.1 e.2.1 e.2.2 := ⟨(y, m, d), g, rfl⟩
  unfold dyF
  rw [dif_pos h]
  obtain ⟨g2, e2⟩ := h.choose_spec
  obtain ⟨a, b, c⟩ := day_inj g g2 e2
  rw [Option.some.injEq]
  exact Prod.ext a.symm (Prod.ext b.symm c.symm)
theorem dyF_no {x : Str} (h : ∀ y m d, Good y m d → x ≠ dayText y m d) : dyF x = none := dif_neg fun ⟨d, g, e⟩ => h _ _ _ g e
theorem dyF_back {x : Str} {d : Int × Option Int × Option Int} (h : dyF x = some d) : Good d.1 d.2.1 d.2.2 ∧ x = dayText d.1 d.2.1 d.2.2 := by
  unfold dyF at h
  by_cases c : ∃ d : Int × Option Int × Option Int, Good d.1 d.2.1 d.2.2 ∧ x = dayText d.1 d.2.1 d.2.2
  · rw [dif_pos c] at h
    cases h
    exact c.choose_spec
  · rw [dif_neg c] at h
    cases h
open Classical in
noncomputable def lnF (x : Str) : Option Int := if h : ∃ c : Int, (0 ≤ c ∧ c ≤ 359999) ∧ x = lenText c then some h.choose else none
theorem lnF_ok {c : Int} (h0 : 0 ≤ c) (h1 : c ≤ 359999) : lnF (lenText c) = some c := by
  have h : ∃ d : Int, (0 ≤ d ∧ d ≤ 359999) ∧ lenText c = lenText d := ⟨c, ⟨h0, h1⟩, rfl⟩
  unfold lnF
  rw [dif_pos h]
  obtain ⟨g2, e2⟩ := h.choose_spec
  exact congrArg some (len_inj h0 h1 g2.1 g2.2 e2).symm
theorem lnF_no {x : Str} (h : ∀ c, 0 ≤ c → c ≤ 359999 → x ≠ lenText c) : lnF x = none := dif_neg fun ⟨d, g, e⟩ => h _ g.1 g.2 e
theorem lnF_back {x : Str} {c : Int} (h : lnF x = some c) : (0 ≤ c ∧ c ≤ 359999) ∧ x = lenText c := by
  unfold lnF at h
  by_cases k : ∃ c : Int, (0 ≤ c ∧ c ≤ 359999) ∧ x = lenText c
  · rw [dif_pos k] at h
    cases h
    exact k.choose_spec
  · rw [dif_neg k] at h
    cases h
/-- what the first piece with the word of the field has behind it -/
def cutp (i : Nat) : List Str → Option Str
  | [] => none
  | p :: r => if Txt.startswith p (stN i) = true then some (Txt.removeprefix p (stN i)) else cutp i r
theorem cutp_none {i : Nat} (hi : i < 5) : ∀ {l : List (Nat × Str)}, (∀ q ∈ l, q.1 < 5) → (∀ q ∈ l, q.1 ≠ i) → cutp i (l.map fun p => pc p.1 p.2) = none
  | [], _, _ => rfl
  | q :: r, h5, hn => by
    show (if Txt.startswith (pc q.1 q.2) (stN i) = true then _ else _) = none
    rw [sw_eq hi (h5 q List.mem_cons_self), if_neg (by simpa using fun z => hn q List.mem_cons_self z.symm)]
    exact cutp_none hi (fun z hz => h5 z (List.mem_cons_of_mem _ hz)) fun z hz => hn z (List.mem_cons_of_mem _ hz)
theorem cutp_at {i : Nat} (hi : i < 5) {t : Str} : ∀ {l : List (Nat × Str)} {n : Nat}, (∀ q ∈ l, q.1 < 5) → l[n]? = some (i, t) → (∀ m q, m < n → l[m]? = some q → q.1 ≠ i) → cutp i (l.map fun p => pc p.1 p.2) = some t
  | q :: r, 0, h5, e, _ => by
    cases e
    show (if Txt.startswith (pc i t) (stN i) = true then some (Txt.removeprefix (pc i t) (stN i)) else _) = some t
    rw [sw_eq hi hi, if_pos (by simp), rp_eq]
  | q :: r, n + 1, h5, e, hn => by
    have h0 := hn 0 q (Nat.zero_lt_succ _) rfl
    show (if Txt.startswith (pc q.1 q.2) (stN i) = true then _ else _) = some t
    rw [sw_eq hi (h5 q List.mem_cons_self), if_neg (by simpa using fun z => h0 z.symm)]
    exact cutp_at hi (l := r) (n := n) (fun z hz => h5 z (List.mem_cons_of_mem _ hz)) e fun m z hm hz => hn (m + 1) z (by omega) hz
theorem cutp_told (e : En) {i : Nat} (hi : i < 5) : cutp i (pcs e) = fT e i := by
  have h5 : ∀ q ∈ told e, q.1 < 5 := fun q hq => (told_mem hq).1
  rcases told_at e hi with ⟨n, t, ht, hn, hm⟩ | ⟨hn, hm⟩
  · rw [ht]; exact cutp_at hi h5 hn hm
  · rw [hn]; exact cutp_none hi h5 hm
/-- the entry that some pieces would tell behind a key -/
noncomputable def seOf (k : Ky) (ps : List Str) : En := ⟨k, cutp 0 ps, (cutp 1 ps).bind nmF, (cutp 2 ps).bind plF, (cutp 3 ps).bind dyF, (cutp 4 ps).bind lnF⟩
theorem se_back {e : En} (ok : OkE e) : seOf e.k (pcs e) = e := by
  unfold seOf
  rw [cutp_told e (i := 0) (by decide), cutp_told e (i := 1) (by decide), cutp_told e (i := 2) (by decide), cutp_told e (i := 3) (by decide), cutp_told e (i := 4) (by decide)]
  have a1 : ((fT e 1).bind nmF) = e.title := by
    show ((e.title.map nmT).bind nmF) = e.title
    cases h : e.title with
    | none => rfl
    | some n => exact nmF_ok (ok.gt n h)
  have a2 : ((fT e 2).bind plF) = e.pl := by
    show ((e.pl.map plT).bind plF) = e.pl
    cases h : e.pl with
    | none => rfl
    | some ps => obtain ⟨p1, p8, pn, _⟩ := ok.gp ps h; exact plF_ok p1 pn
  have a3 : ((fT e 3).bind dyF) = e.day := by
    show ((e.day.map fun d => dayText d.1 d.2.1 d.2.2).bind dyF) = e.day
    cases h : e.day with
    | none => rfl
    | some d => exact dyF_ok (ok.gd d h)
  have a4 : ((fT e 4).bind lnF) = e.len := by
    show ((e.len.map lenText).bind lnF) = e.len
    cases h : e.len with
    | none => rfl
    | some c => obtain ⟨g0, g1⟩ := ok.gl c h; exact lnF_ok g0 g1
  rw [a1, a2, a3, a4]
  rfl
theorem kyT_inj {k k2 : Ky} (g : GoodK k) (g2 : GoodK k2) (e : kyT k = kyT k2) : k = k2 := by
  have h := key_of g
  rw [e, key_of g2] at h
  exact (Option.some.inj h).symm
theorem enT_inj {e e2 : En} (ok : OkE e) (ok2 : OkE e2) (h : enT e = enT e2) : e = e2 := by
  have s := en_split ok
  rw [h, en_split ok2] at s
  injection s with s1 s2
  have k := kyT_inj ok2.gk ok.gk s1
  rw [← se_back ok, ← se_back ok2, s2, k]
open Classical in
/-- the entry that a row writes, if any -/
noncomputable def enP (x : Str) : Option En := if h : ∃ e, OkE e ∧ x = enT e then some h.choose else none
theorem enP_ok {e : En} (ok : OkE e) : enP (enT e) = some e := by
  have h : ∃ e2, OkE e2 ∧ enT e = enT e2 := ⟨e, ok, rfl⟩
  unfold enP
  rw [dif_pos h]
  obtain ⟨o2, e2⟩ := h.choose_spec
  rw [Option.some.injEq]
  exact (enT_inj ok o2 e2).symm
theorem enP_no {x : Str} (h : ∀ e, OkE e → x ≠ enT e) : enP x = none := dif_neg fun ⟨e, o, z⟩ => h e o z
/-- an entry whose code may be any text, whose players any names -/
structure Semi (e : En) : Prop where
  gk : GoodK e.k
  gc : ∀ c, e.code = some c → c.length ≤ 50000
  gt : ∀ n, e.title = some n → NmOk n
  gp : ∀ ps, e.pl = some ps → 1 ≤ ps.length ∧ ps.length ≤ 50001 ∧ ∀ n ∈ ps, NmOk n
  gd : ∀ d, e.day = some d → Good d.1 d.2.1 d.2.2
  gl : ∀ c, e.len = some c → 0 ≤ c ∧ c ≤ 359999
def cdB : Option Str → Bool
  | none => true
  | some c => ofT (.str c) codes 1 12
def plB : Option (List (Str × Str)) → Bool
  | none => true
  | some ps => decide (ps.length ≤ 8) && risB ps
def okB (e : En) : Bool := cdB e.code && plB e.pl
theorem ok_semi {e : En} (s : Semi e) (b : okB e = true) : OkE e := by
  obtain ⟨b1, b2⟩ := (Bool.and_eq_true _ _).mp b
  refine ⟨s.gk, fun c h => by rw [h] at b1; exact b1, s.gt, fun ps h => ?_, s.gd, s.gl⟩
  rw [h] at b2
  obtain ⟨b3, b4⟩ := (Bool.and_eq_true _ _).mp b2
  obtain ⟨p1, _, pn⟩ := s.gp ps h
  exact ⟨p1, of_decide_eq_true b3, pn, risB_iff.mp b4⟩
theorem ok_okB {e : En} (ok : OkE e) : okB e = true := by
  unfold okB
  rw [Bool.and_eq_true]
  constructor
  · cases h : e.code with
    | none => rfl
    | some c => exact ok.gc c h
  · cases h : e.pl with
    | none => rfl
    | some ps =>
      obtain ⟨_, p8, _, r⟩ := ok.gp ps h
      show (decide (ps.length ≤ 8) && risB ps) = true
      rw [decide_eq_true p8, risB_iff.mpr r]
      rfl
theorem rp_len (p s : Str) : (Txt.removeprefix p s).length ≤ p.length := by
  rw [show (Txt.removeprefix p s) = _ from StrLaws.removeprefix_eq _ _]
  split
  · show (((p.cps.toList.drop s.length).take (p.length - s.length)).toArray.toList).length ≤ p.length
    rw [List.length_take]
    omega
  · exact Nat.le_refl _
theorem cutp_len {i : Nat} {t : Str} {n : Nat} : ∀ {ps : List Str}, (∀ p ∈ ps, p.length ≤ n) → cutp i ps = some t → t.length ≤ n
  | [], _, h => by cases h
  | p :: r, hp, h => by
    unfold cutp at h
    by_cases c : Txt.startswith p (stN i) = true
    · rw [if_pos c] at h
      cases h
      exact Nat.le_trans (rp_len _ _) (hp p List.mem_cons_self)
    · rw [if_neg c] at h
      exact cutp_len (fun q hq => hp q (List.mem_cons_of_mem _ hq)) h
theorem se_semi {k : Ky} {ps : List Str} (g : GoodK k) (h : ∀ p ∈ ps, p.length ≤ 50000) : Semi (seOf k ps) := by
  refine ⟨g, fun c e => cutp_len h e, fun n e => ?_, fun qs e => ?_, fun d e => ?_, fun c e => ?_⟩
  · obtain ⟨t, _, e2⟩ := Option.bind_eq_some_iff.mp (show (cutp 1 ps).bind nmF = some n from e)
    exact (nmF_back e2).1
  · obtain ⟨t, e1, e2⟩ := Option.bind_eq_some_iff.mp (show (cutp 2 ps).bind plF = some qs from e)
    obtain ⟨_, p1, p2, pn⟩ := plF_back e2
    have := (split_len (x := t) (y := ", ") (by rw [tl_cb]; simp) (by decide +kernel)).1
    have := cutp_len h e1
    exact ⟨p1, by omega, pn⟩
  · obtain ⟨t, _, e2⟩ := Option.bind_eq_some_iff.mp (show (cutp 3 ps).bind dyF = some d from e)
    exact (dyF_back e2).1
  · obtain ⟨t, _, e2⟩ := Option.bind_eq_some_iff.mp (show (cutp 4 ps).bind lnF = some c from e)
    exact (lnF_back e2).1
end
end K64
set_option Elab.async false
set_option linter.all false
set_option maxRecDepth 100000
set_option maxHeartbeats 4000000
set_option pp.maxSteps 400
set_option pp.deepTerms false
namespace K64
open PySem PySem.Spec PyProof.Rows L2
open Xk Az Xtx Xkd Xst Xsp
section
variable {P : Program} {w : World} {K : PySem.W.Frag} {mg : Str → Option Value} {base : Heap} {C CL : Addr}
theorem walk_zipM {a b : Addr} {xs ys : List V} {n : Nat} (l1 : n ≤ xs.length) (hn : n = ys.length) : Walk (RZ.ItzT K a b) n (fun H => SqT K H a xs ∧ SqT K H b ys) (YPair (fun i => xs[i]?) (fun i => ys[i]?)) := by
  refine ⟨fun i H hi s => ?_, fun H s => ⟨xs, ys, s.1, s.2, .inr (by omega)⟩, fun i H v H' hi s y => ?_⟩
  · exact ⟨xs, ys, xs[i]'(by omega), ys[i]'(by omega), s.1, s.2, List.getElem?_eq_getElem (by omega), List.getElem?_eq_getElem (by omega)⟩
  · obtain ⟨T, x, z, h1, h2, h3, h4, h5⟩ := y
    exact ⟨T, x, z, h1, h2, h3, h4 xs s.1, h5 ys s.2⟩
theorem cut1 (xs : List V) : cutV xs (some 1) none = xs.drop 1 := by
  unfold cutV
  have e1 : HT.sIx xs.length 0 (some 1) = min 1 xs.length := HT.sIx_nat xs.length 0 1
  have e2 : HT.sIx xs.length xs.length none = xs.length := rfl
  rw [e1, e2]
  cases xs with
  | nil => rfl
  | cons x r =>
    rw [show min 1 (x :: r).length = 1 by simp]
    exact List.take_of_length_le (by simp)
def spCode : Sp := fun vs H Q _ => ∃ (c : Str), vs = [.str c] ∧ c.length ≤ 50000 ∧ ∀ H', L2.Same H H' → Q (.bl (ofT (.str c) codes 1 12)) H'
def spRis : Sp := fun vs H Q _ => ∃ (p : Addr) (xs : List V) (ps : List (Str × Str)), vs = [.ref p] ∧ H p = some (.tup xs) ∧ NAs H xs ps ∧ ps.length ≤ 8 ∧ ∀ H', L2.Same H H' → Q (.bl (risB ps)) H'
def spPl : Sp := fun vs H Q _ => ∃ (v : V) (ps : List (Str × Str)), vs = [v] ∧ PlO H v (some ps) ∧ 1 ≤ ps.length ∧ ps.length ≤ 50001 ∧ (∀ n ∈ ps, NmOk n) ∧ ∀ H', L2.Same H H' → Q (.bl (decide (ps.length ≤ 8) && risB ps)) H'
def spIe (C CL : Addr) : Sp := fun vs H Q _ => ∃ (t : Addr) (e : En), vs = [.ref t] ∧ EnAt C CL H t e ∧ Semi e ∧ ∀ H', L2.Same H H' → Q (.bl (okB e)) H'
theorem na_nice {K : PySem.W.Frag} {H : Hp} {v : V} {n : Str × Str} (h : NA H v n) (ok : NmOk n) : Dz K H v (.tuple [.str n.1, .str n.2]) ∧ T2 (.tuple [.str n.1, .str n.2]) := by
  refine ⟨h.dz, fun ds e y hy => ?_⟩
  have l1 := ok.tx.l40
  have l2 := ok.tl
  injection e with e
  rw [← e] at hy
  simp only [List.mem_cons, List.not_mem_nil, or_false] at hy
  rcases hy with z | z
  · rw [z]; intro x ex; cases ex; omega
  · rw [z]; intro x ex; cases ex; omega
theorem ky_t2 {k : Ky} (g : GoodK k) : T2 (.tuple [.str k.1, .int k.2]) := fun ds e d hd x ex => by
  cases e
  rcases List.mem_cons.mp hd with z | z
  · rw [z] at ex; cases ex; have := g.w8; omega
  · rw [List.mem_singleton.mp z] at ex; cases ex
theorem ky_kyD {k : Ky} (g : GoodK k) : kyD (.tuple [.str k.1, .int k.2]) = true := by
  show (ofT (.str k.1) small 1 8 && decide (0 ≤ k.2)) = true
  rw [gk_house g, decide_eq_true g.n0]
  rfl
theorem rb_at {ps : List (Str × Str)} {i : Nat} {a b : Str × Str} (ha : ps[i]? = some a) (hb : ps[i + 1]? = some b) : (rb ps)[i]? = some (nlt a b) := by
  unfold rb
  rw [List.getElem?_zipWith, ha, List.getElem?_drop, Nat.add_comm 1 i, hb]
theorem rb_len (ps : List (Str × Str)) : (rb ps).length = ps.length - 1 := by
  unfold rb
  rw [List.length_zipWith, List.length_drop]
  omega
theorem ok_code {f : Addr} {fd : FuncData} {e : Ex} (D : Df K mg "is_code" ["thing"] sIsCode f fd) (T : Txt K mg C CL e) (cO : Ca P w K mg base 1 "is_text_of" ["thing", "signs", "least", "most"] (spTextOf K)) : FnOk P w K mg base CX0 2 f fd ["thing"] spCode := by
  obtain ⟨_, gKEY_PARTS⟩ := T.cKEY_PARTS
  obtain ⟨_, gLONGEST_WORD⟩ := T.cLONGEST_WORD
  obtain ⟨_, gLONGEST_CODE⟩ := T.cLONGEST_CODE
  obtain ⟨_, gMOST_PLAYERS⟩ := T.cMOST_PLAYERS
  obtain ⟨_, gLAST_YEAR⟩ := T.cLAST_YEAR
  obtain ⟨_, gMONTHS⟩ := T.cMONTHS
  obtain ⟨_, gFEBRUARY⟩ := T.cFEBRUARY
  obtain ⟨_, gMOST_SECONDS⟩ := T.cMOST_SECONDS
  obtain ⟨_, gSHORTEST_TONGUE⟩ := T.cSHORTEST_TONGUE
  obtain ⟨_, gLONGEST_TONGUE⟩ := T.cLONGEST_TONGUE
  obtain ⟨_, gLONGEST_TEXT⟩ := T.cLONGEST_TEXT
  obtain ⟨_, gMOST_FIGURES⟩ := T.cMOST_FIGURES
  obtain ⟨_, gDAY_PARTS⟩ := T.cDAY_PARTS
  obtain ⟨_, gYEAR_FIGURES⟩ := T.cYEAR_FIGURES
  obtain ⟨_, gSMALL_LETTERS⟩ := T.cSMALL_LETTERS
  obtain ⟨_, gTEXT_SIGNS⟩ := T.cTEXT_SIGNS
  obtain ⟨_, gFIGURES⟩ := T.cFIGURES
  obtain ⟨_, gCODE_SIGNS⟩ := T.cCODE_SIGNS
  refine D.fn.ok scIsCode (fun vs H Q E h => ?_) (fun cdv A outer s H vs Q E hr h => ?_)
  · obtain ⟨c, rfl, lc, q⟩ := h
    rfl
  · obtain ⟨c, rfl, lc, q⟩ := h
    refine ⟨_, (pss_one (ps_ret (pe_ca cO hr (by decide) (by rfl) (pa_cons (pv 0) (pa_cons (pe_glob (v := .str codes) (by rfl) gCODE_SIGNS ⟨_, rfl⟩) (pa_cons pe_int (pa_cons (pe_glob (v := .int 12) (by rfl) gLONGEST_CODE ⟨_, rfl⟩) pa_nil))))))), ?_⟩
    exact ⟨_, rfl, .str c, .str c, codes, 1, 12, rfl, .str _, fun x e => by cases e; exact lc, fun H1 s1 => q H1 s1⟩
theorem ok_ris {f : Addr} {fd : FuncData} {e : Ex} (D : Df K mg "are_rising" ["things"] sAreRising f fd) (T : Txt K mg C CL e) : FnOk P w K mg base CX0 1 f fd ["things"] spRis := by
  refine D.fn.ok scAreRising (fun vs H Q E h => ?_) (fun cdv A outer s H vs Q E hr h => ?_)
  · obtain ⟨a, xs, ps, rfl, e, na, l8, q⟩ := h
    rfl
  · obtain ⟨a, xs, ps, rfl, e, na, l8, q⟩ := h
    refine ⟨_, (pss_one (ps_ret (pe_callB (cr_all (by rfl)) (by rfl) T.all (by decide +kernel) (pa_cons (pe_lc (own := [("one", 1), ("other", 2)]) (g := (gTup K 2 (gCons (gName 1) (gCons (gName 2) gNil)))) (tt := tYes) (by rfl) scAreRising.nd (RZ.pi_zipA (by rfl) T.zip (pa_cons (pv 0) (pa_cons (pe_slice Xtu.sl_tupU (pv 0) (po_some pe_int) po_none) pa_nil))) (blkOk_by (own := [("one", 1), ("other", 2)]) (N := ["things", "one", "other"]) (sc := defScope sAreRising) (by decide +kernel)) (fun _ _ _ _ _ => pg_tup (by rfl) (pgs_cons (pg_name (i := 1) scAreRising.nd rfl (.inl rfl)) (pgs_cons (pg_name (i := 2) scAreRising.nd rfl (.inl rfl)) pgs_nil))) (fun _ _ _ _ _ => pts_nil) (fun _ _ _ _ _ => pe_cmpR (Xsp.op_ltN hr) (pv 1) (pv 2) (nomark _))) pa_nil)))), ?_⟩
    have xl := na.len
    have rl := rb_len ps
    refine ⟨_, rfl, _, rfl, 1, rfl, a, _, rfl, e, fun pz Hz sz ez => ?_⟩
    rw [cut1] at ez
    refine ⟨a, pz, _, _, rfl, .inr ⟨SqT.of (sz _ _ e), SqT.of ez, fun Lz nLz => ?_⟩⟩
    refine lc_it (walk_zipM (K := K) (a := a) (b := pz) (xs := xs) (ys := xs.drop 1) (n := xs.length - 1) (by omega) (by rw [List.length_drop])) (fun i Hi => L2.Same Hz Hi ∧ Hi Lz = some (.lst (((rb ps).take i).map V.bl))) ⟨same_upd nLz, upd_same⟩ (fun i Hi _ p => ⟨SqT.of (p.1 _ _ (sz _ _ e)), SqT.of (p.1 _ _ ez)⟩) ?_ ?_
    · rintro i v Hi H' hi ⟨sm, hL⟩ ⟨t, x, z, rfl, nt, rfl, ex, ez'⟩
      have sm2 : L2.Same Hz (upd Hi t (.tup [x, z])) := sm.trans (same_upd nt)
      have hL2 : (upd Hi t (.tup [x, z])) Lz = some (.lst (((rb ps).take i).map V.bl)) := same_upd nt _ _ hL
      replace ex : xs[i]? = some x := ex
      replace ez' : (xs.drop 1)[i]? = some z := ez'
      rw [List.getElem?_drop, Nat.add_comm] at ez'
      have na2 : NAs (upd Hi t (.tup [x, z])) xs ps := na.tp fun b ys eb => (sz.trans sm2) _ _ eb
      obtain ⟨p, ep, np⟩ := na2.get ex
      obtain ⟨r, er, nr⟩ := na2.get ez'
      refine ⟨t, _, rfl, SqT.of upd_same, rfl, _, _, rfl, _, _, rfl, rfl, rfl, ?_⟩
      unfold tYes
      refine iteT ⟨_, rfl, _, rfl, p, r, np, nr, _, hL2, ?_, fun c o eb => ?_, ?_⟩
      · rw [List.length_map, List.length_take]
        exact Nat.lt_of_le_of_lt (show min i (rb ps).length ≤ 1000 by omega) (by decide)
      · rw [upd_ne (ne_of_none eb nLz)]
        exact sm2 _ _ eb
      · rw [upd_same, List.take_add_one, rb_at ep er, List.map_append]
        rfl
    · rintro He ⟨sm, hL⟩
      rw [List.take_of_length_le (by omega)] at hL
      refine ⟨Lz, _, rfl, SqL.of hL, ?_⟩
      exact q He (sz.trans sm)
theorem ok_pl {f : Addr} {fd : FuncData} {e : Ex} (D : Df K mg "are_players" ["thing"] sArePlayers f fd) (T : Txt K mg C CL e) (cIs : Ca P w K mg base 4 "is_name" ["thing"] (spIsName K)) (cRi : Ca P w K mg base 1 "are_rising" ["things"] spRis) : FnOk P w K mg base CX0 5 f fd ["thing"] spPl := by
  obtain ⟨_, gKEY_PARTS⟩ := T.cKEY_PARTS
  obtain ⟨_, gLONGEST_WORD⟩ := T.cLONGEST_WORD
  obtain ⟨_, gLONGEST_CODE⟩ := T.cLONGEST_CODE
  obtain ⟨_, gMOST_PLAYERS⟩ := T.cMOST_PLAYERS
  obtain ⟨_, gLAST_YEAR⟩ := T.cLAST_YEAR
  obtain ⟨_, gMONTHS⟩ := T.cMONTHS
  obtain ⟨_, gFEBRUARY⟩ := T.cFEBRUARY
  obtain ⟨_, gMOST_SECONDS⟩ := T.cMOST_SECONDS
  obtain ⟨_, gSHORTEST_TONGUE⟩ := T.cSHORTEST_TONGUE
  obtain ⟨_, gLONGEST_TONGUE⟩ := T.cLONGEST_TONGUE
  obtain ⟨_, gLONGEST_TEXT⟩ := T.cLONGEST_TEXT
  obtain ⟨_, gMOST_FIGURES⟩ := T.cMOST_FIGURES
  obtain ⟨_, gDAY_PARTS⟩ := T.cDAY_PARTS
  obtain ⟨_, gYEAR_FIGURES⟩ := T.cYEAR_FIGURES
  obtain ⟨_, gSMALL_LETTERS⟩ := T.cSMALL_LETTERS
  obtain ⟨_, gTEXT_SIGNS⟩ := T.cTEXT_SIGNS
  obtain ⟨_, gFIGURES⟩ := T.cFIGURES
  obtain ⟨_, gCODE_SIGNS⟩ := T.cCODE_SIGNS
  refine D.fn.ok scArePlayers (fun vs H Q E h => ?_) (fun cdv A outer s H vs Q E hr h => ?_)
  · obtain ⟨v, ps, rfl, ⟨p, xs, rfl, ex, na⟩, p1, p5, pn, q⟩ := h
    rfl
  · obtain ⟨v, ps, rfl, ⟨p, xs, rfl, ex, na⟩, p1, p5, pn, q⟩ := h
    refine ⟨_, (pss_cons (ps_if (PW.pt (pw_or (pt_not (pt_val (pe_callB call_isi (by rfl) T.isi (by decide +kernel) (pa_cons (pv 0) (pa_cons (pe_bltn (v := .ty "tuple") (by rfl) T.tuple (by decide +kernel) rfl) pa_nil))))) (pw_or1 (pt_not (pt_chain op_le op_le pe_int (pe_callB call_len_seq (by rfl) T.len PySem.boot_len (pa_cons (pv 0) pa_nil)) (pe_glob (v := .int 8) (by rfl) gMOST_PLAYERS ⟨_, rfl⟩)))))) (pss_one (ps_ret pe_bl)) pss_nil)
      (pss_one (ps_ret (pe_and (pe_callB (cr_all (by rfl)) (by rfl) T.all (by decide +kernel) (pa_cons (pe_lc (own := [("player", 1)]) (g := gName 1) (tt := tYes) (te := tCall (spIsName K) [] E0 (tCons (tVar 1) tNil)) (by rfl) scArePlayers.nd (pi_tup (pv 0)) (blkOk_by (own := [("player", 1)]) (N := ["thing", "player"]) (sc := defScope sArePlayers) (by decide +kernel)) (fun _ _ _ _ _ => pg_name (i := 1) scArePlayers.nd rfl (.inl rfl)) (fun _ _ _ _ _ => pts_nil) (fun _ _ _ _ _ => pe_ca cIs hr (by decide) (by rfl) (pa_cons (pv 1) pa_nil))) pa_nil)) (pe_one (pe_ca cRi hr (by decide) (by rfl) (pa_cons (pv 0) pa_nil))))))), ?_⟩
    have xl := na.len
    refine ⟨_, rfl, _, _, _, _, true, rfl, .ty _, .base (.tup ex), kit_ty (by decide +kernel), _, rfl, iteF ?_⟩
    refine ⟨_, rfl, p, _, rfl, .inr (SqT.of ex), 1, _, rfl, rfl, _, rfl, ?_⟩
    rw [decide_eq_true (show (1 : Int) ≤ xs.length by omega)]
    refine iteT ⟨_, 8, rfl, rfl, _, rfl, ?_⟩
    by_cases p8 : ps.length ≤ 8
    case neg =>
      rw [decide_eq_false (show ¬ ((xs.length : Nat) : Int) ≤ 8 by omega)]
      have z := q H (Same.refl H)
      rw [decide_eq_false p8] at z
      exact iteT z
    rw [decide_eq_true (show ((xs.length : Nat) : Int) ≤ 8 by omega)]
    have q2 : ∀ H', L2.Same H H' → Q (.bl (risB ps)) H' := fun H' s => by
      have z := q H' s
      rw [decide_eq_true p8, Bool.true_and] at z
      exact z
    refine iteF ?_
    refine ⟨_, rfl, p, rfl, ⟨_, SqT.of ex⟩, fun L nL => ?_⟩
    refine lc_tup (K := K) (a := p) (xs := xs) (fun j Hi => L2.Same H Hi ∧ Hi L = some (.lst ((List.replicate j true).map V.bl))) ⟨same_upd nL, upd_same⟩ (fun j Hi _ z => SqT.of (z.1 _ _ ex)) ?_ ?_
    · rintro j y Hi hy ⟨sm, eL⟩
      obtain ⟨n, en, nat⟩ := na.get hy
      have jl := (List.getElem?_eq_some_iff.mp en).1
      have okn := pn n (List.mem_of_getElem? en)
      obtain ⟨dz, t2⟩ := na_nice (K := K) (nat.tp fun b zs e => sm _ _ e) okn
      refine ⟨rfl, ?_⟩
      unfold tYes
      refine iteT ⟨_, rfl, y, _, rfl, dz, t2, fun H2 s2 => ?_⟩
      rw [nmD_ok okn]
      refine ⟨_, s2 _ _ eL, ?_, fun b o eb => ?_, ?_⟩
      · rw [List.length_map, List.length_replicate]
        exact Nat.lt_of_le_of_lt (show j ≤ 1000 by omega) (by decide)
      · rw [upd_ne (ne_of_none eb nL)]
        exact s2 _ _ (sm _ _ eb)
      · rw [upd_same, List.replicate_succ', List.map_append]
        rfl
    · rintro He ⟨sm, eL⟩
      refine ⟨L, _, rfl, SqL.of eL, ?_⟩
      rw [show (List.replicate _ true).all id = true from List.all_eq_true.mpr fun b hb => (List.mem_replicate.mp hb).2]
      refine ⟨true, rfl, iteT ⟨_, rfl, p, xs, ps, rfl, sm _ _ ex, na.tp (fun b zs e => sm _ _ e), p8, fun H2 s2 => q2 _ (sm.trans s2)⟩⟩
theorem ok_ie {f : Addr} {fd : FuncData} {e : Ex} (D : Df K mg "is_entry" ["thing"] sIsEntry f fd) (T : Txt K mg C CL e) (cK : Ca P w K mg base 4 "is_key" ["thing"] (spIsKeyG K)) (cCd : Ca P w K mg base 2 "is_code" ["thing"] spCode) (cIs : Ca P w K mg base 4 "is_name" ["thing"] (spIsName K)) (cPl : Ca P w K mg base 5 "are_players" ["thing"] spPl) : FnOk P w K mg base CX0 6 f fd ["thing"] (spIe C CL) := by
  obtain ⟨_, gKEY_PARTS⟩ := T.cKEY_PARTS
  obtain ⟨_, gLONGEST_WORD⟩ := T.cLONGEST_WORD
  obtain ⟨_, gLONGEST_CODE⟩ := T.cLONGEST_CODE
  obtain ⟨_, gMOST_PLAYERS⟩ := T.cMOST_PLAYERS
  obtain ⟨_, gLAST_YEAR⟩ := T.cLAST_YEAR
  obtain ⟨_, gMONTHS⟩ := T.cMONTHS
  obtain ⟨_, gFEBRUARY⟩ := T.cFEBRUARY
  obtain ⟨_, gMOST_SECONDS⟩ := T.cMOST_SECONDS
  obtain ⟨_, gSHORTEST_TONGUE⟩ := T.cSHORTEST_TONGUE
  obtain ⟨_, gLONGEST_TONGUE⟩ := T.cLONGEST_TONGUE
  obtain ⟨_, gLONGEST_TEXT⟩ := T.cLONGEST_TEXT
  obtain ⟨_, gMOST_FIGURES⟩ := T.cMOST_FIGURES
  obtain ⟨_, gDAY_PARTS⟩ := T.cDAY_PARTS
  obtain ⟨_, gYEAR_FIGURES⟩ := T.cYEAR_FIGURES
  obtain ⟨_, gSMALL_LETTERS⟩ := T.cSMALL_LETTERS
  obtain ⟨_, gTEXT_SIGNS⟩ := T.cTEXT_SIGNS
  obtain ⟨_, gFIGURES⟩ := T.cFIGURES
  obtain ⟨_, gCODE_SIGNS⟩ := T.cCODE_SIGNS
  obtain ⟨aF, gF, oF, sF⟩ := T.fd
  refine D.fn.ok scIsEntry (fun vs H Q E h => ?_) (fun cdv A outer s H vs Q E hr h => ?_)
  · obtain ⟨t, e, rfl, h, se, q⟩ := h
    rfl
  · obtain ⟨t, e, rfl, h, se, q⟩ := h
    refine ⟨_, (pss_cons (ps_if (PW.pt (pw_or (pt_not (pt_val (pe_callB call_isi (by rfl) T.isi (by decide +kernel) (pa_cons (pv 0) (pa_cons (pe_bltn (v := .ty "tuple") (by rfl) T.tuple (by decide +kernel) rfl) pa_nil))))) (pw_or1 (pt_cmpR op_ne (pe_callB call_len_seq (by rfl) T.len PySem.boot_len (pa_cons (pv 0) pa_nil)) (pe_op op_add (pe_glob (v := .int 2) (by rfl) gKEY_PARTS ⟨_, rfl⟩) (pe_callB call_len_seq (by rfl) T.len PySem.boot_len (pa_cons (pe_glob (v := .ref aF) (by rfl) gF rfl) pa_nil))) (nomark _))))) (pss_one (ps_ret pe_bl)) pss_nil)
      (pss_cons (ps_asg (pv 0) (pg_tup (by rfl) (pgs_cons (pg_name (i := 1) scIsEntry.nd rfl (.inl rfl)) (pgs_cons (pg_name (i := 2) scIsEntry.nd rfl (.inl rfl)) (pgs_cons (pg_name (i := 3) scIsEntry.nd rfl (.inl rfl)) (pgs_cons (pg_name (i := 4) scIsEntry.nd rfl (.inl rfl)) (pgs_cons (pg_name (i := 5) scIsEntry.nd rfl (.inl rfl)) (pgs_cons (pg_name (i := 6) scIsEntry.nd rfl (.inl rfl)) (pgs_cons (pg_name (i := 7) scIsEntry.nd rfl (.inl rfl)) pgs_nil)))))))))
      (pss_one (ps_ret (pe_and (pe_ca cK hr (by decide) (by rfl) (pa_cons (pe_tup (pa_cons (pv 1) (pa_cons (pv 2) pa_nil))) pa_nil)) (pe_and (pe_or (pe_cmpR op_isN (pv 3) pe_non (nomark _)) (pe_one (pe_ca cCd hr (by decide) (by rfl) (pa_cons (pv 3) pa_nil)))) (pe_and (pe_or (pe_cmpR op_isN (pv 4) pe_non (nomark _)) (pe_one (pe_ca cIs hr (by decide) (by rfl) (pa_cons (pv 4) pa_nil)))) (pe_and (pe_or (pe_cmpR op_isN (pv 5) pe_non (nomark _)) (pe_one (pe_ca cPl hr (by decide) (by rfl) (pa_cons (pv 5) pa_nil)))) (pe_and (pe_or (pe_cmpR op_isN (pv 6) pe_non (nomark _)) (pe_one (pe_callB call_isi (by rfl) T.isi (by decide +kernel) (pa_cons (pv 6) (pa_cons (pe_glob (v := .ref C) (by rfl) T.mgC rfl) pa_nil))))) (pe_one (pe_or (pe_cmpR op_isN (pv 7) pe_non (nomark _)) (pe_one (pe_callB call_isi (by rfl) T.isi (by decide +kernel) (pa_cons (pv 7) (pa_cons (pe_glob (v := .ref CL) (by rfl) T.mgL rfl) pa_nil))))))))))))))), ?_⟩
    obtain ⟨v2, v3, v4, v5, v6, et, h2, h3, h4, h5, h6⟩ := id h
    refine ⟨_, rfl, _, _, _, _, true, rfl, .ty _, .base (.tup et), kit_ty (by decide +kernel), _, rfl, iteF ?_⟩
    refine ⟨_, rfl, t, _, rfl, .inr (SqT.of et), aF, flds.map V.str, rfl, .inr (sF H), 2, 5, rfl, rfl, rfl, _, rfl, iteF ?_⟩
    refine ⟨_, rfl, t, _, rfl, SqT.of et, rfl, _, _, rfl, _, _, rfl, _, _, rfl, _, _, rfl, _, _, rfl, _, _, rfl, _, _, rfl, rfl, ?_⟩
    refine ⟨_, rfl, _, rfl, (by show 2 ≤ sizeLine; decide), fun p np => ⟨.ref p, .tuple [.str e.k.1, .int e.k.2], rfl, .tup upd_same (.cons (.str _) (.cons (.int _) .nil)), ky_t2 se.gk, fun H1 s1 => ?_⟩⟩
    rw [ky_kyD se.gk]
    refine ⟨true, rfl, iteT ?_⟩
    have sa := (same_upd np (o := .tup [.str e.k.1, .int e.k.2])).trans s1
    obtain ⟨hc, z2⟩ | ⟨c, hc, z2⟩ : (e.code = none ∧ v2 = .non) ∨ ∃ c, e.code = some c ∧ v2 = .str c := by
      cases hc : e.code with
      | none => rw [hc] at h2; exact .inl ⟨rfl, h2⟩
      | some c => rw [hc] at h2; exact .inr ⟨c, rfl, h2⟩
    · rw [z2]
      refine ⟨_, rfl, rfl, true, rfl, iteT ⟨true, rfl, iteT ?_⟩⟩
      have sb := sa
      have hb : cdB e.code = true := by rw [hc]; rfl
      obtain ⟨ht, z3⟩ | ⟨n, ht, t3, z3, e3⟩ : (e.title = none ∧ v3 = .non) ∨ ∃ n, e.title = some n ∧ NmR H v3 (some n) := by
        cases ht : e.title with
        | none => rw [ht] at h3; exact .inl ⟨rfl, h3⟩
        | some n => rw [ht] at h3; exact .inr ⟨n, rfl, h3⟩
      · rw [z3]
        refine ⟨_, rfl, rfl, true, rfl, iteT ⟨true, rfl, iteT ?_⟩⟩
        have sc := sb
        obtain ⟨hp, z4⟩ | ⟨ps, hp, p4, x4, z4, e4, n4⟩ : (e.pl = none ∧ v4 = .non) ∨ ∃ ps, e.pl = some ps ∧ ∃ p xs, v4 = .ref p ∧ H p = some (.tup xs) ∧ NAs H xs ps := by
          cases hp : e.pl with
          | none => rw [hp] at h4; exact .inl ⟨rfl, h4⟩
          | some ps => rw [hp] at h4; exact .inr ⟨ps, rfl, h4⟩
        · rw [z4]
          refine ⟨_, rfl, rfl, true, rfl, iteT ⟨true, rfl, iteT ?_⟩⟩
          have sd := sc
          have q1 : ∀ H', L2.Same H H' → Q (.bl true) H' := fun H' s => by
            have z := q H' s
            rw [show okB e = true from by unfold okB; rw [hb, hp]; rfl] at z
            exact z
          obtain ⟨hd, z5⟩ | ⟨d5, hd, o5, z5, dx5, eo5⟩ : (e.day = none ∧ v5 = .non) ∨ ∃ d, e.day = some d ∧ ∃ o, v5 = .ref o ∧ DayAt C H o d.1 d.2.1 d.2.2 := by
            cases hd : e.day with
            | none => rw [hd] at h5; exact .inl ⟨rfl, h5⟩
            | some d => rw [hd] at h5; exact .inr ⟨d, rfl, h5⟩
          · rw [z5]
            refine ⟨_, rfl, rfl, true, rfl, iteT ⟨true, rfl, iteT ?_⟩⟩
            have se := sd
            obtain ⟨hl, z6⟩ | ⟨c6, hl, o6, z6, dx6, eo6⟩ : (e.len = none ∧ v6 = .non) ∨ ∃ c, e.len = some c ∧ ∃ o, v6 = .ref o ∧ LenAt CL H o c := by
              cases hl : e.len with
              | none => rw [hl] at h6; exact .inl ⟨rfl, h6⟩
              | some c => rw [hl] at h6; exact .inr ⟨c, rfl, h6⟩
            · rw [z6]
              exact ⟨_, rfl, rfl, true, rfl, iteT (q1 _ se)⟩
            · rw [z6]
              exact ⟨_, rfl, rfl, false, rfl, iteF ⟨_, rfl, _, _, _, _, true, rfl, .own CL, .base (.ins (se _ _ eo6) T.clL T.insL.ha T.insL.hn T.insL.htk T.insL.hm), T.meL, q1 _ se⟩⟩
          · rw [z5]
            refine ⟨_, rfl, rfl, false, rfl, iteF ⟨_, rfl, _, _, _, _, true, rfl, .own C, .base (.ins (sd _ _ eo5) T.cl T.ins.ha T.ins.hn T.ins.htk T.ins.hm), T.me, true, rfl, iteT ?_⟩⟩
            have se := sd
            obtain ⟨hl, z6⟩ | ⟨c6, hl, o6, z6, dx6, eo6⟩ : (e.len = none ∧ v6 = .non) ∨ ∃ c, e.len = some c ∧ ∃ o, v6 = .ref o ∧ LenAt CL H o c := by
              cases hl : e.len with
              | none => rw [hl] at h6; exact .inl ⟨rfl, h6⟩
              | some c => rw [hl] at h6; exact .inr ⟨c, rfl, h6⟩
            · rw [z6]
              exact ⟨_, rfl, rfl, true, rfl, iteT (q1 _ se)⟩
            · rw [z6]
              exact ⟨_, rfl, rfl, false, rfl, iteF ⟨_, rfl, _, _, _, _, true, rfl, .own CL, .base (.ins (se _ _ eo6) T.clL T.insL.ha T.insL.hn T.insL.htk T.insL.hm), T.meL, q1 _ se⟩⟩
        · rw [z4]
          obtain ⟨p1, p8, pn⟩ := se.gp ps hp
          refine ⟨_, rfl, rfl, false, rfl, iteF ⟨_, rfl, .ref p4, ps, rfl, ⟨p4, x4, rfl, sc _ _ e4, n4.tp fun b zs e => sc _ _ e⟩, p1, p8, pn, fun H4 s4 => ?_⟩⟩
          have sd := sc.trans s4
          cases hr2 : (decide (ps.length ≤ 8) && risB ps) with
          | false =>
            refine ⟨false, rfl, iteF ?_⟩
            have z := q H4 sd
            rw [show okB e = false from by unfold okB; rw [hb, hp]; exact hr2] at z
            exact z
          | true =>
            refine ⟨true, rfl, iteT ?_⟩
            have q1 : ∀ H', L2.Same H H' → Q (.bl true) H' := fun H' s => by
              have z := q H' s
              rw [show okB e = true from by unfold okB; rw [hb, hp]; exact hr2] at z
              exact z
            obtain ⟨hd, z5⟩ | ⟨d5, hd, o5, z5, dx5, eo5⟩ : (e.day = none ∧ v5 = .non) ∨ ∃ d, e.day = some d ∧ ∃ o, v5 = .ref o ∧ DayAt C H o d.1 d.2.1 d.2.2 := by
              cases hd : e.day with
              | none => rw [hd] at h5; exact .inl ⟨rfl, h5⟩
              | some d => rw [hd] at h5; exact .inr ⟨d, rfl, h5⟩
            · rw [z5]
              refine ⟨_, rfl, rfl, true, rfl, iteT ⟨true, rfl, iteT ?_⟩⟩
              have se := sd
              obtain ⟨hl, z6⟩ | ⟨c6, hl, o6, z6, dx6, eo6⟩ : (e.len = none ∧ v6 = .non) ∨ ∃ c, e.len = some c ∧ ∃ o, v6 = .ref o ∧ LenAt CL H o c := by
                cases hl : e.len with
                | none => rw [hl] at h6; exact .inl ⟨rfl, h6⟩
                | some c => rw [hl] at h6; exact .inr ⟨c, rfl, h6⟩
              · rw [z6]
                exact ⟨_, rfl, rfl, true, rfl, iteT (q1 _ se)⟩
              · rw [z6]
                exact ⟨_, rfl, rfl, false, rfl, iteF ⟨_, rfl, _, _, _, _, true, rfl, .own CL, .base (.ins (se _ _ eo6) T.clL T.insL.ha T.insL.hn T.insL.htk T.insL.hm), T.meL, q1 _ se⟩⟩
            · rw [z5]
              refine ⟨_, rfl, rfl, false, rfl, iteF ⟨_, rfl, _, _, _, _, true, rfl, .own C, .base (.ins (sd _ _ eo5) T.cl T.ins.ha T.ins.hn T.ins.htk T.ins.hm), T.me, true, rfl, iteT ?_⟩⟩
              have se := sd
              obtain ⟨hl, z6⟩ | ⟨c6, hl, o6, z6, dx6, eo6⟩ : (e.len = none ∧ v6 = .non) ∨ ∃ c, e.len = some c ∧ ∃ o, v6 = .ref o ∧ LenAt CL H o c := by
                cases hl : e.len with
                | none => rw [hl] at h6; exact .inl ⟨rfl, h6⟩
                | some c => rw [hl] at h6; exact .inr ⟨c, rfl, h6⟩
              · rw [z6]
                exact ⟨_, rfl, rfl, true, rfl, iteT (q1 _ se)⟩
              · rw [z6]
                exact ⟨_, rfl, rfl, false, rfl, iteF ⟨_, rfl, _, _, _, _, true, rfl, .own CL, .base (.ins (se _ _ eo6) T.clL T.insL.ha T.insL.hn T.insL.htk T.insL.hm), T.meL, q1 _ se⟩⟩
      · rw [z3]
        obtain ⟨dz, t2⟩ := na_nice (K := K) (show NA _ (.ref t3) n from ⟨t3, rfl, sb _ _ e3⟩) (se.gt n ht)
        refine ⟨_, rfl, rfl, false, rfl, iteF ⟨_, rfl, .ref t3, _, rfl, dz, t2, fun H3 s3 => ?_⟩⟩
        rw [nmD_ok (se.gt n ht)]
        refine ⟨true, rfl, iteT ?_⟩
        have sc := sb.trans s3
        obtain ⟨hp, z4⟩ | ⟨ps, hp, p4, x4, z4, e4, n4⟩ : (e.pl = none ∧ v4 = .non) ∨ ∃ ps, e.pl = some ps ∧ ∃ p xs, v4 = .ref p ∧ H p = some (.tup xs) ∧ NAs H xs ps := by
          cases hp : e.pl with
          | none => rw [hp] at h4; exact .inl ⟨rfl, h4⟩
          | some ps => rw [hp] at h4; exact .inr ⟨ps, rfl, h4⟩
        · rw [z4]
          refine ⟨_, rfl, rfl, true, rfl, iteT ⟨true, rfl, iteT ?_⟩⟩
          have sd := sc
          have q1 : ∀ H', L2.Same H H' → Q (.bl true) H' := fun H' s => by
            have z := q H' s
            rw [show okB e = true from by unfold okB; rw [hb, hp]; rfl] at z
            exact z
          obtain ⟨hd, z5⟩ | ⟨d5, hd, o5, z5, dx5, eo5⟩ : (e.day = none ∧ v5 = .non) ∨ ∃ d, e.day = some d ∧ ∃ o, v5 = .ref o ∧ DayAt C H o d.1 d.2.1 d.2.2 := by
            cases hd : e.day with
            | none => rw [hd] at h5; exact .inl ⟨rfl, h5⟩
            | some d => rw [hd] at h5; exact .inr ⟨d, rfl, h5⟩
          · rw [z5]
            refine ⟨_, rfl, rfl, true, rfl, iteT ⟨true, rfl, iteT ?_⟩⟩
            have se := sd
            obtain ⟨hl, z6⟩ | ⟨c6, hl, o6, z6, dx6, eo6⟩ : (e.len = none ∧ v6 = .non) ∨ ∃ c, e.len = some c ∧ ∃ o, v6 = .ref o ∧ LenAt CL H o c := by
              cases hl : e.len with
              | none => rw [hl] at h6; exact .inl ⟨rfl, h6⟩
              | some c => rw [hl] at h6; exact .inr ⟨c, rfl, h6⟩
            · rw [z6]
              exact ⟨_, rfl, rfl, true, rfl, iteT (q1 _ se)⟩
            · rw [z6]
              exact ⟨_, rfl, rfl, false, rfl, iteF ⟨_, rfl, _, _, _, _, true, rfl, .own CL, .base (.ins (se _ _ eo6) T.clL T.insL.ha T.insL.hn T.insL.htk T.insL.hm), T.meL, q1 _ se⟩⟩
          · rw [z5]
            refine ⟨_, rfl, rfl, false, rfl, iteF ⟨_, rfl, _, _, _, _, true, rfl, .own C, .base (.ins (sd _ _ eo5) T.cl T.ins.ha T.ins.hn T.ins.htk T.ins.hm), T.me, true, rfl, iteT ?_⟩⟩
            have se := sd
            obtain ⟨hl, z6⟩ | ⟨c6, hl, o6, z6, dx6, eo6⟩ : (e.len = none ∧ v6 = .non) ∨ ∃ c, e.len = some c ∧ ∃ o, v6 = .ref o ∧ LenAt CL H o c := by
              cases hl : e.len with
              | none => rw [hl] at h6; exact .inl ⟨rfl, h6⟩
              | some c => rw [hl] at h6; exact .inr ⟨c, rfl, h6⟩
            · rw [z6]
              exact ⟨_, rfl, rfl, true, rfl, iteT (q1 _ se)⟩
            · rw [z6]
              exact ⟨_, rfl, rfl, false, rfl, iteF ⟨_, rfl, _, _, _, _, true, rfl, .own CL, .base (.ins (se _ _ eo6) T.clL T.insL.ha T.insL.hn T.insL.htk T.insL.hm), T.meL, q1 _ se⟩⟩
        · rw [z4]
          obtain ⟨p1, p8, pn⟩ := se.gp ps hp
          refine ⟨_, rfl, rfl, false, rfl, iteF ⟨_, rfl, .ref p4, ps, rfl, ⟨p4, x4, rfl, sc _ _ e4, n4.tp fun b zs e => sc _ _ e⟩, p1, p8, pn, fun H4 s4 => ?_⟩⟩
          have sd := sc.trans s4
          cases hr2 : (decide (ps.length ≤ 8) && risB ps) with
          | false =>
            refine ⟨false, rfl, iteF ?_⟩
            have z := q H4 sd
            rw [show okB e = false from by unfold okB; rw [hb, hp]; exact hr2] at z
            exact z
          | true =>
            refine ⟨true, rfl, iteT ?_⟩
            have q1 : ∀ H', L2.Same H H' → Q (.bl true) H' := fun H' s => by
              have z := q H' s
              rw [show okB e = true from by unfold okB; rw [hb, hp]; exact hr2] at z
              exact z
            obtain ⟨hd, z5⟩ | ⟨d5, hd, o5, z5, dx5, eo5⟩ : (e.day = none ∧ v5 = .non) ∨ ∃ d, e.day = some d ∧ ∃ o, v5 = .ref o ∧ DayAt C H o d.1 d.2.1 d.2.2 := by
              cases hd : e.day with
              | none => rw [hd] at h5; exact .inl ⟨rfl, h5⟩
              | some d => rw [hd] at h5; exact .inr ⟨d, rfl, h5⟩
            · rw [z5]
              refine ⟨_, rfl, rfl, true, rfl, iteT ⟨true, rfl, iteT ?_⟩⟩
              have se := sd
              obtain ⟨hl, z6⟩ | ⟨c6, hl, o6, z6, dx6, eo6⟩ : (e.len = none ∧ v6 = .non) ∨ ∃ c, e.len = some c ∧ ∃ o, v6 = .ref o ∧ LenAt CL H o c := by
                cases hl : e.len with
                | none => rw [hl] at h6; exact .inl ⟨rfl, h6⟩
                | some c => rw [hl] at h6; exact .inr ⟨c, rfl, h6⟩
              · rw [z6]
                exact ⟨_, rfl, rfl, true, rfl, iteT (q1 _ se)⟩
              · rw [z6]
                exact ⟨_, rfl, rfl, false, rfl, iteF ⟨_, rfl, _, _, _, _, true, rfl, .own CL, .base (.ins (se _ _ eo6) T.clL T.insL.ha T.insL.hn T.insL.htk T.insL.hm), T.meL, q1 _ se⟩⟩
            · rw [z5]
              refine ⟨_, rfl, rfl, false, rfl, iteF ⟨_, rfl, _, _, _, _, true, rfl, .own C, .base (.ins (sd _ _ eo5) T.cl T.ins.ha T.ins.hn T.ins.htk T.ins.hm), T.me, true, rfl, iteT ?_⟩⟩
              have se := sd
              obtain ⟨hl, z6⟩ | ⟨c6, hl, o6, z6, dx6, eo6⟩ : (e.len = none ∧ v6 = .non) ∨ ∃ c, e.len = some c ∧ ∃ o, v6 = .ref o ∧ LenAt CL H o c := by
                cases hl : e.len with
                | none => rw [hl] at h6; exact .inl ⟨rfl, h6⟩
                | some c => rw [hl] at h6; exact .inr ⟨c, rfl, h6⟩
              · rw [z6]
                exact ⟨_, rfl, rfl, true, rfl, iteT (q1 _ se)⟩
              · rw [z6]
                exact ⟨_, rfl, rfl, false, rfl, iteF ⟨_, rfl, _, _, _, _, true, rfl, .own CL, .base (.ins (se _ _ eo6) T.clL T.insL.ha T.insL.hn T.insL.htk T.insL.hm), T.meL, q1 _ se⟩⟩
    · rw [z2]
      refine ⟨_, rfl, rfl, false, rfl, iteF ⟨_, rfl, c, rfl, se.gc c hc, fun H2 s2 => ?_⟩⟩
      have sb := sa.trans s2
      cases hb2 : ofT (.str c) codes 1 12 with
      | false =>
        refine ⟨false, rfl, iteF ?_⟩
        have z := q H2 sb
        rw [show okB e = false from by unfold okB; rw [hc]; show (ofT (.str c) codes 1 12 && plB e.pl) = false; rw [hb2]; rfl] at z
        exact z
      | true =>
        refine ⟨true, rfl, iteT ?_⟩
        have hb : cdB e.code = true := by rw [hc]; exact hb2
        obtain ⟨ht, z3⟩ | ⟨n, ht, t3, z3, e3⟩ : (e.title = none ∧ v3 = .non) ∨ ∃ n, e.title = some n ∧ NmR H v3 (some n) := by
          cases ht : e.title with
          | none => rw [ht] at h3; exact .inl ⟨rfl, h3⟩
          | some n => rw [ht] at h3; exact .inr ⟨n, rfl, h3⟩
        · rw [z3]
          refine ⟨_, rfl, rfl, true, rfl, iteT ⟨true, rfl, iteT ?_⟩⟩
          have sc := sb
          obtain ⟨hp, z4⟩ | ⟨ps, hp, p4, x4, z4, e4, n4⟩ : (e.pl = none ∧ v4 = .non) ∨ ∃ ps, e.pl = some ps ∧ ∃ p xs, v4 = .ref p ∧ H p = some (.tup xs) ∧ NAs H xs ps := by
            cases hp : e.pl with
            | none => rw [hp] at h4; exact .inl ⟨rfl, h4⟩
            | some ps => rw [hp] at h4; exact .inr ⟨ps, rfl, h4⟩
          · rw [z4]
            refine ⟨_, rfl, rfl, true, rfl, iteT ⟨true, rfl, iteT ?_⟩⟩
            have sd := sc
            have q1 : ∀ H', L2.Same H H' → Q (.bl true) H' := fun H' s => by
              have z := q H' s
              rw [show okB e = true from by unfold okB; rw [hb, hp]; rfl] at z
              exact z
            obtain ⟨hd, z5⟩ | ⟨d5, hd, o5, z5, dx5, eo5⟩ : (e.day = none ∧ v5 = .non) ∨ ∃ d, e.day = some d ∧ ∃ o, v5 = .ref o ∧ DayAt C H o d.1 d.2.1 d.2.2 := by
              cases hd : e.day with
              | none => rw [hd] at h5; exact .inl ⟨rfl, h5⟩
              | some d => rw [hd] at h5; exact .inr ⟨d, rfl, h5⟩
            · rw [z5]
              refine ⟨_, rfl, rfl, true, rfl, iteT ⟨true, rfl, iteT ?_⟩⟩
              have se := sd
              obtain ⟨hl, z6⟩ | ⟨c6, hl, o6, z6, dx6, eo6⟩ : (e.len = none ∧ v6 = .non) ∨ ∃ c, e.len = some c ∧ ∃ o, v6 = .ref o ∧ LenAt CL H o c := by
                cases hl : e.len with
                | none => rw [hl] at h6; exact .inl ⟨rfl, h6⟩
                | some c => rw [hl] at h6; exact .inr ⟨c, rfl, h6⟩
              · rw [z6]
                exact ⟨_, rfl, rfl, true, rfl, iteT (q1 _ se)⟩
              · rw [z6]
                exact ⟨_, rfl, rfl, false, rfl, iteF ⟨_, rfl, _, _, _, _, true, rfl, .own CL, .base (.ins (se _ _ eo6) T.clL T.insL.ha T.insL.hn T.insL.htk T.insL.hm), T.meL, q1 _ se⟩⟩
            · rw [z5]
              refine ⟨_, rfl, rfl, false, rfl, iteF ⟨_, rfl, _, _, _, _, true, rfl, .own C, .base (.ins (sd _ _ eo5) T.cl T.ins.ha T.ins.hn T.ins.htk T.ins.hm), T.me, true, rfl, iteT ?_⟩⟩
              have se := sd
              obtain ⟨hl, z6⟩ | ⟨c6, hl, o6, z6, dx6, eo6⟩ : (e.len = none ∧ v6 = .non) ∨ ∃ c, e.len = some c ∧ ∃ o, v6 = .ref o ∧ LenAt CL H o c := by
                cases hl : e.len with
                | none => rw [hl] at h6; exact .inl ⟨rfl, h6⟩
                | some c => rw [hl] at h6; exact .inr ⟨c, rfl, h6⟩
              · rw [z6]
                exact ⟨_, rfl, rfl, true, rfl, iteT (q1 _ se)⟩
              · rw [z6]
                exact ⟨_, rfl, rfl, false, rfl, iteF ⟨_, rfl, _, _, _, _, true, rfl, .own CL, .base (.ins (se _ _ eo6) T.clL T.insL.ha T.insL.hn T.insL.htk T.insL.hm), T.meL, q1 _ se⟩⟩
          · rw [z4]
            obtain ⟨p1, p8, pn⟩ := se.gp ps hp
            refine ⟨_, rfl, rfl, false, rfl, iteF ⟨_, rfl, .ref p4, ps, rfl, ⟨p4, x4, rfl, sc _ _ e4, n4.tp fun b zs e => sc _ _ e⟩, p1, p8, pn, fun H4 s4 => ?_⟩⟩
            have sd := sc.trans s4
            cases hr2 : (decide (ps.length ≤ 8) && risB ps) with
            | false =>
              refine ⟨false, rfl, iteF ?_⟩
              have z := q H4 sd
              rw [show okB e = false from by unfold okB; rw [hb, hp]; exact hr2] at z
              exact z
            | true =>
              refine ⟨true, rfl, iteT ?_⟩
              have q1 : ∀ H', L2.Same H H' → Q (.bl true) H' := fun H' s => by
                have z := q H' s
                rw [show okB e = true from by unfold okB; rw [hb, hp]; exact hr2] at z
                exact z
              obtain ⟨hd, z5⟩ | ⟨d5, hd, o5, z5, dx5, eo5⟩ : (e.day = none ∧ v5 = .non) ∨ ∃ d, e.day = some d ∧ ∃ o, v5 = .ref o ∧ DayAt C H o d.1 d.2.1 d.2.2 := by
                cases hd : e.day with
                | none => rw [hd] at h5; exact .inl ⟨rfl, h5⟩
                | some d => rw [hd] at h5; exact .inr ⟨d, rfl, h5⟩
              · rw [z5]
                refine ⟨_, rfl, rfl, true, rfl, iteT ⟨true, rfl, iteT ?_⟩⟩
                have se := sd
                obtain ⟨hl, z6⟩ | ⟨c6, hl, o6, z6, dx6, eo6⟩ : (e.len = none ∧ v6 = .non) ∨ ∃ c, e.len = some c ∧ ∃ o, v6 = .ref o ∧ LenAt CL H o c := by
                  cases hl : e.len with
                  | none => rw [hl] at h6; exact .inl ⟨rfl, h6⟩
                  | some c => rw [hl] at h6; exact .inr ⟨c, rfl, h6⟩
                · rw [z6]
                  exact ⟨_, rfl, rfl, true, rfl, iteT (q1 _ se)⟩
                · rw [z6]
                  exact ⟨_, rfl, rfl, false, rfl, iteF ⟨_, rfl, _, _, _, _, true, rfl, .own CL, .base (.ins (se _ _ eo6) T.clL T.insL.ha T.insL.hn T.insL.htk T.insL.hm), T.meL, q1 _ se⟩⟩
              · rw [z5]
                refine ⟨_, rfl, rfl, false, rfl, iteF ⟨_, rfl, _, _, _, _, true, rfl, .own C, .base (.ins (sd _ _ eo5) T.cl T.ins.ha T.ins.hn T.ins.htk T.ins.hm), T.me, true, rfl, iteT ?_⟩⟩
                have se := sd
                obtain ⟨hl, z6⟩ | ⟨c6, hl, o6, z6, dx6, eo6⟩ : (e.len = none ∧ v6 = .non) ∨ ∃ c, e.len = some c ∧ ∃ o, v6 = .ref o ∧ LenAt CL H o c := by
                  cases hl : e.len with
                  | none => rw [hl] at h6; exact .inl ⟨rfl, h6⟩
                  | some c => rw [hl] at h6; exact .inr ⟨c, rfl, h6⟩
                · rw [z6]
                  exact ⟨_, rfl, rfl, true, rfl, iteT (q1 _ se)⟩
                · rw [z6]
                  exact ⟨_, rfl, rfl, false, rfl, iteF ⟨_, rfl, _, _, _, _, true, rfl, .own CL, .base (.ins (se _ _ eo6) T.clL T.insL.ha T.insL.hn T.insL.htk T.insL.hm), T.meL, q1 _ se⟩⟩
        · rw [z3]
          obtain ⟨dz, t2⟩ := na_nice (K := K) (show NA _ (.ref t3) n from ⟨t3, rfl, sb _ _ e3⟩) (se.gt n ht)
          refine ⟨_, rfl, rfl, false, rfl, iteF ⟨_, rfl, .ref t3, _, rfl, dz, t2, fun H3 s3 => ?_⟩⟩
          rw [nmD_ok (se.gt n ht)]
          refine ⟨true, rfl, iteT ?_⟩
          have sc := sb.trans s3
          obtain ⟨hp, z4⟩ | ⟨ps, hp, p4, x4, z4, e4, n4⟩ : (e.pl = none ∧ v4 = .non) ∨ ∃ ps, e.pl = some ps ∧ ∃ p xs, v4 = .ref p ∧ H p = some (.tup xs) ∧ NAs H xs ps := by
            cases hp : e.pl with
            | none => rw [hp] at h4; exact .inl ⟨rfl, h4⟩
            | some ps => rw [hp] at h4; exact .inr ⟨ps, rfl, h4⟩
          · rw [z4]
            refine ⟨_, rfl, rfl, true, rfl, iteT ⟨true, rfl, iteT ?_⟩⟩
            have sd := sc
            have q1 : ∀ H', L2.Same H H' → Q (.bl true) H' := fun H' s => by
              have z := q H' s
              rw [show okB e = true from by unfold okB; rw [hb, hp]; rfl] at z
              exact z
            obtain ⟨hd, z5⟩ | ⟨d5, hd, o5, z5, dx5, eo5⟩ : (e.day = none ∧ v5 = .non) ∨ ∃ d, e.day = some d ∧ ∃ o, v5 = .ref o ∧ DayAt C H o d.1 d.2.1 d.2.2 := by
              cases hd : e.day with
              | none => rw [hd] at h5; exact .inl ⟨rfl, h5⟩
              | some d => rw [hd] at h5; exact .inr ⟨d, rfl, h5⟩
            · rw [z5]
              refine ⟨_, rfl, rfl, true, rfl, iteT ⟨true, rfl, iteT ?_⟩⟩
              have se := sd
              obtain ⟨hl, z6⟩ | ⟨c6, hl, o6, z6, dx6, eo6⟩ : (e.len = none ∧ v6 = .non) ∨ ∃ c, e.len = some c ∧ ∃ o, v6 = .ref o ∧ LenAt CL H o c := by
                cases hl : e.len with
                | none => rw [hl] at h6; exact .inl ⟨rfl, h6⟩
                | some c => rw [hl] at h6; exact .inr ⟨c, rfl, h6⟩
              · rw [z6]
                exact ⟨_, rfl, rfl, true, rfl, iteT (q1 _ se)⟩
              · rw [z6]
                exact ⟨_, rfl, rfl, false, rfl, iteF ⟨_, rfl, _, _, _, _, true, rfl, .own CL, .base (.ins (se _ _ eo6) T.clL T.insL.ha T.insL.hn T.insL.htk T.insL.hm), T.meL, q1 _ se⟩⟩
            · rw [z5]
              refine ⟨_, rfl, rfl, false, rfl, iteF ⟨_, rfl, _, _, _, _, true, rfl, .own C, .base (.ins (sd _ _ eo5) T.cl T.ins.ha T.ins.hn T.ins.htk T.ins.hm), T.me, true, rfl, iteT ?_⟩⟩
              have se := sd
              obtain ⟨hl, z6⟩ | ⟨c6, hl, o6, z6, dx6, eo6⟩ : (e.len = none ∧ v6 = .non) ∨ ∃ c, e.len = some c ∧ ∃ o, v6 = .ref o ∧ LenAt CL H o c := by
                cases hl : e.len with
                | none => rw [hl] at h6; exact .inl ⟨rfl, h6⟩
                | some c => rw [hl] at h6; exact .inr ⟨c, rfl, h6⟩
              · rw [z6]
                exact ⟨_, rfl, rfl, true, rfl, iteT (q1 _ se)⟩
              · rw [z6]
                exact ⟨_, rfl, rfl, false, rfl, iteF ⟨_, rfl, _, _, _, _, true, rfl, .own CL, .base (.ins (se _ _ eo6) T.clL T.insL.ha T.insL.hn T.insL.htk T.insL.hm), T.meL, q1 _ se⟩⟩
          · rw [z4]
            obtain ⟨p1, p8, pn⟩ := se.gp ps hp
            refine ⟨_, rfl, rfl, false, rfl, iteF ⟨_, rfl, .ref p4, ps, rfl, ⟨p4, x4, rfl, sc _ _ e4, n4.tp fun b zs e => sc _ _ e⟩, p1, p8, pn, fun H4 s4 => ?_⟩⟩
            have sd := sc.trans s4
            cases hr2 : (decide (ps.length ≤ 8) && risB ps) with
            | false =>
              refine ⟨false, rfl, iteF ?_⟩
              have z := q H4 sd
              rw [show okB e = false from by unfold okB; rw [hb, hp]; exact hr2] at z
              exact z
            | true =>
              refine ⟨true, rfl, iteT ?_⟩
              have q1 : ∀ H', L2.Same H H' → Q (.bl true) H' := fun H' s => by
                have z := q H' s
                rw [show okB e = true from by unfold okB; rw [hb, hp]; exact hr2] at z
                exact z
              obtain ⟨hd, z5⟩ | ⟨d5, hd, o5, z5, dx5, eo5⟩ : (e.day = none ∧ v5 = .non) ∨ ∃ d, e.day = some d ∧ ∃ o, v5 = .ref o ∧ DayAt C H o d.1 d.2.1 d.2.2 := by
                cases hd : e.day with
                | none => rw [hd] at h5; exact .inl ⟨rfl, h5⟩
                | some d => rw [hd] at h5; exact .inr ⟨d, rfl, h5⟩
              · rw [z5]
                refine ⟨_, rfl, rfl, true, rfl, iteT ⟨true, rfl, iteT ?_⟩⟩
                have se := sd
                obtain ⟨hl, z6⟩ | ⟨c6, hl, o6, z6, dx6, eo6⟩ : (e.len = none ∧ v6 = .non) ∨ ∃ c, e.len = some c ∧ ∃ o, v6 = .ref o ∧ LenAt CL H o c := by
                  cases hl : e.len with
                  | none => rw [hl] at h6; exact .inl ⟨rfl, h6⟩
                  | some c => rw [hl] at h6; exact .inr ⟨c, rfl, h6⟩
                · rw [z6]
                  exact ⟨_, rfl, rfl, true, rfl, iteT (q1 _ se)⟩
                · rw [z6]
                  exact ⟨_, rfl, rfl, false, rfl, iteF ⟨_, rfl, _, _, _, _, true, rfl, .own CL, .base (.ins (se _ _ eo6) T.clL T.insL.ha T.insL.hn T.insL.htk T.insL.hm), T.meL, q1 _ se⟩⟩
              · rw [z5]
                refine ⟨_, rfl, rfl, false, rfl, iteF ⟨_, rfl, _, _, _, _, true, rfl, .own C, .base (.ins (sd _ _ eo5) T.cl T.ins.ha T.ins.hn T.ins.htk T.ins.hm), T.me, true, rfl, iteT ?_⟩⟩
                have se := sd
                obtain ⟨hl, z6⟩ | ⟨c6, hl, o6, z6, dx6, eo6⟩ : (e.len = none ∧ v6 = .non) ∨ ∃ c, e.len = some c ∧ ∃ o, v6 = .ref o ∧ LenAt CL H o c := by
                  cases hl : e.len with
                  | none => rw [hl] at h6; exact .inl ⟨rfl, h6⟩
                  | some c => rw [hl] at h6; exact .inr ⟨c, rfl, h6⟩
                · rw [z6]
                  exact ⟨_, rfl, rfl, true, rfl, iteT (q1 _ se)⟩
                · rw [z6]
                  exact ⟨_, rfl, rfl, false, rfl, iteF ⟨_, rfl, _, _, _, _, true, rfl, .own CL, .base (.ins (se _ _ eo6) T.clL T.insL.ha T.insL.hn T.insL.htk T.insL.hm), T.meL, q1 _ se⟩⟩
end
end K64
set_option Elab.async false
set_option linter.all false
set_option maxRecDepth 100000
set_option maxHeartbeats 4000000
set_option pp.maxSteps 400
set_option pp.deepTerms false
namespace K64
open PySem PySem.Spec PyProof.Rows L2
open Xk Az Xtx Xkd Xst Xsp
section
variable {P : Program} {w : World} {K : PySem.W.Frag} {mg : Str → Option Value} {base : Heap} {C CL : Addr}
theorem r65 {A : Around} {k : Nat} (hr : Room k A) : A.units + 65 < cLine := by have := hr.un; omega
theorem split_S {x j : Str} (hy : TL.tl j ≠ []) (hk : j.cps.all (· < 256) = true) : S j (Txt.split x j) = x.length + j.length := by
  have p := split_pos (x := x) hy hk
  have e := join_split (x := x) hy hk
  rw [TL.join_eq] at e
  rw [← join_S j (Txt.split x j) (fun z => by rw [z] at p; cases p), e]
theorem S_cnt {j : Str} : ∀ ps : List Str, ps.length * j.length ≤ S j ps
  | [] => by simp
  | p :: r => by
    have ih := S_cnt (j := j) r
    unfold S at ih ⊢
    rw [List.map_cons, List.sum_cons, List.length_cons, Nat.succ_mul]
    omega
theorem cb_ne : TL.tl ", " ≠ [] := by rw [tl_cb]; simp
theorem cb_256 : (", " : Str).cps.all (· < 256) = true := by decide +kernel
theorem fn_all {k N : Nat} {f : Addr} {fd : FuncData} {ps : List Str} {sp : Nat → Sp} (F : ∀ n, n ≤ N → FnOk P w K mg base CX0 k f fd ps (sp n)) : FnOk P w K mg base CX0 k f fd ps (fun vs H Q E => ∃ n, n ≤ N ∧ sp n vs H Q E) :=
  ⟨fun vs H Q E ⟨n, h, q⟩ => (F n h).len vs H Q E q, fun A outer s H args us vs Q E hr e0 hb hv ⟨n, h, q⟩ => (F n h).run A outer s H args us vs Q E hr e0 hb hv q⟩
theorem nas_dp {K : PySem.W.Frag} {H : Hp} : ∀ {vs : List V} {ns : List (Str × Str)}, NAs H vs ns → DpAll K H vs (ns.map NP)
  | _, _, .nil => .nil
  | _, _, .cons h r => by
    obtain ⟨t, rfl, et⟩ := h
    exact .cons (.tup (SqT.of et) (.cons (.str _) (.cons (.str _) .nil))) (nas_dp r)
theorem strOk_of {y : Str} (h : ∀ c ∈ y.cps.toList, c < 256) : PyData.strOk y = true := by
  unfold PyData.strOk
  rw [← Array.all_toList, List.all_eq_true]
  exact fun c hc => decide_eq_true (Nat.lt_of_lt_of_le (h c hc) (by decide))
theorem nm_ok2 {n : Str × Str} (ok : NmOk n) : PyData.strOk n.1 = true ∧ PyData.strOk n.2 = true := by
  have g : ∀ c ∈ small.cps.toList, c < 256 := by decide +kernel
  have g2 : ∀ c ∈ signs.cps.toList, c < 256 := by decide +kernel
  exact ⟨strOk_of fun c hc => g c (ok.ts c hc), strOk_of fun c hc => g2 c (ok.tx.sg c hc)⟩
theorem nas_lay : ∀ {ns : List (Str × Str)}, (∀ n ∈ ns, NmOk n) → PyData.canLayAll0 (ns.map NP) = true ∧ PyData.depthAll (ns.map NP) ≤ 3
  | [], _ => ⟨by simp [PyData.canLayAll0], by simp [PyData.depthAll]⟩
  | n :: r, h => by
    obtain ⟨a, b⟩ := nas_lay (ns := r) fun z hz => h z (List.mem_cons_of_mem _ hz)
    obtain ⟨w1, w2⟩ := nm_ok2 (h n List.mem_cons_self)
    constructor
    · simp [PyData.canLayAll0, PyData.canLay0, NP, a, w1, w2]
    · simp only [List.map_cons, NP, PyData.depthAll, PyData.depth]
      omega
theorem nas_shaped {ns : List (Str × Str)} (h : ∀ n ∈ ns, NmOk n) : SeqAt.shaped (.list (ns.map NP)) = true := by
  obtain ⟨a, b⟩ := nas_lay h
  unfold SeqAt.shaped
  have h1 : (PyData.list (ns.map NP)).canLay0 = true := by simp only [PyData.canLay0]; exact a
  have h2 : (PyData.list (ns.map NP)).depth ≤ 64 := by simp only [PyData.depth]; omega
  rw [h1, decide_eq_true h2]
  rfl
def nmP : Option (Str × Str) → PyData
  | none => .none
  | some n => NP n
/-- names or None, where they stand -/
inductive NOs (H : Hp) : List V → List (Option (Str × Str)) → Prop
  | nil : NOs H [] []
  | cons {v : V} {vs : List V} {o : Option (Str × Str)} {os : List (Option (Str × Str))} (h : NmR H v o) (r : NOs H vs os) : NOs H (v :: vs) (o :: os)
theorem NmR.tp {H H' : Hp} {v : V} {o : Option (Str × Str)} (h : NmR H v o) (s : ∀ b xs, H b = some (.tup xs) → H' b = some (.tup xs)) : NmR H' v o := by
  cases o with
  | none => exact h
  | some n => obtain ⟨t, e, et⟩ := h; exact ⟨t, e, s _ _ et⟩
theorem NOs.tp {H H' : Hp} (s : ∀ b xs, H b = some (.tup xs) → H' b = some (.tup xs)) : ∀ {vs : List V} {os : List (Option (Str × Str))}, NOs H vs os → NOs H' vs os
  | _, _, .nil => .nil
  | _, _, .cons h r => .cons (h.tp s) (r.tp s)
theorem NOs.len {H : Hp} : ∀ {vs : List V} {os : List (Option (Str × Str))}, NOs H vs os → vs.length = os.length
  | _, _, .nil => rfl
  | _, _, .cons _ r => congrArg Nat.succ r.len
theorem NOs.snoc {H : Hp} {v : V} {o : Option (Str × Str)} (h2 : NmR H v o) : ∀ {vs : List V} {os : List (Option (Str × Str))}, NOs H vs os → NOs H (vs ++ [v]) (os ++ [o])
  | _, _, .nil => .cons h2 .nil
  | _, _, .cons h r => .cons h (r.snoc h2)
theorem NOs.dp {K : PySem.W.Frag} {H : Hp} : ∀ {vs : List V} {os : List (Option (Str × Str))}, NOs H vs os → DpAll K H vs (os.map nmP)
  | _, _, .nil => .nil
  | _, _, .cons (o := none) h r => by
    cases (show _ = V.non from h)
    exact .cons .non r.dp
  | _, _, .cons (o := some n) h r => by
    obtain ⟨t, rfl, et⟩ := h
    exact .cons (.tup (SqT.of et) (.cons (.str _) (.cons (.str _) .nil))) r.dp
theorem NOs.all {H : Hp} : ∀ {vs : List V} {ps : List (Str × Str)}, NOs H vs (ps.map some) → NAs H vs ps
  | _, [], .nil => .nil
  | _, p :: r, .cons h z => .cons h z.all
theorem nos_lay : ∀ {os : List (Option (Str × Str))}, (∀ n, some n ∈ os → NmOk n) → PyData.canLayAll0 (os.map nmP) = true ∧ PyData.depthAll (os.map nmP) ≤ 3
  | [], _ => ⟨by simp [PyData.canLayAll0], by simp [PyData.depthAll]⟩
  | o :: r, h => by
    obtain ⟨a, b⟩ := nos_lay (os := r) fun z hz => h z (List.mem_cons_of_mem _ hz)
    cases o with
    | none =>
      constructor
      · simp [PyData.canLayAll0, PyData.canLay0, nmP, a]
      · simp only [List.map_cons, nmP, PyData.depthAll, PyData.depth]
        omega
    | some n =>
      obtain ⟨w1, w2⟩ := nm_ok2 (h n List.mem_cons_self)
      constructor
      · simp [PyData.canLayAll0, PyData.canLay0, nmP, NP, a, w1, w2]
      · simp only [List.map_cons, nmP, NP, PyData.depthAll, PyData.depth]
        omega
theorem nos_shaped {os : List (Option (Str × Str))} (h : ∀ n, some n ∈ os → NmOk n) : SeqAt.shaped (.list (os.map nmP)) = true := by
  obtain ⟨a, b⟩ := nos_lay h
  unfold SeqAt.shaped
  have h1 : (PyData.list (os.map nmP)).canLay0 = true := by simp only [PyData.canLay0]; exact a
  have h2 : (PyData.list (os.map nmP)).depth ≤ 64 := by simp only [PyData.depth]; omega
  rw [h1, decide_eq_true h2]
  rfl
theorem any_none : ∀ os : List (Option (Str × Str)), ((os.map nmP).any fun z => PyData.eqv z .none) = decide (none ∈ os)
  | [] => by simp
  | none :: r => by simp [nmP, PyData.eqv]
  | some n :: r => by
    have ih := any_none r
    rw [List.map_cons, List.any_cons, ih]
    have e : PyData.eqv (nmP (some n)) .none = false := by simp [nmP, NP, PyData.eqv]
    rw [e, Bool.false_or, Bool.eq_iff_iff]
    simp
theorem map_nm_ok {xs : List Str} : ∀ n, some n ∈ xs.map nmF → NmOk n := fun n h => by
  obtain ⟨x, _, e⟩ := List.mem_map.mp h
  exact (nmF_back e).1
theorem none_shaped : SeqAt.shaped .none = true := by
  unfold SeqAt.shaped
  have h1 : PyData.none.canLay0 = true := by simp [PyData.canLay0]
  have h2 : PyData.none.depth ≤ 64 := by simp [PyData.depth]
  rw [h1, decide_eq_true h2]
  rfl
theorem Fv.tl {H H' : Hp} {e : En} {i : Nat} {v : V} (h : Fv C CL H e i v) (s : ∀ b o, H b = some o → (∀ ys, o ≠ HO.lst ys) → H' b = some o) : Fv C CL H' e i v := by
  match i, h with
  | 0, h => exact h
  | 1, h =>
    have h2 : NmR H v e.title := h
    show NmR H' v e.title
    cases ee : e.title with
    | none => rw [ee] at h2; exact h2
    | some n => rw [ee] at h2; obtain ⟨t, z, et⟩ := h2; exact ⟨t, z, s _ _ et fun ys w => by cases w⟩
  | 2, h =>
    have h2 : PlO H v e.pl := h
    show PlO H' v e.pl
    cases ee : e.pl with
    | none => rw [ee] at h2; exact h2
    | some n => rw [ee] at h2; obtain ⟨t, xs, z, et, na⟩ := h2; exact ⟨t, xs, z, s _ _ et (fun ys w => by cases w), na.tp fun b ys eb => s _ _ eb fun zs w => by cases w⟩
  | 3, h =>
    have h2 : DyO C H v e.day := h
    show DyO C H' v e.day
    cases ee : e.day with
    | none => rw [ee] at h2; exact h2
    | some n => rw [ee] at h2; obtain ⟨t, z, dx, et⟩ := h2; exact ⟨t, z, dx, s _ _ et fun ys w => by cases w⟩
  | 4, h =>
    have h2 : LnO CL H v e.len := h
    show LnO CL H' v e.len
    cases ee : e.len with
    | none => rw [ee] at h2; exact h2
    | some n => rw [ee] at h2; obtain ⟨t, z, dx, et⟩ := h2; exact ⟨t, z, dx, s _ _ et fun ys w => by cases w⟩
/-- the fields' values, one behind another -/
def Fvs (C CL : Addr) (H : Hp) (e : En) (vs : List V) : Prop := ∀ i v, vs[i]? = some v → Fv C CL H e i v
theorem decS (x y : Str) : decide (V.str x = V.str y) = decide (x = y) := by
  rw [decide_eq_decide]
  exact ⟨fun e => by injection e, fun e => by rw [e]⟩
/-- what a text tells in a field -/
def FvO (C CL : Addr) : Nat → Option Str → Hp → V → Prop
  | _, none => fun _ v => v = .non
  | 0, some t => fun _ v => v = .str t
  | 1, some t => fun H v => NmR H v (nmF t)
  | 2, some t => fun H v => PlO H v (plF t)
  | 3, some t => fun H v => DyO C H v (dyF t)
  | _, some t => fun H v => LnO CL H v (lnF t)
theorem fv_se {H : Hp} {k : Ky} {ps : List Str} {i : Nat} (hi : i < 5) {v : V} (h : FvO C CL i (cutp i ps) H v) : Fv C CL H (seOf k ps) i v := by
  match i, hi, h with
  | 0, _, h =>
    show v = cV (cutp 0 ps)
    cases e : cutp 0 ps with
    | none => rw [e] at h; exact h
    | some t => rw [e] at h; exact h
  | 1, _, h =>
    show NmR H v ((cutp 1 ps).bind nmF)
    cases e : cutp 1 ps with
    | none => rw [e] at h; exact h
    | some t => rw [e] at h; exact h
  | 2, _, h =>
    show PlO H v ((cutp 2 ps).bind plF)
    cases e : cutp 2 ps with
    | none => rw [e] at h; exact h
    | some t => rw [e] at h; exact h
  | 3, _, h =>
    show DyO C H v ((cutp 3 ps).bind dyF)
    cases e : cutp 3 ps with
    | none => rw [e] at h; exact h
    | some t => rw [e] at h; exact h
  | 4, _, h =>
    show LnO CL H v ((cutp 4 ps).bind lnF)
    cases e : cutp 4 ps with
    | none => rw [e] at h; exact h
    | some t => rw [e] at h; exact h
def spAi (fN : Addr) : Sp := fun vs H Q _ => ∃ (x : Str), vs = [.ref fN, .str x] ∧ x.length ≤ 50000 ∧ ∀ v H', L2.Same H H' → PlO H' v (plF x) → Q v H'
def spNsi : Sp := fun vs H Q _ => ∃ (x : Str), vs = [.str x] ∧ x.length ≤ 50000 ∧ ∀ v H', L2.Same H H' → PlO H' v (plF x) → Q v H'
def spCi : Sp := fun vs H Q _ => ∃ (c : Str), vs = [.str c] ∧ Q (.str c) H
/-- what a field's reader promises -/
def spRt (C CL : Addr) (i : Nat) : Sp := fun vs H Q _ => ∃ (t : Str), vs = [.str t] ∧ t.length ≤ 50000 ∧ ∀ v H', L2.Same H H' → FvO C CL i (some t) H' v → Q v H'
def spTi (C CL : Addr) (i : Nat) : Sp := fun vs H Q _ => ∃ (ps : List Str) (L : Addr), vs = [.str (fldN i), .ref L] ∧ ps.length ≤ 50001 ∧ (∀ p ∈ ps, p.length ≤ 50000) ∧ H L = some (.lst (ps.map V.str)) ∧ ∀ v H', L2.Same H H' → FvO C CL i (cutp i ps) H' v → Q v H'
def spTiA (C CL : Addr) : Sp := fun vs H Q E => ∃ i, i ≤ 4 ∧ spTi C CL i vs H Q E
def EnO (C CL : Addr) (H : Hp) (v : V) : Option En → Prop
  | none => v = .non
  | some e => OkE e ∧ ∃ t, v = .ref t ∧ EnAt C CL H t e
/-- what entry_in finds -/
def RE (C CL : Addr) (x : Str) (H : Hp) (v : V) : Prop := EnO C CL H v (enP x)
theorem RE_v {C CL : Addr} : ∀ x H v, RE C CL x H v → v = .non ∨ ∃ o, v = .ref o := fun x H v h => by
  unfold RE at h
  cases e : enP x with
  | none => rw [e] at h; exact .inl h
  | some n => rw [e] at h; obtain ⟨_, t, e, _⟩ := h; exact .inr ⟨t, e⟩
theorem rt_code {vs : List V} {H : Hp} {Q : VK} {E : XK} (h : spRt C CL 0 vs H Q E) : spCi vs H Q E := by
  obtain ⟨t, rfl, _, q⟩ := h
  exact ⟨t, rfl, q _ H (Same.refl H) rfl⟩
theorem rt_name {vs : List V} {H : Hp} {Q : VK} {E : XK} (h : spRt C CL 1 vs H Q E) : spNi vs H Q E := by
  obtain ⟨t, rfl, lt, q⟩ := h
  exact ⟨t, rfl, lt, fun v H' s r => q v H' s r⟩
theorem rt_names {vs : List V} {H : Hp} {Q : VK} {E : XK} (h : spRt C CL 2 vs H Q E) : spNsi vs H Q E := by
  obtain ⟨t, rfl, lt, q⟩ := h
  exact ⟨t, rfl, lt, fun v H' s r => q v H' s r⟩
theorem rt_day {vs : List V} {H : Hp} {Q : VK} {E : XK} (h : spRt C CL 3 vs H Q E) : spDi C vs H Q E := by
  obtain ⟨t, rfl, lt, q⟩ := h
  refine ⟨_, rfl, lt, fun y m d g ex o H' s da => q _ H' s ?_, fun no H' s => q _ H' s ?_⟩
  · show DyO C H' (.ref o) (dyF t)
    rw [ex, dyF_ok g]
    exact ⟨o, rfl, da⟩
  · show DyO C H' .non (dyF t)
    rw [dyF_no no]
    rfl
theorem rt_len {vs : List V} {H : Hp} {Q : VK} {E : XK} (h : spRt C CL 4 vs H Q E) : spLi CL vs H Q E := by
  obtain ⟨t, rfl, lt, q⟩ := h
  refine ⟨_, rfl, lt, fun c h0 h1 ex o H' s da => q _ H' s ?_, fun no H' s => q _ H' s ?_⟩
  · show LnO CL H' (.ref o) (lnF t)
    rw [ex, lnF_ok h0 h1]
    exact ⟨o, rfl, da⟩
  · show LnO CL H' .non (lnF t)
    rw [lnF_no no]
    rfl
theorem FvO_none {i : Nat} {H : Hp} : FvO C CL i none H .non := by
  match i with
  | 0 => rfl
  | 1 => rfl
  | 2 => rfl
  | 3 => rfl
  | n + 4 => rfl
def spE (C CL : Addr) : Sp := fun vs H Q _ => ∃ (x : Str), vs = [.str x] ∧ x.length ≤ 30000 ∧ ∀ v H', L2.Same H H' → RE C CL x H' v → Q v H'
theorem ok_ai {f : Addr} {fd : FuncData} {e : Ex} {fR : Addr} (D : Df K mg "all_in" ["reader", "text"] sAllIn f fd) (T : Txt K mg C CL e) (kR : PySem.W.keepIn K (.ref fR) = true) (RR : FnR P w K mg base CX0 5 fR spNi) : FnOk P w K mg base CX0 6 f fd ["reader", "text"] (spAi fR) := by
  refine D.fn.ok scAllIn (fun vs H Q E h => ?_) (fun cdv A outer s H vs Q E hr h => ?_)
  · obtain ⟨x, rfl, lx, q⟩ := h
    rfl
  · obtain ⟨x, rfl, lx, q⟩ := h
    refine ⟨_, (pss_cons (ps_setLc (i := 2) (own := [("piece", 3)]) (g := gName 3) (tt := tYes) (te := ItX.tCallV 0 fR spNi E0 (tCons (tVar 3) tNil)) (by rfl) scAllIn.nd rfl rfl (sw_true rfl rfl rfl (by decide +kernel)) (pi_list (pe_m1 F.slot_str_split F.type_str_split mt_split (pv 1) pe_str)) (blkOk_by (own := [("piece", 3)]) (N := ["reader", "text", "things", "piece"]) (sc := defScope sAllIn) (by decide +kernel)) (fun _ _ _ _ _ => pg_name (i := 3) scAllIn.nd rfl (.inl rfl)) (fun _ _ _ _ _ => pts_nil) (fun _ _ _ _ _ => ItX.pe_callV (i := 0) RR hr kR pass0 (by rfl) (by first | exact Or.inl rfl | exact Or.inr (Or.inl rfl) | exact Or.inr (Or.inr rfl)) (pa_cons (pv 3) pa_nil)))
      (pss_one (ps_ret (pe_ifExp (pt_cmpR (op_inD (r65 hr)) pe_non (pv 2) (by rfl)) pe_non (pe_callTy call_tuple_of (by rfl) T.tuple (by decide +kernel) (pa_cons (pv 2) pa_nil)))))), ?_⟩
    obtain ⟨pl1, pl2⟩ := split_len (x := x) cb_ne cb_256
    refine ⟨_, rfl, ⟨_, rfl⟩, x, ", ", rfl, rfl, rfl, Nat.le_trans (show _ ≤ 60000 by omega) (by decide), fun S nS => ?_⟩
    have sS := same_upd nS (o := .lst ((Txt.split x ", ").map V.str))
    have eS : (L2.upd H S (.lst ((Txt.split x ", ").map V.str))) S = some (.lst ((Txt.split x ", ").map V.str)) := upd_same
    generalize L2.upd H S (.lst ((Txt.split x ", ").map V.str)) = H1 at sS eS ⊢
    refine ⟨S, rfl, ⟨_, SqL.of eS⟩, fun W nW => ?_⟩
    refine lc_list (K := K) (a := S) (xs := (Txt.split x ", ").map V.str) (fun i Hi => L2.Same H1 Hi ∧ ∃ vs, Hi W = some (.lst vs) ∧ NOs Hi vs (((Txt.split x ", ").take i).map nmF)) ⟨same_upd nW, [], upd_same, .nil⟩ (fun i Hi _ z => SqL.of (z.1 _ _ eS)) ?_ ?_
    · rintro i v Hi hv ⟨sm, vs, eW, oa⟩
      rw [List.getElem?_map] at hv
      obtain ⟨p, ep, rfl⟩ := Option.map_eq_some_iff.mp hv
      have il := (List.getElem?_eq_some_iff.mp ep).1
      have lp := pl2 p (List.mem_of_getElem? ep)
      refine ⟨rfl, ?_⟩
      unfold tYes
      refine iteT ⟨rfl, _, rfl, p, rfl, by omega, fun v H2 s2 r => ?_⟩
      have r2 : NmR H2 v (nmF p) := r
      have eW2 := s2 _ _ eW
      have vl := oa.len
      rw [List.length_map, List.length_take] at vl
      have tp : ∀ b xs, H2 b = some (.tup xs) → (L2.upd H2 W (.lst (vs ++ [v]))) b = some (.tup xs) := fun b xs e => by
        rw [upd_ne (ne_of e eW2 (by intro z; cases z))]
        exact e
      refine ⟨vs, eW2, ?_, fun b o e => ?_, vs ++ [v], upd_same, ?_⟩
      · exact Nat.lt_of_le_of_lt (show vs.length ≤ 50001 by omega) (by decide)
      · rw [upd_ne (ne_of_none e nW)]
        exact s2 _ _ (sm _ _ e)
      · rw [List.take_add_one, ep]
        show NOs _ (vs ++ [v]) ((((Txt.split x ", ").take i) ++ [p]).map nmF)
        rw [List.map_append]
        exact ((oa.tp fun b xs e => s2 _ _ e).tp tp).snoc (r2.tp tp)
    rintro H2 ⟨s2, vs, eW, oa⟩
    rw [List.take_of_length_le (by rw [List.length_map]; exact Nat.le_refl _)] at oa
    have s02 := sS.trans s2
    refine ⟨_, rfl, .none, _, .non, .lst (SqL.of eW) oa.dp, none_shaped, nos_shaped map_nm_ok, ?_⟩
    rw [any_none]
    cases hd : decide (none ∈ (Txt.split x ", ").map nmF) with
    | true =>
      have e : plF x = none := allS_none.mpr (of_decide_eq_true hd)
      refine ⟨true, rfl, iteT (q _ _ s02 ?_)⟩
      rw [e]
      rfl
    | false =>
      obtain ⟨ps, e⟩ : ∃ ps, plF x = some ps := by
        cases e : plF x with
        | none => exact absurd (allS_none.mp e) (of_decide_eq_false hd)
        | some ps => exact ⟨ps, rfl⟩
      rw [allS_some.mp e] at oa
      have na := oa.all
      refine ⟨false, rfl, iteF ⟨_, rfl, W, vs, rfl, .inl ⟨SqL.of eW, fun t nt => ?_⟩⟩⟩
      have st := same_upd nt (o := .tup vs)
      refine q _ _ (s02.trans st) ?_
      rw [e]
      exact ⟨t, vs, rfl, upd_same, na.tp fun b xs e => st _ _ e⟩
theorem ok_nsi {f : Addr} {fd : FuncData} {e : Ex} {fR : Addr} (D : Df K mg "names_in" ["text"] sNamesIn f fd) (T : Txt K mg C CL e) (cAi : Ca P w K mg base 6 "all_in" ["reader", "text"] (spAi fR)) (gR : mg "name_in" = some (.ref fR)) : FnOk P w K mg base CX0 7 f fd ["text"] spNsi := by
  refine D.fn.ok scNamesIn (fun vs H Q E h => ?_) (fun cdv A outer s H vs Q E hr h => ?_)
  · obtain ⟨x, rfl, lx, q⟩ := h
    rfl
  · obtain ⟨x, rfl, lx, q⟩ := h
    refine ⟨_, (pss_one (ps_ret (pe_ca cAi hr (by decide) (by rfl) (pa_cons (pe_glob (v := .ref fR) (by rfl) gR rfl) (pa_cons (pv 0) pa_nil))))), ?_⟩
    exact ⟨_, rfl, x, rfl, lx, q⟩
theorem ok_ci {f : Addr} {fd : FuncData} {e : Ex} (D : Df K mg "code_in" ["text"] sCodeIn f fd) (T : Txt K mg C CL e) : FnOk P w K mg base CX0 1 f fd ["text"] spCi := by
  refine D.fn.ok scCodeIn (fun vs H Q E h => ?_) (fun cdv A outer s H vs Q E hr h => ?_)
  · obtain ⟨c, rfl, q⟩ := h
    rfl
  · obtain ⟨c, rfl, q⟩ := h
    refine ⟨_, (pss_one (ps_ret (pv 0))), ?_⟩
    exact ⟨_, rfl, q⟩
theorem ok_ti {f : Addr} {fd : FuncData} {e : Ex} {rds : List V} {fR : Addr} (D : Df K mg "told_in" ["field", "pieces"] sToldIn f fd) (T : Txt K mg C CL e) (WK : Kd K w mg "FIELD_WORDS" (wrds.map V.str)) (RK : Kd K w mg "FIELD_READERS" rds) {i : Nat} (i5 : i < 5) (hv : rds[i]? = some (.ref fR)) (kR : PySem.W.keepIn K (.ref fR) = true) (RR : FnR P w K mg base CX0 7 fR (spRt C CL i)) : FnOk P w K mg base CX0 8 f fd ["field", "pieces"] (spTi C CL i) := by
  obtain ⟨aW, esW, nW, gW, lW, kW, fW⟩ := WK.ex
  obtain ⟨aR, esR, nR, gR, lR, kRd, fRd⟩ := RK.ex
  refine D.fn.ok scToldIn (fun vs H Q E h => ?_) (fun cdv A outer s H vs Q E hr h => ?_)
  · obtain ⟨ps, L, rfl, l5, pl, eL, q⟩ := h
    rfl
  · obtain ⟨ps, L, rfl, l5, pl, eL, q⟩ := h
    refine ⟨_, (pss_cons (ps_set (i := 2) scToldIn.nd rfl (.inl rfl) (pe_op op_add_str (pe_kd (pe_glob (v := .ref aW) (by rfl) gW rfl) (pv 0) (fun _ _ => rfl)) pe_str))
      (pss_cons (ps_set (i := 3) scToldIn.nd rfl (.inl rfl) (pe_kd (pe_glob (v := .ref aR) (by rfl) gR rfl) (pv 0) (fun _ _ => rfl)))
      (pss_cons (ps_for PassesOwn.never rfl (pi_list (pv 1)) (pg_name (i := 4) scToldIn.nd rfl (.inl rfl)) (pss_one (ps_if (pt_val (pe_m1 F.slot_str_startswith F.type_str_startswith mt_startswith (pv 4) (pv 2))) (pss_one (ps_ret (ItX.pe_callV (i := 3) RR hr kR pass0 (by rfl) (by first | exact Or.inl rfl | exact Or.inr (Or.inl rfl) | exact Or.inr (Or.inr rfl)) (pa_cons (pe_m1 F.slot_str_removeprefix F.type_str_removeprefix mt_removeprefix (pv 4) (pv 2)) pa_nil)))) pss_nil)))
      (pss_one (ps_ret pe_non))))), ?_⟩
    have ek : flds[i]? = some (fldN i) := by
      have g : ∀ i : Nat, i < 5 → flds[i]? = some (fldN i) := by decide +kernel
      exact g i i5
    have ew : (wrds.map V.str)[i]? = some (.str (wrdN i)) := by
      match i, i5 with
      | 0, _ => rfl
      | 1, _ => rfl
      | 2, _ => rfl
      | 3, _ => rfl
      | 4, _ => rfl
    obtain ⟨u, fu, ru⟩ := fW i _ _ ek ew
    obtain ⟨u2, fu2, ru2⟩ := fRd i _ _ ek hv
    have lw := wrd_len i
    refine ⟨_, rfl, aW, esW, nW, fldN i, u, .str (wrdN i), rfl, rfl, lW, kW, fu, ru, _, _, rfl, rfl, fitN ?_, ?_⟩
    · rw [show (" " : Str).length = 1 by decide +kernel]; omega
    refine ⟨_, rfl, aR, esR, nR, fldN i, u2, .ref fR, rfl, rfl, lR, kRd, fu2, ru2, ?_⟩
    refine ⟨_, rfl, L, rfl, ⟨_, SqL.of eL⟩, ?_⟩
    refine for_list (K := K) (a := L) (xs := ps.map V.str) (fun j σ Hi => ∃ c4, σ = [some (.str (fldN i)), some (.ref L), some (.str (stN i)), some (.ref fR), c4] ∧ L2.Same H Hi ∧ cutp i ps = cutp i (ps.drop j)) ⟨_, rfl, Same.refl H, rfl⟩ (fun j σ Hi _ z => by obtain ⟨_, _, z, _⟩ := z; exact SqL.of (z _ _ eL)) ?_ ?_
    · rintro j v σ Hi hv2 ⟨c4, rfl, sm, cu⟩
      rw [List.getElem?_map] at hv2
      obtain ⟨p, ep, rfl⟩ := Option.map_eq_some_iff.mp hv2
      have lp := pl p (List.mem_of_getElem? ep)
      have dr : ps.drop j = p :: ps.drop (j + 1) := by
        obtain ⟨hj, e⟩ := List.getElem?_eq_some_iff.mp ep
        rw [List.drop_eq_getElem_cons hj, e]
      rw [dr] at cu
      have cu2 : cutp i ps = if Txt.startswith p (stN i) = true then some (Txt.removeprefix p (stN i)) else cutp i (ps.drop (j + 1)) := cu
      refine ⟨_, rfl, ⟨_, rfl⟩, _, rfl, p, stN i, rfl, rfl, _, rfl, ?_⟩
      cases h : Txt.startswith p (stN i) with
      | true =>
        rw [h, if_pos rfl] at cu2
        have lr := rp_len p (stN i)
        refine iteT ⟨rfl, _, rfl, ⟨_, rfl⟩, _, rfl, p, stN i, rfl, rfl, fitN' (by omega), ?_⟩
        exact ⟨_, rfl, by omega, fun v H' s fv => q v H' (sm.trans s) (by rw [cu2]; exact fv)⟩
      | false =>
        rw [h, if_neg (by simp)] at cu2
        exact iteF ⟨_, rfl, sm, cu2⟩
    · rintro σ Hi ⟨c4, rfl, sm, cu⟩
      rw [List.drop_of_length_le (by rw [List.length_map]; exact Nat.le_refl _)] at cu
      refine q _ Hi sm ?_
      rw [cu]
      exact FvO_none
theorem ok_ei {f : Addr} {fd : FuncData} {e : Ex} (D : Df K mg "entry_in" ["text"] sEntryIn f fd) (T : Txt K mg C CL e) (cKi : Ca P w K mg base 5 "key_in" ["text"] spKi) (cTi : Ca P w K mg base 8 "told_in" ["field", "pieces"] (spTiA C CL)) (cIe : Ca P w K mg base 6 "is_entry" ["thing"] (spIe C CL)) (cSe : Ca P w K mg base 6 "show_entry" ["entry"] (spSe C CL)) : FnOk P w K mg base CX0 9 f fd ["text"] (spE C CL) := by
  obtain ⟨aF, gF, oF, sF⟩ := T.fd
  refine D.fn.ok scEntryIn (fun vs H Q E h => ?_) (fun cdv A outer s H vs Q E hr h => ?_)
  · obtain ⟨x, rfl, lx, q⟩ := h
    rfl
  · obtain ⟨x, rfl, lx, q⟩ := h
    refine ⟨_, (pss_cons (ps_asg (pe_m1 F.slot_str_split F.type_str_split mt_split (pv 0) pe_str) (Xst.pg_star (by rfl) (pgs_cons (pg_name (i := 1) scEntryIn.nd rfl (.inl rfl)) (Xst.pgs_star (pg_name (i := 2) scEntryIn.nd rfl (.inr rfl))))))
      (pss_cons (ps_set (i := 3) scEntryIn.nd rfl (.inl rfl) (pe_ca cKi hr (by decide) (by rfl) (pa_cons (pv 1) pa_nil)))
      (pss_cons (ps_if (pt_cmpR op_isN (pv 3) pe_non (nomark _)) (pss_one (ps_ret pe_non)) pss_nil)
      (pss_cons (ps_set (i := 4) scEntryIn.nd rfl (.inl rfl) (pe_op Xtu.op_catU (pv 3) (pe_callTy call_tuple_of (by rfl) T.tuple (by decide +kernel) (pa_cons (pe_lc (own := [("field", 5)]) (g := gName 5) (tt := tYes) (by rfl) scEntryIn.nd (pi_tup (pe_glob (v := .ref aF) (by rfl) gF rfl)) (blkOk_by (own := [("field", 5)]) (N := ["text", "head", "pieces", "key", "entry", "field"]) (sc := defScope sEntryIn) (by decide +kernel)) (fun _ _ _ _ _ => pg_name (i := 5) scEntryIn.nd rfl (.inl rfl)) (fun _ _ _ _ _ => pts_nil) (fun _ _ _ _ _ => pe_ca cTi hr (by decide) (by rfl) (pa_cons (pv 5) (pa_cons (pv 2) pa_nil)))) pa_nil))))
      (pss_one (ps_ret (pe_ifExp (PW.pt (pw_and (pt_val (pe_ca cIe hr (by decide) (by rfl) (pa_cons (pv 4) pa_nil))) (pw_and1 (pt_cmpR op_eq (pe_ca cSe hr (by decide) (by rfl) (pa_cons (pv 4) pa_nil)) (pv 0) (nomark _))))) (pv 4) pe_non))))))), ?_⟩
    obtain ⟨pl1, pl2⟩ := split_len (x := x) (y := " | ") (by rw [tl_br]; simp) (by decide +kernel)
    have pp := split_pos (x := x) (y := " | ") (by rw [tl_br]; simp) (by decide +kernel)
    obtain ⟨hd, ps, hps⟩ : ∃ hd ps, Txt.split x " | " = hd :: ps := by
      cases h : Txt.split x " | " with
      | nil => rw [h] at pp; exact absurd pp (by simp)
      | cons a r => exact ⟨a, r, rfl⟩
    have un : ∀ e, OkE e → x = enT e → hd = kyT e.k ∧ ps = pcs e := fun e ok z => by
      rw [z, en_split ok] at hps
      injection hps with h1 h2
      exact ⟨h1.symm, h2.symm⟩
    have eSj := split_S (x := x) (j := " | ") (by rw [tl_br]; simp) (by decide +kernel)
    have eSn := S_cnt (j := " | ") (Txt.split x " | ")
    rw [show (" | " : Str).length = 3 by decide +kernel] at eSj eSn
    rw [hps, List.length_cons] at eSn
    rw [hps] at eSj
    refine ⟨_, rfl, ⟨_, rfl⟩, x, " | ", rfl, rfl, rfl, Nat.le_trans (show _ ≤ 60000 by omega) (by decide), fun S nS => ?_⟩
    rw [hps] at pl1 pl2 ⊢
    rw [List.length_cons] at pl1
    have sS := same_upd nS (o := .lst ((hd :: ps).map V.str))
    have eS : (L2.upd H S (.lst ((hd :: ps).map V.str))) S = some (.lst (.str hd :: ps.map V.str)) := upd_same
    generalize L2.upd H S (.lst ((hd :: ps).map V.str)) = H1 at sS eS ⊢
    refine ⟨S, .str hd, ps.map V.str, rfl, SqL.of eS, by rw [List.length_map]; exact Nat.le_trans (show ps.length ≤ 15500 by omega) (by decide), fun L nL => ?_⟩
    have sL := same_upd nL (o := .lst (ps.map V.str))
    have eL : (L2.upd H1 L (.lst (ps.map V.str))) L = some (.lst (ps.map V.str)) := upd_same
    generalize L2.upd H1 L (.lst (ps.map V.str)) = H2 at sL eL ⊢
    have s02 := sS.trans sL
    have lps : ∀ p ∈ ps, p.length ≤ 50000 := fun p hp => Nat.le_trans (pl2 p (List.mem_cons_of_mem _ hp)) (by omega)
    refine ⟨_, _, rfl, _, _, rfl, rfl, ?_⟩
    refine ⟨_, rfl, hd, rfl, Nat.le_trans (pl2 hd List.mem_cons_self) (by omega), fun v H3 s3 hv => ?_⟩
    have s03 := s02.trans s3
    cases hk : keyP hd with
    | none =>
      rw [hk] at hv
      cases (show v = .non from hv)
      refine ⟨_, rfl, rfl, _, rfl, iteT (q _ _ s03 ?_)⟩
      show EnO C CL H3 .non (enP x)
      rw [enP_no fun e ok z => ?_]
      · rfl
      · rw [(un e ok z).1, key_of ok.gk] at hk
        cases hk
    | some k =>
    rw [hk] at hv
    obtain ⟨tk, hv, ek⟩ := hv
    subst hv
    have gk := key_good hk
    have ue : ∀ e, OkE e → x = enT e → e = seOf k ps := fun e ok z => by
      obtain ⟨u1, u2⟩ := un e ok z
      rw [u1, key_of ok.gk] at hk
      cases hk
      rw [u2, se_back ok]
    have eL3 := s3 _ _ eL
    refine ⟨_, rfl, rfl, _, rfl, iteF ?_⟩
    refine ⟨_, rfl, aF, rfl, ⟨_, sF H3⟩, fun W nW => ?_⟩
    refine lc_tup (K := K) (a := aF) (xs := flds.map V.str) (fun j Hi => L2.Same H3 Hi ∧ ∃ vs, Hi W = some (.lst vs) ∧ vs.length = j ∧ Fvs C CL Hi (seOf k ps) vs) ⟨same_upd nW, [], upd_same, rfl, fun i v h => by simp at h⟩ (fun j Hi _ z => sF Hi) ?_ ?_
    · rintro j y Hi hy ⟨sm, vs, eW, lv, fv⟩
      rw [List.getElem?_map] at hy
      obtain ⟨kk, eK, rfl⟩ := Option.map_eq_some_iff.mp hy
      obtain ⟨j5, rfl⟩ := flds_at eK
      refine ⟨rfl, ?_⟩
      unfold tYes
      refine iteT ⟨_, rfl, _, rfl, j, by omega, ps, L, rfl, by omega, lps, sm _ _ eL3, fun v H4 s4 hv0 => ?_⟩
      have hv := fv_se (k := k) j5 hv0
      have eW4 := s4 _ _ eW
      have tl : ∀ b o, H4 b = some o → (∀ ys, o ≠ HO.lst ys) → (L2.upd H4 W (.lst (vs ++ [v]))) b = some o := fun b o eb nl => by
        have : b ≠ W := fun q => by
          rw [q, eW4] at eb
          exact nl _ (Option.some.inj eb).symm
        rw [upd_ne this]
        exact eb
      refine ⟨vs, eW4, Nat.lt_of_le_of_lt (show vs.length ≤ 100 by omega) (by decide), fun b o eb => ?_, vs ++ [v], upd_same, by rw [List.length_append, lv]; rfl, fun i u hu => ?_⟩
      · rw [upd_ne (ne_of_none eb nW)]
        exact s4 _ _ (sm _ _ eb)
      · rcases Nat.lt_or_ge i vs.length with c | c
        · rw [List.getElem?_append_left c] at hu
          exact ((fv i u hu).same s4).tl tl
        · rw [List.getElem?_append_right c] at hu
          have : i - vs.length = 0 := by
            have := (List.getElem?_eq_some_iff.mp hu).1
            simp at this
            omega
          rw [this] at hu
          cases hu
          have ij : i = j := by omega
          rw [ij]
          exact hv.tl tl
    rintro H4 ⟨s4, vs, eW, lv, fv⟩
    have lv5 : vs.length = 5 := lv
    refine ⟨W, vs, rfl, .inl ⟨SqL.of eW, fun u nu => ?_⟩⟩
    have su := same_upd nu (o := .tup vs)
    have eu : (L2.upd H4 u (.tup vs)) u = some (.tup vs) := upd_same
    generalize L2.upd H4 u (.tup vs) = H5 at su eu ⊢
    have s35 := s4.trans su
    refine ⟨tk, u, _, vs, rfl, rfl, s35 _ _ ek, eu, Nat.le_trans (show 2 + vs.length ≤ 100 by omega) (by decide), fun p H6 s6 ep => ?_⟩
    have s06 := (s03.trans s35).trans s6
    have en : EnAt C CL H6 p (seOf k ps) := by
      match vs, lv5, fv, ep with
      | [v0, v1, v2, v3, v4], _, fv, ep =>
        have f := fun i v h => (Fv.same (fv i v h) su).same s6
        exact ⟨v0, v1, v2, v3, v4, ep, f 0 v0 rfl, f 1 v1 rfl, f 2 v2 rfl, f 3 v3 rfl, f 4 v4 rfl⟩
    clear fv ep eu
    have semi := se_semi gk lps
    generalize seOf k ps = e0 at en semi ue
    refine ⟨_, rfl, p, e0, rfl, en, semi, fun H7 s7 => ?_⟩
    have s07 := s06.trans s7
    cases hb : okB e0 with
    | false =>
      have no : EnO C CL H7 .non (enP x) := by
        rw [enP_no fun e ok z => ?_]
        · rfl
        · have h2 := ok_okB ok
          rw [ue e ok z, hb] at h2
          cases h2
      exact ⟨_, rfl, iteF (q _ _ s07 no)⟩
    | true =>
      have ok := ok_semi semi hb
      refine ⟨_, rfl, iteT ⟨_, rfl, p, e0, rfl, en.same s7, ok, fun H8 s8 => ⟨_, rfl, rfl, _, rfl, ?_⟩⟩⟩
      rw [decS]
      by_cases c : enT e0 = x
      · rw [decide_eq_true c]
        refine iteT ⟨_, rfl, q _ H8 (s07.trans s8) ?_⟩
        show EnO C CL H8 (.ref p) (enP x)
        rw [← c, enP_ok ok]
        exact ⟨ok, p, rfl, (en.same s7).same s8⟩
      · rw [decide_eq_false c]
        refine iteF (q _ H8 (s07.trans s8) ?_)
        show EnO C CL H8 .non (enP x)
        rw [enP_no fun e ok z => ?_]
        · rfl
        · exact c (by rw [← ue e ok z, z])
end
end K64
set_option Elab.async false
set_option linter.all false
set_option maxRecDepth 100000
set_option maxHeartbeats 4000000
set_option pp.maxSteps 400
set_option pp.deepTerms false
namespace K64
open PySem PySem.Spec PyProof.Rows L2
open Xk Az Xtx Xkd Xst Xsp
section
variable {P : Program} {w : World} {K : PySem.W.Frag} {mg : Str → Option Value} {base : Heap} {C CL : Addr}
def spNX (e : Ex) : Sp := fun vs H Q _ => ∃ (a : Addr) (r x : V), vs = [.ref a, r, x] ∧ H a = some (exo a e.NoText none) ∧
  ∀ p H', H p = none → p ≠ a → H' a = some (exo a e.NoText (some p)) → H' p = some (exd p [("wanted", x), ("row", r)]) → (∀ b, b ≠ a → b ≠ p → H' b = H b) → Q .non H'
def Rz (e : Ex) (H : Hp) (r x : V) (E : XK) : Prop := ∀ (p : Addr) (H' : Hp), L2.Same H H' → H' p = some (.xd [("wanted", x), ("row", r)]) → E (.ref e.NoText) (some p) H'
theorem ok_nt {f : Addr} {fd : FuncData} {e : Ex} (F : Fun K "__init__" "NoText.__init__" sNoTextInit f fd) (T : Txt K mg C CL e) : FnOk P w K mg base CX0 1 f fd ["self", "row", "wanted"] (spNX e) := by
  refine F.ok scNoTextInit (fun vs H Q E h => ?_) (fun cdv A outer s H vs Q E hr h => ?_)
  · obtain ⟨a, r, x, rfl, ha, q⟩ := h
    rfl
  · obtain ⟨a, r, x, rfl, ha, q⟩ := h
    refine ⟨_, (pss_cons (ps_expr (pe_binit T.bi (by rfl) T.mNotSuch (pa_cons (pv 0) (pa_cons pe_str pa_nil))))
      (pss_cons (ps_ost (pv 0) (pv 1))
      (pss_one (ps_ost (pv 0) (pv 2))))), ?_⟩
    refine ⟨_, rfl, a, e.NoText, [.str "not so written"], rfl, (by show 1 ≤ 1000; decide), T.oex, ha, ?_⟩
    refine ⟨_, rfl, _, rfl, a, e.NoText, rfl, T.oex, T.f1, .inl ⟨ha, fun p np ne => ?_⟩⟩
    have e1 : (upd (upd H p (exd p [("row", r)])) a (exo a e.NoText (some p))) p = some (exd p [("row", r)]) := by rw [upd_ne ne, upd_same]
    refine ⟨_, rfl, _, rfl, a, e.NoText, rfl, T.oex, T.f2, .inr ⟨p, _, upd_same, e1, (by show 1 ≤ 900; decide), ?_⟩⟩
    have e2 : ∀ {o : HO}, (upd (upd (upd H p (exd p [("row", r)])) a (exo a e.NoText (some p))) p o) a = some (exo a e.NoText (some p)) := fun {o} => by rw [upd_ne (Ne.symm ne), upd_same]
    refine q p _ np ne e2 upd_same fun b hb hp => ?_
    rw [upd_ne hp, upd_ne hb, upd_ne hp]
structure Nt (P : Program) (w : World) (K : PySem.W.Frag) (mg : Str → Option Value) (base : Heap) (e : Ex) (f : Addr) (fd : FuncData) : Prop where
  ok : FnOk P w K mg base CX0 1 f fd ["self", "row", "wanted"] (spNX e)
  at_ : PySem.W.findIn K (.ref e.NoText) "__init__" = some (some (.ref f))
  ty : PySem.W.typeIn K (.ref f) = some (.type "function")
  bd : Binds K fd ["self", "row", "wanted"] []
theorem raised {e : Ex} {H : Hp} {r x : V} {E : XK} (q : Rz e H r x E) : ∀ a, H a = none → spNX e [.ref a, r, x] (upd H a (exo a e.NoText none))
    (fun z H2 => z = .non ∧ ∃ (p : Addr) (fs : List (Str × V)), H2 a = some (exo a e.NoText (some p)) ∧ H2 p = some (exd p fs) ∧ H p = none ∧ E (.ref e.NoText) (some p) (upd (del H2 a) p (.xd fs))) E0 := fun a na => by
  refine ⟨a, r, x, rfl, upd_same, fun p H' np ne e1 e2 off => ⟨rfl, p, _, e1, e2, ?_, ?_⟩⟩
  · rw [upd_ne ne] at np
    exact np
  · rw [upd_ne ne] at np
    have mx : upd (del H' a) p (.xd [("wanted", x), ("row", r)]) = upd H p (.xd [("wanted", x), ("row", r)]) := by
      funext b
      by_cases hd : b = p
      · rw [hd, upd_same, upd_same]
      · rw [upd_ne hd, upd_ne hd]
        by_cases ha : b = a
        · rw [ha, del_same, na]
        · rw [del_ne ha, off b ha hd, upd_ne ha]
    rw [mx]
    exact q p _ (same_upd np) upd_same
/-- what so_written tells of entry_in -/
def spSo (C CL : Addr) (e : Ex) (fR : Addr) : Sp := fun vs H Q E => ∃ (x : Str), vs = [.ref fR, .str x, .str "entry", .int 0] ∧ x.length ≤ 30000 ∧
  (∀ v H', L2.Same H H' → RE C CL x H' v → v ≠ .non → Q v H') ∧ ∀ H', L2.Same H H' → RE C CL x H' .non → Rz e H' (.int 0) (.str "entry") E
def spRd (C CL : Addr) (e : Ex) : Sp := fun vs H Q E => ∃ (x : Str), vs = [.str x] ∧ x.length ≤ 30000 ∧
  (∀ v H', L2.Same H H' → RE C CL x H' v → v ≠ .non → Q v H') ∧ ∀ H', L2.Same H H' → RE C CL x H' .non → Rz e H' (.int 0) (.str "entry") E
theorem ok_sd {f : Addr} {fd : FuncData} {e : Ex} {fN fR : Addr} {fdN : FuncData} (F : FunD K "so_written" "so_written" (defArgs sSoWritten) (defBody sSoWritten) (defScope sSoWritten) [.int 0] [] f fd) (T : Txt K mg C CL e) (N : Nt P w K mg base e fN fdN) (kR : PySem.W.keepIn K (.ref fR) = true) (RR : FnR P w K mg base CX0 9 fR (spE C CL)) : FnOk P w K mg base (L2.CX P w) 10 f fd ["reader", "text", "wanted", "row"] (spSo C CL e fR) := by
  refine F.ok (CX := L2.CX P w) scSoWritten (fun vs H Q E h => ?_) (fun cdv A outer s H vs Q E hr h => ?_)
  · obtain ⟨x, rfl, lx, q1, q2⟩ := h
    rfl
  · obtain ⟨x, rfl, lx, q1, q2⟩ := h
    refine ⟨_, (pss_cons (ps_set (i := 4) scSoWritten.nd rfl (.inl rfl) (pe_ifExp (pt_val (pe_callB call_isi (by rfl) T.isi (by decide +kernel) (pa_cons (pv 1) (pa_cons (pe_bltn (v := .ty "str") (by rfl) T.str (by decide +kernel) rfl) pa_nil)))) (ItX.pe_callV (i := 0) RR hr kR pass0 (by rfl) (by first | exact Or.inl rfl | exact Or.inr (Or.inl rfl)) (pa_cons (pv 1) pa_nil)) pe_non))
      (pss_cons (ps_if (pt_cmpR op_isN (pv 4) pe_non (nomark _)) (pss_one (ps_raise rfl (takes_of rfl rfl rfl rfl) (pmk_oex T.oex N.at_ N.ty N.ok (hr.mono (by decide)) N.bd .nil pass0 (by rfl) T.mNoText (pa_cons (pv 3) (pa_cons (pv 2) pa_nil))))) pss_nil)
      (pss_one (ps_ret (pv 4))))), ?_⟩
    have ty : TyX K H (.str x) (.type "str") := .base (.str _)
    refine ⟨_, rfl, _, _, _, _, true, rfl, .ty _, ty, kit_ty (by decide +kernel), true, rfl, iteT ?_⟩
    refine ⟨rfl, _, rfl, x, rfl, lx, fun v H1 s1 r => ?_⟩
    rcases RE_v _ _ _ r with rfl | ⟨o, rfl⟩
    · exact ⟨_, rfl, rfl, _, rfl, iteT ⟨_, rfl, _, rfl, (by show 2 ≤ 1000; decide), raised (q2 H1 s1 r)⟩⟩
    · exact ⟨_, rfl, rfl, _, rfl, iteF ⟨_, rfl, q1 _ H1 s1 r (fun z => by cases z)⟩⟩
structure Sd (P : Program) (w : World) (K : PySem.W.Frag) (mg : Str → Option Value) (base : Heap) (C CL : Addr) (e : Ex) (fR f : Addr) (fd : FuncData) : Prop where
  ok : FnOk P w K mg base (L2.CX P w) 10 f fd ["reader", "text", "wanted", "row"] (spSo C CL e fR)
  mgf : mg "so_written" = some (.ref f)
  kp : PySem.W.keepIn K (.ref f) = true
  b1 : ∃ ds, Vals [.int 0] ds ∧ Binds K fd ["reader", "text", "wanted", "row"] ds
theorem sd_mk {e : Ex} {f fR : Addr} {fd : FuncData} (F : FunD K "so_written" "so_written" (defArgs sSoWritten) (defBody sSoWritten) (defScope sSoWritten) [.int 0] [] f fd) (mgf : mg "so_written" = some (.ref f))
    (ok : FnOk P w K mg base (L2.CX P w) 10 f fd ["reader", "text", "wanted", "row"] (spSo C CL e fR)) : Sd P w K mg base C CL e fR f fd :=
  ⟨ok, mgf, F.kp, F.binds1 (ps := ["reader", "text", "wanted", "row"]) 3 0 (by simp) rfl fun T kV doc pm an cdv ct us its h1 h2 => by
    match us, its, h1, h2 with
    | [_, _, _], [_], _, _ => exact ⟨_, rfl, rfl⟩⟩
theorem ok_re {f : Addr} {fd : FuncData} {e : Ex} {fR fS : Addr} {fdS : FuncData} (D : Df K mg "read_entry" ["text"] sReadEntry f fd) (T : Txt K mg C CL e) (S : Sd P w K mg base C CL e fR fS fdS) (gR : mg "entry_in" = some (.ref fR)) : FnOk P w K mg base (L2.CX P w) 11 f fd ["text"] (spRd C CL e) := by
  obtain ⟨ds, rd, bd⟩ := S.b1
  refine D.fn.okX scReadEntry (fun vs H Q E h => ?_) (fun cdv A outer s H vs Q E hr h => ?_)
  · obtain ⟨x, rfl, lx, q1, q2⟩ := h
    rfl
  · obtain ⟨x, rfl, lx, q1, q2⟩ := h
    refine ⟨_, (pss_one (ps_ret (pe_call S.ok (hr.mono (by decide)) (by rfl) S.mgf S.kp bd rd (passes_call (takes_of rfl rfl rfl rfl) (fun _ _ _ _ h => h)) (pa_cons (pe_glob (v := .ref fR) (by rfl) gR rfl) (pa_cons (pv 0) (pa_cons pe_str pa_nil)))))), ?_⟩
    exact ⟨_, rfl, x, rfl, lx, q1, q2⟩
end
end K64
set_option Elab.async false
set_option linter.all false
set_option maxRecDepth 100000
set_option maxHeartbeats 4000000
set_option pp.maxSteps 400
set_option pp.deepTerms false
namespace K64
open PySem PySem.Spec PyProof.Rows L2
open Xk Az Xtx Xkd Xst Xsp
section
variable {P : Program} {w : World} {K : PySem.W.Frag} {mg : Str → Option Value} {base : Heap} {C CL : Addr}
theorem Hand.nt {n : Int} {H : Hp} {a t : Addr} {xs : List V} (h : Hand n H a) (e : H t = some (.tup xs)) : t ≠ a := by
  obtain ⟨ys, e2⟩ := h.at_
  exact ne_of e e2 (by intro z; cases z)
theorem tp_but {h : Addr} {n : Int} {H H' : Hp} (a : Hand n H h) (s : But h H H') : ∀ b xs, H b = some (.tup xs) → H' b = some (.tup xs) := fun b xs e => s _ _ (a.nt e) e
def spKy : Sp := fun vs H Q _ => ∃ (h : Addr) (n : Int), vs = [.ref h] ∧ Hand n H h ∧ n + 100 ≤ far ∧ ∀ (t : Addr) (k : Ky) H', H' t = some (.tup [.str k.1, .int k.2]) → GoodK k → Hand (n + 20) H' h → But h H H' → Q (.ref t) H'
def spSec : Sp := fun vs H Q _ => ∃ (h : Addr) (n : Int), vs = [.ref h] ∧ Hand n H h ∧ n + 10 ≤ far ∧ ∀ (c : Int) H', 0 ≤ c → c ≤ 359999 → Hand (n + 3) H' h → But h H H' → Q (.int c) H'
def spLt : Sp := fun vs H Q _ => ∃ (i : Int), vs = [.int i] ∧ 0 ≤ i ∧ i ≤ 359999 ∧ ∀ H', L2.Same H H' → Q (.str (lenText i)) H'
theorem ok_ky {f : Addr} {fd : FuncData} {e : Ex} (D : Df K mg "_law_key" ["_law_hand_here"] sKey f fd) (T : Txt K mg C CL e) (cT : Ca P w K mg base 1 "_law_take" ["_law_hand_here", "_law_many"] spTake) (cP : Ca P w K mg base 2 "_law_pick" ["_law_hand_here", "_law_some"] spPick) : FnOk P w K mg base CX0 3 f fd ["_law_hand_here"] spKy := by
  refine D.fn.ok scKey (fun vs H Q E h => ?_) (fun cdv A outer s H vs Q E hr h => ?_)
  · obtain ⟨h, n, rfl, hh, hn, q⟩ := h
    rfl
  · obtain ⟨h, n, rfl, hh, hn, q⟩ := h
    refine ⟨_, (pss_cons (ps_set (i := 1) scKey.nd rfl (.inl rfl) (pe_m1 F.slot_str_join F.type_str_join mt_join pe_str (pe_lc (own := [("_law_k", 2)]) (g := gName 2) (tt := tYes) (by rfl) scKey.nd (pi_range1 (by rfl) T.range (pa_cons (pe_op op_add pe_int (pe_ca cT hr (by decide) (by rfl) (pa_cons (pv 0) (pa_cons pe_int pa_nil)))) pa_nil)) (blkOk_by (own := [("_law_k", 2)]) (N := ["_law_hand_here", "_law_house", "_law_k"]) (sc := defScope sKey) (by decide +kernel)) (fun _ _ _ _ _ => pg_name (i := 2) scKey.nd rfl (.inl rfl)) (fun _ _ _ _ _ => pts_nil) (fun _ _ _ _ _ => pe_ca cP hr (by decide) (by rfl) (pa_cons (pv 0) (pa_cons pe_str pa_nil))))))
      (pss_one (ps_ret (pe_tup (pa_cons (pv 1) (pa_cons (pe_ca cP hr (by decide) (by rfl) (pa_cons (pv 0) (pa_cons (pe_lst (pa_cons pe_int (pa_cons pe_int (pa_cons pe_int (pa_cons pe_int (pa_cons (pe_ca cT hr (by decide) (by rfl) (pa_cons (pv 0) (pa_cons pe_int pa_nil))) (pa_cons (pe_op op_add (pe_op op_pow pe_int pe_int) (pe_ca cT hr (by decide) (by rfl) (pa_cons (pv 0) (pa_cons (pe_op op_pow pe_int pe_int) pa_nil)))) pa_nil))))))) pa_nil))) pa_nil)))))), ?_⟩
    have fr : n + 100 ≤ 1000000 := hn
    have lf : small.length = 26 := by decide +kernel
    have es : ("abcdefghijklmnopqrstuvwxyz" : Str) = small := rfl
    refine ⟨⟨_, rfl⟩, _, rfl, h, 8, n, rfl, by decide, by decide, hh, by show n ≤ 1000000; omega, fun d H1 d0 d1 h1 b1 => ?_⟩
    refine ⟨1, d, rfl, rfl, _, rfl, by omega, by omega, fun L nL => ?_⟩
    have Lh := h1.fresh nL
    refine lc_range (lo := 0) (fun i Hi => ∃ ys : List Str, Hi L = some (.lst (ys.map V.str)) ∧ ys.length = i ∧ (∀ y ∈ ys, ∃ c ∈ small.cps.toList, y = ⟨#[c]⟩) ∧ Hand (n + 1 + i) Hi h ∧ But h H1 Hi) ?_ ?_ ?_
    · exact ⟨[], upd_same, rfl, by simp, (h1.same (same_upd nL)).mono (by omega), Same.but (same_upd nL) h⟩
    · rintro i Hi hi ⟨ys, eL, ly, cy, hdi, bi⟩
      have hi' : i < (1 + d).toNat := hi
      refine ⟨rfl, ?_⟩
      unfold tYes
      refine iteT ?_
      refine ⟨_, rfl, h, n + 1 + i, _, rfl, hdi, by show n + 1 + (i : Int) ≤ 1000000; omega, .inr ⟨small, rfl, by rw [lf]; decide, by rw [lf]; decide, fun c H2 mc h2 b2 => ?_⟩⟩
      refine ⟨_, b2 _ _ Lh eL, ?_, ys ++ [⟨#[c]⟩], ?_, by rw [List.length_append, ly]; rfl, ?_, (h2.upd (Ne.symm Lh)).mono (by push_cast; omega), ?_⟩
      · rw [List.length_map, ly]
        exact Nat.lt_of_le_of_lt (show i ≤ 100 by omega) (by decide)
      · rw [upd_same, List.map_append]
        rfl
      · intro y hy
        rcases List.mem_append.mp hy with z | z
        · exact cy y z
        · exact ⟨c, mc, List.mem_singleton.mp z⟩
      · intro b x nb e
        rw [upd_ne (ne_of_none e nL)]
        exact b2 b x nb (bi b x nb e)
    rintro H2 ⟨ys, eL, ly, cy, h2, b2⟩
    have ly' : ys.length = (1 + d).toNat := ly
    have h2' : Hand (n + 1 + (((1 + d).toNat : Nat) : Int)) H2 h := h2
    have ones : ∀ y ∈ ys, y.length = 1 := fun y hy => by
      obtain ⟨c, _, e⟩ := cy y hy
      rw [e]
      rfl
    have sum := ones_sum ys ones
    have l0 : (("" : Str)).length = 0 := rfl
    refine ⟨"", L, ys, rfl, rfl, .inl (SqL.of eL), by rw [sum, l0]; omega, ?_⟩
    have wl : (Txt.join "" ys).length = ys.length := by rw [join_len, sum]
    have wc : ∀ c ∈ (Txt.join "" ys).cps.toList, c ∈ small.cps.toList := fun c hc => by
      rw [join_cps] at hc
      obtain ⟨y, hy, hc2⟩ := List.mem_flatten.mp hc
      obtain ⟨z, hz, rfl⟩ := List.mem_map.mp hy
      obtain ⟨c', mc, e⟩ := cy z hz
      rw [e] at hc2
      have : c = c' := by simpa using hc2
      rw [this]
      exact mc
    have b02 := b1.trans b2
    generalize Txt.join "" ys = x at wl wc ⊢
    refine ⟨_, rfl, _, rfl, _, rfl, h, 1000, n + 9, rfl, by decide, by decide, h2'.mono (by omega), by show n + 9 ≤ 1000000; omega, fun e1 H3 e10 e11 h3 b3 => ?_⟩
    refine ⟨10, 29, rfl, rfl, ⟨by decide, by decide, by decide⟩, _, rfl, 10, 29, rfl, rfl, ⟨by decide, by decide, by decide⟩, h, _, n + 9 + 1, rfl, by decide, by decide, h3, by show n + 9 + 1 ≤ 1000000; omega, fun e2 H4 e20 e21 h4 b4 => ?_⟩
    refine ⟨_, _, rfl, rfl, (by show 6 ≤ sizeLine; decide), fun l1 nl => ?_⟩
    have b04 := (b02.trans b3).trans b4
    have mk : ∀ v ∈ [V.int 0, .int 1, .int 9, .int 10, .int e1, .int (10 ^ (29 : Int).toNat + e2)], ∃ m : Int, v = .int m ∧ 0 ≤ m ∧ m < 10 ^ 30 := fun v mv => by
      have big : (10 : Int) ^ (29 : Int).toNat = 100000000000000000000000000000 := by decide
      rw [big] at e21 mv
      have big30 : (10 : Int) ^ 30 = 1000000000000000000000000000000 := by decide
      rw [big30]
      simp only [List.mem_cons, List.not_mem_nil, or_false] at mv
      rcases mv with e | e | e | e | e | e
      · exact ⟨0, e, by decide, by decide⟩
      · exact ⟨1, e, by decide, by decide⟩
      · exact ⟨9, e, by decide, by decide⟩
      · exact ⟨10, e, by decide, by decide⟩
      · exact ⟨_, e, e10, by omega⟩
      · exact ⟨_, e, by omega, by omega⟩
    have s4 := same_upd nl (o := .lst [.int 0, .int 1, .int 9, .int 10, .int e1, .int (10 ^ (29 : Int).toNat + e2)])
    refine ⟨h, n + 9 + 1 + 1, _, rfl, h4.same s4, by show n + 9 + 1 + 1 ≤ 1000000; omega, .inl ⟨l1, _, rfl, upd_same, h4.fresh nl, by simp, by show 6 < 1000; decide, fun v H5 mv h5 b5 => ?_⟩⟩
    obtain ⟨m, rfl, m0, m1⟩ := mk v mv
    refine ⟨(by show 2 ≤ sizeLine; decide), fun t nt => ?_⟩
    have st := same_upd nt (o := .tup [.str x, .int m])
    refine q t (x, m) _ upd_same ⟨by show 1 ≤ x.length; omega, by show x.length ≤ 8; omega, wc, m0, m1⟩ ((h5.same st).mono (by omega)) (((b04.trans (Same.but s4 h)).trans b5).trans (Same.but st h))
theorem ok_sec {f : Addr} {fd : FuncData} {e : Ex} (D : Df K mg "_law_seconds" ["_law_hand_here"] sSeconds f fd) (T : Txt K mg C CL e) (cT : Ca P w K mg base 1 "_law_take" ["_law_hand_here", "_law_many"] spTake) (cP : Ca P w K mg base 2 "_law_pick" ["_law_hand_here", "_law_some"] spPick) : FnOk P w K mg base CX0 3 f fd ["_law_hand_here"] spSec := by
  refine D.fn.ok scSeconds (fun vs H Q E h => ?_) (fun cdv A outer s H vs Q E hr h => ?_)
  · obtain ⟨h, n, rfl, hh, hn, q⟩ := h
    rfl
  · obtain ⟨h, n, rfl, hh, hn, q⟩ := h
    refine ⟨_, (pss_one (ps_ret (pe_ca cP hr (by decide) (by rfl) (pa_cons (pv 0) (pa_cons (pe_lst (pa_cons (pe_ca cT hr (by decide) (by rfl) (pa_cons (pv 0) (pa_cons pe_int pa_nil))) (pa_cons pe_int (pa_cons pe_int (pa_cons pe_int (pa_cons pe_int (pa_cons (pe_op op_mul pe_int (pe_ca cT hr (by decide) (by rfl) (pa_cons (pv 0) (pa_cons pe_int pa_nil)))) pa_nil))))))) pa_nil))))), ?_⟩
    have fr : n + 10 ≤ 1000000 := hn
    refine ⟨_, rfl, _, rfl, h, 360000, n, rfl, by decide, by decide, hh, by show n ≤ 1000000; omega, fun d H1 d0 d1 h1 b1 => ?_⟩
    refine ⟨_, rfl, h, 6000, _, rfl, by decide, by decide, h1, by show n + 1 ≤ 1000000; omega, fun g H2 g0 g1 h2 b2 => ?_⟩
    refine ⟨60, g, rfl, rfl, .inl ⟨by decide, by decide⟩, (by show 6 ≤ sizeLine; decide), fun L nL => ?_⟩
    have sL := same_upd nL (o := .lst [.int d, .int 0, .int 59, .int 60, .int 359999, .int (60 * g)])
    refine ⟨h, _, _, rfl, h2.same sL, by show n + 1 + 1 ≤ 1000000; omega, .inl ⟨L, _, rfl, upd_same, h2.fresh nL, by simp, by show 6 < 1000; decide, fun w H3 mw h3 b3 => ?_⟩⟩
    obtain ⟨c, rfl, c0, c1⟩ : ∃ c : Int, w = .int c ∧ 0 ≤ c ∧ c ≤ 359999 := by
      simp only [List.mem_cons, List.not_mem_nil, or_false] at mw
      rcases mw with e | e | e | e | e | e
      · exact ⟨d, e, d0, by omega⟩
      · exact ⟨_, e, by decide, by decide⟩
      · exact ⟨_, e, by decide, by decide⟩
      · exact ⟨_, e, by decide, by decide⟩
      · exact ⟨_, e, by decide, by decide⟩
      · exact ⟨_, e, by omega, by omega⟩
    exact q c H3 c0 c1 (h3.mono (by omega)) ((b1.trans b2).trans ((Same.but sL h).trans b3))
theorem nDig_60 {i : Int} (h0 : 0 ≤ i) (h1 : i < 60) : nDig i = if i < 10 then 1 else 2 := by
  obtain ⟨k, rfl⟩ : ∃ k : Nat, i = (k : Int) := ⟨i.toNat, by omega⟩
  have hk : k < 60 := by omega
  have all : ∀ k : Nat, k < 60 → nDig (k : Int) = if (k : Int) < 10 then 1 else 2 := by decide +kernel
  exact all k hk
theorem ok_lt {f : Addr} {fd : FuncData} {e : Ex} (D : Df K mg "_law_length_text" ["_law_count"] sLengthText f fd) (T : Txt K mg C CL e) : FnOk P w K mg base CX0 1 f fd ["_law_count"] spLt := by
  refine D.fn.ok scLengthText (fun vs H Q E h => ?_) (fun cdv A outer s H vs Q E hr h => ?_)
  · obtain ⟨i, rfl, h0, h1, q⟩ := h
    rfl
  · obtain ⟨i, rfl, h0, h1, q⟩ := h
    refine ⟨_, (pss_cons (ps_set (i := 1) scLengthText.nd rfl (.inl rfl) (pe_op op_sub (pv 0) (pe_op op_mul (pe_op op_fdiv (pv 0) pe_int) pe_int)))
      (pss_one (ps_ret (pe_op op_add_str (pe_op op_add_str (pe_op op_add_str (pe_callTy call_str_int (by rfl) T.str (by decide +kernel) (pa_cons (pe_op op_fdiv (pv 0) pe_int) pa_nil)) pe_str) (pe_op op_zeros pe_str (pe_callTy call_int1 (by rfl) T.int (by decide +kernel) (pa_cons (pe_cmpR op_lt (pv 1) pe_int (nomark _)) pa_nil)))) (pe_callTy call_str_int (by rfl) T.str (by decide +kernel) (pa_cons (pv 1) pa_nil)))))), ?_⟩
    have l1 := tx_len (i := i / 60) (by omega) (by omega)
    have l2 := tx_len (i := i % 60) (by omega) (by omega)
    have k1 : (":" : Str).length = 1 := by decide +kernel
    have c60 : i % 60 < 60 := by omega
    have zt : zpad 2 (i % 60) = zeros (if decide (i % 60 < 10) = true then 1 else 0) ++ Str.ofString (toString (i % 60)) := by
      unfold zpad
      congr 2
      have nd : nDig (i % 60) = if i % 60 < 10 then 1 else 2 := nDig_60 (by omega) c60
      rw [nd]
      by_cases g : i % 60 < 10
      · simp [g]
      · simp [g]
    refine ⟨_, rfl, _, rfl, i, 60, rfl, rfl, ⟨by decide, by decide⟩, i / 60, 60, rfl, rfl, .inr ⟨by decide, by decide⟩, i, i / 60 * 60, rfl, rfl, ?_⟩
    have hb : (fun i j : Int => V.int (i - j)) i (i / 60 * 60) = V.int (i % 60) := congrArg V.int (by omega)
    rw [hb]
    refine ⟨_, rfl, i, 60, rfl, rfl, ⟨by decide, by decide⟩, i / 60, rfl, lg (by omega) (by omega), _, _, rfl, rfl, fitN ?_, ?_⟩
    · rw [k1]; omega
    have zl := zeros_len (if decide (i % 60 < 10) = true then 1 else 0)
    have z1 : (if decide (i % 60 < 10) = true then 1 else 0) ≤ 1 := by split <;> decide
    refine ⟨_, rfl, i % 60, 10, rfl, rfl, .inr ⟨_, rfl, if decide (i % 60 < 10) = true then 1 else 0, rfl, ?_, by omega, _, _, rfl, rfl, fitN ?_, _, rfl, _, rfl, lg (by omega) (by omega), _, _, rfl, rfl, fitN ?_, ?_⟩⟩
    · split <;> rfl
    · rw [strLen_append, zl, k1]; omega
    · rw [strLen_append, strLen_append, zl, k1]; omega
    · have z := q _ (Same.refl H)
      unfold lenText at z
      rw [zt, ← Str.append_assoc] at z
      exact z
theorem cut1' (a b c : V) : cutV [a, b, c] (some 1) none = [b, c] := rfl
def spText : Sp := fun vs H Q _ => ∃ (t : Addr) (y : Int) (m d : Option Int), vs = [.ref t] ∧ H t = some (.tup (pV y m d)) ∧ Good y m d ∧ ∀ H', Same H H' → Q (.str (dayText y m d)) H'
theorem one_part {i : Int} {W : Nat} (hW : W ≤ 4) (h : Tiny i) (hl : nDig i ≤ W) : (W : Int) - ((Str.ofString (toString i)).length : Nat) = ((W - nDig i : Nat) : Int) := by
  rw [len_text h.1]
  omega
theorem dz : ("0" : Str).length = 1 := by decide +kernel
theorem ok_text {f : Addr} {fd : FuncData} (D : Df K mg "_law_day_text" ["_law_parts_here"] sDayText f fd) (T : Txt K mg C CL e) : FnOk P w K mg base CX0 1 f fd ["_law_parts_here"] spText := by
  refine D.fn.ok scDayText (fun vs H Q E h => ?_) (fun cdv A outer s H vs Q E hr h => ?_)
  · obtain ⟨t, y, m, d, rfl, _⟩ := h
    rfl
  · obtain ⟨t, y, m, d, rfl, ht, g, q⟩ := h
    refine ⟨_, pss_cons (ps_set (i := 1) scDayText.nd rfl (.inl rfl) (pe_op op_add_str (pe_op op_zeros pe_str (pe_op op_sub pe_int (pe_callB call_len_str (by rfl) T.len PySem.boot_len (pa_cons (pe_callTy call_str_int (by rfl) T.str (by decide +kernel) (pa_cons (pe_ix ix_tup (pv 0) pe_int (fun _ _ => rfl)) pa_nil)) pa_nil))))
        (pe_callTy call_str_int (by rfl) T.str (by decide +kernel) (pa_cons (pe_ix ix_tup (pv 0) pe_int (fun _ _ => rfl)) pa_nil))))
      (pss_cons (ps_for PassesOwn.never rfl (pi_tup (pe_slice sl_tup (pv 0) (po_some pe_int) po_none)) (pg_name (i := 2) scDayText.nd rfl (.inl rfl))
        (pss_one (ps_if (pt_cmpR op_notN (pv 2) pe_non (nomark _)) (pss_one (ps_set (i := 1) scDayText.nd rfl (.inl rfl) (pe_op op_add_str (pe_op op_add_str (pe_op op_add_str (pv 1) pe_str)
          (pe_op op_zeros pe_str (pe_op op_sub pe_int (pe_callB call_len_str (by rfl) T.len PySem.boot_len (pa_cons (pe_callTy call_str_int (by rfl) T.str (by decide +kernel) (pa_cons (pv 2) pa_nil)) pa_nil)))))
          (pe_callTy call_str_int (by rfl) T.str (by decide +kernel) (pa_cons (pv 2) pa_nil))))) pss_nil)))
      (pss_one (ps_ret (pv 1)))), ?_⟩
    obtain ⟨ty, tm, td⟩ := good_tiny g
    have ly := txt_len ty
    have e4 := one_part (W := 4) (by decide) ty (nDig_le ty)
    have l4 := zpad_len (W := 4) (by decide) ty
    have tO : ∀ i, (m = some i ∨ d = some i) → Tiny i ∧ nDig i ≤ 2 := fun i h => by
      obtain ⟨a, b⟩ := small_month g
      rcases h with h | h
      · obtain ⟨z1, z2⟩ := a i h
        exact ⟨⟨z1, by omega⟩, nDig_le2 z1 z2⟩
      · obtain ⟨z1, z2⟩ := b i h
        exact ⟨⟨z1, by omega⟩, nDig_le2 z1 z2⟩
    refine ⟨_, rfl, t, _, 0, _, rfl, rfl, SqT.of ht, atI_nat (j := 0) rfl, y, rfl, int_small ty, _, rfl, fitN (by omega), 4, _, rfl, rfl, 4 - nDig y, rfl, ?_, by omega, ?_⟩
    · exact congrArg V.int e4
    refine ⟨_, rfl, t, _, 0, _, rfl, rfl, SqT.of ht, atI_nat (j := 0) rfl, y, rfl, int_small ty, _, _, rfl, rfl, fitN ?_, ?_⟩
    · rw [zeros_len]; omega
    refine ⟨_, rfl, 1, rfl, t, _, rfl, SqT.of ht, ?_, fun p np => ?_⟩
    · show ¬ (HT.sIx 3 0 (some 1) = 0 ∧ _)
      intro z
      exact absurd z.1 (by decide)
    have hp : (upd H p (.tup [oV m, oV d])) p = some (.tup [oV m, oV d]) := upd_same
    refine ⟨p, rfl, ⟨_, SqT.of hp⟩, for_tup (K := K) (a := p) (xs := [oV m, oV d]) (fun i σ Hi => (∃ v2 : Option V, σ = [some (.ref t), some (.str (([m, d].take i).foldl addP (zpad 4 y))), v2]) ∧ Hi = upd H p (.tup [oV m, oV d]) ∧ (([m, d].take i).foldl addP (zpad 4 y)).length ≤ 4 + 5 * i) ⟨⟨none, rfl⟩, rfl, l4⟩
      (fun i σ Hi _ z => by rw [z.2.1]; exact SqT.of hp) ?_ ?_⟩
    · rintro i x σ Hi hx ⟨⟨v2, rfl⟩, rfl, hlen⟩
      have key : ∃ o : Option Int, [m, d][i]? = some o ∧ x = oV o ∧ (o = m ∨ o = d) ∧ i ≤ 1 := by
        match i, hx with
        | 0, hx =>
          cases hx
          exact ⟨m, rfl, rfl, .inl rfl, by decide⟩
        | 1, hx =>
          cases hx
          exact ⟨d, rfl, rfl, .inr rfl, by decide⟩
        | k + 2, hx => simp at hx
      obtain ⟨o, ho, rfl, hod, hi⟩ := key
      have eT : ([m, d].take (i + 1)).foldl addP (zpad 4 y) = addP (([m, d].take i).foldl addP (zpad 4 y)) o := by
        rw [List.take_add_one, ho, List.foldl_append]
        rfl
      rw [eT]
      generalize ([m, d].take i).foldl addP (zpad 4 y) = acc at hlen ⊢
      cases o with
      | none => exact ⟨_, rfl, rfl, _, rfl, iteF ⟨⟨_, rfl⟩, rfl, by show acc.length ≤ _; omega⟩⟩
      | some k =>
        obtain ⟨tk, tn⟩ := tO k (by rcases hod with h | h <;> rw [← h] <;> simp)
        have lk := txt_len tk
        have e2 := one_part (W := 2) (by decide) tk tn
        have l2 := zpad_len (W := 2) (by decide) tk
        refine ⟨_, rfl, rfl, _, rfl, iteT ?_⟩
        refine ⟨_, rfl, _, _, rfl, rfl, fitN ?_, _, rfl, k, rfl, int_small tk, _, rfl, fitN (by omega), 2, _, rfl, rfl, 2 - nDig k, rfl, congrArg V.int e2, by omega, _, _, rfl, rfl, fitN ?_, _, rfl, k, rfl, int_small tk, _, _, rfl, rfl, fitN ?_, ⟨some (.int k), ?_⟩, rfl, ?_⟩
        · rw [dsh]; omega
        · rw [strLen_append, dsh, zeros_len]; omega
        · rw [strLen_append, strLen_append, dsh, zeros_len]; omega
        · show [some (V.ref t), some (V.str (acc ++ "-" ++ zeros (2 - nDig k) ++ Str.ofString (toString k))), some (V.int k)] = _
          have e : acc ++ "-" ++ zeros (2 - nDig k) ++ Str.ofString (toString k) = addP acc (some k) := by
            show _ = acc ++ "-" ++ (zeros (2 - nDig k) ++ Str.ofString (toString k))
            simp only [Str.append_assoc]
          rw [e]
        · show (acc ++ "-" ++ zpad 2 k).length ≤ _
          rw [strLen_append, strLen_append, dsh]
          omega
    · rintro σ Hi ⟨⟨v2, rfl⟩, rfl, _⟩
      exact ⟨_, rfl, q _ (same_upd np)⟩
theorem ok_nm {f : Addr} {fd : FuncData} {e : Ex} (D : Df K mg "_law_name" ["_law_hand_here"] sName f fd) (T : Txt K mg C CL e) (cT : Ca P w K mg base 1 "_law_take" ["_law_hand_here", "_law_many"] spTake) (cP : Ca P w K mg base 2 "_law_pick" ["_law_hand_here", "_law_some"] spPick) : FnOk P w K mg base CX0 3 f fd ["_law_hand_here"] spNm := by
  refine D.fn.ok scName (fun vs H Q E h => ?_) (fun cdv A outer s H vs Q E hr h => ?_)
  · obtain ⟨h, n, rfl, hd, hn, q⟩ := h
    rfl
  · obtain ⟨h, n, rfl, hd, hn, q⟩ := h
    refine ⟨_, (pss_cons (ps_set (i := 1) scName.nd rfl (.inr rfl) pe_str)
      (pss_cons (ps_set (i := 2) scName.nd rfl (.inr rfl) (pe_op op_add_str (pv 1) pe_str))
      (C8.pss_cut (ps_set (i := 3) scName.nd rfl (.inl rfl) (pe_m1 F.slot_str_join F.type_str_join mt_join pe_str (pe_lc (own := [("_law_k", 6)]) (g := gName 6) (tt := tYes) (by rfl) scName.nd (pi_range1 (by rfl) T.range (pa_cons (pe_op op_add pe_int (pe_ca cT hr (by decide) (by rfl) (pa_cons (pv 0) (pa_cons pe_int pa_nil)))) pa_nil)) (blkOk_by (own := [("_law_k", 6)]) (N := ["_law_hand_here", "_law_small", "_law_signs", "_law_tongue", "_law_words", "_law_turn", "_law_k"]) (sc := defScope sName) (by decide +kernel)) (fun _ _ _ _ _ => pg_name (i := 6) scName.nd rfl (.inl rfl)) (fun _ _ _ _ _ => pts_nil) (fun _ _ _ _ _ => pe_ca cP hr (by decide) (by rfl) (pa_cons (pv 0) (pa_cons (pv 1) pa_nil))))))
      (C8.pss_cut (ps_set (i := 4) scName.nd rfl (.inl rfl) (pe_lst pa_nil))
      (C8.pss_cut (ps_for PassesOwn.never rfl (pi_range1 (by rfl) T.range (pa_cons (pe_op op_add pe_int (pe_ca cP hr (by decide) (by rfl) (pa_cons (pv 0) (pa_cons (pe_lst (pa_cons pe_int (pa_cons pe_int (pa_cons pe_int (pa_cons pe_int (pa_cons pe_int pa_nil)))))) pa_nil)))) pa_nil)) (pg_name (i := 5) scName.nd rfl (.inl rfl)) (pss_one (ps_expr (pe_bm PySem.F.plainAttrs_list PySem.F.slot_list_append PySem.F.type_list_append mt_append (pv 4) (pa_cons (pe_m1 F.slot_str_join F.type_str_join mt_join pe_str (pe_lc (own := [("_law_k", 6)]) (g := gName 6) (tt := tYes) (by rfl) scName.nd (pi_range1 (by rfl) T.range (pa_cons (pe_ca cP hr (by decide) (by rfl) (pa_cons (pv 0) (pa_cons (pe_lst (pa_cons pe_int (pa_cons pe_int (pa_cons pe_int (pa_cons pe_int (pa_cons pe_int pa_nil)))))) pa_nil))) pa_nil)) (blkOk_by (own := [("_law_k", 6)]) (N := ["_law_hand_here", "_law_small", "_law_signs", "_law_tongue", "_law_words", "_law_turn", "_law_k"]) (sc := defScope sName) (by decide +kernel)) (fun _ _ _ _ _ => pg_name (i := 6) scName.nd rfl (.inl rfl)) (fun _ _ _ _ _ => pts_nil) (fun _ _ _ _ _ => pe_ca cP hr (by decide) (by rfl) (pa_cons (pv 0) (pa_cons (pv 2) pa_nil))))) pa_nil)))))
      (pss_one (ps_ret (pe_tup (pa_cons (pv 3) (pa_cons (pe_m1 F.slot_str_rstrip F.type_str_rstrip mt_rstripChars (pe_slice sl_str (pe_m1 F.slot_str_join F.type_str_join mt_join pe_str (pv 4)) po_none (po_some pe_int)) pe_str) pa_nil)))))))))), ?_⟩
    have fr : n + 300 ≤ 1000000 := hn
    have l26 : small.length = 26 := by decide +kernel
    have l65 : lawSigns.length = 65 := by decide +kernel
    have es : (("abcdefghijklmnopqrstuvwxyz" : Str) ++ "ABCDEFGHIJKLMNOPQRSTUVWXYZ0123456789'-.") = lawSigns := by decide +kernel
    refine ⟨_, rfl, _, _, rfl, rfl, (by decide +kernel), ?_⟩
    rw [es]
    -- the tongue
    refine ⟨fun σ Hx => ∃ tg : Str, σ = [some (.ref h), some (.str small), some (.str lawSigns), some (.str tg), none, none, none] ∧ (tg.length = 2 ∨ tg.length = 3) ∧ (∀ c ∈ tg.cps.toList, c ∈ small.cps.toList) ∧ Hand (n + 4) Hx h ∧ But h H Hx, ?_, ?_⟩
    · refine ⟨⟨_, rfl⟩, _, rfl, h, 2, _, rfl, by decide, by decide, hd, by show n ≤ 1000000; omega, fun d H3 d0 d1 h3 b3 => ?_⟩
      refine ⟨2, d, rfl, rfl, _, rfl, by omega, by omega, fun W nW => ?_⟩
      have sW := same_upd nW (o := .lst [])
      have Wh := h3.fresh nW
      have HW : H W = none := b3.free Wh nW
      refine lc_range (lo := 0) (fun i Hj => ∃ ys : List Str, Hj W = some (.lst (ys.map V.str)) ∧ ys.length = i ∧ (∀ y ∈ ys, ∃ c ∈ small.cps.toList, y = ⟨#[c]⟩) ∧ Hand (n + 1 + i) Hj h ∧ But h H3 Hj) ?_ ?_ ?_
      · exact ⟨[], upd_same, rfl, by simp, (h3.same sW).mono (by omega), Same.but sW h⟩
      · rintro i Hj hi ⟨ys, eW, ly, cy, hdj, bj⟩
        have hi' : i < (2 + d).toNat := hi
        refine ⟨rfl, ?_⟩
        unfold tYes
        refine iteT ⟨_, rfl, _, rfl, h, _, _, rfl, hdj, by show n + 1 + (i : Int) ≤ 1000000; omega, .inr ⟨small, rfl, by rw [l26]; decide, by rw [l26]; decide, fun c H4 mc h4 b4 => ?_⟩⟩
        refine ⟨_, b4 _ _ Wh eW, ?_, ys ++ [⟨#[c]⟩], ?_, by rw [List.length_append, ly]; rfl, ?_, (h4.upd (Ne.symm Wh)).mono (by push_cast; omega), ?_⟩
        · rw [List.length_map, ly]
          exact Nat.lt_of_le_of_lt (show i ≤ 100 by omega) (by decide)
        · rw [upd_same, List.map_append]
          rfl
        · intro y hy
          rcases List.mem_append.mp hy with z | z
          · exact cy y z
          · exact ⟨c, mc, List.mem_singleton.mp z⟩
        · intro b x nb e
          rw [upd_ne (ne_of_none e nW)]
          exact b4 b x nb (bj b x nb e)
      · rintro H4 ⟨ys, eW, ly, cy, h4, b4⟩
        have ly' : ys.length = (2 + d).toNat := ly
        have h4' : Hand (n + 1 + ((2 + d).toNat : Int)) H4 h := h4
        have ones : ∀ y ∈ ys, y.length = 1 := fun y hy => by
          obtain ⟨c, _, e⟩ := cy y hy
          rw [e]
          rfl
        have sum := ones_sum ys ones
        have l0 : (("" : Str)).length = 0 := rfl
        refine ⟨"", W, ys, rfl, rfl, .inl (SqL.of eW), ?_, _, rfl, ?_, fun c hc => ?_, h4'.mono (by omega), b3.trans b4⟩
        · rw [sum, l0]; omega
        · rw [join_len, sum]; omega
        · rw [join_cps] at hc
          obtain ⟨l, ml, hcl⟩ := List.mem_flatten.mp hc
          obtain ⟨y, my, rfl⟩ := List.mem_map.mp ml
          obtain ⟨c', mc', e⟩ := cy y my
          rw [e] at hcl
          have : c = c' := by simpa using hcl
          rw [this]
          exact mc'
    rintro σ H1 ⟨tg, rfl, tl, ts, h1, b1⟩
    -- no words yet
    refine ⟨fun σ Hx => ∃ F : Addr, σ = [some (.ref h), some (.str small), some (.str lawSigns), some (.str tg), some (.ref F), none, none] ∧ Hx F = some (.lst []) ∧ F ≠ h ∧ H F = none ∧ Hand (n + 4) Hx h ∧ But h H Hx, ?_, ?_⟩
    · exact ⟨(by show 0 ≤ sizeLine; decide), fun F nF => ⟨F, rfl, upd_same, h1.fresh nF, b1.free (h1.fresh nF) nF, h1.same (same_upd nF), b1.trans (Same.but (same_upd nF) h)⟩⟩
    clear h1 b1 H1
    rintro σ H1 ⟨F, rfl, eF, Fh, nF, h1, b1⟩
    -- the words
    refine ⟨fun σ Hx => ∃ (ws : List Str) (c5 : Option V), σ = [some (.ref h), some (.str small), some (.str lawSigns), some (.str tg), some (.ref F), c5, none] ∧ Hx F = some (.lst (ws.map V.str)) ∧ ws ≠ [] ∧ ws.length ≤ 5 ∧ (∀ w ∈ ws, (w.cps.toList ≠ [] ∧ ∀ c ∈ w.cps.toList, c ∈ lawSigns.cps.toList) ∧ w.length ≤ 40) ∧ Hand (n + 260) Hx h ∧ But h H Hx, ?_, ?_⟩
    · refine ⟨_, rfl, (by show 5 ≤ sizeLine; decide), fun L nL => ?_⟩
      have sL := same_upd nL (o := .lst [.int 0, .int 0, .int 1, .int 2, .int 4])
      refine ⟨h, _, _, rfl, h1.same sL, by show n + 4 ≤ 1000000; omega, .inl ⟨L, _, rfl, upd_same, h1.fresh nL, by simp, by show 5 < 1000; decide, fun v H2 mv h2 b2 => ?_⟩⟩
      obtain ⟨m, rfl, m0, m4⟩ : ∃ m : Int, v = .int m ∧ 0 ≤ m ∧ m ≤ 4 := by
        simp only [List.mem_cons, List.not_mem_nil, or_false] at mv
        rcases mv with z | z | z | z | z <;> exact ⟨_, z, by decide, by decide⟩
      have b12 : But h H1 H2 := (Same.but sL h).trans b2
      have eF2 := b12 _ _ Fh eF
      have b02 := b1.trans b12
      clear sL b2 b12 mv nL
      refine ⟨1, m, rfl, rfl, _, rfl, by omega, by omega, for_range (lo := 0) (fun k σ Hi => ∃ (ws : List Str) (c5 : Option V), σ = [some (.ref h), some (.str small), some (.str lawSigns), some (.str tg), some (.ref F), c5, none] ∧ Hi F = some (.lst (ws.map V.str)) ∧ ws.length = k ∧ (∀ w ∈ ws, (w.cps.toList ≠ [] ∧ ∀ c ∈ w.cps.toList, c ∈ lawSigns.cps.toList) ∧ w.length ≤ 40) ∧ Hand (n + 5 + 42 * k) Hi h ∧ But h H Hi) ?_ ?_ ?_⟩
      · exact ⟨[], _, rfl, eF2, rfl, (fun w hw => by cases hw), h2.mono (by omega), b02⟩
      · rintro k σ Hi hk ⟨ws, c5, rfl, eFi, lw, aw, hdi, bi⟩
        have km : (k : Int) ≤ 4 := by omega
        refine ⟨_, rfl, .inl ⟨rfl, _, SqL.of eFi⟩, ⟨_, rfl⟩, _, rfl, (by show 5 ≤ sizeLine; decide), fun L nL => ?_⟩
        have sL := same_upd nL (o := .lst [.int 1, .int 2, .int 5, .int 9, .int 40])
        refine ⟨h, _, _, rfl, hdi.same sL, by show n + 5 + 42 * (k : Int) ≤ 1000000; omega, .inl ⟨L, _, rfl, upd_same, hdi.fresh nL, by simp, by show 5 < 1000; decide, fun v H3 mv h3 b3' => ?_⟩⟩
        obtain ⟨p, rfl, p0, p40⟩ : ∃ p : Int, v = .int p ∧ 1 ≤ p ∧ p ≤ 40 := by
          simp only [List.mem_cons, List.not_mem_nil, or_false] at mv
          rcases mv with z | z | z | z | z <;> exact ⟨_, z, by decide, by decide⟩
        have b3 : But h Hi H3 := (Same.but sL h).trans b3'
        have eF3 := b3 _ _ Fh eFi
        refine ⟨p, rfl, by omega, by omega, fun W nW => ?_⟩
        have sW := same_upd nW (o := .lst [])
        have Wh := h3.fresh nW
        have FW : F ≠ W := ne_of_none eF3 nW
        have HW : H W = none := bi.free Wh (b3.free Wh nW)
        refine lc_range (lo := 0) (fun i Hj => ∃ ys : List Str, Hj W = some (.lst (ys.map V.str)) ∧ ys.length = i ∧ (∀ y ∈ ys, ∃ c ∈ lawSigns.cps.toList, y = ⟨#[c]⟩) ∧ Hand (n + 6 + 42 * k + i) Hj h ∧ But h H3 Hj) ?_ ?_ ?_
        · exact ⟨[], upd_same, rfl, by simp, (h3.same sW).mono (by omega), Same.but sW h⟩
        · rintro i Hj hi ⟨ys, eW, ly, cy, hdj, bj⟩
          have hi' : i < p.toNat := hi
          refine ⟨rfl, ?_⟩
          unfold tYes
          refine iteT ⟨_, rfl, _, rfl, h, _, _, rfl, hdj, by show n + 6 + 42 * (k : Int) + i ≤ 1000000; omega, .inr ⟨lawSigns, rfl, by rw [l65]; decide, by rw [l65]; decide, fun c H4 mc h4 b4 => ?_⟩⟩
          refine ⟨_, b4 _ _ Wh eW, ?_, ys ++ [⟨#[c]⟩], ?_, by rw [List.length_append, ly]; rfl, ?_, (h4.upd (Ne.symm Wh)).mono (by push_cast; omega), ?_⟩
          · rw [List.length_map, ly]
            exact Nat.lt_of_le_of_lt (show i ≤ 100 by omega) (by decide)
          · rw [upd_same, List.map_append]
            rfl
          · intro y hy
            rcases List.mem_append.mp hy with z | z
            · exact cy y z
            · exact ⟨c, mc, List.mem_singleton.mp z⟩
          · intro b x nb e
            rw [upd_ne (ne_of_none e nW)]
            exact b4 b x nb (bj b x nb e)
        · rintro H4 ⟨ys, eW, ly, cy, h4, b4⟩
          have ly' : ys.length = p.toNat := ly
          have h4' : Hand (n + 6 + 42 * k + (p.toNat : Int)) H4 h := h4
          have ones : ∀ y ∈ ys, y.length = 1 := fun y hy => by
            obtain ⟨c, _, e⟩ := cy y hy
            rw [e]
            rfl
          have sum := ones_sum ys ones
          have l0 : (("" : Str)).length = 0 := rfl
          have jl : (Txt.join "" ys).length = ys.length := by rw [join_len, sum]
          have okw : ((Txt.join "" ys).cps.toList ≠ [] ∧ ∀ c ∈ (Txt.join "" ys).cps.toList, c ∈ lawSigns.cps.toList) ∧ (Txt.join "" ys).length ≤ 40 := by
            refine ⟨⟨fun z => ?_, fun c hc => ?_⟩, by omega⟩
            · rw [len_cps, z] at jl
              have : (0 : Nat) = ys.length := jl
              omega
            · rw [join_cps] at hc
              obtain ⟨l, ml, hcl⟩ := List.mem_flatten.mp hc
              obtain ⟨y, my, rfl⟩ := List.mem_map.mp ml
              obtain ⟨c', mc', e⟩ := cy y my
              rw [e] at hcl
              have : c = c' := by simpa using hcl
              rw [this]
              exact mc'
          have eF4 : H4 F = some (.lst (ws.map V.str)) := b4 _ _ Fh eF3
          have b04 : But h H H4 := bi.trans (b3.trans b4)
          refine ⟨"", W, ys, rfl, rfl, .inl (SqL.of eW), by rw [sum, l0]; omega, F, _, _, rfl, rfl, eF4, ?_, ws ++ [Txt.join "" ys], _, rfl, by rw [upd_same, List.map_append]; rfl, by rw [List.length_append, lw]; rfl, fun u hu => ?_, (h4'.upd (Ne.symm Fh)).mono (by push_cast; omega), ?_⟩
          · rw [List.length_map, lw]
            exact Nat.lt_of_le_of_lt (show k ≤ 100 by omega) (by decide)
          · rcases List.mem_append.mp hu with z | z
            · exact aw u z
            · rw [List.mem_singleton.mp z]; exact okw
          · intro b o nb e
            have bF : b ≠ F := fun z => by rw [z] at e nb; rw [nF] at e; cases e
            rw [upd_ne bF]
            exact b04 b o nb e
      · rintro σ He ⟨ws, c5, rfl, eFe, lw, aw, he, be⟩
        have lw' : ws.length = (1 + m).toNat := lw
        refine ⟨ws, c5, rfl, eFe, fun z => ?_, by omega, aw, he.mono (by omega), be⟩
        rw [z] at lw'
        have : (0 : Nat) = (1 + m).toNat := lw'
        omega
    clear eF h1 b1 H1
    rintro σ H1 ⟨ws, c5, rfl, eF, wne, w5, aw, h1, b1⟩
    -- the name
    obtain ⟨j1, j2, j3, j4⟩ := words_ok ws wne fun w hw => (aw w hw).1
    have jw : Txt.join " " ws = Str.join (s1 32) ws := by
      rw [TL.join_eq, show (" " : Str) = s1 32 by decide +kernel]
    have sum5 : (ws.map (·.length)).sum ≤ 40 * ws.length := by
      clear j1 j2 j3 j4 jw w5 wne eF
      induction ws with
      | nil => exact Nat.le_refl _
      | cons w r ih =>
        have w1 := (aw w List.mem_cons_self).2
        have w2 := ih fun z hz => aw z (List.mem_cons_of_mem _ hz)
        rw [List.map_cons, List.sum_cons, List.length_cons]
        omega
    have l1 : (" " : Str).length = 1 := by decide +kernel
    have ec : cutS (Txt.join " " ws) none (some 40) = ⟨((Str.join (s1 32) ws).cps.toList.take 40).toArray⟩ := by
      rw [jw]
      unfold cutS
      rw [show ((40 : Int)) = ((40 : Nat) : Int) from rfl, HT.sIx_nat, show HT.sIx (Str.join (s1 32) ws).length 0 none = 0 from rfl, List.drop_zero, Nat.sub_zero]
      congr 2
      by_cases c : 40 ≤ (Str.join (s1 32) ws).length
      · rw [Nat.min_eq_left c]
      · rw [Nat.min_eq_right (by omega), List.take_of_length_le (by rw [← len_cps]; exact Nat.le_refl _), List.take_of_length_le (by rw [← len_cps]; omega)]
    have okx : OkT (Txt.rstripChars (cutS (Txt.join " " ws) none (some 40)) " ") := by
      rw [ec]
      refine cut_text (fun c hc => j1 c (List.mem_of_mem_take hc)) ?_ ?_ ?_ ?_
      · show (Str.join (s1 32) ws).cps.toList.take 40 ≠ []
        cases e : (Str.join (s1 32) ws).cps.toList with
        | nil => exact absurd e j2
        | cons a r => simp
      · show ((Str.join (s1 32) ws).cps.toList.take 40).head? ≠ some 32
        cases e : (Str.join (s1 32) ws).cps.toList with
        | nil => exact absurd e j2
        | cons a r => rw [e] at j3; exact j3
      · show ND ((Str.join (s1 32) ws).cps.toList.take 40)
        exact ND.pre (r := (Str.join (s1 32) ws).cps.toList.drop 40) (by rw [List.take_append_drop]; exact j4)
      · show ((Str.join (s1 32) ws).cps.toList.take 40).toArray.size ≤ 40
        rw [List.size_toArray, List.length_take]
        omega
    have szc : (cutS (Txt.join " " ws) none (some 40)).length ≤ sizeLine := by
      rw [ec]
      refine Nat.le_trans (show ((Str.join (s1 32) ws).cps.toList.take 40).toArray.size ≤ 40 from ?_) (by decide)
      rw [List.size_toArray, List.length_take]
      omega
    have szj : (Txt.join " " ws).length ≤ sizeLine := by
      rw [jw]
      refine Nat.le_trans (StrLaws.join_length_le (s1 32) ws) ?_
      exact Nat.le_trans (show _ ≤ 1000 by have : (s1 32).length = 1 := rfl; rw [this]; omega) (by decide)
    refine ⟨_, rfl, ⟨_, rfl⟩, _, rfl, " ", F, ws, rfl, rfl, .inl (SqL.of eF), by rw [l1]; omega, 40, rfl, _, rfl, szj, ⟨_, rfl⟩, _, _, rfl, rfl, szc, (by show 2 ≤ sizeLine; decide), fun t nt => ?_⟩
    exact q _ (tg, _) _ ⟨t, rfl, upd_same⟩ ⟨tl, ts, okx⟩ ((h1.same (same_upd nt)).mono (by omega)) (b1.trans (Same.but (same_upd nt) h))
end
end K64
set_option Elab.async false
set_option linter.all false
set_option maxRecDepth 100000
set_option maxHeartbeats 4000000
set_option pp.maxSteps 400
set_option pp.deepTerms false
namespace K64
open PySem PySem.Spec PyProof.Rows L2
open Xk Az Xtx Xkd Xst Xsp
section
variable {P : Program} {w : World} {K : PySem.W.Frag} {mg : Str → Option Value} {base : Heap} {C CL : Addr}
/-- the law's own entry: the day by its parts, the length by its seconds -/
def DpO (H : Hp) (v : V) : Option (Int × Option Int × Option Int) → Prop
  | none => v = .non
  | some d => ∃ t : Addr, v = .ref t ∧ H t = some (.tup (pV d.1 d.2.1 d.2.2))
def iV : Option Int → V
  | none => .non
  | some c => .int c
def LnAt (H : Hp) (t : Addr) (e : En) : Prop := ∃ v2 v3 v4 v5 v6 : V, H t = some (.tup [.str e.k.1, .int e.k.2, v2, v3, v4, v5, v6]) ∧ v2 = cV e.code ∧ NmR H v3 e.title ∧ PlO H v4 e.pl ∧ DpO H v5 e.day ∧ v6 = iV e.len
theorem PlO.tp {H H' : Hp} {v : V} {o : Option (List (Str × Str))} (h : PlO H v o) (s : ∀ b xs, H b = some (.tup xs) → H' b = some (.tup xs)) : PlO H' v o := by
  cases o with
  | none => exact h
  | some n => obtain ⟨t, xs, e, et, z⟩ := h; exact ⟨t, xs, e, s _ _ et, z.tp s⟩
theorem DpO.tp {H H' : Hp} {v : V} {o : Option (Int × Option Int × Option Int)} (h : DpO H v o) (s : ∀ b xs, H b = some (.tup xs) → H' b = some (.tup xs)) : DpO H' v o := by
  cases o with
  | none => exact h
  | some n => obtain ⟨t, e, et⟩ := h; exact ⟨t, e, s _ _ et⟩
theorem LnAt.tp {H H' : Hp} {t : Addr} {e : En} (h : LnAt H t e) (s : ∀ b xs, H b = some (.tup xs) → H' b = some (.tup xs)) : LnAt H' t e := by
  obtain ⟨v2, v3, v4, v5, v6, et, h2, h3, h4, h5, h6⟩ := h
  exact ⟨v2, v3, v4, v5, v6, s _ _ et, h2, h3.tp s, h4.tp s, h5.tp s, h6⟩
theorem LnAt.same {H H' : Hp} {t : Addr} {e : En} (h : LnAt H t e) (s : L2.Same H H') : LnAt H' t e := h.tp fun b xs e => s _ _ e
def spEn : Sp := fun vs H Q _ => ∃ (h : Addr) (n : Int), vs = [.ref h] ∧ Hand n H h ∧ n + 5000 ≤ far ∧ ∀ t e H', LnAt H' t e → OkE e → Hand (n + 5000) H' h → But h H H' → Q (.ref t) H'
/-- what stands at a place of the fields, or None -/
def Or (fs ws : List V) : Prop := ∀ (i : Nat) (v : V), ws[i]? = some v → v = V.non ∨ fs[i]? = some v
theorem pl_notin {n : Str × Str} : ∀ {ps : List (Str × Str)}, (ps.map NP).any (fun z => PyData.eqv z (NP n)) = decide (n ∈ ps)
  | [] => by simp
  | p :: r => by
    have ih := pl_notin (n := n) (ps := r)
    rw [List.map_cons, List.any_cons, ih]
    have e : PyData.eqv (NP p) (NP n) = decide (n = p) := by
      simp only [NP, PyData.eqv, PyData.eqvAll, Bool.and_true]
      rw [Bool.eq_iff_iff]
      simp only [Bool.and_eq_true, decide_eq_true_eq, beq_iff_eq]
      constructor
      · rintro ⟨a, b⟩; exact (Prod.ext a b).symm
      · rintro rfl; exact ⟨rfl, rfl⟩
    rw [e, Bool.eq_iff_iff]
    simp
theorem ok_en {f : Addr} {fd : FuncData} {e : Ex} (D : Df K mg "_law_entry" ["_law_hand_here"] sEntry f fd) (T : Txt K mg C CL e) (cT : Ca P w K mg base 1 "_law_take" ["_law_hand_here", "_law_many"] spTake) (cP : Ca P w K mg base 2 "_law_pick" ["_law_hand_here", "_law_some"] spPick) (cKy : Ca P w K mg base 3 "_law_key" ["_law_hand_here"] spKy) (cSec : Ca P w K mg base 3 "_law_seconds" ["_law_hand_here"] spSec) (cPr : Ca P w K mg base 3 "_law_parts" ["_law_hand_here"] spParts) (cNm : Ca P w K mg base 3 "_law_name" ["_law_hand_here"] spNm) : FnOk P w K mg base CX0 4 f fd ["_law_hand_here"] spEn := by
  refine D.fn.ok scEntry (fun vs H Q E h => ?_) (fun cdv A outer s H vs Q E hr h => ?_)
  · obtain ⟨h, n, rfl, hh, hn, q⟩ := h
    rfl
  · obtain ⟨h, n, rfl, hh, hn, q⟩ := h
    refine ⟨_, (C8.pss_cut (ps_set (i := 2) scEntry.nd rfl (.inl rfl) (pe_m1 F.slot_str_join F.type_str_join mt_join pe_str (pe_lc (own := [("_law_k", 1)]) (g := gName 1) (tt := tYes) (by rfl) scEntry.nd (pi_range1 (by rfl) T.range (pa_cons (pe_op op_add pe_int (pe_ca cT hr (by decide) (by rfl) (pa_cons (pv 0) (pa_cons pe_int pa_nil)))) pa_nil)) (blkOk_by (own := [("_law_k", 1)]) (N := ["_law_hand_here", "_law_k", "_law_code", "_law_players", "_law_player", "_law_fields", "_law_field"]) (sc := defScope sEntry) (by decide +kernel)) (fun _ _ _ _ _ => pg_name (i := 1) scEntry.nd rfl (.inl rfl)) (fun _ _ _ _ _ => pts_nil) (fun _ _ _ _ _ => pe_ca cP hr (by decide) (by rfl) (pa_cons (pv 0) (pa_cons pe_str pa_nil))))))
      (pss_cons (ps_set (i := 3) scEntry.nd rfl (.inl rfl) (pe_lst pa_nil))
      (C8.pss_cut (ps_for PassesOwn.never rfl (pi_range1 (by rfl) T.range (pa_cons (pe_ca cP hr (by decide) (by rfl) (pa_cons (pv 0) (pa_cons (pe_lst (pa_cons pe_int (pa_cons pe_int (pa_cons pe_int (pa_cons pe_int (pa_cons pe_int pa_nil)))))) pa_nil))) pa_nil)) (pg_name (i := 1) scEntry.nd rfl (.inl rfl)) (pss_cons (ps_set (i := 4) scEntry.nd rfl (.inl rfl) (pe_ca cNm hr (by decide) (by rfl) (pa_cons (pv 0) pa_nil)))
      (pss_one (ps_if (pt_cmpR (op_notInD (r65 hr)) (pv 4) (pv 3) (by rfl)) (pss_one (ps_expr (pe_bm PySem.F.plainAttrs_list PySem.F.slot_list_append PySem.F.type_list_append mt_append (pv 3) (pa_cons (pv 4) pa_nil)))) pss_nil))))
      (pss_cons (ps_set (i := 5) scEntry.nd rfl (.inl rfl) (pe_lst (pa_cons (pv 2) (pa_cons (pe_ca cNm hr (by decide) (by rfl) (pa_cons (pv 0) pa_nil)) (pa_cons (pe_callTy call_tuple_of (by rfl) T.tuple (by decide +kernel) (pa_cons (pe_callB (Xsp.cr_sortN hr) (by rfl) T.sorted (by decide +kernel) (pa_cons (pv 3) pa_nil)) pa_nil)) (pa_cons (pe_ca cPr hr (by decide) (by rfl) (pa_cons (pv 0) pa_nil)) (pa_cons (pe_ca cSec hr (by decide) (by rfl) (pa_cons (pv 0) pa_nil)) pa_nil)))))))
      (pss_one (ps_ret (pe_op Xtu.op_catU (pe_ca cKy hr (by decide) (by rfl) (pa_cons (pv 0) pa_nil)) (pe_callTy call_tuple_of (by rfl) T.tuple (by decide +kernel) (pa_cons (pe_lc (own := [("_law_field", 6)]) (g := gName 6) (tt := tYes) (by rfl) scEntry.nd (pi_list (pv 5)) (blkOk_by (own := [("_law_field", 6)]) (N := ["_law_hand_here", "_law_k", "_law_code", "_law_players", "_law_player", "_law_fields", "_law_field"]) (sc := defScope sEntry) (by decide +kernel)) (fun _ _ _ _ _ => pg_name (i := 6) scEntry.nd rfl (.inl rfl)) (fun _ _ _ _ _ => pts_nil) (fun _ _ _ _ _ => pe_ifExp (pt_cmpR op_eq (pe_ca cT hr (by decide) (by rfl) (pa_cons (pv 0) (pa_cons pe_int pa_nil))) pe_int (nomark _)) pe_non (pv 6))) pa_nil))))))))), ?_⟩
    have fr : n + 5000 ≤ 1000000 := hn
    have l36 : codes.length = 36 := by decide +kernel
    refine ⟨fun σ Hx => ∃ cd : Str, σ = [some (.ref h), none, some (.str cd), none, none, none, none] ∧ ofT (.str cd) codes 1 12 = true ∧ Hand (n + 20) Hx h ∧ But h H Hx, ?_, ?_⟩
    · refine ⟨⟨_, rfl⟩, _, rfl, h, 12, n, rfl, by decide, by decide, hh, by show n ≤ 1000000; omega, fun d H1 d0 d1 h1 b1 => ?_⟩
      refine ⟨1, d, rfl, rfl, _, rfl, by omega, by omega, fun L nL => ?_⟩
      have Lh := h1.fresh nL
      refine lc_range (lo := 0) (fun i Hi => ∃ ys : List Str, Hi L = some (.lst (ys.map V.str)) ∧ ys.length = i ∧ (∀ y ∈ ys, ∃ c ∈ codes.cps.toList, y = ⟨#[c]⟩) ∧ Hand (n + 1 + i) Hi h ∧ But h H1 Hi) ?_ ?_ ?_
      · exact ⟨[], upd_same, rfl, by simp, (h1.same (same_upd nL)).mono (by omega), Same.but (same_upd nL) h⟩
      · rintro i Hi hi ⟨ys, eL, ly, cy, hdi, bi⟩
        have hi' : i < (1 + d).toNat := hi
        refine ⟨rfl, ?_⟩
        unfold tYes
        refine iteT ⟨_, rfl, h, n + 1 + i, _, rfl, hdi, by show n + 1 + (i : Int) ≤ 1000000; omega, .inr ⟨codes, rfl, by rw [l36]; decide, by rw [l36]; decide, fun c H2 mc h2 b2 => ?_⟩⟩
        refine ⟨_, b2 _ _ Lh eL, ?_, ys ++ [⟨#[c]⟩], ?_, by rw [List.length_append, ly]; rfl, ?_, (h2.upd (Ne.symm Lh)).mono (by push_cast; omega), ?_⟩
        · rw [List.length_map, ly]
          exact Nat.lt_of_le_of_lt (show i ≤ 100 by omega) (by decide)
        · rw [upd_same, List.map_append]
          rfl
        · intro y hy
          rcases List.mem_append.mp hy with z | z
          · exact cy y z
          · exact ⟨c, mc, List.mem_singleton.mp z⟩
        · intro b x nb e
          rw [upd_ne (ne_of_none e nL)]
          exact b2 b x nb (bi b x nb e)
      rintro H2 ⟨ys, eL, ly, cy, h2, b2⟩
      have ly' : ys.length = (1 + d).toNat := ly
      have h2' : Hand (n + 1 + (((1 + d).toNat : Nat) : Int)) H2 h := h2
      have ones : ∀ y ∈ ys, y.length = 1 := fun y hy => by
        obtain ⟨c, _, e⟩ := cy y hy
        rw [e]
        rfl
      have sum := ones_sum ys ones
      have l0 : (("" : Str)).length = 0 := rfl
      have wl : (Txt.join "" ys).length = ys.length := by rw [join_len, sum]
      refine ⟨"", L, ys, rfl, rfl, .inl (SqL.of eL), by rw [sum, l0]; omega, Txt.join "" ys, rfl, ofT_iff.mpr ⟨by omega, by omega, chk_iff.mpr fun c hc => ?_⟩, h2'.mono (by omega), b1.trans b2⟩
      rw [join_cps] at hc
      obtain ⟨y, hy, hc2⟩ := List.mem_flatten.mp hc
      obtain ⟨y2, my, rfl⟩ := List.mem_map.mp hy
      obtain ⟨c', mc, e⟩ := cy y2 my
      rw [e] at hc2
      have : c = c' := by simpa using hc2
      rw [this]
      exact mc
    rintro σ H1 ⟨cd, rfl, ok0, h1, b1⟩
    -- no players yet
    refine ⟨(by show 0 ≤ sizeLine; decide), fun P nP => ?_⟩
    have sP := same_upd nP (o := .lst [])
    have Ph := h1.fresh nP
    have hP : H P = none := b1.free Ph nP
    refine ⟨fun σ Hx => ∃ (c1 c4 : Option V) (xs : List V) (ps : List (Str × Str)), σ = [some (.ref h), c1, some (.str cd), some (.ref P), c4, none, none] ∧ Hx P = some (.lst xs) ∧ NAs Hx xs ps ∧ ps.Nodup ∧ 1 ≤ ps.length ∧ ps.length ≤ 8 ∧ (∀ m ∈ ps, NmOk m) ∧ Hand (n + 2700) Hx h ∧ But h H Hx, ?_, ?_⟩
    · refine ⟨_, rfl, (by show 5 ≤ sizeLine; decide), fun L nL => ?_⟩
      have sL := same_upd nL (o := .lst [.int 1, .int 1, .int 2, .int 3, .int 8])
      have h1' := (h1.same sP).same sL
      refine ⟨h, _, _, rfl, h1', by show n + 20 ≤ 1000000; omega, .inl ⟨L, _, rfl, upd_same, (h1.same sP).fresh nL, by simp, by show 5 < 1000; decide, fun v H2 mv h2 b2 => ?_⟩⟩
      obtain ⟨m, rfl, m1, m8⟩ : ∃ m : Int, v = .int m ∧ 1 ≤ m ∧ m ≤ 8 := by
        simp only [List.mem_cons, List.not_mem_nil, or_false] at mv
        rcases mv with z | z | z | z | z <;> exact ⟨_, z, by decide, by decide⟩
      have b12 : But h H1 H2 := ((Same.but sP h).trans (Same.but sL h)).trans b2
      have eP2 : H2 P = some (.lst []) := b2 _ _ Ph (sL _ _ upd_same)
      refine ⟨m, rfl, by omega, by omega, for_range (lo := 0) (fun k σ Hi => ∃ (c1 c4 : Option V) (xs : List V) (ps : List (Str × Str)), σ = [some (.ref h), c1, some (.str cd), some (.ref P), c4, none, none] ∧ Hi P = some (.lst xs) ∧ NAs Hi xs ps ∧ ps.Nodup ∧ (1 ≤ k → 1 ≤ ps.length) ∧ ps.length ≤ k ∧ (∀ m ∈ ps, NmOk m) ∧ Hand (n + 21 + 300 * k) Hi h ∧ But h H Hi) ?_ ?_ ?_⟩
      · exact ⟨none, none, [], [], rfl, eP2, .nil, List.nodup_nil, fun z => absurd z (by decide), Nat.le_refl _, by simp, h2.mono (by omega), b1.trans b12⟩
      · rintro k σ Hi hk ⟨c1, c4, xs, ps, rfl, eP, na, nd, p1, pk, pn, hdi, bi⟩
        have k8 : k < 8 := by
          have : k < m.toNat := hk
          omega
        refine ⟨_, rfl, h, _, rfl, hdi, by show n + 21 + 300 * (k : Int) + 300 ≤ 1000000; omega, fun v nm H3 nat okn h3 b3 => ?_⟩
        have eP3 := b3 _ _ Ph eP
        have na3 := na.tp (tp_but hdi b3)
        obtain ⟨w1, w2⟩ := nm_ok2 okn
        have shN : SeqAt.shaped (NP nm) = true := by
          unfold SeqAt.shaped
          have g1 : (NP nm).canLay0 = true := by simp [NP, PyData.canLay0, PyData.canLayAll0, w1, w2]
          have g2 : (NP nm).depth ≤ 64 := Nat.le_trans (depth_NP nm) (by decide)
          rw [g1, decide_eq_true g2]
          rfl
        obtain ⟨tn, rfl, etn⟩ := id nat
        refine ⟨_, rfl, _, rfl, NP nm, ps.map NP, .tup (SqT.of etn) (.cons (.str _) (.cons (.str _) .nil)), .lst (SqL.of eP3) (nas_dp na3), shN, nas_shaped pn, _, rfl, ?_⟩
        rw [pl_notin]
        by_cases hm : nm ∈ ps
        · rw [decide_eq_true hm]
          refine iteF ⟨_, _, xs, ps, rfl, eP3, na3, nd, fun _ => ?_, by omega, pn, h3.mono (by push_cast; omega), bi.trans b3⟩
          cases ps with
          | nil => cases hm
          | cons a r => simp
        · rw [decide_eq_false hm]
          have tp : ∀ b ys, H3 b = some (.tup ys) → (L2.upd H3 P (.lst (xs ++ [.ref tn]))) b = some (.tup ys) := fun b ys e => by
            rw [upd_ne (ne_of e eP3 (by intro z; cases z))]
            exact e
          have xl := na3.len
          refine iteT ⟨_, rfl, .inl ⟨rfl, _, SqL.of eP3⟩, _, rfl, P, _, _, rfl, rfl, eP3, Nat.lt_of_le_of_lt (show xs.length ≤ 100 by omega) (by decide), _, _, xs ++ [.ref tn], ps ++ [nm], rfl, upd_same, (na3.tp tp).snoc (NA.tp nat tp), ?_, fun _ => by rw [List.length_append]; simp, by rw [List.length_append]; simp; omega, fun a ha => ?_, (h3.upd (Ne.symm Ph)).mono (by push_cast; omega), fun b x nb e => ?_⟩
          · refine List.nodup_append.mpr ⟨nd, by simp, fun a ha b hb z => ?_⟩
            rw [List.mem_singleton.mp hb] at z
            rw [z] at ha
            exact hm ha
          · rcases List.mem_append.mp ha with z | z
            · exact pn a z
            · rw [List.mem_singleton.mp z]; exact okn
          · rw [upd_ne (ne_of_none e hP)]
            exact b3 b x nb (bi b x nb e)
      · rintro σ Hi ⟨c1, c4, xs, ps, rfl, eP, na, nd, p1, pk, pn, hdi, bi⟩
        have pk' : ps.length ≤ m.toNat := pk
        have p1' : 1 ≤ m.toNat → 1 ≤ ps.length := p1
        have hdi' : Hand (n + 21 + 300 * ((m.toNat : Nat) : Int)) Hi h := hdi
        exact ⟨c1, c4, xs, ps, rfl, eP, na, nd, p1' (by omega), by omega, pn, hdi'.mono (by omega), bi⟩
    rintro σ H2 ⟨c1, c4, xs, ps, rfl, eP, na, nd, p1, p8, pn, h2, b2⟩
    clear sP nP h1 b1
    -- the fields
    refine ⟨_, rfl, _, rfl, h, _, rfl, h2, by show n + 2700 + 300 ≤ 1000000; omega, fun v3 nm H3 nat okn h3 b3 => ?_⟩
    have eP3 := b3 _ _ Ph eP
    have na3 := na.tp (tp_but h2 b3)
    refine ⟨_, rfl, P, xs, ps, rfl, SqL.of eP3, na3, fun ws p naS np => ?_⟩
    have sp := same_upd np (o := .lst ws)
    have ep : (L2.upd H3 p (.lst ws)) p = some (.lst ws) := upd_same
    generalize L2.upd H3 p (.lst ws) = H4 at sp ep ⊢
    refine ⟨p, ws, rfl, .inl ⟨SqL.of ep, fun u nu => ?_⟩⟩
    have su := same_upd nu (o := .tup ws)
    have eu : (L2.upd H4 u (.tup ws)) u = some (.tup ws) := upd_same
    generalize L2.upd H4 u (.tup ws) = H5 at su eu ⊢
    have h5 := (h3.same sp).same su
    have naS5 := (naS.tp fun b ys e => sp _ _ e).tp fun b ys e => su _ _ e
    obtain ⟨ms, hms⟩ : ∃ ms, ps.mergeSort nle = ms := ⟨_, rfl⟩
    rw [hms] at naS5
    have pm : ms.Perm ps := hms ▸ List.mergeSort_perm ps nle
    have ris : Ris ms := hms ▸ sort_ris nd
    have mn : ∀ m ∈ ms, NmOk m := fun m hm => pn m (pm.mem_iff.mp hm)
    have ml := pm.length_eq
    refine ⟨_, rfl, h, _, rfl, h5, by show n + 2700 + 300 + 20 ≤ 1000000; omega, fun t y m d H6 et g h6 b6 => ?_⟩
    refine ⟨_, rfl, h, _, rfl, h6, by show n + 2700 + 300 + 9 + 10 ≤ 1000000; omega, fun c H7 c0 c9 h7 b7 => ?_⟩
    refine ⟨(by show 5 ≤ sizeLine; decide), fun F nF => ?_⟩
    have sF := same_upd nF (o := .lst [.str cd, v3, .ref u, .ref t, .int c])
    have eF : (L2.upd H7 F (.lst [.str cd, v3, .ref u, .ref t, .int c])) F = some (.lst [.str cd, v3, .ref u, .ref t, .int c]) := upd_same
    have Fh := h7.fresh nF
    generalize L2.upd H7 F (.lst [.str cd, v3, .ref u, .ref t, .int c]) = H8 at sF eF ⊢
    have h8 := h7.same sF
    -- what stands there, behind all this
    have tp67 := tp_but h6 b7
    have tp56 := tp_but h5 b6
    have f3 : NmR H8 v3 (some nm) := by
      obtain ⟨a, e, ea⟩ := nat
      exact ⟨a, e, sF _ _ (tp67 _ _ (tp56 _ _ (su _ _ (sp _ _ ea))))⟩
    have f4 : PlO H8 (.ref u) (some ms) := ⟨u, ws, rfl, sF _ _ (tp67 _ _ (tp56 _ _ eu)), naS5.tp fun b ys e => sF _ _ (tp67 _ _ (tp56 _ _ e))⟩
    have f5 : DpO H8 (.ref t) (some (y, m, d)) := ⟨t, rfl, sF _ _ (tp67 _ _ et)⟩
    have b08 : But h H H8 := ((((b2.trans b3).trans (Same.but (sp.trans su) h)).trans b6).trans b7).trans (Same.but sF h)
    -- the key, and what is left out
    refine ⟨_, rfl, h, _, rfl, h8, by show n + 2700 + 300 + 9 + 3 + 100 ≤ 1000000; omega, fun tk k H9 ek gk h9 b9 => ?_⟩
    have tp89 := tp_but h8 b9
    have eF9 := b9 _ _ Fh eF
    refine ⟨_, rfl, F, rfl, ⟨_, SqL.of eF9⟩, fun W nW => ?_⟩
    have Wh := h9.fresh nW
    have WF : F ≠ W := ne_of_none eF9 nW
    have hW : H W = none := (b08.trans b9).free Wh nW
    refine lc_list (K := K) (a := F) (xs := [.str cd, v3, .ref u, .ref t, .int c]) (fun j Hi => ∃ vs, Hi W = some (.lst vs) ∧ vs.length = j ∧ Or [.str cd, v3, .ref u, .ref t, .int c] vs ∧ Hi F = some (.lst [.str cd, v3, .ref u, .ref t, .int c]) ∧ Hand (n + 2700 + 300 + 9 + 3 + 20 + j) Hi h ∧ But h H9 Hi) ⟨[], upd_same, rfl, fun i v e => by simp at e, same_upd nW _ _ eF9, (h9.same (same_upd nW)).mono (by omega), Same.but (same_upd nW) h⟩ (fun j Hi _ z => by obtain ⟨_, _, _, _, z, _⟩ := z; exact SqL.of z) ?_ ?_
    · rintro j x Hi hx ⟨vs, eW, lv, or_, eFi, hdi, bi⟩
      have j5 : j < 5 := (List.getElem?_eq_some_iff.mp hx).1
      refine ⟨rfl, ?_⟩
      unfold tYes
      have put : ∀ {x2 : V} {H2 : Hp}, (x2 = .non ∨ ([.str cd, v3, .ref u, .ref t, .int c] : List V)[j]? = some x2) → Hand (n + 2700 + 300 + 9 + 3 + 20 + j + 1) H2 h → But h Hi H2 → ∃ acc, H2 W = some (.lst acc) ∧ acc.length < sizeLine ∧ ∃ vs, (L2.upd H2 W (.lst (acc ++ [x2]))) W = some (.lst vs) ∧ vs.length = j + 1 ∧ Or [.str cd, v3, .ref u, .ref t, .int c] vs ∧ (L2.upd H2 W (.lst (acc ++ [x2]))) F = some (.lst [.str cd, v3, .ref u, .ref t, .int c]) ∧ Hand (n + 2700 + 300 + 9 + 3 + 20 + ((j + 1 : Nat) : Int)) (L2.upd H2 W (.lst (acc ++ [x2]))) h ∧ But h H9 (L2.upd H2 W (.lst (acc ++ [x2]))) := fun {x2 H2} hx2 h2 b2 => by
        refine ⟨vs, b2 _ _ Wh eW, Nat.lt_of_le_of_lt (show vs.length ≤ 100 by omega) (by decide), vs ++ [x2], upd_same, by rw [List.length_append, lv]; rfl, fun i v hv => ?_, by rw [upd_ne WF]; exact b2 _ _ Fh eFi, (h2.upd (Ne.symm Wh)).mono (by push_cast; omega), fun b x nb e => ?_⟩
        · rcases Nat.lt_or_ge i vs.length with cc | cc
          · rw [List.getElem?_append_left cc] at hv
            exact or_ i v hv
          · rw [List.getElem?_append_right cc] at hv
            have z0 : i - vs.length = 0 := by
              have := (List.getElem?_eq_some_iff.mp hv).1
              simp at this
              omega
            rw [z0] at hv
            have : x2 = v := Option.some.inj hv
            rw [← this, show i = j by omega]
            exact hx2
        · rw [upd_ne (ne_of_none e nW)]
          exact b2 b x nb (bi b x nb e)
      refine iteT ⟨_, rfl, h, 3, _, rfl, by decide, by decide, hdi, by show n + 2700 + 300 + 9 + 3 + 20 + (j : Int) ≤ 1000000; omega, fun g3 H2 g0 g1 h2 b2 => ?_⟩
      refine ⟨rfl, _, rfl, ite2 (fun _ => ?_) (fun _ => ?_)⟩
      · exact put (.inl rfl) h2 b2
      · exact ⟨_, rfl, put (.inr hx) h2 b2⟩
    rintro HA ⟨vs, eW, lv, or_, _, hA, bA⟩
    have lv5 : vs.length = 5 := lv
    refine ⟨W, vs, rfl, .inl ⟨SqL.of eW, fun a na2 => ?_⟩⟩
    have sa := same_upd na2 (o := .tup vs)
    have ea : (L2.upd HA a (.tup vs)) a = some (.tup vs) := upd_same
    generalize L2.upd HA a (.tup vs) = HB at sa ea ⊢
    have tp9A := tp_but h9 bA
    refine ⟨tk, a, _, vs, rfl, rfl, sa _ _ (tp9A _ _ ek), ea, Nat.le_trans (show 2 + vs.length ≤ 100 by omega) (by decide), fun o HC sC eo => ?_⟩
    have tp : ∀ b xs, H8 b = some (.tup xs) → HC b = some (.tup xs) := fun b xs e => sC _ _ (sa _ _ (tp9A _ _ (tp89 _ _ e)))
    have hC := (hA.same sa).same sC
    have hC' : Hand (n + 2700 + 300 + 9 + 3 + 20 + ((5 : Nat) : Int)) HC h := hC
    match vs, lv5, or_, eo with
    | [w2, w3, w4, w5, w6], _, or_, eo =>
      have o2 := or_ 0 w2 rfl
      have o3 := or_ 1 w3 rfl
      have o4 := or_ 2 w4 rfl
      have o5 := or_ 3 w5 rfl
      have o6 := or_ 4 w6 rfl
      simp only [List.getElem?_cons_zero, List.getElem?_cons_succ, Option.some.injEq] at o2 o3 o4 o5 o6
      obtain ⟨e2, q2, r2⟩ : ∃ x : Option Str, w2 = cV x ∧ ∀ z, x = some z → z = cd := o2.elim (fun z => ⟨none, z, fun _ z => by cases z⟩) fun z => ⟨some cd, z.symm, fun _ z => (Option.some.inj z).symm⟩
      obtain ⟨e3, q3, r3⟩ : ∃ x : Option (Str × Str), NmR HC w3 x ∧ ∀ z, x = some z → z = nm := o3.elim (fun z => ⟨none, z, fun _ z => by cases z⟩) fun z => ⟨some nm, z ▸ f3.tp tp, fun _ z => (Option.some.inj z).symm⟩
      obtain ⟨e4, q4, r4⟩ : ∃ x : Option (List (Str × Str)), PlO HC w4 x ∧ ∀ z, x = some z → z = ms := o4.elim (fun z => ⟨none, z, fun _ z => by cases z⟩) fun z => ⟨some ms, z ▸ f4.tp tp, fun _ z => (Option.some.inj z).symm⟩
      obtain ⟨e5, q5, r5⟩ : ∃ x : Option (Int × Option Int × Option Int), DpO HC w5 x ∧ ∀ z, x = some z → z = (y, m, d) := o5.elim (fun z => ⟨none, z, fun _ z => by cases z⟩) fun z => ⟨some (y, m, d), z ▸ f5.tp tp, fun _ z => (Option.some.inj z).symm⟩
      obtain ⟨e6, q6, r6⟩ : ∃ x : Option Int, w6 = iV x ∧ ∀ z, x = some z → z = c := o6.elim (fun z => ⟨none, z, fun _ z => by cases z⟩) fun z => ⟨some c, z.symm, fun _ z => (Option.some.inj z).symm⟩
      refine q o ⟨k, e2, e3, e4, e5, e6⟩ HC ⟨w2, w3, w4, w5, w6, eo, q2, q3, q4, q5, q6⟩ ⟨gk, fun z hz => ?_, fun z hz => ?_, fun z hz => ?_, fun z hz => ?_, fun z hz => ?_⟩ (hC'.mono (by omega)) ((((b08.trans b9).trans bA).trans (Same.but sa h)).trans (Same.but sC h))
      · rw [r2 z hz]; exact ok0
      · rw [r3 z hz]; exact okn
      · rw [r4 z hz]; exact ⟨by omega, by omega, mn, ris⟩
      · rw [r5 z hz]; exact g
      · rw [r6 z hz]; exact ⟨c0, c9⟩
end
end K64
set_option Elab.async false
set_option linter.all false
set_option maxRecDepth 100000
set_option maxHeartbeats 4000000
set_option pp.maxSteps 400
set_option pp.deepTerms false
namespace K64
open PySem PySem.Spec PyProof.Rows L2
open Xk Az Xtx Xkd Xst Xsp
section
variable {P : Program} {w : World} {K : PySem.W.Frag} {mg : Str → Option Value} {base : Heap} {C CL : Addr}
def spMd (C CL : Addr) : Sp := fun vs H Q _ => ∃ (t : Addr) (e : En), vs = [.ref t] ∧ LnAt H t e ∧ OkE e ∧ ∀ p H', L2.Same H H' → EnAt C CL H' p e → Q (.ref p) H'
def spEt : Sp := fun vs H Q _ => ∃ (t : Addr) (e : En), vs = [.ref t] ∧ LnAt H t e ∧ OkE e ∧ ∀ H', L2.Same H H' → Q (.str (enT e)) H'
theorem ixN_k {n j : Nat} (h : j < n) : ixN n (j : Int) = some j := by
  unfold ixN
  rw [if_pos (by omega), if_pos (by omega)]
  rfl
theorem ok_md {f : Addr} {fd : FuncData} {e : Ex} {fG gG : Addr} {fdG gdG : FuncData} (D : Df K mg "_law_made" ["_law_entry_here"] sMade f fd) (T : Txt K mg C CL e) (G : Dc P w K mg base C fG fdG) (GL : Lc P w K mg base CL gG gdG) : FnOk P w K mg base CX0 6 f fd ["_law_entry_here"] (spMd C CL) := by
  refine D.fn.ok scMade (fun vs H Q E h => ?_) (fun cdv A outer s H vs Q E hr h => ?_)
  · obtain ⟨t, e, rfl, h, ok, q⟩ := h
    rfl
  · obtain ⟨t, e, rfl, h, ok, q⟩ := h
    refine ⟨_, (pss_cons (ps_set (i := 1) scMade.nd rfl (.inl rfl) (pe_callTy call_list_of (by rfl) T.list (by decide +kernel) (pa_cons (pv 0) pa_nil)))
      (C8.pss_cut (ps_if (pt_cmpR op_notN (pe_ix ix_list (pv 1) pe_int (fun _ _ => rfl)) pe_non (nomark _)) (pss_one (ps_asg (pe_make G.mm G.ok (hr.mono (by decide)) (by rfl) T.mgC G.bd .nil pass0 (pa_cons (pe_ix ix_tup (pe_ix ix_list (pv 1) pe_int (fun _ _ => rfl)) pe_int (fun _ _ => rfl)) (pa_cons (pe_ix ix_tup (pe_ix ix_list (pv 1) pe_int (fun _ _ => rfl)) pe_int (fun _ _ => rfl)) (pa_cons (pe_ix ix_tup (pe_ix ix_list (pv 1) pe_int (fun _ _ => rfl)) pe_int (fun _ _ => rfl)) pa_nil)))) (pg_sub (pv 1) pe_int set_list))) pss_nil)
      (C8.pss_cut (ps_if (pt_cmpR op_notN (pe_ix ix_list (pv 1) pe_int (fun _ _ => rfl)) pe_non (nomark _)) (pss_one (ps_asg (pe_make GL.mm GL.ok (hr.mono (by decide)) (by rfl) T.mgL GL.bd .nil pass0 (pa_cons (pe_ix ix_list (pv 1) pe_int (fun _ _ => rfl)) pa_nil)) (pg_sub (pv 1) pe_int set_list))) pss_nil)
      (pss_one (ps_ret (pe_callTy call_tuple_of (by rfl) T.tuple (by decide +kernel) (pa_cons (pv 1) pa_nil))))))), ?_⟩
    obtain ⟨v2, v3, v4, v5, v6, et, h2, h3, h4, h5, h6⟩ := id h
    have made : ∀ {Hx : Hp} {o dx c : Addr}, Hx o = none → Hx dx = none → L2.Same Hx (L2.upd (L2.upd Hx dx (.own o)) o (.ins c dx [])) := fun {Hx o dx c} no nd b z e => by
      rw [upd_ne (ne_of_none e no), upd_ne (ne_of_none e nd)]
      exact e
    refine ⟨_, rfl, t, _, rfl, .inr (SqT.of et), fun L nL => ?_⟩
    have sL := same_upd nL (o := .lst [.str e.k.1, .int e.k.2, v2, v3, v4, v5, v6])
    have eL : (L2.upd H L (.lst [.str e.k.1, .int e.k.2, v2, v3, v4, v5, v6])) L = some (.lst [.str e.k.1, .int e.k.2, v2, v3, v4, v5, v6]) := upd_same
    generalize L2.upd H L (.lst [.str e.k.1, .int e.k.2, v2, v3, v4, v5, v6]) = H1 at sL eL ⊢
    have keepL : ∀ {Hx : Hp} {o : HO}, L2.Same H Hx → L2.Same H (L2.upd Hx L o) := fun {Hx o} s b z eb => by
      rw [upd_ne (ne_of_none eb nL)]
      exact s b z eb
    refine ⟨fun σ Hx => ∃ w5, σ = [some (.ref t), some (.ref L)] ∧ Hx L = some (.lst [.str e.k.1, .int e.k.2, v2, v3, v4, w5, v6]) ∧ DyO C Hx w5 e.day ∧ L2.Same H Hx, ?_, ?_⟩
    · refine ⟨_, rfl, L, _, 5, v5, rfl, rfl, SqL.of eL, rfl, ?_⟩
      cases hd : e.day with
      | none =>
        rw [hd] at h5
        have z : v5 = .non := h5
        subst z
        exact ⟨rfl, _, rfl, iteF ⟨_, rfl, eL, rfl, sL⟩⟩
      | some d =>
        rw [hd] at h5
        obtain ⟨t5, rfl, e5⟩ := h5
        have e51 := sL _ _ e5
        refine ⟨rfl, _, rfl, iteT ?_⟩
        refine ⟨_, rfl, L, _, 5, .ref t5, rfl, rfl, SqL.of eL, rfl, t5, _, 0, .int d.1, rfl, rfl, SqT.of e51, rfl, _, rfl, L, _, 5, .ref t5, rfl, rfl, SqL.of eL, rfl, t5, _, 1, oV d.2.1, rfl, rfl, SqT.of e51, rfl, _, rfl, L, _, 5, .ref t5, rfl, rfl, SqL.of eL, rfl, t5, _, 2, oV d.2.2, rfl, rfl, SqT.of e51, rfl, ?_⟩
        refine fun o dx no nd ne => ⟨o, dx, d.1, d.2.1, d.2.2, rfl, ok.gd d hd, upd_same, fun H3 keep al => ⟨rfl, ?_⟩⟩
        have s3 : L2.Same H1 H3 := fun b z eb => keep b z (made no nd b z eb) (ne_of_none eb no)
        have eL3 := s3 _ _ eL
        obtain ⟨dy, eo⟩ := id al
        have oL : o ≠ L := ne_of eo eL3 (by intro z; cases z)
        refine ⟨_, rfl, L, _, 5, 5, rfl, rfl, eL3, rfl, .ref o, rfl, upd_same, ⟨o, rfl, dy, ?_⟩, keepL (sL.trans s3)⟩
        rw [upd_ne oL]
        exact eo
    rintro σ H2 ⟨w5, rfl, eL2, d5, s2⟩
    have d5' : ∀ {Hx : Hp}, L2.Same H2 Hx → DyO C Hx w5 e.day := fun s => d5.same s
    refine ⟨fun σ Hx => ∃ w6, σ = [some (.ref t), some (.ref L)] ∧ Hx L = some (.lst [.str e.k.1, .int e.k.2, v2, v3, v4, w5, w6]) ∧ DyO C Hx w5 e.day ∧ LnO CL Hx w6 e.len ∧ L2.Same H Hx, ?_, ?_⟩
    · refine ⟨_, rfl, L, _, 6, v6, rfl, rfl, SqL.of eL2, rfl, ?_⟩
      cases hl : e.len with
      | none =>
        rw [hl] at h6
        have z : v6 = .non := h6
        subst z
        exact ⟨rfl, _, rfl, iteF ⟨_, rfl, eL2, d5, rfl, s2⟩⟩
      | some c =>
        rw [hl] at h6
        have z : v6 = .int c := h6
        subst z
        obtain ⟨g0, g1⟩ := ok.gl c hl
        refine ⟨rfl, _, rfl, iteT ?_⟩
        refine ⟨_, rfl, L, _, 6, .int c, rfl, rfl, SqL.of eL2, rfl, ?_⟩
        refine fun o dx no nd ne => ⟨o, dx, c, rfl, upd_same, g0, g1, fun H3 keep al => ⟨rfl, ?_⟩⟩
        have s3 : L2.Same H2 H3 := fun b z eb => keep b z (made no nd b z eb) (ne_of_none eb no)
        have eL3 := s3 _ _ eL2
        obtain ⟨dy, eo⟩ := id al
        have oL : o ≠ L := ne_of eo eL3 (by intro z; cases z)
        refine ⟨_, rfl, L, _, 6, 6, rfl, rfl, eL3, rfl, .ref o, rfl, upd_same, ?_, ⟨o, rfl, dy, ?_⟩, keepL (s2.trans s3)⟩
        · have d3 := d5' s3
          cases hd : e.day with
          | none => rw [hd] at d3; exact d3
          | some d =>
            rw [hd] at d3
            obtain ⟨o5, z5, dx5, eo5⟩ := d3
            refine ⟨o5, z5, dx5, ?_⟩
            rw [upd_ne (ne_of eo5 eL3 (by intro z; cases z))]
            exact eo5
        · rw [upd_ne oL]
          exact eo
    rintro σ H3 ⟨w6, rfl, eL3, d3, l3, s3⟩
    refine ⟨_, rfl, L, _, rfl, .inl ⟨SqL.of eL3, fun p np => ?_⟩⟩
    have sp := same_upd np (o := .tup [.str e.k.1, .int e.k.2, v2, v3, v4, w5, w6])
    exact q p _ (s3.trans sp) ⟨v2, v3, v4, w5, w6, upd_same, h2, (NmR.same h3 (s3.trans sp)), (PlO.same h4 (s3.trans sp)), d3.same sp, l3.same sp⟩
/-- a row, piece by piece -/
def ln (x : Str) (ps : List (Nat × Str)) : Str := ps.foldl (fun acc p => acc ++ " | " ++ pc p.1 p.2) x
theorem join_two (j x y : Str) : ∀ r : List Str, Str.join j ((x ++ j ++ y) :: r) = x ++ j ++ Str.join j (y :: r)
  | [] => rfl
  | z :: r => by
    show x ++ j ++ y ++ j ++ Str.join j (z :: r) = x ++ j ++ (y ++ j ++ Str.join j (z :: r))
    simp only [Str.append_assoc]
theorem ln_join : ∀ (ps : List (Nat × Str)) (x : Str), ln x ps = Str.join " | " (x :: ps.map fun p => pc p.1 p.2)
  | [], x => rfl
  | p :: r, x => by
    show ln (x ++ " | " ++ pc p.1 p.2) r = _
    rw [ln_join r, join_two]
    rfl
/-- the fields told, up to a place -/
def tt (e : En) (l : List Nat) : List (Nat × Str) := l.filterMap fun i => (fT e i).map fun t => (i, t)
theorem tt_none {e : En} {l : List Nat} {i : Nat} (h : fT e i = none) : tt e (l ++ [i]) = tt e l := by
  unfold tt
  rw [List.filterMap_append]
  simp [h]
theorem tt_some {e : En} {l : List Nat} {i : Nat} {t : Str} (h : fT e i = some t) : tt e (l ++ [i]) = tt e l ++ [(i, t)] := by
  unfold tt
  rw [List.filterMap_append]
  simp [h]
theorem ln_snoc (x : Str) (ps : List (Nat × Str)) (i : Nat) (t : Str) : ln x (ps ++ [(i, t)]) = ln x ps ++ " | " ++ pc i t := by
  unfold ln
  rw [List.foldl_append]
  rfl
theorem ln_len : ∀ (ps : List (Nat × Str)) (x : Str), (∀ p ∈ ps, (pc p.1 p.2).length ≤ 406) → (ln x ps).length ≤ x.length + ps.length * 409
  | [], x, _ => by show x.length ≤ _; omega
  | p :: r, x, h => by
    have a := ln_len r (x ++ " | " ++ pc p.1 p.2) fun q hq => h q (List.mem_cons_of_mem _ hq)
    have b := h p List.mem_cons_self
    have c : (" | " : Str).length = 3 := by decide +kernel
    rw [strLen_append, strLen_append, c] at a
    show (ln (x ++ " | " ++ pc p.1 p.2) r).length ≤ _
    rw [List.length_cons, Nat.succ_mul]
    omega
theorem tt_len {e : En} (ok : OkE e) {l : List Nat} (h : l.length ≤ 5) : (ln (kyT e.k) (tt e l)).length ≤ 3000 := by
  have a := ln_len (tt e l) (kyT e.k) fun p hp => by
    obtain ⟨i, hi, hp2⟩ := List.mem_filterMap.mp hp
    obtain ⟨t, ht, rfl⟩ := Option.map_eq_some_iff.mp hp2
    exact pc_len (fT_len ok ht)
  have b : (tt e l).length ≤ l.length := List.length_filterMap_le _ _
  have c := ky_len ok.gk
  have d : (tt e l).length * 409 ≤ 5 * 409 := Nat.mul_le_mul_right _ (by omega)
  omega
theorem app_pc {i : Nat} {lit : Str} (h : lit = " | " ++ wrdN i ++ " ") (x t : Str) : x ++ lit ++ t = x ++ " | " ++ pc i t := by
  rw [h]
  unfold pc
  simp only [Str.append_assoc]
theorem ln_told (e : En) : ln (kyT e.k) (tt e [0, 1, 2, 3, 4]) = enT e := by
  unfold enT
  rw [TL.join_eq, ln_join]
  rfl
theorem ok_et {f : Addr} {fd : FuncData} {e : Ex} (D : Df K mg "_law_entry_text" ["_law_entry_here"] sEntryText f fd) (T : Txt K mg C CL e) (cDt : Ca P w K mg base 1 "_law_day_text" ["_law_parts_here"] spText) (cLt : Ca P w K mg base 1 "_law_length_text" ["_law_count"] spLt) : FnOk P w K mg base CX0 2 f fd ["_law_entry_here"] spEt := by
  refine D.fn.ok scEntryText (fun vs H Q E h => ?_) (fun cdv A outer s H vs Q E hr h => ?_)
  · obtain ⟨t, e, rfl, h, ok, q⟩ := h
    rfl
  · obtain ⟨t, e, rfl, h, ok, q⟩ := h
    refine ⟨_, (pss_cons (ps_asg (pv 0) (pg_tup (by rfl) (pgs_cons (pg_name (i := 1) scEntryText.nd rfl (.inl rfl)) (pgs_cons (pg_name (i := 2) scEntryText.nd rfl (.inl rfl)) (pgs_cons (pg_name (i := 3) scEntryText.nd rfl (.inl rfl)) (pgs_cons (pg_name (i := 4) scEntryText.nd rfl (.inl rfl)) (pgs_cons (pg_name (i := 5) scEntryText.nd rfl (.inl rfl)) (pgs_cons (pg_name (i := 6) scEntryText.nd rfl (.inl rfl)) (pgs_cons (pg_name (i := 7) scEntryText.nd rfl (.inl rfl)) pgs_nil)))))))))
      (pss_cons (ps_set (i := 8) scEntryText.nd rfl (.inl rfl) (pe_op op_add_str (pe_op op_add_str (pv 1) pe_str) (pe_callTy call_str_int (by rfl) T.str (by decide +kernel) (pa_cons (pv 2) pa_nil))))
      (C8.pss_cut (ps_if (pt_cmpR op_notN (pv 3) pe_non (nomark _)) (pss_one (ps_set (i := 8) scEntryText.nd rfl (.inl rfl) (pe_op op_add_str (pe_op op_add_str (pv 8) pe_str) (pv 3)))) pss_nil)
      (C8.pss_cut (ps_if (pt_cmpR op_notN (pv 4) pe_non (nomark _)) (pss_one (ps_set (i := 8) scEntryText.nd rfl (.inl rfl) (pe_op op_add_str (pe_op op_add_str (pe_op op_add_str (pe_op op_add_str (pv 8) pe_str) (pe_ix ix_tup (pv 4) pe_int (fun _ _ => rfl))) pe_str) (pe_ix ix_tup (pv 4) pe_int (fun _ _ => rfl))))) pss_nil)
      (C8.pss_cut (ps_if (pt_cmpR op_notN (pv 5) pe_non (nomark _)) (pss_one (ps_set (i := 8) scEntryText.nd rfl (.inl rfl) (pe_op op_add_str (pe_op op_add_str (pv 8) pe_str) (pe_m1 F.slot_str_join F.type_str_join mt_join pe_str (pe_lc (own := [("_law_tongue", 9), ("_law_name_here", 10)]) (g := (gTup K 2 (gCons (gName 9) (gCons (gName 10) gNil)))) (tt := tYes) (by rfl) scEntryText.nd (pi_tup (pv 5)) (blkOk_by (own := [("_law_tongue", 9), ("_law_name_here", 10)]) (N := ["_law_entry_here", "_law_house", "_law_number_here", "_law_code", "_law_title", "_law_players", "_law_parts_here", "_law_count", "_law_text", "_law_tongue", "_law_name_here"]) (sc := defScope sEntryText) (by decide +kernel)) (fun _ _ _ _ _ => pg_tup (by rfl) (pgs_cons (pg_name (i := 9) scEntryText.nd rfl (.inl rfl)) (pgs_cons (pg_name (i := 10) scEntryText.nd rfl (.inl rfl)) pgs_nil))) (fun _ _ _ _ _ => pts_nil) (fun _ _ _ _ _ => pe_op op_add_str (pe_op op_add_str (pv 9) pe_str) (pv 10))))))) pss_nil)
      (C8.pss_cut (ps_if (pt_cmpR op_notN (pv 6) pe_non (nomark _)) (pss_one (ps_set (i := 8) scEntryText.nd rfl (.inl rfl) (pe_op op_add_str (pe_op op_add_str (pv 8) pe_str) (pe_ca cDt hr (by decide) (by rfl) (pa_cons (pv 6) pa_nil))))) pss_nil)
      (pss_one (ps_ret (pe_ifExp (pt_cmpR op_isN (pv 7) pe_non (nomark _)) (pv 8) (pe_op op_add_str (pe_op op_add_str (pv 8) pe_str) (pe_ca cLt hr (by decide) (by rfl) (pa_cons (pv 7) pa_nil)))))))))))), ?_⟩
    obtain ⟨v2, v3, v4, v5, v6, et, h2, h3, h4, h5, h6⟩ := id h
    have lk := ky_len ok.gk
    have lw := ok.gk.w8
    have lkn := kyn_len ok.gk
    have b1 : (" " : Str).length = 1 := by decide +kernel
    have k1 : (":" : Str).length = 1 := by decide +kernel
    refine ⟨_, rfl, t, _, rfl, SqT.of et, rfl, _, _, rfl, _, _, rfl, _, _, rfl, _, _, rfl, _, _, rfl, _, _, rfl, _, _, rfl, rfl, ?_⟩
    refine ⟨_, rfl, _, _, rfl, rfl, fitN (by omega), _, rfl, _, rfl, lg (by have := ok.gk.n0; omega) (by have := ok.gk.n1; omega), _, _, rfl, rfl, fitN ?_, ?_⟩
    · rw [strLen_append, b1]
      have : (Str.ofString (toString e.k.2)).length = (nT e.k.2).length := rfl
      omega
    have e0 : ln (kyT e.k) (tt e []) = e.k.1 ++ " " ++ Str.ofString (toString e.k.2) := rfl
    rw [← e0]
    -- code
    refine ⟨fun σ Hx => σ = [some (.ref t), some (.str e.k.1), some (.int e.k.2), some v2, some v3, some v4, some v5, some v6, some (.str (ln (kyT e.k) (tt e [0]))), none, none] ∧ L2.Same H Hx, ?_, ?_⟩
    · have l0 := tt_len ok (l := []) (by decide)
      refine ⟨_, rfl, rfl, _, rfl, ?_⟩
      cases hc : e.code with
      | none =>
        rw [hc] at h2
        subst h2
        refine iteF ⟨?_, Same.refl H⟩
        rw [show ([0] : List Nat) = [] ++ [0] from rfl, tt_none (show fT e 0 = none from hc)]
        rfl
      | some c =>
        rw [hc] at h2
        subst h2
        have lc := fT_len ok (show fT e 0 = some c from hc)
        have ll : (" | code " : Str).length = 8 := by decide +kernel
        refine iteT ⟨_, rfl, _, _, rfl, rfl, fitN (by omega), _, rfl, _, _, rfl, rfl, fitN (by rw [strLen_append]; omega), ?_, Same.refl H⟩
        rw [show ([0] : List Nat) = [] ++ [0] from rfl, tt_some (show fT e 0 = some c from hc), ln_snoc, ← app_pc (i := 0) (lit := " | code ") (by decide +kernel)]
        rfl
    rintro σ H1 ⟨rfl, s1⟩
    -- title
    refine ⟨fun σ Hx => σ = [some (.ref t), some (.str e.k.1), some (.int e.k.2), some v2, some v3, some v4, some v5, some v6, some (.str (ln (kyT e.k) (tt e [0, 1]))), none, none] ∧ L2.Same H Hx, ?_, ?_⟩
    · have l0 := tt_len ok (l := [0]) (by decide)
      refine ⟨_, rfl, rfl, _, rfl, ?_⟩
      cases ht : e.title with
      | none =>
        rw [ht] at h3
        have z : v3 = .non := h3
        subst z
        refine iteF ⟨?_, s1⟩
        rw [show ([0, 1] : List Nat) = [0] ++ [1] from rfl, tt_none (show fT e 1 = none by simp [fT, ht])]
      | some n =>
        rw [ht] at h3
        obtain ⟨tn, rfl, en⟩ := h3
        have en1 := s1 _ _ en
        have okn := ok.gt n ht
        have a1 := okn.tl
        have a2 := okn.tx.l40
        have ll : (" | title " : Str).length = 9 := by decide +kernel
        refine iteT ⟨_, rfl, _, _, rfl, rfl, fitN (by omega), _, rfl, tn, _, 0, .str n.1, rfl, rfl, SqT.of en1, rfl, _, _, rfl, rfl, fitN (by rw [strLen_append]; omega), _, _, rfl, rfl, fitN (by rw [strLen_append, strLen_append]; omega), _, rfl, tn, _, 1, .str n.2, rfl, rfl, SqT.of en1, rfl, _, _, rfl, rfl, fitN (by rw [strLen_append, strLen_append, strLen_append]; omega), ?_, s1⟩
        rw [show ([0, 1] : List Nat) = [0] ++ [1] from rfl, tt_some (show fT e 1 = some (nmT n) by simp [fT, ht]), ln_snoc, ← app_pc (i := 1) (lit := " | title ") (by decide +kernel)]
        unfold nmT
        simp only [Str.append_assoc]
        rfl
    rintro σ H2 ⟨rfl, s2⟩
    -- players
    refine ⟨fun σ Hx => σ = [some (.ref t), some (.str e.k.1), some (.int e.k.2), some v2, some v3, some v4, some v5, some v6, some (.str (ln (kyT e.k) (tt e [0, 1, 2]))), none, none] ∧ L2.Same H Hx, ?_, ?_⟩
    · have l0 := tt_len ok (l := [0, 1]) (by decide)
      refine ⟨_, rfl, rfl, _, rfl, ?_⟩
      cases hp : e.pl with
      | none =>
        rw [hp] at h4
        have z : v4 = .non := h4
        subst z
        refine iteF ⟨?_, s2⟩
        rw [show ([0, 1, 2] : List Nat) = [0, 1] ++ [2] from rfl, tt_none (show fT e 2 = none by simp [fT, hp])]
      | some ps =>
        rw [hp] at h4
        obtain ⟨p, xs, rfl, ex, na⟩ := h4
        obtain ⟨p1, p8, pn, _⟩ := ok.gp ps hp
        have xl := na.len
        have ex2 := s2 _ _ ex
        have na2 := na.tp fun b ys eb => s2 _ _ eb
        have lp := fT_len ok (show fT e 2 = some (plT ps) by simp [fT, hp])
        have ll : (" | by " : Str).length = 6 := by decide +kernel
        refine iteT ⟨_, rfl, _, _, rfl, rfl, fitN (by omega), ⟨_, rfl⟩, _, rfl, p, rfl, ⟨_, SqT.of ex2⟩, fun L nL => ?_⟩
        refine lc_tup (K := K) (a := p) (xs := xs) (fun j Hi => L2.Same H2 Hi ∧ Hi L = some (.lst (((ps.take j).map nmT).map V.str))) ⟨same_upd nL, upd_same⟩ (fun j Hi _ z => SqT.of (z.1 _ _ ex2)) ?_ ?_
        · rintro j y Hi hy ⟨sm, eL⟩
          obtain ⟨n, en, nat⟩ := na2.get hy
          obtain ⟨tn, rfl, etn⟩ := nat
          have okn := pn n (List.mem_of_getElem? en)
          have a1 := okn.tl
          have a2 := okn.tx.l40
          have jl := (List.getElem?_eq_some_iff.mp en).1
          refine ⟨tn, _, rfl, SqT.of (sm _ _ etn), rfl, _, _, rfl, _, _, rfl, rfl, rfl, ?_⟩
          unfold tYes
          refine iteT ⟨_, rfl, _, _, rfl, rfl, fitN (by omega), _, rfl, _, _, rfl, rfl, fitN (by rw [strLen_append]; omega), _, eL, ?_, fun b o eb => ?_, ?_⟩
          · rw [List.length_map, List.length_map, List.length_take]
            exact Nat.lt_of_le_of_lt (show min j ps.length ≤ 100 by omega) (by decide)
          · rw [upd_ne (ne_of_none eb nL)]
            exact sm _ _ eb
          · rw [upd_same, List.take_add_one, en]
            simp [nmT]
        · rintro He ⟨sm, eL⟩
          rw [List.take_of_length_le (by omega)] at eL
          refine ⟨", ", L, ps.map nmT, rfl, rfl, .inl (SqL.of eL), ?_, _, _, rfl, rfl, fitN ?_, ?_, s2.trans sm⟩
          · rw [sum_S]
            exact fitN (Nat.le_trans (pl_S pn p8) (by decide))
          · have : (Txt.join ", " (ps.map nmT)).length = (plT ps).length := rfl
            rw [strLen_append]; omega
          rw [show ([0, 1, 2] : List Nat) = [0, 1] ++ [2] from rfl, tt_some (show fT e 2 = some (plT ps) by simp [fT, hp]), ln_snoc, ← app_pc (i := 2) (lit := " | by ") (by decide +kernel)]
          rfl
    rintro σ H3 ⟨rfl, s3⟩
    -- day
    refine ⟨fun σ Hx => σ = [some (.ref t), some (.str e.k.1), some (.int e.k.2), some v2, some v3, some v4, some v5, some v6, some (.str (ln (kyT e.k) (tt e [0, 1, 2, 3]))), none, none] ∧ L2.Same H Hx, ?_, ?_⟩
    · have l0 := tt_len ok (l := [0, 1, 2]) (by decide)
      refine ⟨_, rfl, rfl, _, rfl, ?_⟩
      cases hd : e.day with
      | none =>
        rw [hd] at h5
        have z : v5 = .non := h5
        subst z
        refine iteF ⟨?_, s3⟩
        rw [show ([0, 1, 2, 3] : List Nat) = [0, 1, 2] ++ [3] from rfl, tt_none (show fT e 3 = none by simp [fT, hd])]
      | some d =>
        rw [hd] at h5
        obtain ⟨td, rfl, ed⟩ := h5
        have g := ok.gd d hd
        have ld := day_len g
        have ll : (" | day " : Str).length = 7 := by decide +kernel
        refine iteT ⟨_, rfl, _, _, rfl, rfl, fitN (by omega), _, rfl, td, d.1, d.2.1, d.2.2, rfl, s3 _ _ ed, g, fun H4 s4 => ⟨_, _, rfl, rfl, fitN (by rw [strLen_append]; omega), ?_, s3.trans s4⟩⟩
        rw [show ([0, 1, 2, 3] : List Nat) = [0, 1, 2] ++ [3] from rfl, tt_some (show fT e 3 = some (dayText d.1 d.2.1 d.2.2) by simp [fT, hd]), ln_snoc, ← app_pc (i := 3) (lit := " | day ") (by decide +kernel)]
        rfl
    rintro σ H4 ⟨rfl, s4⟩
    -- length
    have l0 := tt_len ok (l := [0, 1, 2, 3]) (by decide)
    refine ⟨_, rfl, rfl, _, rfl, ?_⟩
    cases hl : e.len with
    | none =>
      rw [hl] at h6
      have z : v6 = .non := h6
      subst z
      have qq := q H4 s4
      rw [← ln_told, show ([0, 1, 2, 3, 4] : List Nat) = [0, 1, 2, 3] ++ [4] from rfl, tt_none (show fT e 4 = none by simp [fT, hl])] at qq
      exact iteT ⟨_, rfl, qq⟩
    | some c =>
      rw [hl] at h6
      have z : v6 = .int c := h6
      subst z
      obtain ⟨g0, g1⟩ := ok.gl c hl
      have lc := len_len g0 g1
      have ll : (" | long " : Str).length = 8 := by decide +kernel
      refine iteF ⟨_, rfl, _, _, rfl, rfl, fitN (by omega), _, rfl, c, rfl, g0, g1, fun H5 s5 => ⟨_, _, rfl, rfl, fitN (by rw [strLen_append]; omega), ?_⟩⟩
      have qq := q H5 (s4.trans s5)
      rw [← ln_told, show ([0, 1, 2, 3, 4] : List Nat) = [0, 1, 2, 3] ++ [4] from rfl, tt_some (show fT e 4 = some (lenText c) by simp [fT, hl]), ln_snoc, ← app_pc (i := 4) (lit := " | long ") (by decide +kernel)] at qq
      exact qq
end
end K64
set_option Elab.async false
set_option linter.all false
set_option maxRecDepth 100000
set_option maxHeartbeats 4000000
set_option pp.maxSteps 400
set_option pp.deepTerms false
namespace K64
open PySem PySem.Spec PyProof.Rows L2
open Xk Az Xtx Xkd Xst Xsp
section
variable {P : Program} {w : World} {K : PySem.W.Frag} {mg : Str → Option Value} {base : Heap} {C CL : Addr}
def fgB (z : Str) : Bool := !(decide (z = "")) && chk z figs
def spFgL : Sp := fun vs H Q _ => ∃ (z : Str), vs = [.str z] ∧ z.length ≤ 50000 ∧ ∀ H', L2.Same H H' → Q (.bl (!(decide (z = "")) && chk z figs)) H'
theorem fgB_iff {z : Str} : (!(decide (z = "")) && chk z figs) = true ↔ 1 ≤ z.length ∧ NumText.AllDigits z.cps.toList := by
  rw [Bool.and_eq_true, chk_figs]
  refine and_congr_left fun _ => ?_
  constructor
  · intro h
    have n : z ≠ "" := fun e => by rw [e] at h; revert h; decide
    have : z.cps.toList ≠ [] := fun e => n (Xtx.str_eq (by rw [e]; rfl))
    have := List.length_pos_iff.mpr this
    rw [← len_cps] at this
    omega
  · intro h
    have n : z ≠ "" := fun e => by rw [e] at h; revert h; decide
    rw [decide_eq_false n]
    rfl
theorem eqv_ints : ∀ xs ys : List Int, PyData.eqvAll (xs.map .int) (ys.map .int) = decide (xs = ys)
  | [], [] => by simp [PyData.eqvAll]
  | [], _ :: _ => by simp [PyData.eqvAll]
  | _ :: _, [] => by simp [PyData.eqvAll]
  | x :: xs, y :: ys => by
    have ih := eqv_ints xs ys
    simp only [List.map_cons, PyData.eqvAll, PyData.eqv, ih]
    by_cases h : x = y
    · subst h; simp
    · simp [h]
theorem lay_int : ∀ is : List Int, PyData.canLayAll0 (is.map PyData.int) = true ∧ PyData.depthAll (is.map PyData.int) ≤ 2
  | [] => by simp [PyData.canLayAll0, PyData.depthAll]
  | i :: r => by
    obtain ⟨a, b⟩ := lay_int r
    constructor
    · simp [PyData.canLayAll0, PyData.canLay0, a]
    · simp only [List.map_cons, PyData.depthAll, PyData.depth]
      omega
theorem sh_int (is : List Int) : SeqAt.shaped (.list (is.map PyData.int)) = true := by
  obtain ⟨a, b⟩ := lay_int is
  unfold SeqAt.shaped
  have h1 : (PyData.list (is.map PyData.int)).canLay0 = true := by simp only [PyData.canLay0]; exact a
  have h2 : (PyData.list (is.map PyData.int)).depth ≤ 64 := by simp only [PyData.depth]; omega
  rw [h1, decide_eq_true h2]
  rfl
theorem dpA_int {H : Hp} : ∀ is : List Int, DpAll K H (is.map V.int) (is.map PyData.int)
  | [] => .nil
  | i :: r => .cons (.int i) (dpA_int r)
theorem dp_int {H : Hp} {a : Addr} {is : List Int} (e : H a = some (.lst (is.map V.int))) : Dp K H (.ref a) (.list (is.map PyData.int)) := .lst (SqL.of e) (dpA_int is)
/-- what the law's own readers find -/
def L0 (x : Str) (H : Hp) (v : V) : Prop := (v = .non ∧ ∀ y m d, Good y m d → x ≠ dayText y m d) ∨ ∃ t y m d, v = .ref t ∧ Good y m d ∧ x = dayText y m d ∧ H t = some (.tup (pV y m d))
def L1 (x : Str) (_ : Hp) (v : V) : Prop := (v = .non ∧ ∀ c, 0 ≤ c → c ≤ 359999 → x ≠ lenText c) ∨ ∃ c, v = .int c ∧ 0 ≤ c ∧ c ≤ 359999 ∧ x = lenText c
/-- no run of figures is longer than R -/
def Run (R : Nat) (x : Str) : Prop := ∀ a d b, x.cps.toList = a ++ d ++ b → NumText.AllDigits d → d.length ≤ R
def spL (R : Str → Hp → V → Prop) : Sp := fun vs H Q _ => ∃ (x : Str), vs = [.str x] ∧ x.length ≤ 30000 ∧ Run 640 x ∧ ∀ v H', L2.Same H H' → R x H' v → Q v H'
/-- what stands between joints has no longer runs -/
theorem Run.piece {R : Nat} {j : Str} : ∀ {ps : List Str}, Run R (Str.join j ps) → ∀ p ∈ ps, Run R p
  | [x], h, p, hp => by rw [List.mem_singleton.mp hp]; exact h
  | x :: y :: r, h, p, hp => by
    have e : (Str.join j (x :: y :: r)).cps.toList = x.cps.toList ++ (j.cps.toList ++ (Str.join j (y :: r)).cps.toList) := by
      show (x ++ j ++ Str.join j (y :: r)).cps.toList = _
      rw [Str.cps_append, Array.toList_append, Str.cps_append, Array.toList_append, List.append_assoc]
    rcases List.mem_cons.mp hp with z | z
    · intro a d b ea ad
      rw [z] at ea
      refine h a d (b ++ (j.cps.toList ++ (Str.join j (y :: r)).cps.toList)) ?_ ad
      rw [e, ea]
      simp
    · refine Run.piece (j := j) (ps := y :: r) (fun a d b ea ad => ?_) p z
      refine h (x.cps.toList ++ (j.cps.toList ++ a)) d b ?_ ad
      rw [e, ea]
      simp
theorem Run.split {R : Nat} {x j : Str} (h : Run R x) (hy : TL.tl j ≠ []) (hk : j.cps.all (· < 256) = true) : ∀ p ∈ Txt.split x j, Run R p := by
  have e := join_split (x := x) hy hk
  rw [TL.join_eq] at e
  rw [← e] at h
  exact h.piece
theorem Run.cutS {R : Nat} {x : Str} (h : Run R x) (i j : Nat) : ∀ y : Str, y.cps.toList = (x.cps.toList.drop i).take j → Run R y := fun y e a d b ea ad => by
  refine h (x.cps.toList.take i ++ a) d (b ++ (x.cps.toList.drop i).drop j) ?_ ad
  rw [e] at ea
  have w := List.take_append_drop i x.cps.toList
  have w2 := List.take_append_drop j (x.cps.toList.drop i)
  rw [ea] at w2
  generalize (x.cps.toList.drop i).drop j = z at w2 ⊢
  rw [← w2] at w
  generalize x.cps.toList.take i = u at w ⊢
  rw [← w]
  simp
theorem Run.all {R : Nat} {x : Str} (h : Run R x) (ad : NumText.AllDigits x.cps.toList) : x.length ≤ R := by
  rw [len_cps]
  exact h [] _ [] (by simp) ad
theorem ok_lf {f : Addr} {fd : FuncData} {e : Ex} (D : Df K mg "_law_figures" ["_law_word"] sFigures f fd) (T : Txt K mg C CL e) : FnOk P w K mg base CX0 1 f fd ["_law_word"] spFgL := by
  refine D.fn.ok scFigures (fun vs H Q E h => ?_) (fun cdv A outer s H vs Q E hr h => ?_)
  · obtain ⟨z, rfl, lz, q⟩ := h
    rfl
  · obtain ⟨z, rfl, lz, q⟩ := h
    refine ⟨_, (pss_one (ps_ret (pe_and (pe_cmpR op_ne (pv 0) pe_str (nomark _)) (pe_one (pe_callB (cr_all (by rfl)) (by rfl) T.all (by decide +kernel) (pa_cons (pe_lc (own := [("_law_sign", 1)]) (g := gName 1) (tt := tYes) (by rfl) scFigures.nd (pi_str (pv 0)) (blkOk_by (own := [("_law_sign", 1)]) (N := ["_law_word", "_law_sign"]) (sc := defScope sFigures) (by decide +kernel)) (fun _ _ _ _ _ => pg_name (i := 1) scFigures.nd rfl (.inl rfl)) (fun _ _ _ _ _ => pts_nil) (fun _ _ _ _ _ => pe_cmpR op_in_sign (pv 1) pe_str (by rfl))) pa_nil)))))), ?_⟩
    refine ⟨_, rfl, rfl, ?_⟩
    have fit := fitN' lz
    rw [decS]
    cases c0 : decide (z = "") with
    | true =>
      have w := q H (Same.refl H)
      rw [c0] at w
      exact ⟨false, rfl, iteF w⟩
    | false =>
      refine ⟨true, rfl, iteT ⟨_, rfl, z, rfl, fun L nL => ?_⟩⟩
      have sL := same_upd nL (o := .lst [])
      refine lc_it (walk_str (z := z)) (fun i Hi => ∃ bs : List Bool, bs = ((z).cps.toList.take i).map (fun c => decide (c ∈ (figs).cps.toList)) ∧ Hi L = some (.lst (bs.map V.bl)) ∧ L2.Same H Hi) ?_ (fun _ _ _ _ => trivial) ?_ ?_
      · exact ⟨[], rfl, upd_same, sL⟩
      · rintro i v Hi Hi' _ ⟨bs, eb, eL, sm⟩ ⟨rfl, c, ec, rfl⟩
        rw [← Array.getElem?_toList] at ec
        refine ⟨rfl, ?_⟩
        unfold tYes
        refine iteT ⟨_, rfl, c, figs, rfl, rfl, ?_⟩
        have il : i < (z).cps.toList.length := (List.getElem?_eq_some_iff.mp ec).1
        refine ⟨_, eL, ?_, bs ++ [decide (c ∈ (figs).cps.toList)], ?_, ?_, fun b o e => ?_⟩
        · rw [List.length_map, eb, List.length_map, List.length_take]
          refine Nat.lt_of_le_of_lt (show min i (z).cps.toList.length ≤ 50000 from ?_) (by decide)
          rw [← len_cps]
          omega
        · rw [List.take_succ, ec, List.map_append, eb]
          rfl
        · rw [upd_same, List.map_append]
          rfl
        · rw [upd_ne (ne_of_none e nL)]
          exact sm _ _ e
      · rintro He ⟨bs, eb, eL, sm⟩
        refine ⟨L, _, rfl, SqL.of eL, ?_⟩
        rw [eb, List.take_of_length_le (by rw [Array.length_toList]; exact Nat.le_refl _), List.all_map, show ((z).cps.toList.all (id ∘ fun c => decide (c ∈ (figs).cps.toList))) = chk (z) (figs) from rfl]
        have w := q He sm
        rw [c0] at w
        exact w
theorem ok_ldi {f : Addr} {fd : FuncData} {e : Ex} (D : Df K mg "_law_day_in" ["_law_text"] sLawDayIn f fd) (T : Txt K mg C CL e) (cLf : Ca P w K mg base 1 "_law_figures" ["_law_word"] spFgL) (cLa : Ca P w K mg base 1 "_law_last" ["_law_y", "_law_m"] spLast) : FnOk P w K mg base CX0 2 f fd ["_law_text"] (spL L0) := by
  refine D.fn.ok scLawDayIn (fun vs H Q E h => ?_) (fun cdv A outer s H vs Q E hr h => ?_)
  · obtain ⟨x, rfl, lx, rx, q⟩ := h
    rfl
  · obtain ⟨x, rfl, lx, rx, q⟩ := h
    refine ⟨_, (pss_cons (ps_set (i := 1) scLawDayIn.nd rfl (.inl rfl) (pe_m1 F.slot_str_split F.type_str_split mt_split (pv 0) pe_str))
      (pss_cons (ps_if (PW.pt (pw_or (pt_cmpR op_gt (pe_callB call_len_seq (by rfl) T.len PySem.boot_len (pa_cons (pv 1) pa_nil)) pe_int (nomark _)) (pw_or1 (pt_not (pt_val (pe_callB (cr_all (by rfl)) (by rfl) T.all (by decide +kernel) (pa_cons (pe_lc (own := [("_law_part", 5)]) (g := gName 5) (tt := tYes) (te := tCall spFgL [] E0 (tCons (tVar 5) tNil)) (by rfl) scLawDayIn.nd (pi_list (pv 1)) (blkOk_by (own := [("_law_part", 5)]) (N := ["_law_text", "_law_parts_here", "_law_y", "_law_m", "_law_d", "_law_part"]) (sc := defScope sLawDayIn) (by decide +kernel)) (fun _ _ _ _ _ => pg_name (i := 5) scLawDayIn.nd rfl (.inl rfl)) (fun _ _ _ _ _ => pts_nil) (fun _ _ _ _ _ => pe_ca cLf hr (by decide) (by rfl) (pa_cons (pv 5) pa_nil))) pa_nil))))))) (pss_one (ps_ret pe_non)) pss_nil)
      (pss_cons (ps_if (pt_cmpR (op_neD hr.units) (pe_lc (own := [("_law_part", 5)]) (g := gName 5) (tt := tYes) (by rfl) scLawDayIn.nd (pi_list (pv 1)) (blkOk_by (own := [("_law_part", 5)]) (N := ["_law_text", "_law_parts_here", "_law_y", "_law_m", "_law_d", "_law_part"]) (sc := defScope sLawDayIn) (by decide +kernel)) (fun _ _ _ _ _ => pg_name (i := 5) scLawDayIn.nd rfl (.inl rfl)) (fun _ _ _ _ _ => pts_nil) (fun _ _ _ _ _ => pe_callB call_len_str (by rfl) T.len PySem.boot_len (pa_cons (pv 5) pa_nil))) (pe_slice sl_list (pe_lst (pa_cons pe_int (pa_cons pe_int (pa_cons pe_int pa_nil)))) po_none (po_some (pe_callB call_len_seq (by rfl) T.len PySem.boot_len (pa_cons (pv 1) pa_nil)))) (nomark _)) (pss_one (ps_ret pe_non)) pss_nil)
      (pss_cons (ps_asg (pe_slice sl_list (pe_op op_cat (pe_lc (own := [("_law_part", 5)]) (g := gName 5) (tt := tYes) (by rfl) scLawDayIn.nd (pi_list (pv 1)) (blkOk_by (own := [("_law_part", 5)]) (N := ["_law_text", "_law_parts_here", "_law_y", "_law_m", "_law_d", "_law_part"]) (sc := defScope sLawDayIn) (by decide +kernel)) (fun _ _ _ _ _ => pg_name (i := 5) scLawDayIn.nd rfl (.inl rfl)) (fun _ _ _ _ _ => pts_nil) (fun _ _ _ _ _ => pe_callTy call_int_str (by rfl) T.int (by decide +kernel) (pa_cons (pv 5) pa_nil))) (pe_lst (pa_cons pe_non (pa_cons pe_non pa_nil)))) po_none (po_some pe_int)) (pg_lst (by rfl) (pgs_cons (pg_name (i := 2) scLawDayIn.nd rfl (.inl rfl)) (pgs_cons (pg_name (i := 3) scLawDayIn.nd rfl (.inl rfl)) (pgs_cons (pg_name (i := 4) scLawDayIn.nd rfl (.inl rfl)) pgs_nil)))))
      (pss_cons (ps_if (PW.pt (pw_or (pt_cmpR op_eq (pv 2) pe_int (nomark _)) (pw_or (PW.pt (pw_and (pt_cmpR op_notN (pv 3) pe_non (nomark _)) (pw_and1 (pt_not (pt_chain op_le op_le pe_int (pv 3) pe_int))))) (pw_or1 (PW.pt (pw_and (pt_cmpR op_notN (pv 4) pe_non (nomark _)) (pw_and1 (pt_not (pt_chain op_le op_le pe_int (pv 4) (pe_ca cLa hr (by decide) (by rfl) (pa_cons (pv 2) (pa_cons (pv 3) pa_nil)))))))))))) (pss_one (ps_ret pe_non)) pss_nil)
      (pss_one (ps_ret (pe_tup (pa_cons (pv 2) (pa_cons (pv 3) (pa_cons (pv 4) pa_nil))))))))))), ?_⟩
    obtain ⟨pl1, pl2⟩ := split_len (x := x) da_ne da_256
    have pp := split_pos (x := x) da_ne da_256
    refine ⟨_, rfl, ⟨_, rfl⟩, x, "-", rfl, rfl, rfl, Nat.le_trans (show _ ≤ 60000 by omega) (by decide), fun S nS => ?_⟩
    have sS := same_upd nS (o := .lst ((Txt.split x "-").map V.str))
    have eS : (L2.upd H S (.lst ((Txt.split x "-").map V.str))) S = some (.lst ((Txt.split x "-").map V.str)) := upd_same
    generalize L2.upd H S (.lst ((Txt.split x "-").map V.str)) = H1 at sS eS ⊢
    obtain ⟨ps, hps⟩ : ∃ ps, Txt.split x "-" = ps := ⟨_, rfl⟩
    rw [hps] at pl1 pl2 pp eS
    have fw : ∀ y m d, Good y m d → x = dayText y m d → ps = partsT y m d := fun y m d g e => by rw [← hps, e, day_split g]
    have no : ∀ {H' : Hp}, L2.Same H H' → (∀ y m d, Good y m d → ps ≠ partsT y m d) → Q .non H' := fun s c => q _ _ s (.inl ⟨rfl, fun y m d g e => c y m d g (fw y m d g e)⟩)
    refine ⟨_, rfl, S, _, rfl, .inl (SqL.of eS), _, _, rfl, rfl, _, rfl, ?_⟩
    rw [List.length_map]
    by_cases c3 : (ps.length : Int) > 3
    · rw [decide_eq_true c3]
      refine iteT (no sS fun y m d g e => ?_)
      have := (parts_len (y := y) (m := m) (d := d)).2
      rw [← e] at this
      omega
    rw [decide_eq_false c3]
    refine iteF ⟨_, rfl, S, rfl, ⟨_, SqL.of eS⟩, fun W nW => ?_⟩
    refine lc_list (K := K) (a := S) (xs := ps.map V.str) (fun i Hi => L2.Same H1 Hi ∧ Hi W = some (.lst (((ps.take i).map fun z : Str => !(decide (z = "")) && chk z figs).map V.bl))) ⟨same_upd nW, upd_same⟩ (fun i Hi _ z => SqL.of (z.1 _ _ eS)) ?_ ?_
    · rintro i v Hi hv ⟨sm, eW⟩
      rw [List.getElem?_map] at hv
      obtain ⟨p, ep, rfl⟩ := Option.map_eq_some_iff.mp hv
      have il := (List.getElem?_eq_some_iff.mp ep).1
      have pl := pl2 p (List.mem_of_getElem? ep)
      refine ⟨rfl, ?_⟩
      unfold tYes
      refine iteT ⟨_, rfl, p, rfl, by omega, fun H2 s2 => ⟨_, s2 _ _ eW, ?_, fun b o e => ?_, ?_⟩⟩
      · rw [List.length_map, List.length_map, List.length_take]
        exact Nat.lt_of_le_of_lt (show min i ps.length ≤ 50001 by omega) (by decide)
      · rw [upd_ne (ne_of_none e nW)]
        exact s2 _ _ (sm _ _ e)
      · rw [upd_same, List.take_add_one, ep]
        simp
    rintro H2 ⟨s2, eW⟩
    rw [List.take_of_length_le (by rw [List.length_map]; exact Nat.le_refl _)] at eW
    refine ⟨W, _, rfl, SqL.of eW, _, rfl, ?_⟩
    have s02 := sS.trans s2
    have eS2 := s2 _ _ eS
    cases ca : (ps.map fun z : Str => !(decide (z = "")) && chk z figs).all id with
    | false =>
      refine iteT (no s02 fun y m d g e => ?_)
      have a := (parts_lens g).2
      rw [← e] at a
      rw [Bool.eq_false_iff] at ca
      refine ca (List.all_eq_true.mpr fun b hb => ?_)
      obtain ⟨p, hp, rfl⟩ := List.mem_map.mp hb
      obtain ⟨a1, a2, a3⟩ := a p hp
      exact fgB_iff.mpr ⟨a2, a1⟩
    | true =>
      have al : ∀ p ∈ ps, 1 ≤ p.length ∧ NumText.AllDigits p.cps.toList := fun p hp => fgB_iff.mp (List.all_eq_true.mp ca _ (List.mem_map_of_mem hp))
      refine iteF ⟨_, rfl, S, rfl, ⟨_, SqL.of eS2⟩, fun V1 nV => ?_⟩
      -- how long they are
      refine lc_list (K := K) (a := S) (xs := ps.map V.str) (fun i Hi => L2.Same H2 Hi ∧ Hi V1 = some (.lst (((ps.take i).map fun p => (p.length : Int)).map V.int))) ⟨same_upd nV, upd_same⟩ (fun i Hi _ z => SqL.of (z.1 _ _ eS2)) ?_ ?_
      · rintro i v Hi hv ⟨sm, eV⟩
        rw [List.getElem?_map] at hv
        obtain ⟨p, ep, rfl⟩ := Option.map_eq_some_iff.mp hv
        have il := (List.getElem?_eq_some_iff.mp ep).1
        have pl := pl2 p (List.mem_of_getElem? ep)
        refine ⟨rfl, ?_⟩
        unfold tYes
        refine iteT ⟨_, rfl, _, rfl, fitN' (by omega), _, eV, ?_, fun b o e => ?_, ?_⟩
        · rw [List.length_map, List.length_map, List.length_take]
          exact Nat.lt_of_le_of_lt (show min i ps.length ≤ 50001 by omega) (by decide)
        · rw [upd_ne (ne_of_none e nV)]
          exact sm _ _ e
        · rw [upd_same, List.take_add_one, ep]
          simp
      rintro H3 ⟨s3, eV⟩
      rw [List.take_of_length_le (by rw [List.length_map]; exact Nat.le_refl _)] at eV
      have s03 := s02.trans s3
      have eS3 := s3 _ _ eS2
      refine ⟨(by show 3 ≤ sizeLine; decide), fun l1 n1 => ⟨_, rfl, S, _, rfl, .inl (SqL.of (same_upd n1 _ _ eS3)), _, rfl, l1, _, rfl, SqL.of upd_same, fun p2 n2 => ?_⟩⟩
      have s4 := (same_upd n1 (o := .lst [.int 4, .int 2, .int 2])).trans (same_upd n2 (o := .lst (cutV [.int 4, .int 2, .int 2] none (some ((ps.map V.str).length : Nat)))))
      have ec : cutV [V.int 4, .int 2, .int 2] none (some (((ps.map V.str).length : Nat) : Int)) = (([4, 2, 2] : List Int).take ps.length).map V.int := by
        match ps, pp, c3 with
        | [a], _, _ => rfl
        | [a, b], _, _ => rfl
        | [a, b, c], _, _ => rfl
        | _ :: _ :: _ :: _ :: r, _, c3 => exact absurd (show (_ : Int) > 3 by simp only [List.length_cons]; omega) c3
      have e2 : (L2.upd (L2.upd H3 l1 (.lst [.int 4, .int 2, .int 2])) p2 (.lst (cutV [.int 4, .int 2, .int 2] none (some ((ps.map V.str).length : Nat))))) p2 = some (.lst ((([4, 2, 2] : List Int).take ps.length).map V.int)) := by rw [upd_same, ec]
      generalize L2.upd (L2.upd H3 l1 (.lst [.int 4, .int 2, .int 2])) p2 (.lst (cutV [.int 4, .int 2, .int 2] none (some ((ps.map V.str).length : Nat)))) = H4 at s4 e2 ⊢
      have s04 := s03.trans s4
      refine ⟨_, _, dp_int (s4 _ _ eV), dp_int e2, sh_int _, sh_int _, _, rfl, ?_⟩
      have ev : (!PyData.eqv (.list ((ps.map fun p => (p.length : Int)).map .int)) (.list ((([4, 2, 2] : List Int).take ps.length).map .int))) = !decide (ps.map (fun p => (p.length : Int)) = ([4, 2, 2] : List Int).take ps.length) := by simp only [PyData.eqv, eqv_ints]
      rw [ev]
      by_cases hl : ps.map (fun p => (p.length : Int)) = ([4, 2, 2] : List Int).take ps.length
      case neg =>
        rw [decide_eq_false hl]
        exact iteT (no s04 fun y m d g e => hl (by rw [e]; exact (parts_lens g).1))
      rw [decide_eq_true hl]
      have eS4 := s4 _ _ eS3
      have al4 : ∀ p ∈ ps, p.length ≤ 4 := fun p hp => by
        have m : (p.length : Int) ∈ ([4, 2, 2] : List Int).take ps.length := by rw [← hl]; exact List.mem_map_of_mem hp
        have m2 := List.mem_of_mem_take m
        simp only [List.mem_cons, List.not_mem_nil, or_false] at m2
        omega
      refine iteF ⟨_, rfl, S, rfl, ⟨_, SqL.of eS4⟩, fun V2 nV2 => ?_⟩
      refine lc_list (K := K) (a := S) (xs := ps.map V.str) (fun i Hi => L2.Same H4 Hi ∧ Hi V2 = some (.lst ((ps.take i).map fun p => V.int (dv p)))) ⟨same_upd nV2, upd_same⟩ (fun i Hi _ z => SqL.of (z.1 _ _ eS4)) ?_ ?_
      · rintro i v Hi hv ⟨sm, eV2⟩
        rw [List.getElem?_map] at hv
        obtain ⟨p, ep, rfl⟩ := Option.map_eq_some_iff.mp hv
        have il := (List.getElem?_eq_some_iff.mp ep).1
        obtain ⟨a2, a1⟩ := al p (List.mem_of_getElem? ep)
        have a3 := al4 p (List.mem_of_getElem? ep)
        refine ⟨rfl, ?_⟩
        unfold tYes
        refine iteT ⟨_, rfl, p, _, rfl, intText_digits a1 (fun z => by rw [len_cps, z] at a2; exact absurd a2 (by decide)) (by omega), by omega, ?_⟩
        refine ⟨_, eV2, ?_, fun b o e => ?_, ?_⟩
        · rw [List.length_map, List.length_take]
          exact Nat.lt_of_le_of_lt (show min i ps.length ≤ 50001 by omega) (by decide)
        · rw [upd_ne (ne_of_none e nV2)]
          exact sm _ _ e
        · rw [upd_same, List.take_add_one, ep]
          simp [dv]
      rintro H5 ⟨s5, eV2⟩
      rw [List.take_of_length_le (by rw [List.length_map]; exact Nat.le_refl _)] at eV2
      have s05 := s04.trans s5
      refine ⟨(by show 2 ≤ sizeLine; decide), fun N1 n1 => ?_⟩
      have sl := same_upd n1 (o := .lst [.non, .non])
      refine ⟨V2, N1, _, _, rfl, rfl, sl _ _ eV2, upd_same, ?_, fun M nM => ?_⟩
      · rw [List.length_map]
        exact Nat.le_trans (show _ ≤ 100 by simp; omega) (by decide)
      have sM := sl.trans (same_upd nM (o := .lst ((ps.map fun p => V.int (dv p)) ++ [.non, .non])))
      refine ⟨3, rfl, M, _, rfl, SqL.of upd_same, fun p3 n3 => ?_⟩
      have e3 : cutV ((ps.map fun p => V.int (dv p)) ++ [V.non, .non]) none (some 3) = [.int (three ps).1, oV (three ps).2.1, oV (three ps).2.2] := by
        match ps, pp, c3 with
        | [a], _, _ => rfl
        | [a, b], _, _ => rfl
        | [a, b, c], _, _ => rfl
        | _ :: _ :: _ :: _ :: r, _, c3 => exact absurd (show (_ : Int) > 3 by simp only [List.length_cons]; omega) c3
      rw [e3]
      have s06 := (s05.trans sM).trans (same_upd n3 (o := .lst [.int (three ps).1, oV (three ps).2.1, oV (three ps).2.2]))
      have eM := upd_same (H := L2.upd (L2.upd H5 N1 (.lst [.non, .non])) M (.lst ((ps.map fun p => V.int (dv p)) ++ [.non, .non]))) (a := p3) (o := .lst [.int (three ps).1, oV (three ps).2.1, oV (three ps).2.2])
      generalize L2.upd (L2.upd (L2.upd H5 N1 (.lst [.non, .non])) M (.lst ((ps.map fun p => V.int (dv p)) ++ [.non, .non]))) p3 (.lst [.int (three ps).1, oV (three ps).2.1, oV (three ps).2.2]) = H6 at s06 eM ⊢
      have tf : ∀ y m d, Good y m d → x = dayText y m d → three ps = (y, m, d) := fun y m d g e => by rw [fw y m d g e, three_of g]
      have back : Good (three ps).1 (three ps).2.1 (three ps).2.2 → x = dayText (three ps).1 (three ps).2.1 (three ps).2.2 := fun g => day_back hps pp (by omega) (fun p hp => (al p hp).2) hl g
      have sz : 0 ≤ (three ps).1 ∧ (three ps).1 ≤ 9999 ∧ ((three ps).2.1 = none → (three ps).2.2 = none) := by
        have z4 : ∀ a : Str, NumText.AllDigits a.cps.toList → a.length ≤ 4 → 0 ≤ dv a ∧ dv a ≤ 9999 := fun a ad l => by
          have := digits_lt a.cps.toList 0 ad
          have l2 : (10 : Nat) ^ a.cps.toList.length ≤ 10 ^ 4 := Nat.pow_le_pow_right (by decide) (by rw [← len_cps]; exact l)
          unfold dv NumText.digitsVal
          constructor
          · omega
          · omega
        match ps, pp, c3, al, al4 with
        | [a], _, _, al, al4 => exact ⟨(z4 a (al a (by simp)).2 (al4 a (by simp))).1, (z4 a (al a (by simp)).2 (al4 a (by simp))).2, fun _ => rfl⟩
        | [a, b], _, _, al, al4 => exact ⟨(z4 a (al a (by simp)).2 (al4 a (by simp))).1, (z4 a (al a (by simp)).2 (al4 a (by simp))).2, fun e => rfl⟩
        | [a, b, c], _, _, al, al4 => exact ⟨(z4 a (al a (by simp)).2 (al4 a (by simp))).1, (z4 a (al a (by simp)).2 (al4 a (by simp))).2, fun e => by cases e⟩
        | _ :: _ :: _ :: _ :: r, _, c3, _, _ => exact absurd (show (_ : Int) > 3 by simp only [List.length_cons]; omega) c3
      obtain ⟨⟨y, m, d⟩, ht⟩ : ∃ t, three ps = t := ⟨_, rfl⟩
      rw [ht] at eM tf back sz
      dsimp only at eM tf back sz
      obtain ⟨y0, y9, mdn⟩ := sz
      have no6 : ¬ Good y m d → Q .non H6 := fun ng => q _ _ s06 (.inl ⟨rfl, fun y2 m2 d2 g e => by
        have := tf y2 m2 d2 g e
        cases this
        exact ng g⟩)
      refine ⟨p3, _, rfl, SqL.of eM, rfl, _, _, rfl, _, _, rfl, _, _, rfl, rfl, ?_⟩
      clear eV2 eM
      refine ⟨_, rfl, rfl, _, rfl, ite2 (fun h => no6 fun g => ?_) (fun h => ?_)⟩
      · have : y = 0 := by simpa using h
        have := g.1
        omega
      have yn : y ≠ 0 := by simpa using h
      have yes : Good y m d → ∀ t H', L2.Same H6 H' → H' t = some (.tup (pV y m d)) → Q (.ref t) H' := fun g t H' s et => q _ _ (s06.trans s) (.inr ⟨t, y, m, d, rfl, g, back g, et⟩)
      cases m with
      | none =>
        cases mdn rfl
        have g : Good y none none := ⟨by omega, by omega, rfl⟩
        exact ⟨_, rfl, rfl, _, rfl, iteF ⟨_, rfl, rfl, _, rfl, iteF ⟨_, rfl, _, rfl, _, rfl, (by show 3 ≤ sizeLine; decide), fun t nt => yes g t _ (same_upd nt) upd_same⟩⟩⟩
      | some i =>
        refine ⟨_, rfl, rfl, _, rfl, iteT ⟨_, rfl, 1, i, rfl, rfl, _, rfl, ite2 (fun h1 => ?_) (fun h1 => ?_)⟩⟩
        case refine_2 => exact ⟨_, rfl, no6 fun g => h1 (decide_eq_true g.2.2.1)⟩
        refine ⟨i, 12, rfl, rfl, _, rfl, ite2 (fun h2 => ?_) (fun h2 => ?_)⟩
        case refine_1 => exact no6 fun g => (show ¬ i ≤ 12 by simpa using h2) g.2.2.2.1
        have i1 := of_decide_eq_true h1
        have i2 : i ≤ 12 := by simpa using h2
        cases d with
        | none =>
          have g : Good y (some i) none := ⟨by omega, by omega, i1, i2, trivial⟩
          exact ⟨_, rfl, rfl, _, rfl, iteF ⟨_, rfl, _, rfl, _, rfl, (by show 3 ≤ sizeLine; decide), fun t nt => yes g t _ (same_upd nt) upd_same⟩⟩
        | some j =>
          refine ⟨_, rfl, rfl, _, rfl, iteT ⟨_, rfl, 1, j, rfl, rfl, _, rfl, ite2 (fun h3 => ?_) (fun h3 => ?_)⟩⟩
          case refine_2 => exact ⟨_, rfl, no6 fun g => h3 (decide_eq_true g.2.2.2.2.1)⟩
          refine ⟨_, rfl, _, rfl, y, i, rfl, fun H7 s7 => ⟨j, lastDay y i, rfl, rfl, _, rfl, ite2 (fun h4 => ?_) (fun h4 => ?_)⟩⟩
          case refine_1 => exact q _ _ (s06.trans s7) (.inl ⟨rfl, fun y2 m2 d2 g e => by
            have := tf y2 m2 d2 g e
            cases this
            exact (show ¬ j ≤ lastDay y i by simpa using h4) g.2.2.2.2.2⟩)
          have g : Good y (some i) (some j) := ⟨by omega, by omega, i1, i2, of_decide_eq_true h3, by simpa using h4⟩
          exact ⟨_, rfl, _, rfl, _, rfl, (by show 3 ≤ sizeLine; decide), fun t nt => yes g t _ (s7.trans (same_upd nt)) upd_same⟩
end
end K64
set_option Elab.async false
set_option linter.all false
set_option maxRecDepth 100000
set_option maxHeartbeats 4000000
set_option pp.maxSteps 400
set_option pp.deepTerms false
namespace K64
open PySem PySem.Spec PyProof.Rows L2
open Xk Az Xtx Xkd Xst Xsp
section
variable {P : Program} {w : World} {K : PySem.W.Frag} {mg : Str → Option Value} {base : Heap} {C CL : Addr}
theorem cut_to (x : Str) (k : Nat) : (cutS x none (some (k : Int))).cps.toList = x.cps.toList.take k := by
  unfold cutS
  show (x.cps.toList.drop (HT.sIx x.length 0 none)).take (HT.sIx x.length x.length (some (k : Int)) - HT.sIx x.length 0 none) = _
  rw [HT.sIx_nat, show HT.sIx x.length 0 none = 0 from rfl, List.drop_zero, Nat.sub_zero]
  by_cases c : k ≤ x.length
  · rw [Nat.min_eq_left c]
  · rw [Nat.min_eq_right (by omega), List.take_of_length_le (by rw [← len_cps]; exact Nat.le_refl _), List.take_of_length_le (by rw [← len_cps]; omega)]
theorem cut_from (x : Str) (k : Nat) : (cutS x (some (k : Int)) none).cps.toList = x.cps.toList.drop k := by
  unfold cutS
  show (x.cps.toList.drop (HT.sIx x.length 0 (some (k : Int)))).take (HT.sIx x.length x.length none - HT.sIx x.length 0 (some (k : Int))) = _
  rw [HT.sIx_nat, show HT.sIx x.length x.length none = x.length from rfl]
  by_cases c : k ≤ x.length
  · rw [Nat.min_eq_left c, List.take_of_length_le (by rw [List.length_drop, ← len_cps]; omega)]
  · rw [Nat.min_eq_right (by omega), List.drop_eq_nil_of_le (by rw [← len_cps]; omega), List.drop_eq_nil_of_le (by rw [← len_cps]; omega), List.take_nil]
theorem cutS_len (x : Str) (lo hi : Option Int) : (cutS x lo hi).length ≤ x.length := by
  rw [len_cps, len_cps x]
  unfold cutS
  show ((x.cps.toList.drop _).take _).length ≤ _
  rw [List.length_take, List.length_drop]
  omega
def lawS2 : Str := "abcdefghijklmnopqrstuvwxyzABCDEFGHIJKLMNOPQRSTUVWXYZ0123456789'-. "
theorem chk_S2 (z : Str) : chk z lawS2 = chk z signs := by
  have a : ∀ c ∈ lawS2.cps.toList, c ∈ signs.cps.toList := by decide +kernel
  have b : ∀ c ∈ signs.cps.toList, c ∈ lawS2.cps.toList := by decide +kernel
  rw [Bool.eq_iff_iff, chk_iff, chk_iff]
  exact ⟨fun h c hc => a c (h c hc), fun h c hc => b c (h c hc)⟩
theorem mem_join (j : Str) : ∀ (ps : List Str) (p : Str), p ∈ ps → ∀ c ∈ p.cps.toList, c ∈ (Str.join j ps).cps.toList
  | [x], p, h, c, hc => by rw [List.mem_singleton.mp h] at hc; exact hc
  | x :: y :: r, p, h, c, hc => by
    show c ∈ (x ++ j ++ Str.join j (y :: r)).cps.toList
    rw [Str.cps_append, Array.toList_append, Str.cps_append, Array.toList_append]
    rcases List.mem_cons.mp h with z | z
    · rw [z] at hc; exact List.mem_append_left _ (List.mem_append_left _ hc)
    · exact List.mem_append_right _ (mem_join j (y :: r) p z c hc)
theorem dpA_str {H : Hp} : ∀ ys : List Str, DpAll K H (ys.map V.str) (ys.map PyData.str)
  | [] => .nil
  | y :: r => .cons (.str y) (dpA_str r)
theorem lay_str : ∀ {ys : List Str}, (∀ y ∈ ys, ∀ c ∈ y.cps.toList, c < 256) → PyData.canLayAll0 (ys.map PyData.str) = true ∧ PyData.depthAll (ys.map PyData.str) ≤ 2
  | [], _ => ⟨by simp [PyData.canLayAll0], by simp [PyData.depthAll]⟩
  | y :: ys, h => by
    obtain ⟨a, b⟩ := lay_str (ys := ys) fun z hz => h z (List.mem_cons_of_mem _ hz)
    have w : PyData.strOk y = true := by
      unfold PyData.strOk
      rw [← Array.all_toList, List.all_eq_true]
      exact fun c hc => decide_eq_true (Nat.lt_of_lt_of_le (h y List.mem_cons_self c hc) (by decide))
    constructor
    · simp [PyData.canLayAll0, PyData.canLay0, a, w]
    · simp only [List.map_cons, PyData.depthAll, PyData.depth]
      omega
theorem sh_str {ys : List Str} (h : ∀ y ∈ ys, ∀ c ∈ y.cps.toList, c < 256) : SeqAt.shaped (.list (ys.map PyData.str)) = true := by
  obtain ⟨a, b⟩ := lay_str h
  unfold SeqAt.shaped
  have h1 : (PyData.list (ys.map PyData.str)).canLay0 = true := by simp only [PyData.canLay0]; exact a
  have h2 : (PyData.list (ys.map PyData.str)).depth ≤ 64 := by simp only [PyData.depth]; omega
  rw [h1, decide_eq_true h2]
  rfl
theorem any_str (ys : List Str) : ((ys.map PyData.str).any fun z => PyData.eqv z (.str "")) = decide ((("" : Str)) ∈ ys) := by
  rw [Bool.eq_iff_iff, List.any_eq_true, decide_eq_true_iff]
  constructor
  · rintro ⟨z, hz, e⟩
    obtain ⟨y, hy, rfl⟩ := List.mem_map.mp hz
    have : y = ("" : Str) := by simpa [PyData.eqv] using e
    rw [← this]; exact hy
  · exact fun h => ⟨_, List.mem_map_of_mem h, by simp [PyData.eqv]⟩
theorem nm_cut (x : Str) : (Txt.find x ":" = -1 ∧ nmF x = none) ∨ ∃ i : Nat, Txt.find x ":" = (i : Int) ∧ (Txt.partition x ":").1 = cutS x none (some (i : Int)) ∧ (Txt.partition x ":").2.2 = cutS x (some ((i : Int) + 1)) none := by
  have e1 : (":" : Str).length = 1 := by decide +kernel
  rcases find_whole x ":" with ⟨e, no⟩ | ⟨i, e, ha, no⟩
  · refine .inl ⟨e, ?_⟩
    rcases partition_whole x ":" with ⟨p, _⟩ | ⟨k, _, ka, _⟩
    · unfold nmF
      rw [p, if_neg]
      intro h
      have : ntx (.str Str.empty) = false := ntx_no (by decide +kernel)
      simp only [nmD, this, Bool.and_false] at h
      cases h
    · exact absurd ka (no k)
  · refine .inr ⟨i, e, ?_⟩
    rcases partition_whole x ":" with ⟨_, pn⟩ | ⟨k, p, ka, kn⟩
    · exact absurd ha (pn i)
    · have ik : k = i := by
        rcases Nat.lt_trichotomy k i with c | c | c
        · exact absurd ka (no k c)
        · exact c
        · exact absurd ha (kn i c)
      subst ik
      rw [p]
      refine ⟨Xtx.str_eq ?_, Xtx.str_eq ?_⟩
      · rw [cut_to, StrLaws.strSub_toList, List.drop_zero, Nat.sub_zero]
      · rw [show (k : Int) + 1 = ((k + 1 : Nat) : Int) by omega, cut_from, StrLaws.strSub_toList, e1, List.take_of_length_le]
        rw [List.length_drop, ← len_cps]
        exact Nat.le_refl _
/-- the name that stands ahead of and behind the sign, said as the law says it -/
theorem nm_law {a b : Str} : nmD (.tuple [.str a, .str b]) = true ↔ ((2 ≤ (a.length : Int) ∧ (a.length : Int) ≤ 3) ∧ chk a small = true) ∧ ((1 ≤ (b.length : Int) ∧ (b.length : Int) ≤ 40) ∧ chk b lawS2 = true ∧ ("" : Str) ∉ Txt.split b " ") := by
  show (ofT (.str a) small 2 3 && (ofT (.str b) signs 1 40 && (sk b && !db b))) = true ↔ _
  rw [Bool.and_eq_true, Bool.and_eq_true, ofT_iff, ofT_iff, chk_S2, Bool.and_eq_true, Bool.not_eq_true']
  constructor
  · rintro ⟨⟨a1, a2, a3⟩, ⟨b1, b2, b3⟩, c⟩
    exact ⟨⟨⟨a1, a2⟩, a3⟩, ⟨b1, b2⟩, b3, (words_iff (by omega)).mpr c⟩
  · rintro ⟨⟨⟨a1, a2⟩, a3⟩, ⟨b1, b2⟩, b3, c⟩
    exact ⟨⟨a1, a2, a3⟩, ⟨b1, b2, b3⟩, (words_iff (by omega)).mp c⟩
theorem num_eq {z : Str} : (!(decide (z = "")) && chk z figs) = true → z.length ≤ 30 → ofT (.str z) figs 1 30 = true := fun h l => by
  rw [Bool.and_eq_true] at h
  refine ofT_iff.mpr ⟨?_, by omega, h.2⟩
  have n : z ≠ "" := fun e => by
    rw [e] at h
    have := h.1
    revert this
    decide
  have : z.cps.toList ≠ [] := fun e => n (Xtx.str_eq (by rw [e]; rfl))
  have := List.length_pos_iff.mpr this
  rw [← len_cps] at this
  omega
theorem num_ne {z : Str} : ((!(decide (z = "")) && chk z figs) = false ∨ 30 < z.length) → numP z = none := fun h => by
  unfold numP
  rw [if_neg]
  intro a
  obtain ⟨l1, l30, ck⟩ := ofT_iff.mp a
  rcases h with h | h
  · rw [ck, Bool.and_true] at h
    have n : z = "" := by
      rcases Decidable.em (z = "") with q | q
      · exact q
      · rw [decide_eq_false q] at h
        cases h
    rw [n] at l1
    revert l1
    decide
  · omega
def spLk : Sp := fun vs H Q _ => ∃ (x : Str), vs = [.str x] ∧ x.length ≤ 50000 ∧ ∀ v H', L2.Same H H' → OkAt H' v (lkeyP x) → Q v H'
theorem bl_ne : TL.tl " " ≠ [] := by rw [tl_bl]; simp
theorem bl_256 : (" " : Str).cps.all (· < 256) = true := by decide +kernel
theorem ok_lli {f : Addr} {fd : FuncData} {e : Ex} (D : Df K mg "_law_length_in" ["_law_text"] sLawLengthIn f fd) (T : Txt K mg C CL e) (cLf : Ca P w K mg base 1 "_law_figures" ["_law_word"] spFgL) (cLt : Ca P w K mg base 1 "_law_length_text" ["_law_count"] spLt) : FnOk P w K mg base CX0 2 f fd ["_law_text"] (spL L1) := by
  refine D.fn.ok scLawLengthIn (fun vs H Q E h => ?_) (fun cdv A outer s H vs Q E hr h => ?_)
  · obtain ⟨x, rfl, lx, rx, q⟩ := h
    rfl
  · obtain ⟨x, rfl, lx, rx, q⟩ := h
    refine ⟨_, (pss_cons (ps_set (i := 1) scLawLengthIn.nd rfl (.inl rfl) (pe_m1 F.slot_str_split F.type_str_split mt_split (pv 0) pe_str))
      (pss_cons (ps_if (PW.pt (pw_or (pt_cmpR op_ne (pe_callB call_len_seq (by rfl) T.len PySem.boot_len (pa_cons (pv 1) pa_nil)) pe_int (nomark _)) (pw_or (pt_not (pt_val (pe_ca cLf hr (by decide) (by rfl) (pa_cons (pe_ix ix_list (pv 1) pe_int (fun _ _ => rfl)) pa_nil)))) (pw_or (pt_not (pt_val (pe_ca cLf hr (by decide) (by rfl) (pa_cons (pe_ix ix_list (pv 1) pe_int (fun _ _ => rfl)) pa_nil)))) (pw_or1 (pt_cmpR op_gt (pe_callB call_len_str (by rfl) T.len PySem.boot_len (pa_cons (pe_ix ix_list (pv 1) pe_int (fun _ _ => rfl)) pa_nil)) pe_int (nomark _))))))) (pss_one (ps_ret pe_non)) pss_nil)
      (pss_cons (ps_set (i := 2) scLawLengthIn.nd rfl (.inl rfl) (pe_op op_add (pe_op op_mul (pe_callTy call_int_str (by rfl) T.int (by decide +kernel) (pa_cons (pe_ix ix_list (pv 1) pe_int (fun _ _ => rfl)) pa_nil)) pe_int) (pe_callTy call_int_str (by rfl) T.int (by decide +kernel) (pa_cons (pe_ix ix_list (pv 1) pe_int (fun _ _ => rfl)) pa_nil))))
      (pss_one (ps_ret (pe_ifExp (PW.pt (pw_and (pt_cmpR op_lt (pv 2) pe_int (nomark _)) (pw_and1 (pt_cmpR op_eq (pe_ca cLt hr (by decide) (by rfl) (pa_cons (pv 2) pa_nil)) (pv 0) (nomark _))))) (pv 2) pe_non)))))), ?_⟩
    obtain ⟨pl1, pl2⟩ := split_len (x := x) c1_ne c1_256
    refine ⟨_, rfl, ⟨_, rfl⟩, x, ":", rfl, rfl, rfl, Nat.le_trans (show _ ≤ 60000 by omega) (by decide), fun S nS => ?_⟩
    have sS := same_upd nS (o := .lst ((Txt.split x ":").map V.str))
    have eS : (L2.upd H S (.lst ((Txt.split x ":").map V.str))) S = some (.lst ((Txt.split x ":").map V.str)) := upd_same
    generalize L2.upd H S (.lst ((Txt.split x ":").map V.str)) = H1 at sS eS ⊢
    obtain ⟨ps, hps⟩ : ∃ ps, Txt.split x ":" = ps := ⟨_, rfl⟩
    rw [hps] at pl1 pl2 eS
    have fw : ∀ c, 0 ≤ c → c ≤ 359999 → x = lenText c → ps = [nT (c / 60), zpad 2 (c % 60)] := fun c h0 h1 e => by rw [← hps, e, len_split h0 h1]
    have no : ∀ {H' : Hp}, L2.Same H H' → (∀ c, 0 ≤ c → c ≤ 359999 → ps ≠ [nT (c / 60), zpad 2 (c % 60)]) → Q .non H' := fun s c => q _ _ s (.inl ⟨rfl, fun c' h0 h1 e => c c' h0 h1 (fw c' h0 h1 e)⟩)
    refine ⟨_, rfl, S, _, rfl, .inl (SqL.of eS), rfl, _, rfl, ?_⟩
    rw [List.length_map]
    by_cases h2 : (ps.length : Int) = 2
    case neg =>
      have e1 : (!decide (V.int (ps.length : Int) = V.int 2)) = true := by rw [decide_eq_false (fun z => h2 (V.int.inj z))]; rfl
      rw [e1]
      refine iteT (no sS fun c h0 h1 e => h2 ?_)
      rw [e]
      rfl
    have e1 : (!decide (V.int (ps.length : Int) = V.int 2)) = false := by rw [decide_eq_true (by rw [h2])]; rfl
    rw [e1]
    obtain ⟨a, b, rfl⟩ : ∃ a b, ps = [a, b] := by
      match ps, h2 with
      | [a, b], _ => exact ⟨a, b, rfl⟩
      | [], h => cases h
      | [_], h => cases h
      | _ :: _ :: _ :: _, h => simp only [List.length_cons] at h; omega
    have rb := rx.split c1_ne c1_256 b (by rw [hps]; simp)
    have la := pl2 a (by simp)
    have lb := pl2 b (by simp)
    refine iteF ⟨_, rfl, S, _, 0, .str a, rfl, rfl, SqL.of eS, rfl, a, rfl, by omega, fun H2 s2 => ⟨_, rfl, ?_⟩⟩
    have s02 := sS.trans s2
    have eS2 := s2 _ _ eS
    cases ca : (!(decide (a = "")) && chk a figs) with
    | false =>
      refine iteT (no s02 fun c h0 h1 e => ?_)
      cases e
      rw [fgB_iff.mpr ⟨(nT_4 h0 h1).1, nT_ad (by omega)⟩] at ca
      cases ca
    | true =>
      obtain ⟨a1, a2⟩ := fgB_iff.mp ca
      refine iteF ⟨_, rfl, S, _, 1, .str b, rfl, rfl, SqL.of eS2, rfl, b, rfl, by omega, fun H3 s3 => ⟨_, rfl, ?_⟩⟩
      have s03 := s02.trans s3
      have eS3 := s3 _ _ eS2
      cases cb : (!(decide (b = "")) && chk b figs) with
      | false =>
        refine iteT (no s03 fun c h0 h1 e => ?_)
        cases e
        have p := num_zp (i := c % 60) (by omega) (by omega)
        have := p.len
        rw [fgB_iff.mpr ⟨by omega, p.ad⟩] at cb
        cases cb
      | true =>
        obtain ⟨b1, b2⟩ := fgB_iff.mp cb
        have b640 := rb.all b2
        refine iteF ⟨_, rfl, S, _, 0, .str a, rfl, rfl, SqL.of eS3, rfl, a, rfl, fitN' (by omega), _, _, rfl, rfl, _, rfl, ite2 (fun h4 => ?_) (fun h4 => ?_)⟩
        · have h5 := of_decide_eq_true h4
          refine no s03 fun c h0 h1 e => ?_
          cases e
          have := (nT_4 h0 h1).2
          omega
        have h5 : ¬ (a.length : Int) > 4 := by simpa using h4
        refine ⟨_, rfl, S, _, 0, .str a, rfl, rfl, SqL.of eS3, rfl, a, _, rfl, intText_digits a2 (fun z => by rw [len_cps, z] at a1; exact absurd a1 (by decide)) (by omega), by omega, _, 60, rfl, rfl, .inr ⟨by decide, by decide⟩, _, rfl, S, _, 1, .str b, rfl, rfl, SqL.of eS3, rfl, b, _, rfl, intText_digits b2 (fun z => by rw [len_cps, z] at b1; exact absurd b1 (by decide)) (by omega), by omega, _, _, rfl, rfl, ?_⟩
        have d0 : 0 ≤ dv a ∧ 0 ≤ dv b := ⟨Int.natCast_nonneg _, Int.natCast_nonneg _⟩
        have val : ∀ c, 0 ≤ c → c ≤ 359999 → x = lenText c → dv a * 60 + dv b = c := fun c h0 h1 e => by
          have g := fw c h0 h1 e
          cases g
          have p := num_zp (i := c % 60) (by omega) (by omega)
          rw [p.val, nT_dv (by omega)]
          omega
        have hb : (fun i j : Int => V.int (i + j)) (((NumText.digitsVal a.cps.toList : Nat) : Int) * 60) ((NumText.digitsVal b.cps.toList : Nat) : Int) = V.int (dv a * 60 + dv b) := rfl
        rw [hb]
        obtain ⟨c, hc⟩ : ∃ c, dv a * 60 + dv b = c := ⟨_, rfl⟩
        rw [hc] at val ⊢
        have c0 : 0 ≤ c := by omega
        refine ⟨_, rfl, _, _, rfl, rfl, _, rfl, ite2 (fun h6 => ?_) (fun h6 => ?_)⟩
        · have h7 : c < 360000 := of_decide_eq_true h6
          refine ⟨_, rfl, c, rfl, c0, by omega, fun H4 s4 => ⟨_, rfl, rfl, _, rfl, ?_⟩⟩
          have s04 := s03.trans s4
          have es : decide (V.str (lenText c) = V.str x) = decide (x = lenText c) := decide_eq_decide.mpr ⟨fun z => (V.str.inj z).symm, fun z => by rw [z]⟩
          rw [es]
          by_cases ex : x = lenText c
          · rw [decide_eq_true ex]
            exact iteT ⟨_, rfl, q _ _ s04 (.inr ⟨c, rfl, c0, by omega, ex⟩)⟩
          · rw [decide_eq_false ex]
            refine iteF (q _ _ s04 (.inl ⟨rfl, fun c2 h02 h12 e => ex ?_⟩))
            have := val c2 h02 h12 e
            rw [this]
            exact e
        · have h7 : ¬ c < 360000 := by simpa using h6
          refine q _ _ s03 (.inl ⟨rfl, fun c2 h02 h12 e => ?_⟩)
          have := val c2 h02 h12 e
          omega
theorem ok_lni {f : Addr} {fd : FuncData} {e : Ex} (D : Df K mg "_law_name_in" ["_law_text"] sLawNameIn f fd) (T : Txt K mg C CL e) : FnOk P w K mg base CX0 1 f fd ["_law_text"] (spL R2) := by
  refine D.fn.ok scLawNameIn (fun vs H Q E h => ?_) (fun cdv A outer s H vs Q E hr h => ?_)
  · obtain ⟨x, rfl, lx, rx, q⟩ := h
    rfl
  · obtain ⟨x, rfl, lx, rx, q⟩ := h
    refine ⟨_, (pss_cons (ps_set (i := 1) scLawNameIn.nd rfl (.inr rfl) pe_str)
      (pss_cons (ps_set (i := 2) scLawNameIn.nd rfl (.inl rfl) (pe_m1 F.slot_str_find F.type_str_find mt_find (pv 0) pe_str))
      (pss_cons (ps_par (i := 3) (j := 4) (by rfl) scLawNameIn.nd rfl rfl (by decide) rfl rfl (pa_cons (pe_slice sl_str (pv 0) po_none (po_some (pe_callB (call_max2 (by rfl)) (by rfl) T.max (by decide +kernel) (pa_cons pe_int (pa_cons (pv 2) pa_nil))))) (pa_cons (pe_slice sl_str (pv 0) (po_some (pe_op op_add (pv 2) pe_int)) po_none) pa_nil)) (by rfl))
      (pss_cons (ps_if (PW.pt (pw_or (pt_not (pt_chain op_le op_le pe_int (pe_callB call_len_str (by rfl) T.len PySem.boot_len (pa_cons (pv 3) pa_nil)) pe_int)) (pw_or1 (pt_not (pt_val (pe_callB (cr_all (by rfl)) (by rfl) T.all (by decide +kernel) (pa_cons (pe_lc (own := [("_law_sign", 5)]) (g := gName 5) (tt := tYes) (by rfl) scLawNameIn.nd (pi_str (pv 3)) (blkOk_by (own := [("_law_sign", 5)]) (N := ["_law_text", "_law_signs", "_law_at", "_law_tongue", "_law_rest", "_law_sign"]) (sc := defScope sLawNameIn) (by decide +kernel)) (fun _ _ _ _ _ => pg_name (i := 5) scLawNameIn.nd rfl (.inl rfl)) (fun _ _ _ _ _ => pts_nil) (fun _ _ _ _ _ => pe_cmpR op_in_sign (pv 5) pe_str (by rfl))) pa_nil))))))) (pss_one (ps_ret pe_non)) pss_nil)
      (pss_cons (ps_if (PW.pt (pw_or (pt_not (pt_chain op_le op_le pe_int (pe_callB call_len_str (by rfl) T.len PySem.boot_len (pa_cons (pv 4) pa_nil)) pe_int)) (pw_or (pt_not (pt_val (pe_callB (cr_all (by rfl)) (by rfl) T.all (by decide +kernel) (pa_cons (pe_lc (own := [("_law_sign", 5)]) (g := gName 5) (tt := tYes) (by rfl) scLawNameIn.nd (pi_str (pv 4)) (blkOk_by (own := [("_law_sign", 5)]) (N := ["_law_text", "_law_signs", "_law_at", "_law_tongue", "_law_rest", "_law_sign"]) (sc := defScope sLawNameIn) (by decide +kernel)) (fun _ _ _ _ _ => pg_name (i := 5) scLawNameIn.nd rfl (.inl rfl)) (fun _ _ _ _ _ => pts_nil) (fun _ _ _ _ _ => pe_cmpR op_in_sign (pv 5) (pv 1) (by rfl))) pa_nil)))) (pw_or1 (pt_cmpR (op_inD (r65 hr)) pe_str (pe_m1 F.slot_str_split F.type_str_split mt_split (pv 4) pe_str) (by rfl)))))) (pss_one (ps_ret pe_non)) pss_nil)
      (pss_one (ps_ret (pe_tup (pa_cons (pv 3) (pa_cons (pv 4) pa_nil)))))))))), ?_⟩
    have bl1 := fun (i j : Option Int) => cutS_len x i j
    refine ⟨_, rfl, ⟨_, rfl⟩, x, ":", rfl, rfl, ?_⟩
    obtain ⟨M, hM, hi⟩ : ∃ M : Nat, (if Txt.find x ":" > 0 then Txt.find x ":" else 0) = (M : Int) ∧ (0 ≤ Txt.find x ":" → Txt.find x ":" = (M : Int)) := by
      split
      · exact ⟨(Txt.find x ":").toNat, by omega, fun _ => by omega⟩
      · exact ⟨0, rfl, fun _ => by omega⟩
    have nc := nm_cut x
    obtain ⟨k, hk⟩ : ∃ k, Txt.find x ":" = k := ⟨_, rfl⟩
    rw [hk] at hM hi nc ⊢
    have la := bl1 none (some (M : Int))
    have lb := bl1 (some (k + 1)) none
    have F : nmF x = if nmD (.tuple [.str (cutS x none (some (M : Int))), .str (cutS x (some (k + 1)) none)]) = true then some (cutS x none (some (M : Int)), cutS x (some (k + 1)) none) else none := by
      rcases nc with ⟨k1, e⟩ | ⟨i, k1, e1, e2⟩
      · have m0 : M = 0 := by
          rw [if_neg (by omega)] at hM
          omega
        rw [e, if_neg]
        intro h
        have h2 := (nm_law.mp h).1.1.1
        have h3 : (cutS x none (some (M : Int))).length = 0 := by rw [len_cps, cut_to, m0]; rfl
        rw [h3] at h2
        revert h2
        decide
      · have mi : (i : Int) = (M : Int) := by rw [← hi (by omega), k1]
        unfold nmF
        rw [e1, e2, k1, mi]
    refine ⟨_, rfl, _, rfl, 0, _, rfl, _, rfl, x, rfl, fitN' (by omega), _, rfl, _, rfl, k, 1, rfl, rfl, _, rfl, x, rfl, fitN' (by omega), _, _, rfl, ?_⟩
    rw [hM]
    generalize cutS x none (some (M : Int)) = a at la F ⊢
    generalize cutS x (some (k + 1)) none = b at lb F ⊢
    clear hM hi nc hk bl1
    have q2 : ∀ v H', L2.Same H H' → NmR H' v (nmF x) → Q v H' := q
    rw [F] at q2
    have qn : ∀ {H'}, L2.Same H H' → ¬ (nmD (.tuple [.str a, .str b]) = true) → Q .non H' := fun s n => by
      rw [if_neg n] at q2
      exact q2 _ _ s rfl
    refine ⟨_, rfl, a, rfl, fitN' (by omega), 2, _, rfl, rfl, _, rfl, ite2 (fun h1 => ?_) (fun h1 => ?_)⟩
    case refine_2 => exact ⟨_, rfl, qn (Same.refl H) fun h => h1 (decide_eq_true (nm_law.mp h).1.1.1)⟩
    refine ⟨_, 3, rfl, rfl, _, rfl, ite2 (fun h2 => ?_) (fun h2 => ?_)⟩
    case refine_1 => exact qn (Same.refl H) fun h => (show ¬ (a.length : Int) ≤ 3 by simpa using h2) (nm_law.mp h).1.1.2
    refine ⟨_, rfl, a, rfl, fun L nL => ?_⟩
    have sL := same_upd nL (o := .lst [])
    refine lc_it (walk_str (z := a)) (fun i Hi => ∃ bs : List Bool, bs = ((a).cps.toList.take i).map (fun c => decide (c ∈ (small).cps.toList)) ∧ Hi L = some (.lst (bs.map V.bl)) ∧ L2.Same H Hi) ?_ (fun _ _ _ _ => trivial) ?_ ?_
    · exact ⟨[], rfl, upd_same, sL⟩
    · rintro i v Hi Hi' _ ⟨bs, eb, eL, sm⟩ ⟨rfl, c, ec, rfl⟩
      rw [← Array.getElem?_toList] at ec
      refine ⟨rfl, ?_⟩
      unfold tYes
      refine iteT ⟨_, rfl, c, small, rfl, rfl, ?_⟩
      have il : i < (a).cps.toList.length := (List.getElem?_eq_some_iff.mp ec).1
      refine ⟨_, eL, ?_, bs ++ [decide (c ∈ (small).cps.toList)], ?_, ?_, fun b o e => ?_⟩
      · rw [List.length_map, eb, List.length_map, List.length_take]
        refine Nat.lt_of_le_of_lt (show min i (a).cps.toList.length ≤ 50000 from ?_) (by decide)
        rw [← len_cps]
        omega
      · rw [List.take_succ, ec, List.map_append, eb]
        rfl
      · rw [upd_same, List.map_append]
        rfl
      · rw [upd_ne (ne_of_none e nL)]
        exact sm _ _ e
    · rintro He ⟨bs, eb, eL, sm⟩
      refine ⟨L, _, rfl, SqL.of eL, ?_⟩
      rw [eb, List.take_of_length_le (by rw [Array.length_toList]; exact Nat.le_refl _), List.all_map, show ((a).cps.toList.all (id ∘ fun c => decide (c ∈ (small).cps.toList))) = chk (a) (small) from rfl]
      refine ⟨_, rfl, ?_⟩
      cases c1 : chk a small with
      | false =>
        refine iteT (qn sm fun h => ?_)
        rw [(nm_law.mp h).1.2] at c1
        cases c1
      | true =>
        refine iteF ?_
        have sm0 := sm
        clear sm eb eL sL nL
        refine ⟨_, rfl, b, rfl, fitN' (by omega), 1, _, rfl, rfl, _, rfl, ite2 (fun h3 => ?_) (fun h3 => ?_)⟩
        case refine_2 => exact ⟨_, rfl, qn sm0 fun h => h3 (decide_eq_true (nm_law.mp h).2.1.1)⟩
        refine ⟨_, 40, rfl, rfl, _, rfl, ite2 (fun h4 => ?_) (fun h4 => ?_)⟩
        case refine_1 => exact qn sm0 fun h => (show ¬ (b.length : Int) ≤ 40 by simpa using h4) (nm_law.mp h).2.1.2
        refine ⟨_, rfl, b, rfl, fun L nL => ?_⟩
        have sL := same_upd nL (o := .lst [])
        refine lc_it (walk_str (z := b)) (fun i Hi => ∃ bs : List Bool, bs = ((b).cps.toList.take i).map (fun c => decide (c ∈ (lawS2).cps.toList)) ∧ Hi L = some (.lst (bs.map V.bl)) ∧ L2.Same He Hi) ?_ (fun _ _ _ _ => trivial) ?_ ?_
        · exact ⟨[], rfl, upd_same, sL⟩
        · rintro i v Hi Hi' _ ⟨bs, eb, eL, sm⟩ ⟨rfl, c, ec, rfl⟩
          rw [← Array.getElem?_toList] at ec
          refine ⟨rfl, ?_⟩
          unfold tYes
          refine iteT ⟨_, rfl, _, rfl, c, lawS2, rfl, rfl, ?_⟩
          have il : i < (b).cps.toList.length := (List.getElem?_eq_some_iff.mp ec).1
          refine ⟨_, eL, ?_, bs ++ [decide (c ∈ (lawS2).cps.toList)], ?_, ?_, fun b o e => ?_⟩
          · rw [List.length_map, eb, List.length_map, List.length_take]
            refine Nat.lt_of_le_of_lt (show min i (b).cps.toList.length ≤ 50000 from ?_) (by decide)
            rw [← len_cps]
            omega
          · rw [List.take_succ, ec, List.map_append, eb]
            rfl
          · rw [upd_same, List.map_append]
            rfl
          · rw [upd_ne (ne_of_none e nL)]
            exact sm _ _ e
        · rintro He ⟨bs, eb, eL, sm⟩
          refine ⟨L, _, rfl, SqL.of eL, ?_⟩
          rw [eb, List.take_of_length_le (by rw [Array.length_toList]; exact Nat.le_refl _), List.all_map, show ((b).cps.toList.all (id ∘ fun c => decide (c ∈ (lawS2).cps.toList))) = chk (b) (lawS2) from rfl]
          refine ⟨_, rfl, ?_⟩
          cases c2 : chk b lawS2 with
          | false =>
            refine iteT (qn (sm0.trans sm) fun h => ?_)
            rw [(nm_law.mp h).2.2.1] at c2
            cases c2
          | true =>
            have pb := split_len (x := b) (by rw [tl_b1]; simp) (show (" " : Str).cps.all (· < 256) = true by decide +kernel)
            refine iteF ⟨_, rfl, ⟨_, rfl⟩, b, " ", rfl, rfl, rfl, Nat.le_trans (show _ ≤ 60000 by omega) (by decide), fun W nW => ?_⟩
            have sW := same_upd nW (o := .lst ((Txt.split b " ").map V.str))
            have eW : (L2.upd He W (.lst ((Txt.split b " ").map V.str))) W = some (.lst ((Txt.split b " ").map V.str)) := upd_same
            generalize L2.upd He W (.lst ((Txt.split b " ").map V.str)) = H3 at sW eW ⊢
            have s03 := (sm0.trans sm).trans sW
            have small256 : ∀ y ∈ Txt.split b " ", ∀ c ∈ y.cps.toList, c < 256 := fun y hy c hc => by
              have w := mem_join " " _ y hy c hc
              rw [← TL.join_eq, join_split (x := b) (by rw [tl_b1]; simp) (by decide +kernel)] at w
              have g : ∀ c ∈ lawS2.cps.toList, c < 256 := by decide +kernel
              exact g c (chk_iff.mp c2 c w)
            refine ⟨.str "", (Txt.split b " ").map PyData.str, .str _, .lst (SqL.of eW) (dpA_str _), by decide +kernel, sh_str small256, _, rfl, ?_⟩
            rw [any_str]
            by_cases hw : (("" : Str)) ∈ Txt.split b " "
            · rw [decide_eq_true hw]
              exact iteT (qn s03 fun h => (nm_law.mp h).2.2.2 hw)
            · rw [decide_eq_false hw]
              have ok : nmD (.tuple [.str a, .str b]) = true := nm_law.mpr ⟨⟨⟨of_decide_eq_true h1, by simpa using h2⟩, c1⟩, ⟨of_decide_eq_true h3, by simpa using h4⟩, c2, hw⟩
              rw [if_pos ok] at q2
              exact iteF ⟨_, rfl, _, rfl, (by show 2 ≤ sizeLine; decide), fun t nt => q2 _ _ (s03.trans (same_upd nt)) ⟨t, rfl, upd_same⟩⟩
theorem ok_ln {f : Addr} {fd : FuncData} {e : Ex} (D : Df K mg "_law_number" ["_law_word"] sNumber f fd) (T : Txt K mg C CL e) (cLf : Ca P w K mg base 1 "_law_figures" ["_law_word"] spFgL) : FnOk P w K mg base CX0 2 f fd ["_law_word"] spNum := by
  refine D.fn.ok scNumber (fun vs H Q E h => ?_) (fun cdv A outer s H vs Q E hr h => ?_)
  · obtain ⟨z, rfl, lz, q⟩ := h
    rfl
  · obtain ⟨z, rfl, lz, q⟩ := h
    refine ⟨_, (pss_cons (ps_if (PW.pt (pw_or (pt_not (pt_val (pe_ca cLf hr (by decide) (by rfl) (pa_cons (pv 0) pa_nil)))) (pw_or (pt_cmpR op_gt (pe_callB call_len_str (by rfl) T.len PySem.boot_len (pa_cons (pv 0) pa_nil)) pe_int (nomark _)) (pw_or1 (PW.pt (pw_and (pt_cmpR op_eq (pe_ix ix_str (pv 0) pe_int (fun _ _ => rfl)) pe_str (nomark _)) (pw_and1 (pt_cmpR op_ne (pv 0) pe_str (nomark _))))))))) (pss_one (ps_ret pe_non)) pss_nil)
      (pss_one (ps_ret (pe_callTy call_int_str (by rfl) T.int (by decide +kernel) (pa_cons (pv 0) pa_nil))))), ?_⟩
    have fit := fitN' lz
    refine ⟨_, rfl, z, rfl, lz, fun H1 s1 => ⟨_, rfl, ?_⟩⟩
    have qn : numP z = none → Q .non H1 := fun e => by
      have w := q H1 s1
      rw [e] at w
      exact w
    cases c : (!(decide (z = "")) && chk z figs) with
    | false => exact iteT (qn (num_ne (.inl c)))
    | true =>
      refine iteF ⟨_, rfl, z, rfl, fit, _, _, rfl, rfl, _, rfl, ?_⟩
      by_cases l30 : z.length ≤ 30
      · have e30 : decide ((z.length : Int) > 30) = false := decide_eq_false (by omega)
        rw [e30]
        have cT := num_eq c l30
        obtain ⟨l1, _, ck⟩ := ofT_iff.mp cT
        have ne : z.cps.toList ≠ [] := fun e => by rw [len_cps, e] at l1; exact absurd l1 (by decide)
        obtain ⟨c0, e0⟩ : ∃ d, z.cps.toList.head? = some d := by
          cases e : z.cps.toList.head? with
          | none => exact absurd (List.head?_eq_none_iff.mp e) ne
          | some d => exact ⟨d, rfl⟩
        have a0 : atI z.cps.toList 0 = some c0 := atI_nat (j := 0) (by rw [← List.head?_eq_getElem?]; exact e0)
        have d0 : decide (V.str ⟨#[c0]⟩ = V.str "0") = decide (c0 = 48) := by
          rw [decide_eq_decide]
          constructor
          · intro e
            injection e with e
            have := congrArg (fun s : Str => s.cps.toList) e
            rw [show ("0" : Str).cps.toList = [48] by decide +kernel] at this
            simpa using this
          · intro e
            rw [e]
            exact congrArg V.str (Xtx.str_eq (by decide +kernel))
        have yes : ¬ (z.cps.toList.head? = some 48 ∧ z ≠ "0") → PySem.intText? z = some ((NumText.digitsVal z.cps.toList : Nat) : Int) ∧ Q (.int ((NumText.digitsVal z.cps.toList : Nat) : Int)) H1 := fun h => by
          have w := q H1 s1
          unfold numP at w
          rw [if_pos cT, if_neg h] at w
          exact ⟨intText_digits ((chk_figs z).mp ck) ne (by omega), w⟩
        refine iteF ⟨_, rfl, z, 0, c0, rfl, rfl, fit, a0, rfl, _, rfl, ?_⟩
        rw [d0]
        by_cases h0 : c0 = 48
        · rw [decide_eq_true h0]
          refine iteT ⟨_, rfl, rfl, _, rfl, ?_⟩
          by_cases h1 : z = "0"
          · have e1 : (!decide (V.str z = V.str "0")) = false := by rw [h1]; rfl
            rw [e1]
            obtain ⟨g1, g2⟩ := yes fun x => x.2 h1
            exact iteF ⟨_, rfl, z, _, rfl, g1, by omega, g2⟩
          · have e1 : (!decide (V.str z = V.str "0")) = true := by rw [decide_eq_false (fun e => h1 (by injection e))]; rfl
            rw [e1]
            refine iteT (qn ?_)
            unfold numP
            rw [if_pos cT, if_pos ⟨by rw [e0, h0], h1⟩]
        · rw [decide_eq_false h0]
          obtain ⟨g1, g2⟩ := yes fun x => by
            rw [e0] at x
            exact h0 (Option.some.inj x.1)
          exact iteF ⟨_, rfl, z, _, rfl, g1, by omega, g2⟩
      · have e30 : decide ((z.length : Int) > 30) = true := decide_eq_true (by omega)
        rw [e30]
        exact iteT (qn (num_ne (.inr (by omega))))
theorem ok_lk {f : Addr} {fd : FuncData} {e : Ex} (D : Df K mg "_law_key_in" ["_law_text"] sLawKeyIn f fd) (T : Txt K mg C CL e) (cLn : Ca P w K mg base 2 "_law_number" ["_law_word"] spNum) : FnOk P w K mg base CX0 3 f fd ["_law_text"] spLk := by
  refine D.fn.ok scLawKeyIn (fun vs H Q E h => ?_) (fun cdv A outer s H vs Q E hr h => ?_)
  · obtain ⟨x, rfl, lx, q⟩ := h
    rfl
  · obtain ⟨x, rfl, lx, q⟩ := h
    refine ⟨_, (pss_cons (ps_set (i := 1) scLawKeyIn.nd rfl (.inl rfl) (pe_m1 F.slot_str_split F.type_str_split mt_split (pv 0) pe_str))
      (pss_cons (ps_if (PW.pt (pw_or (pt_cmpR op_ne (pe_callB call_len_seq (by rfl) T.len PySem.boot_len (pa_cons (pv 1) pa_nil)) pe_int (nomark _)) (pw_or (pt_cmpR op_isN (pe_ca cLn hr (by decide) (by rfl) (pa_cons (pe_ix ix_list (pv 1) pe_int (fun _ _ => rfl)) pa_nil)) pe_non (nomark _)) (pw_or1 (pt_not (pt_chain op_le op_le pe_int (pe_callB call_len_str (by rfl) T.len PySem.boot_len (pa_cons (pe_ix ix_list (pv 1) pe_int (fun _ _ => rfl)) pa_nil)) pe_int)))))) (pss_one (ps_ret pe_non)) pss_nil)
      (pss_cons (ps_if (pt_not (pt_val (pe_callB (cr_all (by rfl)) (by rfl) T.all (by decide +kernel) (pa_cons (pe_lc (own := [("_law_sign", 2)]) (g := gName 2) (tt := tYes) (by rfl) scLawKeyIn.nd (pi_str (pe_ix ix_list (pv 1) pe_int (fun _ _ => rfl))) (blkOk_by (own := [("_law_sign", 2)]) (N := ["_law_text", "_law_parts_here", "_law_sign"]) (sc := defScope sLawKeyIn) (by decide +kernel)) (fun _ _ _ _ _ => pg_name (i := 2) scLawKeyIn.nd rfl (.inl rfl)) (fun _ _ _ _ _ => pts_nil) (fun _ _ _ _ _ => pe_cmpR op_in_sign (pv 2) pe_str (by rfl))) pa_nil)))) (pss_one (ps_ret pe_non)) pss_nil)
      (pss_one (ps_ret (pe_tup (pa_cons (pe_ix ix_list (pv 1) pe_int (fun _ _ => rfl)) (pa_cons (pe_ca cLn hr (by decide) (by rfl) (pa_cons (pe_ix ix_list (pv 1) pe_int (fun _ _ => rfl)) pa_nil)) pa_nil)))))))), ?_⟩
    obtain ⟨pl1, pl2⟩ := split_len (x := x) bl_ne bl_256
    refine ⟨_, rfl, ⟨_, rfl⟩, x, " ", rfl, rfl, rfl, Nat.le_trans (show _ ≤ 60000 by omega) (by decide), fun S nS => ?_⟩
    have sS := same_upd nS (o := .lst ((Txt.split x " ").map V.str))
    have eS : (L2.upd H S (.lst ((Txt.split x " ").map V.str))) S = some (.lst ((Txt.split x " ").map V.str)) := upd_same
    generalize L2.upd H S (.lst ((Txt.split x " ").map V.str)) = H1 at sS eS ⊢
    have qn : ∀ H', lkeyP x = none → L2.Same H H' → Q .non H' := fun H' e s => q .non H' s (by rw [e]; rfl)
    unfold lkeyP at q qn
    generalize Txt.split x " " = ps at pl1 pl2 eS q qn ⊢
    refine ⟨_, rfl, S, _, rfl, .inl (SqL.of eS), rfl, _, rfl, ?_⟩
    match ps, pl1, pl2, eS, q, qn with
    | [], _, _, _, _, qn => exact ite2 (fun _ => qn _ rfl sS) (fun c => absurd rfl c)
    | [_], _, _, _, _, qn => exact ite2 (fun _ => qn _ rfl sS) (fun c => absurd rfl c)
    | _ :: _ :: _ :: t, _, _, _, _, qn =>
      refine ite2 (fun _ => qn _ rfl sS) (fun c => absurd ?_ c)
      rw [List.map_cons, List.map_cons, List.map_cons]
      simp only [List.length_cons]
      rw [decide_eq_false (by intro e; injection e with e; omega)]
      rfl
    | [a, b], _, pl2, eS, q, qn =>
      have la := pl2 a (by simp)
      have lb := pl2 b (by simp)
      refine ite2 (fun c => absurd c (by rw [decide_eq_true (show V.int ((([a, b].map V.str).length : Nat) : Int) = V.int 2 from rfl)]; decide)) (fun _ => ?_)
      refine ⟨_, rfl, S, _, 1, .str b, rfl, rfl, SqL.of eS, rfl, b, rfl, by omega, fun H2 s2 => ⟨rfl, _, rfl, ?_⟩⟩
      have s02 := sS.trans s2
      have eS2 := s2 _ _ eS
      cases hn : numP b with
      | none => exact iteT (qn _ (by dsimp only; rw [hn]) s02)
      | some n =>
        dsimp only at qn q
        rw [hn] at qn q
        dsimp only at qn q
        refine iteF ⟨_, rfl, S, _, 0, .str a, rfl, rfl, SqL.of eS2, rfl, a, rfl, fitN' (by omega), 1, _, rfl, rfl, _, rfl, ?_⟩
        cases c1 : decide ((1 : Int) ≤ (a.length : Int)) with
        | false =>
          have no : ¬ ofT (.str a) small 1 8 = true := fun h => (of_decide_eq_false c1) (ofT_iff.mp h).1
          exact iteF ⟨_, rfl, iteT (qn _ (if_neg no) s02)⟩
        | true =>
          refine iteT ⟨_, _, rfl, rfl, _, rfl, ?_⟩
          cases c2 : decide ((a.length : Int) ≤ 8) with
          | false =>
            have no : ¬ ofT (.str a) small 1 8 = true := fun h => (of_decide_eq_false c2) (ofT_iff.mp h).2.1
            exact iteT (qn _ (if_neg no) s02)
          | true =>
            refine iteF ⟨_, rfl, S, _, 0, .str a, rfl, rfl, SqL.of eS2, rfl, a, rfl, fun L nL => ?_⟩
            have sL := same_upd nL (o := .lst [])
            refine lc_it (walk_str (z := a)) (fun i Hi => ∃ bs : List Bool, bs = ((a).cps.toList.take i).map (fun c => decide (c ∈ (small).cps.toList)) ∧ Hi L = some (.lst (bs.map V.bl)) ∧ L2.Same H2 Hi) ?_ (fun _ _ _ _ => trivial) ?_ ?_
            · exact ⟨[], rfl, upd_same, sL⟩
            · rintro i v Hi Hi' _ ⟨bs, eb, eL, sm⟩ ⟨rfl, c, ec, rfl⟩
              rw [← Array.getElem?_toList] at ec
              refine ⟨rfl, ?_⟩
              unfold tYes
              refine iteT ⟨_, rfl, c, small, rfl, rfl, ?_⟩
              have il : i < (a).cps.toList.length := (List.getElem?_eq_some_iff.mp ec).1
              refine ⟨_, eL, ?_, bs ++ [decide (c ∈ (small).cps.toList)], ?_, ?_, fun b o e => ?_⟩
              · rw [List.length_map, eb, List.length_map, List.length_take]
                refine Nat.lt_of_le_of_lt (show min i (a).cps.toList.length ≤ 50000 from ?_) (by decide)
                rw [← len_cps]
                omega
              · rw [List.take_succ, ec, List.map_append, eb]
                rfl
              · rw [upd_same, List.map_append]
                rfl
              · rw [upd_ne (ne_of_none e nL)]
                exact sm _ _ e
            · rintro He ⟨bs, eb, eL, sm⟩
              refine ⟨L, _, rfl, SqL.of eL, ?_⟩
              rw [eb, List.take_of_length_le (by rw [Array.length_toList]; exact Nat.le_refl _), List.all_map, show ((a).cps.toList.all (id ∘ fun c => decide (c ∈ (small).cps.toList))) = chk (a) (small) from rfl]
              have s03 := s02.trans sm
              have eS3 := sm _ _ eS2
              refine ⟨_, rfl, ?_⟩
              cases c3 : chk a small with
              | false =>
                have no : ¬ ofT (.str a) small 1 8 = true := fun h => by rw [(ofT_iff.mp h).2.2] at c3; cases c3
                exact iteT (qn _ (if_neg no) s03)
              | true =>
                have yes : ofT (.str a) small 1 8 = true := ofT_iff.mpr ⟨of_decide_eq_true c1, of_decide_eq_true c2, c3⟩
                rw [if_pos yes] at q
                refine iteF ⟨_, rfl, S, _, 0, .str a, rfl, rfl, SqL.of eS3, rfl, _, rfl, S, _, 1, .str b, rfl, rfl, SqL.of eS3, rfl, b, rfl, by omega, fun H4 s4 => ?_⟩
                rw [hn]
                refine ⟨(by show 2 ≤ sizeLine; decide), fun t nt => q (.ref t) _ ((s03.trans s4).trans (same_upd nt)) ⟨t, rfl, upd_same⟩⟩
end
end K64
set_option Elab.async false
set_option linter.all false
set_option maxRecDepth 100000
set_option maxHeartbeats 4000000
set_option pp.maxSteps 400
set_option pp.deepTerms false
namespace K64
open PySem PySem.Spec PyProof.Rows L2
open Xk Az Xtx Xkd Xst Xsp
section
variable {P : Program} {w : World} {K : PySem.W.Frag} {mg : Str → Option Value} {base : Heap} {C CL : Addr}
/-- the players that a text tells -/
def plL (x : Str) : Option (List (Str × Str)) := match plF x with
  | some ps => if (decide (ps.length ≤ 8) && risB ps) = true then some ps else none
  | none => none
def LP (x : Str) (H : Hp) (v : V) : Prop := PlO H v (plL x)
def cdF (x : Str) : Option Str := if ofT (.str x) codes 1 12 = true then some x else none
def LC (x : Str) (_ : Hp) (v : V) : Prop := v = cV (cdF x)
/-- what a text tells in a field -/
def FvL : Nat → Str → Hp → V → Prop
  | 0 => LC
  | 1 => R2
  | 2 => LP
  | 3 => fun x H v => DpO H v (dyF x)
  | _ => fun x _ v => v = iV (lnF x)
def spLf : Sp := fun vs H Q _ => ∃ (i : Nat) (x : Str), vs = [.int (i : Int), .str x] ∧ i < 5 ∧ x.length ≤ 30000 ∧ Run 640 x ∧ ∀ v H', L2.Same H H' → FvL i x H' v → Q v H'
theorem l0_dy {x : Str} {H : Hp} {v : V} (h : L0 x H v) : DpO H v (dyF x) := by
  rcases h with ⟨rfl, no⟩ | ⟨t, y, m, d, rfl, g, rfl, et⟩
  · rw [dyF_no no]; rfl
  · rw [dyF_ok g]; exact ⟨t, rfl, et⟩
theorem l1_ln {x : Str} {H : Hp} {v : V} (h : L1 x H v) : v = iV (lnF x) := by
  rcases h with ⟨rfl, no⟩ | ⟨c, rfl, h0, h1, rfl⟩
  · rw [lnF_no no]; rfl
  · rw [lnF_ok h0 h1]; rfl
theorem ok_lp {f : Addr} {fd : FuncData} {e : Ex} (D : Df K mg "_law_players_in" ["_law_text"] sLawPlayersIn f fd) (T : Txt K mg C CL e) (cLni : Ca P w K mg base 1 "_law_name_in" ["_law_text"] (spL R2)) : FnOk P w K mg base CX0 3 f fd ["_law_text"] (spL LP) := by
  refine D.fn.ok scLawPlayersIn (fun vs H Q E h => ?_) (fun cdv A outer s H vs Q E hr h => ?_)
  · obtain ⟨x, rfl, lx, rx, q⟩ := h
    rfl
  · obtain ⟨x, rfl, lx, rx, q⟩ := h
    refine ⟨_, (pss_cons (ps_setLc (i := 1) (own := [("_law_part", 2)]) (g := gName 2) (tt := tYes) (te := tCall (spL R2) [] E0 (tCons (tVar 2) tNil)) (by rfl) scLawPlayersIn.nd rfl rfl (sw_true rfl rfl rfl (by decide +kernel)) (pi_list (pe_m1 F.slot_str_split F.type_str_split mt_split (pv 0) pe_str)) (blkOk_by (own := [("_law_part", 2)]) (N := ["_law_text", "_law_found", "_law_part", "_law_one", "_law_other"]) (sc := defScope sLawPlayersIn) (by decide +kernel)) (fun _ _ _ _ _ => pg_name (i := 2) scLawPlayersIn.nd rfl (.inl rfl)) (fun _ _ _ _ _ => pts_nil) (fun _ _ _ _ _ => pe_ca cLni hr (by decide) (by rfl) (pa_cons (pv 2) pa_nil)))
      (pss_cons (ps_if (PW.pt (pw_or (pt_cmpR (op_inD (r65 hr)) pe_non (pv 1) (by rfl)) (pw_or (pt_cmpR op_gt (pe_callB call_len_seq (by rfl) T.len PySem.boot_len (pa_cons (pv 1) pa_nil)) pe_int (nomark _)) (pw_or1 (pt_not (pt_val (pe_callB (cr_all (by rfl)) (by rfl) T.all (by decide +kernel) (pa_cons (pe_lc (own := [("_law_one", 3), ("_law_other", 4)]) (g := (gTup K 2 (gCons (gName 3) (gCons (gName 4) gNil)))) (tt := tYes) (by rfl) scLawPlayersIn.nd (RZ.pi_zipA (by rfl) T.zip (pa_cons (pv 1) (pa_cons (pe_slice sl_list (pv 1) (po_some pe_int) po_none) pa_nil))) (blkOk_by (own := [("_law_one", 3), ("_law_other", 4)]) (N := ["_law_text", "_law_found", "_law_part", "_law_one", "_law_other"]) (sc := defScope sLawPlayersIn) (by decide +kernel)) (fun _ _ _ _ _ => pg_tup (by rfl) (pgs_cons (pg_name (i := 3) scLawPlayersIn.nd rfl (.inl rfl)) (pgs_cons (pg_name (i := 4) scLawPlayersIn.nd rfl (.inl rfl)) pgs_nil))) (fun _ _ _ _ _ => pts_nil) (fun _ _ _ _ _ => pe_cmpR (Xsp.op_ltN hr) (pv 3) (pv 4) (nomark _))) pa_nil)))))))) (pss_one (ps_ret pe_non)) pss_nil)
      (pss_one (ps_ret (pe_callTy call_tuple_of (by rfl) T.tuple (by decide +kernel) (pa_cons (pv 1) pa_nil)))))), ?_⟩
    obtain ⟨pl1, pl2⟩ := split_len (x := x) cb_ne cb_256
    have rp := rx.split cb_ne cb_256
    refine ⟨_, rfl, ⟨_, rfl⟩, x, ", ", rfl, rfl, rfl, Nat.le_trans (show _ ≤ 60000 by omega) (by decide), fun S nS => ?_⟩
    have sS := same_upd nS (o := .lst ((Txt.split x ", ").map V.str))
    have eS : (L2.upd H S (.lst ((Txt.split x ", ").map V.str))) S = some (.lst ((Txt.split x ", ").map V.str)) := upd_same
    generalize L2.upd H S (.lst ((Txt.split x ", ").map V.str)) = H1 at sS eS ⊢
    refine ⟨S, rfl, ⟨_, SqL.of eS⟩, fun W nW => ?_⟩
    refine lc_list (K := K) (a := S) (xs := (Txt.split x ", ").map V.str) (fun i Hi => L2.Same H1 Hi ∧ ∃ vs, Hi W = some (.lst vs) ∧ NOs Hi vs (((Txt.split x ", ").take i).map nmF)) ⟨same_upd nW, [], upd_same, .nil⟩ (fun i Hi _ z => SqL.of (z.1 _ _ eS)) ?_ ?_
    · rintro i v Hi hv ⟨sm, vs, eW, oa⟩
      rw [List.getElem?_map] at hv
      obtain ⟨p, ep, rfl⟩ := Option.map_eq_some_iff.mp hv
      have il := (List.getElem?_eq_some_iff.mp ep).1
      have lp := pl2 p (List.mem_of_getElem? ep)
      refine ⟨rfl, ?_⟩
      unfold tYes
      refine iteT ⟨_, rfl, p, rfl, by omega, rp p (List.mem_of_getElem? ep), fun v H2 s2 r => ?_⟩
      have r2 : NmR H2 v (nmF p) := r
      have eW2 := s2 _ _ eW
      have vl := oa.len
      rw [List.length_map, List.length_take] at vl
      have tp : ∀ b xs, H2 b = some (.tup xs) → (L2.upd H2 W (.lst (vs ++ [v]))) b = some (.tup xs) := fun b xs e => by
        rw [upd_ne (ne_of e eW2 (by intro z; cases z))]
        exact e
      refine ⟨vs, eW2, ?_, fun b o e => ?_, vs ++ [v], upd_same, ?_⟩
      · exact Nat.lt_of_le_of_lt (show vs.length ≤ 50001 by omega) (by decide)
      · rw [upd_ne (ne_of_none e nW)]
        exact s2 _ _ (sm _ _ e)
      · rw [List.take_add_one, ep]
        show NOs _ (vs ++ [v]) ((((Txt.split x ", ").take i) ++ [p]).map nmF)
        rw [List.map_append]
        exact ((oa.tp fun b xs e => s2 _ _ e).tp tp).snoc (r2.tp tp)
    rintro H2 ⟨s2, vs, eW, oa⟩
    rw [List.take_of_length_le (by rw [List.length_map]; exact Nat.le_refl _)] at oa
    have s02 := sS.trans s2
    have no : ∀ {H' : Hp}, L2.Same H H' → plL x = none → Q .non H' := fun s e => q _ _ s (by show PlO _ _ (plL x); rw [e]; rfl)
    refine ⟨_, rfl, .none, _, .non, .lst (SqL.of eW) oa.dp, none_shaped, nos_shaped map_nm_ok, ?_⟩
    rw [any_none]
    refine ⟨_, rfl, ?_⟩
    cases hd : decide (none ∈ (Txt.split x ", ").map nmF) with
    | true =>
      have e : plF x = none := allS_none.mpr (of_decide_eq_true hd)
      exact iteT (no s02 (by unfold plL; rw [e]))
    | false =>
    obtain ⟨ps, e⟩ : ∃ ps, plF x = some ps := by
      cases e : plF x with
      | none => exact absurd (allS_none.mp e) (of_decide_eq_false hd)
      | some ps => exact ⟨ps, rfl⟩
    rw [allS_some.mp e] at oa
    have na := oa.all
    clear oa
    have xl := na.len
    have ePL : plL x = if (decide (ps.length ≤ 8) && risB ps) = true then some ps else none := by unfold plL; rw [e]
    refine iteF ⟨_, rfl, W, vs, rfl, .inl (SqL.of eW), _, 8, rfl, rfl, _, rfl, ?_⟩
    by_cases p8 : ps.length ≤ 8
    case neg =>
      rw [decide_eq_true (show ((vs.length : Nat) : Int) > 8 by omega)]
      exact iteT (no s02 (by rw [ePL, decide_eq_false p8]; rfl))
    rw [decide_eq_false (show ¬ ((vs.length : Nat) : Int) > 8 by omega)]
    rw [decide_eq_true p8, Bool.true_and] at ePL
    refine iteF ⟨_, rfl, _, rfl, 1, rfl, W, vs, rfl, SqL.of eW, fun pz nz => ?_⟩
    have sz := same_upd nz (o := .lst (cutV vs (some 1) none))
    have ez : (L2.upd H2 pz (.lst (cutV vs (some 1) none))) pz = some (.lst (vs.drop 1)) := by rw [upd_same, cut1]
    generalize L2.upd H2 pz (.lst (cutV vs (some 1) none)) = H3 at sz ez ⊢
    have rl := rb_len ps
    refine ⟨W, pz, vs, vs.drop 1, rfl, .inl ⟨SqL.of (sz _ _ eW), SqL.of ez, fun Lz nLz => ?_⟩⟩
    refine lc_it (walk_zip (K := K) (a := W) (b := pz) (xs := vs) (ys := vs.drop 1) (n := vs.length - 1) (by rw [List.length_drop]; omega)) (fun i Hi => L2.Same H3 Hi ∧ Hi Lz = some (.lst (((rb ps).take i).map V.bl))) ⟨same_upd nLz, upd_same⟩ (fun i Hi _ p => ⟨SqL.of (p.1 _ _ (sz _ _ eW)), SqL.of (p.1 _ _ ez)⟩) ?_ ?_
    · rintro i v Hi H' hi ⟨sm, hL⟩ ⟨t, x1, z, rfl, nt, rfl, ex, ez'⟩
      have sm2 : L2.Same H3 (upd Hi t (.tup [x1, z])) := sm.trans (same_upd nt)
      have hL2 : (upd Hi t (.tup [x1, z])) Lz = some (.lst (((rb ps).take i).map V.bl)) := same_upd nt _ _ hL
      replace ex : vs[i]? = some x1 := ex
      replace ez' : (vs.drop 1)[i]? = some z := ez'
      rw [List.getElem?_drop, Nat.add_comm] at ez'
      have na2 : NAs (upd Hi t (.tup [x1, z])) vs ps := na.tp fun b ys eb => (sz.trans sm2) _ _ eb
      obtain ⟨p, ep, np⟩ := na2.get ex
      obtain ⟨r, er, nr⟩ := na2.get ez'
      refine ⟨t, _, rfl, SqT.of upd_same, rfl, _, _, rfl, _, _, rfl, rfl, rfl, ?_⟩
      unfold tYes
      refine iteT ⟨_, rfl, _, rfl, p, r, np, nr, _, hL2, ?_, fun c o eb => ?_, ?_⟩
      · rw [List.length_map, List.length_take]
        exact Nat.lt_of_le_of_lt (show min i (rb ps).length ≤ 1000 by omega) (by decide)
      · rw [upd_ne (ne_of_none eb nLz)]
        exact sm2 _ _ eb
      · rw [upd_same, List.take_add_one, rb_at ep er, List.map_append]
        rfl
    rintro He ⟨sm, hL⟩
    rw [List.take_of_length_le (by omega)] at hL
    have s2e := sz.trans sm
    refine ⟨Lz, _, rfl, SqL.of hL, _, rfl, ?_⟩
    cases hr2 : (rb ps).all id with
    | false => exact iteT (no (s02.trans s2e) (by rw [ePL, if_neg]; unfold risB; rw [hr2]; simp))
    | true =>
      refine iteF ⟨_, rfl, W, vs, rfl, .inl ⟨SqL.of (s2e _ _ eW), fun t nt => ?_⟩⟩
      have st := same_upd nt (o := .tup vs)
      refine q _ _ ((s02.trans s2e).trans st) ?_
      show PlO _ _ (plL x)
      rw [ePL, if_pos (by unfold risB; rw [hr2])]
      exact ⟨t, vs, rfl, upd_same, na.tp fun b xs e => st _ _ (s2e _ _ e)⟩
theorem ok_lc {f : Addr} {fd : FuncData} {e : Ex} (D : Df K mg "_law_code_in" ["_law_text"] sLawCodeIn f fd) (T : Txt K mg C CL e) : FnOk P w K mg base CX0 1 f fd ["_law_text"] (spL LC) := by
  refine D.fn.ok scLawCodeIn (fun vs H Q E h => ?_) (fun cdv A outer s H vs Q E hr h => ?_)
  · obtain ⟨x, rfl, lx, rx, q⟩ := h
    rfl
  · obtain ⟨x, rfl, lx, rx, q⟩ := h
    refine ⟨_, (pss_cons (ps_set (i := 1) scLawCodeIn.nd rfl (.inr rfl) pe_str)
      (pss_one (ps_ret (pe_ifExp (PW.pt (pw_and (pt_chain op_le op_le pe_int (pe_callB call_len_str (by rfl) T.len PySem.boot_len (pa_cons (pv 0) pa_nil)) pe_int) (pw_and1 (pt_val (pe_callB (cr_all (by rfl)) (by rfl) T.all (by decide +kernel) (pa_cons (pe_lc (own := [("_law_sign", 2)]) (g := gName 2) (tt := tYes) (by rfl) scLawCodeIn.nd (pi_str (pv 0)) (blkOk_by (own := [("_law_sign", 2)]) (N := ["_law_text", "_law_signs", "_law_sign"]) (sc := defScope sLawCodeIn) (by decide +kernel)) (fun _ _ _ _ _ => pg_name (i := 2) scLawCodeIn.nd rfl (.inl rfl)) (fun _ _ _ _ _ => pts_nil) (fun _ _ _ _ _ => pe_cmpR op_in_sign (pv 2) (pv 1) (by rfl))) pa_nil)))))) (pv 0) pe_non)))), ?_⟩
    have yes : ofT (.str x) codes 1 12 = true → ∀ H', L2.Same H H' → Q (.str x) H' := fun h H' s => q _ _ s (by show V.str x = cV (cdF x); unfold cdF; rw [if_pos h]; rfl)
    have no : ¬ ofT (.str x) codes 1 12 = true → ∀ H', L2.Same H H' → Q .non H' := fun h H' s => q _ _ s (by show V.non = cV (cdF x); unfold cdF; rw [if_neg h]; rfl)
    refine ⟨_, rfl, x, rfl, fitN' (by omega), 1, _, rfl, rfl, _, rfl, ?_⟩
    cases c1 : decide ((1 : Int) ≤ (x.length : Int)) with
    | false => exact iteF ⟨_, rfl, iteF (no (fun h => (of_decide_eq_false c1) (ofT_iff.mp h).1) H (Same.refl H))⟩
    | true =>
      refine iteT ⟨_, 12, rfl, rfl, _, rfl, ?_⟩
      cases c2 : decide ((x.length : Int) ≤ 12) with
      | false => exact iteF (no (fun h => (of_decide_eq_false c2) (ofT_iff.mp h).2.1) H (Same.refl H))
      | true =>
        refine iteT ⟨_, rfl, x, rfl, fun L nL => ?_⟩
        have sL := same_upd nL (o := .lst [])
        refine lc_it (walk_str (z := x)) (fun i Hi => ∃ bs : List Bool, bs = ((x).cps.toList.take i).map (fun c => decide (c ∈ (codes).cps.toList)) ∧ Hi L = some (.lst (bs.map V.bl)) ∧ L2.Same H Hi) ?_ (fun _ _ _ _ => trivial) ?_ ?_
        · exact ⟨[], rfl, upd_same, sL⟩
        · rintro i v Hi Hi' _ ⟨bs, eb, eL, sm⟩ ⟨rfl, c, ec, rfl⟩
          rw [← Array.getElem?_toList] at ec
          refine ⟨rfl, ?_⟩
          unfold tYes
          refine iteT ⟨_, rfl, _, rfl, c, codes, rfl, rfl, ?_⟩
          have il : i < (x).cps.toList.length := (List.getElem?_eq_some_iff.mp ec).1
          refine ⟨_, eL, ?_, bs ++ [decide (c ∈ (codes).cps.toList)], ?_, ?_, fun b o e => ?_⟩
          · rw [List.length_map, eb, List.length_map, List.length_take]
            refine Nat.lt_of_le_of_lt (show min i (x).cps.toList.length ≤ 50000 from ?_) (by decide)
            rw [← len_cps]
            omega
          · rw [List.take_succ, ec, List.map_append, eb]
            rfl
          · rw [upd_same, List.map_append]
            rfl
          · rw [upd_ne (ne_of_none e nL)]
            exact sm _ _ e
        · rintro He ⟨bs, eb, eL, sm⟩
          refine ⟨L, _, rfl, SqL.of eL, ?_⟩
          rw [eb, List.take_of_length_le (by rw [Array.length_toList]; exact Nat.le_refl _), List.all_map, show ((x).cps.toList.all (id ∘ fun c => decide (c ∈ (codes).cps.toList))) = chk (x) (codes) from rfl]
          refine ⟨_, rfl, ?_⟩
          cases c3 : chk x codes with
          | false => exact iteF (no (fun h => by rw [(ofT_iff.mp h).2.2] at c3; cases c3) He sm)
          | true => exact iteT ⟨_, rfl, yes (ofT_iff.mpr ⟨of_decide_eq_true c1, of_decide_eq_true c2, c3⟩) He sm⟩
theorem ok_lfi {f : Addr} {fd : FuncData} {e : Ex} (D : Df K mg "_law_field_in" ["_law_spot", "_law_text"] sLawFieldIn f fd) (T : Txt K mg C CL e) (cLc : Ca P w K mg base 1 "_law_code_in" ["_law_text"] (spL LC)) (cLni : Ca P w K mg base 1 "_law_name_in" ["_law_text"] (spL R2)) (cLp : Ca P w K mg base 3 "_law_players_in" ["_law_text"] (spL LP)) (cLdi : Ca P w K mg base 2 "_law_day_in" ["_law_text"] (spL L0)) (cLli : Ca P w K mg base 2 "_law_length_in" ["_law_text"] (spL L1)) : FnOk P w K mg base CX0 4 f fd ["_law_spot", "_law_text"] spLf := by
  refine D.fn.ok scLawFieldIn (fun vs H Q E h => ?_) (fun cdv A outer s H vs Q E hr h => ?_)
  · obtain ⟨i, x, rfl, hi, lx, rx, q⟩ := h
    rfl
  · obtain ⟨i, x, rfl, hi, lx, rx, q⟩ := h
    refine ⟨_, (pss_cons (ps_if (pt_cmpR op_lt (pv 0) pe_int (nomark _)) (pss_one (ps_ret (pe_ifExp (pt_cmpR op_eq (pv 0) pe_int (nomark _)) (pe_ca cLc hr (by decide) (by rfl) (pa_cons (pv 1) pa_nil)) (pe_ca cLni hr (by decide) (by rfl) (pa_cons (pv 1) pa_nil))))) pss_nil)
      (pss_cons (ps_if (pt_cmpR op_eq (pv 0) pe_int (nomark _)) (pss_one (ps_ret (pe_ca cLp hr (by decide) (by rfl) (pa_cons (pv 1) pa_nil)))) pss_nil)
      (pss_one (ps_ret (pe_ifExp (pt_cmpR op_eq (pv 0) pe_int (nomark _)) (pe_ca cLdi hr (by decide) (by rfl) (pa_cons (pv 1) pa_nil)) (pe_ca cLli hr (by decide) (by rfl) (pa_cons (pv 1) pa_nil))))))), ?_⟩
    match i, hi, q with
    | 0, _, q => exact ⟨_, rfl, _, 2, rfl, rfl, _, rfl, iteT ⟨_, rfl, rfl, _, rfl, iteT ⟨_, rfl, x, rfl, lx, rx, q⟩⟩⟩
    | 1, _, q => exact ⟨_, rfl, _, 2, rfl, rfl, _, rfl, iteT ⟨_, rfl, rfl, _, rfl, iteF ⟨_, rfl, x, rfl, lx, rx, q⟩⟩⟩
    | 2, _, q => exact ⟨_, rfl, _, 2, rfl, rfl, _, rfl, iteF ⟨_, rfl, rfl, _, rfl, iteT ⟨_, rfl, x, rfl, lx, rx, q⟩⟩⟩
    | 3, _, q => exact ⟨_, rfl, _, 2, rfl, rfl, _, rfl, iteF ⟨_, rfl, rfl, _, rfl, iteF ⟨_, rfl, rfl, _, rfl, iteT ⟨_, rfl, x, rfl, lx, rx, fun v H' s h => q v H' s (l0_dy h)⟩⟩⟩⟩
    | 4, _, q => exact ⟨_, rfl, _, 2, rfl, rfl, _, rfl, iteF ⟨_, rfl, rfl, _, rfl, iteF ⟨_, rfl, rfl, _, rfl, iteF ⟨_, rfl, x, rfl, lx, rx, fun v H' s h => q v H' s (l1_ln h)⟩⟩⟩⟩
end
end K64
set_option Elab.async false
set_option linter.all false
set_option maxRecDepth 100000
set_option maxHeartbeats 4000000
set_option pp.maxSteps 400
set_option pp.deepTerms false
namespace K64
open PySem PySem.Spec PyProof.Rows L2
open Xk Az Xtx Xkd Xst Xsp
section
variable {P : Program} {w : World} {K : PySem.W.Frag} {mg : Str → Option Value} {base : Heap} {C CL : Addr}
/-! the law's own reading of a row -/
/-- an entry but for its key -/
def Okf (e : En) : Prop := ∀ g, GoodK g → OkE {e with k := g}
noncomputable def setF (e : En) (i : Nat) (t : Str) : En := match i with
  | 0 => {e with code := cdF t}
  | 1 => {e with title := nmF t}
  | 2 => {e with pl := plL t}
  | 3 => {e with day := dyF t}
  | _ => {e with len := lnF t}
/-- a text tells something in a field -/
def Tells (i : Nat) (t : Str) : Prop := match i with
  | 0 => cdF t ≠ none
  | 1 => nmF t ≠ none
  | 2 => plL t ≠ none
  | 3 => dyF t ≠ none
  | _ => lnF t ≠ none
theorem plL_back {t : Str} {ps : List (Str × Str)} (h : plL t = some ps) : t = plT ps ∧ 1 ≤ ps.length ∧ ps.length ≤ 8 ∧ (∀ n ∈ ps, NmOk n) ∧ Ris ps := by
  unfold plL at h
  cases e : plF t with
  | none => rw [e] at h; cases h
  | some qs =>
    rw [e] at h
    by_cases c : (decide (qs.length ≤ 8) && risB qs) = true
    · dsimp only at h
      rw [if_pos c] at h
      cases h
      obtain ⟨a, b, _, d⟩ := plF_back e
      obtain ⟨c1, c2⟩ := (Bool.and_eq_true _ _).mp c
      exact ⟨a, b, of_decide_eq_true c1, d, risB_iff.mp c2⟩
    · dsimp only at h
      rw [if_neg c] at h
      cases h
theorem plL_ok {ps : List (Str × Str)} (h1 : 1 ≤ ps.length) (h8 : ps.length ≤ 8) (h : ∀ n ∈ ps, NmOk n) (r : Ris ps) : plL (plT ps) = some ps := by
  unfold plL
  rw [plF_ok h1 h]
  show (if (decide (ps.length ≤ 8) && risB ps) = true then some ps else none) = some ps
  rw [if_pos]
  rw [decide_eq_true h8, risB_iff.mpr r]
  rfl
theorem cdF_back {t c : Str} (h : cdF t = some c) : c = t ∧ ofT (.str c) codes 1 12 = true := by
  unfold cdF at h
  by_cases k : ofT (.str t) codes 1 12 = true
  · rw [if_pos k] at h; cases h; exact ⟨rfl, k⟩
  · rw [if_neg k] at h; cases h
theorem fT_set {e : En} {i : Nat} {t : Str} (hi : i < 5) (tl : Tells i t) : fT (setF e i t) i = some t := by
  match i, hi, tl with
  | 0, _, tl =>
    show cdF t = some t
    obtain ⟨c, h⟩ := Option.ne_none_iff_exists'.mp (show cdF t ≠ none from tl)
    rw [h, (cdF_back h).1]
  | 1, _, tl =>
    show (nmF t).map nmT = some t
    obtain ⟨c, h⟩ := Option.ne_none_iff_exists'.mp (show nmF t ≠ none from tl)
    rw [h]
    exact congrArg some (nmF_back h).2.symm
  | 2, _, tl =>
    show (plL t).map plT = some t
    obtain ⟨c, h⟩ := Option.ne_none_iff_exists'.mp (show plL t ≠ none from tl)
    rw [h]
    exact congrArg some (plL_back h).1.symm
  | 3, _, tl =>
    show ((dyF t).map fun d => dayText d.1 d.2.1 d.2.2) = some t
    obtain ⟨c, h⟩ := Option.ne_none_iff_exists'.mp (show dyF t ≠ none from tl)
    rw [h]
    exact congrArg some (dyF_back h).2.symm
  | 4, _, tl =>
    show (lnF t).map lenText = some t
    obtain ⟨c, h⟩ := Option.ne_none_iff_exists'.mp (show lnF t ≠ none from tl)
    rw [h]
    exact congrArg some (lnF_back h).2.symm
theorem fT_ne {e : En} {i k : Nat} {t : Str} (hi : i < 5) (hk : k < 5) (ne : k ≠ i) : fT (setF e i t) k = fT e k := by
  match i, hi, k, hk, ne with
  | 0, _, 1, _, _ | 0, _, 2, _, _ | 0, _, 3, _, _ | 0, _, 4, _, _ => rfl
  | 1, _, 0, _, _ | 1, _, 2, _, _ | 1, _, 3, _, _ | 1, _, 4, _, _ => rfl
  | 2, _, 0, _, _ | 2, _, 1, _, _ | 2, _, 3, _, _ | 2, _, 4, _, _ => rfl
  | 3, _, 0, _, _ | 3, _, 1, _, _ | 3, _, 2, _, _ | 3, _, 4, _, _ => rfl
  | 4, _, 0, _, _ | 4, _, 1, _, _ | 4, _, 2, _, _ | 4, _, 3, _, _ => rfl
  | 0, _, 0, _, n | 1, _, 1, _, n | 2, _, 2, _, n | 3, _, 3, _, n | 4, _, 4, _, n => exact absurd rfl n
theorem okf_set {e : En} {i : Nat} {t : Str} (h : Okf e) (hi : i < 5) : Okf (setF e i t) := fun g gk => by
  have o := h g gk
  match i, hi with
  | 0, _ => exact ⟨gk, fun c hc => (cdF_back (show cdF t = some c from hc)).2, o.gt, o.gp, o.gd, o.gl⟩
  | 1, _ => exact ⟨gk, o.gc, fun c hc => (nmF_back (show nmF t = some c from hc)).1, o.gp, o.gd, o.gl⟩
  | 2, _ => exact ⟨gk, o.gc, o.gt, fun c hc => (plL_back (show plL t = some c from hc)).2, o.gd, o.gl⟩
  | 3, _ => exact ⟨gk, o.gc, o.gt, o.gp, fun c hc => (dyF_back (show dyF t = some c from hc)).1, o.gl⟩
  | 4, _ => exact ⟨gk, o.gc, o.gt, o.gp, o.gd, fun c hc => (lnF_back (show lnF t = some c from hc)).1⟩
theorem tells_of {e : En} (ok : OkE e) {i : Nat} {t : Str} (hi : i < 5) (h : fT e i = some t) : Tells i t := by
  match i, hi, h with
  | 0, _, h =>
    show cdF t ≠ none
    have := ok.gc t h
    unfold cdF
    rw [if_pos this]
    simp
  | 1, _, h =>
    obtain ⟨n, en, rfl⟩ := Option.map_eq_some_iff.mp h
    show nmF (nmT n) ≠ none
    rw [nmF_ok (ok.gt n en)]
    simp
  | 2, _, h =>
    obtain ⟨ps, en, rfl⟩ := Option.map_eq_some_iff.mp h
    obtain ⟨p1, p8, pn, r⟩ := ok.gp ps en
    show plL (plT ps) ≠ none
    rw [plL_ok p1 p8 pn r]
    simp
  | 3, _, h =>
    obtain ⟨d, en, rfl⟩ := Option.map_eq_some_iff.mp h
    show dyF (dayText d.1 d.2.1 d.2.2) ≠ none
    rw [dyF_ok (ok.gd d en)]
    simp
  | 4, _, h =>
    obtain ⟨c, en, rfl⟩ := Option.map_eq_some_iff.mp h
    obtain ⟨g0, g1⟩ := ok.gl c en
    show lnF (lenText c) ≠ none
    rw [lnF_ok g0 g1]
    simp
/-- where the law keeps what is told -/
def FvE (H : Hp) (e : En) : Nat → V → Prop
  | 0 => fun v => v = cV e.code
  | 1 => fun v => NmR H v e.title
  | 2 => fun v => PlO H v e.pl
  | 3 => fun v => DpO H v e.day
  | _ => fun v => v = iV e.len
theorem FvE.tp {H H' : Hp} {e : En} {i : Nat} {v : V} (s : ∀ b xs, H b = some (.tup xs) → H' b = some (.tup xs)) (h : FvE H e i v) : FvE H' e i v := by
  match i, h with
  | 0, h => exact h
  | 1, h => exact NmR.tp h s
  | 2, h => exact PlO.tp h s
  | 3, h => exact DpO.tp h s
  | n + 4, h => exact h
theorem fve_set {H : Hp} {e : En} {i : Nat} {t : Str} {v : V} (hi : i < 5) (h : FvL i t H v) : FvE H (setF e i t) i v := by
  match i, hi, h with
  | 0, _, h => exact h
  | 1, _, h => exact h
  | 2, _, h => exact h
  | 3, _, h => exact h
  | 4, _, h => exact h
theorem fve_ne {H : Hp} {e : En} {i k : Nat} {t : Str} {v : V} (hi : i < 5) (hk : k < 5) (ne : k ≠ i) (h : FvE H e k v) : FvE H (setF e i t) k v := by
  match i, hi, k, hk, ne, h with
  | 0, _, 1, _, _, h | 0, _, 2, _, _, h | 0, _, 3, _, _, h | 0, _, 4, _, _, h => exact h
  | 1, _, 0, _, _, h | 1, _, 2, _, _, h | 1, _, 3, _, _, h | 1, _, 4, _, _, h => exact h
  | 2, _, 0, _, _, h | 2, _, 1, _, _, h | 2, _, 3, _, _, h | 2, _, 4, _, _, h => exact h
  | 3, _, 0, _, _, h | 3, _, 1, _, _, h | 3, _, 2, _, _, h | 3, _, 4, _, _, h => exact h
  | 4, _, 0, _, _, h | 4, _, 1, _, _, h | 4, _, 2, _, _, h | 4, _, 3, _, _, h => exact h
  | 0, _, 0, _, n, _ | 1, _, 1, _, n, _ | 2, _, 2, _, n, _ | 3, _, 3, _, n, _ | 4, _, 4, _, n, _ => exact absurd rfl n
theorem fvl_non {i : Nat} {t : Str} {H : Hp} {v : V} (hi : i < 5) (h : FvL i t H v) : v = .non ↔ ¬ Tells i t := by
  have g : ∀ {α : Type} (o : Option α) (R : Option α → Prop), R o → (R none ↔ v = .non) → (∀ a, R (some a) → v ≠ .non) → (v = .non ↔ ¬ o ≠ none) := fun o R r r0 r1 => by
    cases o with
    | none => exact ⟨fun _ z => z rfl, fun _ => r0.mp r⟩
    | some a => exact ⟨fun z => absurd z (r1 a r), fun z => absurd (by simp) z⟩
  match i, hi, h with
  | 0, _, h => exact g (cdF t) (fun o => v = cV o) h Iff.rfl fun a z e => by rw [z] at e; cases e
  | 1, _, h => exact g (nmF t) (NmR H v) h Iff.rfl fun a z e => by obtain ⟨_, z, _⟩ := z; rw [z] at e; cases e
  | 2, _, h => exact g (plL t) (PlO H v) h Iff.rfl fun a z e => by obtain ⟨_, _, z, _⟩ := z; rw [z] at e; cases e
  | 3, _, h => exact g (dyF t) (DpO H v) h Iff.rfl fun a z e => by obtain ⟨_, z, _⟩ := z; rw [z] at e; cases e
  | 4, _, h => exact g (lnF t) (fun o => v = iV o) h Iff.rfl fun a z e => by rw [z] at e; cases e
theorem told_rise (e : En) : ((told e).map (·.1)).Pairwise (· < ·) := by
  have sub : ((told e).map (·.1)).Sublist [0, 1, 2, 3, 4] := by
    unfold told
    have g : ∀ l : List Nat, ((l.filterMap fun i => (fT e i).map fun t => (i, t)).map (·.1)).Sublist l := fun l => by
      induction l with
      | nil => exact .slnil
      | cons a r ih =>
        cases h : fT e a with
        | none => simp only [List.filterMap_cons, h, Option.map_none]; exact ih.cons a
        | some t => simp only [List.filterMap_cons, h, Option.map_some, List.map_cons]; exact ih.cons₂ a
    exact g _
  exact List.Pairwise.sublist sub (by decide)
theorem fm_congr {f g : Nat → Option (Nat × Str)} : ∀ (l : List Nat), (∀ k ∈ l, f k = g k) → l.filterMap f = l.filterMap g
  | [], _ => rfl
  | a :: r, h => by rw [List.filterMap_cons, List.filterMap_cons, h a List.mem_cons_self, fm_congr r fun k hk => h k (List.mem_cons_of_mem _ hk)]
theorem told_set {e : En} {i : Nat} {t : Str} (hi : i < 5) (tl : Tells i t) (lt : ∀ q ∈ told e, q.1 < i) : told (setF e i t) = told e ++ [(i, t)] := by
  have hn : ∀ k, k < 5 → i ≤ k → fT e k = none := fun k hk ik => by
    cases h : fT e k with
    | none => rfl
    | some s =>
      have m : (k, s) ∈ told e := by
        refine List.mem_filterMap.mpr ⟨k, ?_, by rw [h]; rfl⟩
        have g : ∀ i : Nat, i < 5 → i ∈ ([0, 1, 2, 3, 4] : List Nat) := by decide
        exact g k hk
      have := lt _ m
      exact absurd (show k < i from this) (by omega)
  have g : ∀ (l : List Nat), (∀ k ∈ l, k < 5 ∧ k < i) → (l.filterMap fun k => (fT (setF e i t) k).map fun s => (k, s)) = l.filterMap fun k => (fT e k).map fun s => (k, s) := fun l hl =>
    fm_congr l fun k hk => by rw [fT_ne hi (hl k hk).1 (by have := (hl k hk).2; omega)]
  have g2 : ∀ (l : List Nat), (∀ k ∈ l, k < 5 ∧ i < k) → (l.filterMap fun k => (fT (setF e i t) k).map fun s => (k, s)) = [] := fun l hl =>
    List.filterMap_eq_nil_iff.mpr fun k hk => by rw [fT_ne hi (hl k hk).1 (by have := (hl k hk).2; omega), hn k (hl k hk).1 (by have := (hl k hk).2; omega)]; rfl
  have g3 : ∀ (l : List Nat), (∀ k ∈ l, k < 5 ∧ i ≤ k) → (l.filterMap fun k => (fT e k).map fun s => (k, s)) = [] := fun l hl =>
    List.filterMap_eq_nil_iff.mpr fun k hk => by rw [hn k (hl k hk).1 (hl k hk).2]; rfl
  obtain ⟨a, b, ab, ha, hb⟩ : ∃ a b : List Nat, ([0, 1, 2, 3, 4] : List Nat) = a ++ i :: b ∧ (∀ k ∈ a, k < 5 ∧ k < i) ∧ ∀ k ∈ b, k < 5 ∧ i < k := by
    match i, hi with
    | 0, _ => exact ⟨[], [1, 2, 3, 4], rfl, by decide, by decide⟩
    | 1, _ => exact ⟨[0], [2, 3, 4], rfl, by decide, by decide⟩
    | 2, _ => exact ⟨[0, 1], [3, 4], rfl, by decide, by decide⟩
    | 3, _ => exact ⟨[0, 1, 2], [4], rfl, by decide, by decide⟩
    | 4, _ => exact ⟨[0, 1, 2, 3], [], rfl, by decide, by decide⟩
  unfold told
  rw [ab, List.filterMap_append, List.filterMap_append, g a ha, g3 (i :: b) (fun k hk => by
    rcases List.mem_cons.mp hk with z | z
    · rw [z]; exact ⟨hi, Nat.le_refl _⟩
    · exact ⟨(hb k z).1, Nat.le_of_lt (hb k z).2⟩), List.filterMap_cons, fT_set hi tl, g2 b hb, List.append_nil]
  rfl
theorem pc_inj {i k : Nat} {t s : Str} (hi : i < 5) (hk : k < 5) (e : pc i t = pc k s) : i = k ∧ t = s := by
  have h := sw_eq hi hk s
  rw [← e, sw_eq hi hi] at h
  have ik : i = k := by simpa using h
  subst ik
  refine ⟨rfl, ?_⟩
  have h2 := rp_eq i t
  rw [e, rp_eq] at h2
  exact h2.symm
/-- the fields whose word a piece has -/
def spots (p : Str) : List Nat := ([0, 1, 2, 3, 4] : List Nat).filter fun i => Txt.startswith p (stN i)
theorem sw_head {p : Str} {i : Nat} (hi : i < 5) (h : Txt.startswith p (stN i) = true) : p.cps.toList.head? = some (hdN i) ∧ p = pc i (cutS p (some ((stN i).length : Int)) none) := by
  unfold Txt.startswith at h
  simp only [Bool.and_eq_true, decide_eq_true_eq] at h
  obtain ⟨hl, ha⟩ := h
  have ha2 : (p.cps.toList.drop 0).take (stN i).length = (stN i).cps.toList := by
    have := (StrLaws.subAt_eq p (stN i) 0).symm.trans ha
    rw [beq_iff_eq] at this
    exact this
  rw [List.drop_zero] at ha2
  have w := List.take_append_drop (stN i).length p.cps.toList
  rw [ha2] at w
  constructor
  · obtain ⟨r, e⟩ := st_head i hi
    rw [← w, e]
    rfl
  · refine Xtx.str_eq ?_
    rw [pc_list, cut_from, w]
theorem spots_none {p : Str} (h : spots p = []) : ∀ i, i < 5 → Txt.startswith p (stN i) = false := fun i hi => by
  have m : i ∈ ([0, 1, 2, 3, 4] : List Nat) := by
    have g : ∀ i : Nat, i < 5 → i ∈ ([0, 1, 2, 3, 4] : List Nat) := by decide
    exact g i hi
  have := List.filter_eq_nil_iff.mp h i m
  simpa using this
theorem spots_cases (p : Str) : spots p = [] ∨ ∃ i, i < 5 ∧ spots p = [i] ∧ p = pc i (cutS p (some ((stN i).length : Int)) none) := by
  cases h : spots p with
  | nil => exact .inl rfl
  | cons i r =>
    have mi : i ∈ spots p := by rw [h]; exact List.mem_cons_self
    obtain ⟨m1, m2⟩ := List.mem_filter.mp mi
    have i5 : i < 5 := by simp only [List.mem_cons, List.not_mem_nil, or_false] at m1; omega
    obtain ⟨h1, h2⟩ := sw_head i5 m2
    refine .inr ⟨i, i5, ?_, h2⟩
    cases r with
    | nil => rfl
    | cons k r2 =>
      exfalso
      have mk : k ∈ spots p := by rw [h]; exact List.mem_cons_of_mem _ List.mem_cons_self
      obtain ⟨n1, n2⟩ := List.mem_filter.mp mk
      have k5 : k < 5 := by simp only [List.mem_cons, List.not_mem_nil, or_false] at n1; omega
      obtain ⟨h3, _⟩ := sw_head k5 n2
      rw [h1] at h3
      have ne : hdN i = hdN k := Option.some.inj h3
      have g : ∀ i : Nat, i < 5 → ∀ j : Nat, j < 5 → hdN i = hdN j → i = j := by decide
      have ik := g i i5 k k5 ne
      have nd : (spots p).Nodup := List.Nodup.sublist List.filter_sublist (by decide)
      rw [h, ik] at nd
      exact (List.nodup_cons.mp nd).1 List.mem_cons_self
/-- the law's loop over the pieces -/
structure LI (ps : List Str) (e : En) (last : Int) (j : Nat) : Prop where
  okf : Okf e
  pcs : pcs e = ps.take j
  lo : -1 ≤ last
  hi : last < 5
  le : ∀ q ∈ told e, (q.1 : Int) ≤ last
  ex : last = -1 ∨ ∃ (m : Nat) (t : Str), last = (m : Int) ∧ (m, t) ∈ told e
theorem LI.fw {ps : List Str} {e : En} {last : Int} {j : Nat} (h : LI ps e last j) {p : Str} (hp : ps[j]? = some p) {e' : En} (ok : OkE e') (pe : ps = K64.pcs e') : ∃ (i : Nat) (t : Str), i < 5 ∧ p = pc i t ∧ fT e' i = some t ∧ last < (i : Int) := by
  rw [pe] at hp
  have hp2 : ((told e').map fun p => pc p.1 p.2)[j]? = some p := hp
  rw [List.getElem?_map] at hp2
  obtain ⟨q, hq, rfl⟩ := Option.map_eq_some_iff.mp hp2
  obtain ⟨q5, qt⟩ := told_mem (List.mem_of_getElem? hq)
  refine ⟨q.1, q.2, q5, rfl, qt, ?_⟩
  rcases h.ex with z | ⟨m, t, rfl, hm⟩
  · rw [z]; omega
  · have m5 : m < 5 := (told_mem hm).1
    have mp : pc m t ∈ K64.pcs e := List.mem_map.mpr ⟨(m, t), hm, rfl⟩
    rw [h.pcs, pe] at mp
    have mp2 : pc m t ∈ ((told e').map fun p => pc p.1 p.2).take j := mp
    rw [← List.map_take] at mp2
    obtain ⟨r, hr, er⟩ := List.mem_map.mp mp2
    obtain ⟨n, hn⟩ := List.getElem?_of_mem hr
    rw [List.getElem?_take] at hn
    split at hn
    · rename_i nj
      obtain ⟨r5, _⟩ := told_mem (List.mem_of_getElem? hn)
      have rm : r.1 = m := (pc_inj r5 m5 er).1
      have w := told_rise e'
      rw [List.pairwise_map] at w
      obtain ⟨n1, e1⟩ := List.getElem?_eq_some_iff.mp hn
      obtain ⟨j1, e2⟩ := List.getElem?_eq_some_iff.mp hq
      have := List.pairwise_iff_getElem.mp w n j n1 j1 nj
      rw [e1, e2, rm] at this
      omega
    · cases hn
theorem LI.step {ps : List Str} {e : En} {last : Int} {j : Nat} (h : LI ps e last j) {p t : Str} {i : Nat} (hp : ps[j]? = some p) (hi : i < 5) (hl : last < (i : Int)) (hpc : p = pc i t) (tl : Tells i t) : LI ps (setF e i t) (i : Int) (j + 1) := by
  have ts := told_set hi tl (e := e) fun q hq => by have := h.le q hq; omega
  refine ⟨okf_set h.okf hi, ?_, by omega, by omega, fun q hq => ?_, .inr ⟨i, t, rfl, by rw [ts]; simp⟩⟩
  · unfold K64.pcs
    rw [ts, List.map_append, List.take_add_one, hp]
    have := h.pcs
    unfold K64.pcs at this
    rw [this, hpc]
    rfl
  · rw [ts] at hq
    rcases List.mem_append.mp hq with z | z
    · have := h.le q z; omega
    · rw [List.mem_singleton.mp z]; exact Int.le_refl _
theorem LI.fin {ps : List Str} {e : En} {last : Int} (h : LI ps e last ps.length) {x hd : Str} {k : Ky} (hk : lkeyP hd = some k) (hx : Txt.split x " | " = hd :: ps) : OkE {e with k := k} ∧ enT {e with k := k} = x := by
  obtain ⟨gk, kx⟩ := lkey_back hk
  refine ⟨h.okf k gk, ?_⟩
  have j := join_split (x := x) (y := " | ") (by rw [tl_br]; simp) (by decide +kernel)
  rw [hx] at j
  have hp : K64.pcs {e with k := k} = ps := by
    have := h.pcs
    rw [List.take_length] at this
    exact this
  show Txt.join " | " (kyT k :: K64.pcs {e with k := k}) = x
  rw [hp, ← kx]
  exact j
theorem stN_len (i : Nat) : (stN i).length ≤ 6 := by
  have := wrd_len i
  unfold stN
  rw [strLen_append, show (" " : Str).length = 1 by decide +kernel]
  omega
end
end K64
set_option Elab.async false
set_option linter.all false
set_option maxRecDepth 100000
set_option maxHeartbeats 4000000
set_option pp.maxSteps 400
set_option pp.deepTerms false
namespace K64
open PySem PySem.Spec PyProof.Rows L2
open Xk Az Xtx Xkd Xst Xsp
section
variable {P : Program} {w : World} {K : PySem.W.Frag} {mg : Str → Option Value} {base : Heap} {C CL : Addr}
def LnO2 (H : Hp) (v : V) : Option En → Prop
  | none => v = .non
  | some e => OkE e ∧ ∃ t, v = .ref t ∧ LnAt H t e
def spLe : Sp := fun vs H Q _ => ∃ (x : Str), vs = [.str x] ∧ x.length ≤ 30000 ∧ Run 640 x ∧ ∀ v H', L2.Same H H' → LnO2 H' v (enP x) → Q v H'
theorem ok_le {f : Addr} {fd : FuncData} {e : Ex} (D : Df K mg "_law_entry_in" ["_law_row"] sLawEntryIn f fd) (T : Txt K mg C CL e) (cLk : Ca P w K mg base 3 "_law_key_in" ["_law_text"] spLk) (cLfi : Ca P w K mg base 4 "_law_field_in" ["_law_spot", "_law_text"] spLf) : FnOk P w K mg base CX0 5 f fd ["_law_row"] spLe := by
  refine D.fn.ok scLawEntryIn (fun vs H Q E h => ?_) (fun cdv A outer s H vs Q E hr h => ?_)
  · obtain ⟨x, rfl, lx, rx, q⟩ := h
    rfl
  · obtain ⟨x, rfl, lx, rx, q⟩ := h
    refine ⟨_, (pss_cons (ps_par (i := 1) (j := 2) (by rfl) scLawEntryIn.nd rfl rfl (by decide) rfl rfl (pa_cons (pe_m1 F.slot_str_split F.type_str_split mt_split (pv 0) pe_str) (pa_cons (pe_lst (pa_cons pe_str (pa_cons pe_str (pa_cons pe_str (pa_cons pe_str (pa_cons pe_str pa_nil)))))) pa_nil)) (by rfl))
      (pss_cons (ps_par3 (i := 3) (j := 4) (l := 5) (by rfl) scLawEntryIn.nd rfl rfl rfl (by decide) (by decide) (by decide) rfl rfl rfl (pa_cons (pe_ca cLk hr (by decide) (by rfl) (pa_cons (pe_ix ix_list (pv 1) pe_int (fun _ _ => rfl)) pa_nil)) (pa_cons (pe_op op_rep (pe_lst (pa_cons pe_non pa_nil)) pe_int) (pa_cons (pe_un un_neg pe_int) pa_nil))) (by rfl))
      (pss_cons (ps_for PassesOwn.never rfl (pi_list (pe_slice sl_list (pv 1) (po_some pe_int) po_none)) (pg_name (i := 6) scLawEntryIn.nd rfl (.inr rfl)) (pss_cons (ps_setLc (i := 7) (own := [("_law_spot", 8), ("_law_head", 9)]) (g := (gTup K 2 (gCons (gName 8) (gCons (gName 9) gNil)))) (by rfl) scLawEntryIn.nd rfl rfl (sw_true rfl rfl rfl (by decide +kernel)) (pi_enum (by rfl) T.enumerate (pa_cons (pv 2) pa_nil)) (blkOk_by (own := [("_law_spot", 8), ("_law_head", 9)]) (N := ["_law_row", "_law_parts_here", "_law_heads", "_law_key_here", "_law_fields", "_law_last_here", "_law_part", "_law_spots", "_law_spot", "_law_head"]) (sc := defScope sLawEntryIn) (by decide +kernel)) (fun _ _ _ _ _ => pg_tup (by rfl) (pgs_cons (pg_name (i := 8) scLawEntryIn.nd rfl (.inl rfl)) (pgs_cons (pg_name (i := 9) scLawEntryIn.nd rfl (.inl rfl)) pgs_nil))) (fun _ _ _ _ _ => (pts_one (pt_val (pe_m1 F.slot_str_startswith F.type_str_startswith mt_startswith (pv 6) (pv 9))))) (fun _ _ _ _ _ => pv 8))
      (pss_cons (ps_if (PW.pt (pw_or (pt_cmpR (op_eqD hr.units) (pv 7) (pe_lst pa_nil) (nomark _)) (pw_or1 (pt_cmpR op_le (pe_ix ix_list (pv 7) pe_int (fun _ _ => rfl)) (pv 5) (nomark _))))) (pss_one (ps_ret pe_non)) pss_nil)
      (pss_cons (ps_set (i := 5) scLawEntryIn.nd rfl (.inl rfl) (pe_ix ix_list (pv 7) pe_int (fun _ _ => rfl)))
      (pss_cons (ps_asg (pe_ca cLfi hr (by decide) (by rfl) (pa_cons (pv 5) (pa_cons (pe_slice sl_str (pv 6) (po_some (pe_callB call_len_str (by rfl) T.len PySem.boot_len (pa_cons (pe_ix ix_list (pv 2) (pv 5) (fun _ _ => rfl)) pa_nil))) po_none) pa_nil))) (pg_sub (pv 4) (pv 5) set_list))
      (pss_one (ps_if (pt_cmpR op_isN (pe_ix ix_list (pv 4) (pv 5) (fun _ _ => rfl)) pe_non (nomark _)) (pss_one (ps_ret pe_non)) pss_nil)))))))
      (pss_one (ps_ret (pe_ifExp (pt_cmpR op_isN (pv 3) pe_non (nomark _)) pe_non (pe_op Xtu.op_catU (pv 3) (pe_callTy call_tuple_of (by rfl) T.tuple (by decide +kernel) (pa_cons (pv 4) pa_nil))))))))), ?_⟩
    obtain ⟨pl1, pl2⟩ := split_len (x := x) (y := " | ") (by rw [tl_br]; simp) (by decide +kernel)
    have pp := split_pos (x := x) (y := " | ") (by rw [tl_br]; simp) (by decide +kernel)
    have rp := rx.split (j := " | ") (by rw [tl_br]; simp) (by decide +kernel)
    obtain ⟨hd, ps, hps⟩ : ∃ hd ps, Txt.split x " | " = hd :: ps := by
      cases h : Txt.split x " | " with
      | nil => rw [h] at pp; exact absurd pp (by simp)
      | cons a r => exact ⟨a, r, rfl⟩
    have un : ∀ e, OkE e → x = enT e → hd = kyT e.k ∧ ps = pcs e := fun e ok z => by
      have h := hps
      rw [z, en_split ok] at h
      injection h with h1 h2
      exact ⟨h1.symm, h2.symm⟩
    refine ⟨_, rfl, ⟨_, rfl⟩, x, " | ", rfl, rfl, rfl, Nat.le_trans (show _ ≤ 60000 by omega) (by decide), fun S nS => ?_⟩
    rw [hps] at pl1 pl2 rp ⊢
    rw [List.length_cons] at pl1
    have sS := same_upd nS (o := .lst ((hd :: ps).map V.str))
    have eS : (L2.upd H S (.lst ((hd :: ps).map V.str))) S = some (.lst (.str hd :: ps.map V.str)) := upd_same
    generalize L2.upd H S (.lst ((hd :: ps).map V.str)) = H1 at sS eS ⊢
    refine ⟨(by show 5 ≤ sizeLine; decide), fun Hd nHd => ?_⟩
    have hs : ([.str "code ", .str "title ", .str "by ", .str "day ", .str "long "] : List V) = (([0, 1, 2, 3, 4] : List Nat).map stN).map V.str := by
      have : (["code ", "title ", "by ", "day ", "long "] : List Str) = ([0, 1, 2, 3, 4] : List Nat).map stN := by decide +kernel
      rw [← this]
      rfl
    have sH := same_upd nHd (o := .lst ((([0, 1, 2, 3, 4] : List Nat).map stN).map V.str))
    have eH : (L2.upd H1 Hd (.lst ((([0, 1, 2, 3, 4] : List Nat).map stN).map V.str))) Hd = some (.lst ((([0, 1, 2, 3, 4] : List Nat).map stN).map V.str)) := upd_same
    rw [hs]
    have eS1 := sH _ _ eS
    have s01 := sS.trans sH
    generalize L2.upd H1 Hd (.lst ((([0, 1, 2, 3, 4] : List Nat).map stN).map V.str)) = H2 at sH eH eS1 s01 ⊢
    -- the key
    refine ⟨_, _, rfl, ?_⟩
    refine ⟨_, rfl, S, _, 0, .str hd, rfl, rfl, SqL.of eS1, atI_nat (j := 0) rfl, hd, rfl, Nat.le_trans (pl2 hd List.mem_cons_self) (by omega), fun kv H3 s3 hk => ?_⟩
    refine ⟨(by show 1 ≤ sizeLine; decide), fun N1 n1 => ⟨N1, _, _, rfl, rfl, upd_same, by decide, by decide, by decide, fun F nF => ⟨1, rfl, _, _, _, rfl, ?_⟩⟩⟩
    have s2' := same_upd n1 (o := .lst [V.non])
    have s4 := s2'.trans (same_upd nF (o := .lst (List.replicate (5 : Int).toNat [V.non]).flatten))
    have nF0 : H3 F = none := by
      cases z : H3 F with
      | none => rfl
      | some o => rw [s2' _ _ z] at nF; cases nF
    have eF : (L2.upd (L2.upd H3 N1 (.lst [.non])) F (.lst (List.replicate (5 : Int).toNat [V.non]).flatten)) F = some (.lst [.non, .non, .non, .non, .non]) := upd_same
    generalize L2.upd (L2.upd H3 N1 (.lst [.non])) F (.lst (List.replicate (5 : Int).toNat [V.non]).flatten) = H4 at s4 eF ⊢
    have s03 := s01.trans s3
    have s04 := s03.trans s4
    have nFH : H F = none := by
      cases z : H F with
      | none => rfl
      | some o => rw [s03 _ _ z] at nF0; cases nF0
    have eS4 := s4 _ _ (s3 _ _ eS1)
    have eH4 := s4 _ _ (s3 _ _ eH)
    refine ⟨_, rfl, 1, rfl, S, _, rfl, SqL.of eS4, fun p2 n2 => ?_⟩
    have ec : cutV (V.str hd :: ps.map V.str) (some 1) none = ps.map V.str := by rw [cut1]; rfl
    have sp := same_upd n2 (o := .lst (cutV (V.str hd :: ps.map V.str) (some 1) none))
    have eP : (L2.upd H4 p2 (.lst (cutV (V.str hd :: ps.map V.str) (some 1) none))) p2 = some (.lst (ps.map V.str)) := by rw [upd_same, ec]
    have eF5 := sp _ _ eF
    have eH5 := sp _ _ eH4
    have s05 := s04.trans sp
    generalize L2.upd H4 p2 (.lst (cutV (V.str hd :: ps.map V.str) (some 1) none)) = H5 at sp eP eF5 eH5 s05 ⊢
    have FP : p2 ≠ F := fun z => by rw [z, eF] at n2; cases n2
    have HF : Hd ≠ F := fun z => by
      rw [z] at eH
      rw [s3 _ _ eH] at nF0
      cases nF0
    have sb : ∀ {Hi : Hp}, But F H5 Hi → L2.Same H Hi := fun b c o e => b c o (fun z => by rw [z, nFH] at e; cases e) (s05 c o e)
    have lps : ∀ p ∈ ps, p.length ≤ 30000 := fun p hp => Nat.le_trans (pl2 p (List.mem_cons_of_mem _ hp)) lx
    have no : ∀ {Hi : Hp}, But F H5 Hi → (∀ e', OkE e' → x = enT e' → False) → Q .non Hi := fun b h => q _ _ (sb b) (by rw [enP_no fun e ok z => h e ok z]; rfl)
    refine ⟨p2, rfl, ⟨_, SqL.of eP⟩, ?_⟩
    refine for_list (K := K) (a := p2) (xs := ps.map V.str) (fun j σ Hi => ∃ (last : Int) (e : En) (c6 c7 c8 c9 : Option V) (vs : List V), σ = [some (.str x), some (.ref S), some (.ref Hd), some kv, some (.ref F), some (.int last), c6, c7, c8, c9] ∧ LI ps e last j ∧ But F H5 Hi ∧ Hi F = some (.lst vs) ∧ vs.length = 5 ∧ ∀ i v, vs[i]? = some v → FvE Hi e i v) ?_ (fun j σ Hi _ z => by obtain ⟨_, _, _, _, _, _, _, _, _, b, _⟩ := z; exact SqL.of (b _ _ FP eP)) ?_ ?_
    · refine ⟨-1, ⟨(Str.empty, 0), none, none, none, none, none⟩, _, _, _, _, _, rfl, ⟨fun g gk => ⟨gk, (by intro _ z; cases z), (by intro _ z; cases z), (by intro _ z; cases z), (by intro _ z; cases z), (by intro _ z; cases z)⟩, rfl, by decide, by decide, (by intro q hq; cases hq), .inl rfl⟩, But.refl _ _, eF5, rfl, ?_⟩
      intro i v hv
      match i, hv with
      | 0, hv => exact (Option.some.inj hv).symm
      | 1, hv => exact (Option.some.inj hv).symm
      | 2, hv => exact (Option.some.inj hv).symm
      | 3, hv => exact (Option.some.inj hv).symm
      | 4, hv => exact (Option.some.inj hv).symm
    · rintro j v σ Hi hv ⟨last, e, c6, c7, c8, c9, vs, rfl, li, bt, eFi, l5, fv⟩
      rw [List.getElem?_map] at hv
      obtain ⟨p, ep, rfl⟩ := Option.map_eq_some_iff.mp hv
      have lp := lps p (List.mem_of_getElem? ep)
      have rpp := rp p (List.mem_cons_of_mem _ (List.mem_of_getElem? ep))
      have eHi := bt _ _ HF eH5
      refine ⟨_, rfl, Hd, _, rfl, SqL.of eHi, fun D nD => ?_⟩
      have DF : D ≠ F := fun z => by rw [z, eFi] at nD; cases nD
      refine lc_it (walk_enum (K := K) (a := Hd) (xs := (([0, 1, 2, 3, 4] : List Nat).map stN).map V.str)) (fun i Hj => L2.Same Hi Hj ∧ Hj D = some (.lst (((([0, 1, 2, 3, 4] : List Nat).take i).filter fun i => Txt.startswith p (stN i)).map fun i : Nat => V.int (i : Int)))) ⟨same_upd nD, upd_same⟩ (fun i Hj _ z => SqL.of (z.1 _ _ eHi)) ?_ ?_
      · rintro i v Hj H' hi ⟨sm, eD⟩ ⟨t, a, b, rfl, nt, rfl, ex, ez⟩
        have hi5 : i < 5 := hi
        obtain rfl : V.int (i : Nat) = a := Option.some.inj ex
        dsimp only at ez
        have fl : ∀ i : Nat, i < 5 → ([0, 1, 2, 3, 4] : List Nat)[i]? = some i := by decide +kernel
        rw [List.getElem?_map, List.getElem?_map, fl i hi5] at ez
        obtain rfl : V.str (stN i) = b := Option.some.inj ez
        have st := same_upd nt (o := .tup [.int (i : Nat), .str (stN i)])
        have smt := sm.trans st
        refine ⟨t, _, rfl, SqT.of upd_same, rfl, _, _, rfl, _, _, rfl, rfl, rfl, ?_⟩
        have eD' := st _ _ eD
        generalize upd Hj t (.tup [.int (i : Nat), .str (stN i)]) = Hk at smt eD' ⊢
        refine ⟨_, rfl, ⟨_, rfl⟩, _, rfl, p, stN i, rfl, rfl, _, rfl, ?_⟩
        have tk : ([0, 1, 2, 3, 4] : List Nat).take (i + 1) = ([0, 1, 2, 3, 4] : List Nat).take i ++ [i] := by rw [List.take_add_one, fl i hi5]; rfl
        cases hw : Txt.startswith p (stN i) with
        | true =>
          refine iteT ⟨_, rfl, _, eD', ?_, fun c o e => ?_, ?_⟩
          · rw [List.length_map]
            have h1 := List.length_filter_le (fun i => Txt.startswith p (stN i)) (([0, 1, 2, 3, 4] : List Nat).take i)
            rw [List.length_take] at h1
            exact Nat.lt_of_le_of_lt (show _ ≤ 100 from Nat.le_trans h1 (by omega)) (by decide)
          · rw [upd_ne (ne_of_none e nD)]
            exact smt _ _ e
          · rw [upd_same, tk, List.filter_append, List.map_append]
            simp [hw]
        | false =>
          refine iteF ⟨smt, ?_⟩
          rw [eD', tk, List.filter_append]
          simp [hw]
      rintro Hj ⟨sm, eD⟩
      have eD2 : Hj D = some (.lst ((spots p).map fun i : Nat => V.int (i : Int))) := eD
      have btj := bt.trans (Same.but sm F)
      have eFj := sm _ _ eFi
      have fvj : ∀ i v, vs[i]? = some v → FvE Hj e i v := fun i v h => (fv i v h).tp fun b xs eb => sm _ _ eb
      have dpS : ∀ l : List Nat, (l.map fun i : Nat => V.int (i : Int)) = (l.map fun i : Nat => (i : Int)).map V.int := fun l => by rw [List.map_map]; rfl
      refine ⟨_, rfl, (by show 0 ≤ sizeLine; decide), fun z nz => ?_⟩
      have sz := same_upd nz (o := .lst [])
      have zF : z ≠ F := fun w => by rw [w, eFj] at nz; cases nz
      have eD3 := sz _ _ eD2
      rw [dpS] at eD3
      have bz := btj.trans (Same.but sz F)
      have eFz := sz _ _ eFj
      have fvz : ∀ i v, vs[i]? = some v → FvE (L2.upd Hj z (.lst [])) e i v := fun i v h => (fvj i v h).tp fun b xs eb => sz _ _ eb
      refine ⟨_, _, dp_int eD3, dp_int (is := []) upd_same, sh_int _, sh_int [], _, rfl, ?_⟩
      have ev : PyData.eqv (.list (((spots p).map fun i : Nat => (i : Int)).map .int)) (.list (([] : List Int).map .int)) = decide ((spots p).map (fun i : Nat => (i : Int)) = []) := by simp only [PyData.eqv, eqv_ints]
      rw [ev]
      generalize L2.upd Hj z (.lst []) = Hz at sz eD3 bz eFz fvz ⊢
      rcases spots_cases p with h0 | ⟨i, i5, h0, hpc⟩
      · rw [h0]
        refine iteT (no bz fun e' ok pe => ?_)
        obtain ⟨i, t, i5, hp, _, _⟩ := li.fw ep ok (un e' ok pe).2
        have := spots_none h0 i i5
        rw [hp, sw_eq i5 i5] at this
        simp at this
      rw [h0] at eD3 ⊢
      refine iteF ⟨_, rfl, D, _, 0, .int (i : Int), rfl, rfl, SqL.of eD3, rfl, _, rfl, _, _, rfl, rfl, _, rfl, ite2 (fun h1 => ?_) (fun h1 => ?_)⟩
      · have h2 : (i : Int) ≤ last := of_decide_eq_true h1
        refine no bz fun e' ok pe => ?_
        obtain ⟨k, t, k5, hp, _, hl⟩ := li.fw ep ok (un e' ok pe).2
        have := (pc_inj i5 k5 (hpc.symm.trans hp)).1
        omega
      have hl : last < (i : Int) := by
        have : ¬ (i : Int) ≤ last := by simpa using h1
        omega
      have eHz := bz _ _ HF eH5
      refine ⟨_, rfl, D, _, 0, .int (i : Int), rfl, rfl, SqL.of eD3, rfl, ?_⟩
      have ls := fun i : Nat => stN_len i
      have hat : ((([0, 1, 2, 3, 4] : List Nat).map stN).map V.str)[i]? = some (.str (stN i)) := by
        have fl : ∀ i : Nat, i < 5 → ([0, 1, 2, 3, 4] : List Nat)[i]? = some i := by decide +kernel
        rw [List.getElem?_map, List.getElem?_map, fl i i5]
        rfl
      obtain ⟨t, ht⟩ : ∃ t, cutS p (some ((stN i).length : Int)) none = t := ⟨_, rfl⟩
      have lt : t.length ≤ 30000 := by rw [← ht]; exact Nat.le_trans (cutS_len _ _ _) lp
      have rt : Run 640 t := rpp.cutS (stN i).length p.length t (by
        rw [← ht, cut_from, List.take_of_length_le]
        rw [List.length_drop, len_cps p]
        omega)
      rw [ht] at hpc
      refine ⟨_, rfl, _, rfl, _, rfl, _, rfl, Hd, _, (i : Int), .str (stN i), rfl, rfl, SqL.of eHz, atI_nat hat, stN i, rfl, fitN' (by have := ls i; omega), _, rfl, p, rfl, fitN' (by omega), ?_⟩
      rw [ht]
      refine ⟨i, t, rfl, i5, lt, rt, fun v H6 s6 fl => ?_⟩
      have b6 := bz.trans (Same.but s6 F)
      have eF6 := s6 _ _ eFz
      have fv6 : ∀ i v, vs[i]? = some v → FvE H6 e i v := fun i v h => (fvz i v h).tp fun b xs eb => s6 _ _ eb
      refine ⟨_, rfl, _, rfl, F, vs, (i : Int), i, rfl, rfl, eF6, ixN_k (by omega), ?_⟩
      have eF7 : (L2.upd H6 F (.lst (vs.set i v))) F = some (.lst (vs.set i v)) := upd_same
      have b7 : But F H5 (L2.upd H6 F (.lst (vs.set i v))) := fun b o n eb => by rw [upd_ne n]; exact b6 b o n eb
      have tp7 : ∀ b xs, H6 b = some (.tup xs) → (L2.upd H6 F (.lst (vs.set i v))) b = some (.tup xs) := fun b xs eb => by
        rw [upd_ne (ne_of eb eF6 (by intro z; cases z))]
        exact eb
      refine ⟨_, rfl, _, rfl, F, _, (i : Int), v, rfl, rfl, SqL.of eF7, atI_nat (by rw [List.getElem?_set]; simp; omega), rfl, _, rfl, ?_⟩
      have fn := fvl_non i5 fl
      by_cases tl : Tells i t
      · rw [decide_eq_false (fun z => (fn.mp z) tl)]
        refine iteF ⟨(i : Int), setF e i t, _, _, _, _, vs.set i v, rfl, li.step ep i5 hl hpc tl, b7, eF7, by rw [List.length_set]; exact l5, fun k u hu => ?_⟩
        rw [List.getElem?_set] at hu
        by_cases ik : i = k
        · subst ik
          rw [if_pos rfl, if_pos (by omega)] at hu
          cases hu
          exact (fve_set i5 fl).tp tp7
        · rw [if_neg ik] at hu
          have k5 : k < 5 := by have := (List.getElem?_eq_some_iff.mp hu).1; omega
          exact (fve_ne i5 k5 (fun z => ik z.symm) (fv6 k u hu)).tp tp7
      · rw [decide_eq_true (fn.mpr tl)]
        refine iteT (no b7 fun e' ok pe => ?_)
        obtain ⟨k, t2, k5, hp, h5, _⟩ := li.fw ep ok (un e' ok pe).2
        obtain ⟨rfl, rfl⟩ := pc_inj i5 k5 (hpc.symm.trans hp)
        exact tl (tells_of ok i5 h5)
    · rintro σ Hi ⟨last, e, c6, c7, c8, c9, vs, rfl, li, bt, eFi, l5, fv⟩
      rw [List.length_map] at li
      cases hkk : lkeyP hd with
      | none =>
        rw [hkk] at hk
        cases (show kv = .non from hk)
        refine ⟨_, rfl, rfl, _, rfl, iteT (no bt fun e' ok pe => ?_)⟩
        rw [(un e' ok pe).1, lkey_of ok.gk] at hkk
        cases hkk
      | some k =>
        rw [hkk] at hk
        obtain ⟨tk, rfl, ek⟩ := hk
        have ek4 : Hi tk = some (.tup [.str k.1, .int k.2]) := bt _ _ (fun z => by rw [z] at ek; rw [ek] at nF0; cases nF0) (sp _ _ (s4 _ _ ek))
        refine ⟨_, rfl, rfl, _, rfl, iteF ⟨_, rfl, _, rfl, F, vs, rfl, .inl ⟨SqL.of eFi, fun u nu => ?_⟩⟩⟩
        have su := same_upd nu (o := .tup vs)
        have eu : (L2.upd Hi u (.tup vs)) u = some (.tup vs) := upd_same
        refine ⟨tk, u, _, vs, rfl, rfl, su _ _ ek4, eu, Nat.le_trans (show 2 + vs.length ≤ 100 by omega) (by decide), fun p H6 s6 ep => ?_⟩
        obtain ⟨ok, ex⟩ := li.fin hkk hps
        refine q _ _ ((sb bt).trans (su.trans s6)) ?_
        rw [← ex, enP_ok ok]
        refine ⟨ok, p, rfl, ?_⟩
        match vs, l5, fv, ep with
        | [v0, v1, v2, v3, v4], _, fv, ep =>
          have f := fun i v h => (fv i v h).tp fun b xs eb => s6 _ _ (su _ _ eb)
          exact ⟨v0, v1, v2, v3, v4, ep, f 0 v0 rfl, f 1 v1 rfl, f 2 v2 rfl, f 3 v3 rfl, f 4 v4 rfl⟩
end
end K64
set_option Elab.async false
set_option linter.all false
set_option maxRecDepth 100000
set_option maxHeartbeats 4000000
set_option pp.maxSteps 400
set_option pp.deepTerms false
namespace K64
open PySem PySem.Spec PyProof.Rows L2
open Xk Az Xtx Xkd Xst Xsp
section
variable {P : Program} {w : World} {K : PySem.W.Frag} {mg : Str → Option Value} {base : Heap} {C CL : Addr}
theorem S_set {j : Str} {b : Str} : ∀ (ps : List Str) (i : Nat), S j (ps.set i b) ≤ S j ps + b.length
  | [], _ => by rw [List.set_nil]; omega
  | x :: r, 0 => by
    rw [List.set_cons_zero]
    unfold S
    simp only [List.map_cons, List.sum_cons]
    omega
  | x :: r, i + 1 => by
    rw [List.set_cons_succ]
    have := S_set (j := j) (b := b) r i
    unfold S at this ⊢
    simp only [List.map_cons, List.sum_cons]
    omega
theorem cut_strs (ps : List Str) (lo hi : Option Int) : cutV (ps.map V.str) lo hi = ((ps.drop (HT.sIx ps.length 0 lo)).take (HT.sIx ps.length ps.length hi - HT.sIx ps.length 0 lo)).map V.str := by
  unfold cutV
  rw [List.length_map, List.map_take, List.map_drop]
theorem S_take (j : Str) (ps : List Str) (k : Nat) : S j (ps.take k) + S j (ps.drop k) = S j ps := by rw [← S_app, List.take_append_drop]
theorem S_cut (j : Str) (ps : List Str) (a b : Nat) : S j ((ps.drop a).take b) ≤ S j ps := by
  have h1 := S_take j (ps.drop a) b
  have h2 := S_take j ps a
  omega
theorem cutP (j : Str) (ps : List Str) (lo hi : Option Int) : ∃ qs : List Str, cutV (ps.map V.str) lo hi = qs.map V.str ∧ S j qs ≤ S j ps ∧ qs.length ≤ ps.length :=
  ⟨_, cut_strs ps lo hi, S_cut j ps _ _, by rw [List.length_take, List.length_drop]; omega⟩
/-- what stands between the bits -/
def Jt (j : Str) : Prop := j = " " ∨ j = " | " ∨ j = ", " ∨ j = ":" ∨ j = "\n"
theorem Jt.ne {j : Str} (h : Jt j) : TL.tl j ≠ [] := by rcases h with rfl | rfl | rfl | rfl | rfl <;> decide +kernel
theorem Jt.k {j : Str} (h : Jt j) : j.cps.all (· < 256) = true := by rcases h with rfl | rfl | rfl | rfl | rfl <;> decide +kernel
theorem Jt.l {j : Str} (h : Jt j) : j.length ≤ 3 ∧ (j.length == 0) = false := by rcases h with rfl | rfl | rfl | rfl | rfl <;> decide +kernel
/-! runs of figures -/
def RunL (R : Nat) (l : List Nat) : Prop := ∀ a d b, l = a ++ d ++ b → NumText.AllDigits d → d.length ≤ R
theorem RunL.mono {R S : Nat} {l : List Nat} (h : RunL R l) (le : R ≤ S) : RunL S l := fun a d b e ad => Nat.le_trans (h a d b e ad) le
theorem RunL.nil {R : Nat} : RunL R [] := fun a d b e _ => by
  have := congrArg List.length e
  simp at this
  omega
theorem RunL.app {R S : Nat} {x y : List Nat} (hx : RunL R x) (hy : RunL S y) : RunL (R + S) (x ++ y) := fun a d b e ad => by
  rcases List.append_eq_append_iff.mp e with ⟨c, e1, e2⟩ | ⟨c, e1, e2⟩
  · rcases List.append_eq_append_iff.mp e1 with ⟨f, g1, g2⟩ | ⟨f, g1, g2⟩
    · have h1 := hx a f [] (by rw [g1, List.append_nil]) fun z hz => ad z (by rw [g2]; exact List.mem_append_left _ hz)
      have h2 := hy [] c b (by rw [e2]; rfl) fun z hz => ad z (by rw [g2]; exact List.mem_append_right _ hz)
      rw [g2, List.length_append]
      omega
    · rw [g2] at e2
      have := hy f d b e2 ad
      omega
  · have := hx a d c e1 ad
    omega
theorem RunL.one {R : Nat} {x w : List Nat} {c : Nat} (hx : RunL R x) (hw : RunL R w) (nc : ¬ (48 ≤ c ∧ c ≤ 57)) : RunL R (x ++ c :: w) := fun a d b e ad => by
  rcases List.append_eq_append_iff.mp e with ⟨z, e1, e2⟩ | ⟨z, e1, e2⟩
  · cases z with
    | nil =>
      rw [List.append_nil] at e1
      exact hx a d [] (by rw [← e1, List.append_nil]) ad
    | cons c' z' =>
      injection e2 with e3 e4
      subst e3
      rcases List.append_eq_append_iff.mp e1 with ⟨f, g1, g2⟩ | ⟨f, g1, g2⟩
      · exact absurd (ad c (by rw [g2]; exact List.mem_append_right _ List.mem_cons_self)) nc
      · cases f with
        | nil =>
          rw [List.nil_append] at g2
          exact absurd (ad c (by rw [← g2]; exact List.mem_cons_self)) nc
        | cons c2 f' =>
          injection g2 with g3 g4
          exact hw f' d b (by rw [e4, g4]; rfl) ad
  · exact hx a d z e1 ad
theorem RunL.sep {R : Nat} {z : List Nat} (hz : RunL R z) : ∀ {x j : List Nat}, RunL R x → j ≠ [] → (∀ c ∈ j, ¬ (48 ≤ c ∧ c ≤ 57)) → RunL R (x ++ (j ++ z))
  | _, [], _, h, _ => absurd rfl h
  | x, [c], hx, _, hj => hx.one hz (hj c List.mem_cons_self)
  | x, c :: c2 :: r, hx, _, hj => by
    have := RunL.sep hz (x := []) (j := c2 :: r) RunL.nil (List.cons_ne_nil _ _) fun y hy => hj y (List.mem_cons_of_mem _ hy)
    exact hx.one this (hj c List.mem_cons_self)
theorem run_iff {R : Nat} {x : Str} : Run R x ↔ RunL R x.cps.toList := Iff.rfl
theorem Run.mono {R S : Nat} {x : Str} (h : Run R x) (le : R ≤ S) : Run S x := RunL.mono h le
theorem Run.app {R S : Nat} {x y : Str} (hx : Run R x) (hy : Run S y) : Run (R + S) (x ++ y) := by
  rw [run_iff, Str.cps_append, Array.toList_append]
  exact RunL.app hx hy
theorem run_len (x : Str) : Run x.length x := fun a d b e _ => by
  have h2 : x.cps.toList.length = (a ++ d ++ b).length := congrArg List.length e
  rw [List.length_append, List.length_append] at h2
  rw [len_cps]
  omega
/-- joints have no figures -/
theorem Jt.nd {j : Str} (h : Jt j) : j.cps.toList ≠ [] ∧ ∀ c ∈ j.cps.toList, ¬ (48 ≤ c ∧ c ≤ 57) := by rcases h with rfl | rfl | rfl | rfl | rfl <;> decide +kernel
theorem Run.join {R : Nat} {j : Str} (hj : j.cps.toList ≠ [] ∧ ∀ c ∈ j.cps.toList, ¬ (48 ≤ c ∧ c ≤ 57)) : ∀ {ps : List Str}, (∀ p ∈ ps, Run R p) → Run R (Txt.join j ps) := by
  intro ps
  rw [TL.join_eq]
  induction ps with
  | nil => intro _; exact RunL.nil
  | cons x r ih =>
    intro h
    cases r with
    | nil => exact h x List.mem_cons_self
    | cons y r =>
      have e : (Str.join j (x :: y :: r)).cps.toList = x.cps.toList ++ (j.cps.toList ++ (Str.join j (y :: r)).cps.toList) := by
        show (x ++ j ++ Str.join j (y :: r)).cps.toList = _
        rw [Str.cps_append, Array.toList_append, Str.cps_append, Array.toList_append, List.append_assoc]
      rw [run_iff, e]
      exact RunL.sep (ih fun p hp => h p (List.mem_cons_of_mem _ hp)) (h x List.mem_cons_self) hj.1 hj.2
theorem run_cut {R : Nat} {x : Str} (h : Run R x) (lo hi : Option Int) : Run R (cutS x lo hi) := h.cutS _ _ _ rfl
theorem fT_run {e : En} (ok : OkE e) {i : Nat} {t : Str} (h : fT e i = some t) : Run 44 t := by
  match i, h with
  | 0, h =>
    have := (ofT_iff.mp (ok.gc t h)).2.1
    exact (run_len t).mono (by omega)
  | 1, h =>
    obtain ⟨n, en, rfl⟩ := Option.map_eq_some_iff.mp h
    exact (run_len _).mono (nm_len (ok.gt n en))
  | 2, h =>
    obtain ⟨ps, ep, rfl⟩ := Option.map_eq_some_iff.mp h
    obtain ⟨_, l8, hn, _⟩ := ok.gp ps ep
    exact Run.join (Jt.nd (.inr (.inr (.inl rfl)))) fun p hp => (run_len p).mono (names_le hn p hp)
  | 3, h =>
    obtain ⟨d, ed, rfl⟩ := Option.map_eq_some_iff.mp h
    have := day_len (ok.gd d ed)
    exact (run_len _).mono (by omega)
  | 4, h =>
    obtain ⟨c, ec, rfl⟩ := Option.map_eq_some_iff.mp h
    obtain ⟨h0, h1⟩ := ok.gl c ec
    have := len_len h0 h1
    exact (run_len _).mono (by omega)
theorem en_run {e : En} (ok : OkE e) : Run 50 (enT e) := Run.join (Jt.nd (.inr (.inl rfl))) fun p hp => by
  rcases List.mem_cons.mp hp with z | z
  · rw [z]; exact (run_len _).mono (by have := ky_len ok.gk; omega)
  · obtain ⟨q, hq, rfl⟩ := List.mem_map.mp z
    have := stN_len q.1
    exact (((run_len (stN q.1)).mono this).app (fT_run ok (told_mem hq).2)).mono (by decide)
theorem cutP_mem {ps A : List Str} {lo hi : Option Int} (e : cutV (ps.map V.str) lo hi = A.map V.str) : ∀ q ∈ A, q ∈ ps := fun q hq => by
  have m : V.str q ∈ A.map V.str := List.mem_map_of_mem hq
  rw [← e, cut_strs] at m
  obtain ⟨z, hz, ez⟩ := List.mem_map.mp m
  cases ez
  exact List.mem_of_mem_drop (List.mem_of_mem_take hz)
def spBent : Sp := fun vs H Q _ => ∃ (h W : Addr) (n : Int) (x : Str) (ws : List Str) (R : Nat), vs = [.ref h, .str x, .ref W] ∧ H W = some (.lst (ws.map V.str)) ∧ W ≠ h ∧ ws ≠ [] ∧ ws.length < 1000 ∧ (∀ w ∈ ws, w.length ≤ 41) ∧ x.length ≤ 10000 ∧ Run R x ∧ Hand n H h ∧ n + 20 ≤ far ∧
  ∀ (y : Str) H', y.length ≤ 3 * x.length + 50 → Run (2 * R + 41) y → Hand (n + 10) H' h → But h H H' → Q (.str y) H'
theorem ok_bn {f : Addr} {fd : FuncData} {e : Ex} (D : Df K mg "_law_bent" ["_law_hand_here", "_law_text", "_law_words"] sBent f fd) (T : Txt K mg C CL e) (cT : Ca P w K mg base 1 "_law_take" ["_law_hand_here", "_law_many"] spTake) (cP : Ca P w K mg base 2 "_law_pick" ["_law_hand_here", "_law_some"] spPick) : FnOk P w K mg base CX0 3 f fd ["_law_hand_here", "_law_text", "_law_words"] spBent := by
  refine D.fn.ok scBent (fun vs H Q E h => ?_) (fun cdv A outer s H vs Q E hr h => ?_)
  · obtain ⟨h, W, n, x, ws, R, rfl, eW, Wh, wne, wl, w60, lx, rx, hh, hn, q⟩ := h
    rfl
  · obtain ⟨h, W, n, x, ws, R, rfl, eW, Wh, wne, wl, w60, lx, rx, hh, hn, q⟩ := h
    refine ⟨_, (pss_cons (ps_par (i := 3) (j := 4) (by rfl) scBent.nd rfl rfl (by decide) rfl rfl (pa_cons (pe_ca cP hr (by decide) (by rfl) (pa_cons (pv 0) (pa_cons pe_str pa_nil))) (pa_cons (pe_ca cT hr (by decide) (by rfl) (pa_cons (pv 0) (pa_cons pe_int pa_nil))) pa_nil)) (by rfl))
      (pss_cons (ps_set (i := 5) scBent.nd rfl (.inl rfl) (pe_ca cP hr (by decide) (by rfl) (pa_cons (pv 0) (pa_cons (pe_lst (pa_cons pe_str (pa_cons pe_str (pa_cons pe_str (pa_cons pe_str (pa_cons pe_str pa_nil)))))) pa_nil))))
      (pss_cons (ps_par (i := 6) (j := 7) (by rfl) scBent.nd rfl rfl (by decide) rfl rfl (pa_cons (pe_ca cT hr (by decide) (by rfl) (pa_cons (pv 0) (pa_cons (pe_op op_add (pe_callB call_len_str (by rfl) T.len PySem.boot_len (pa_cons (pv 1) pa_nil)) pe_int) pa_nil))) (pa_cons (pe_m1 F.slot_str_split F.type_str_split mt_split (pv 1) (pv 5)) pa_nil)) (by rfl))
      (pss_cons (ps_par (i := 8) (j := 9) (by rfl) scBent.nd rfl rfl (by decide) rfl rfl (pa_cons (pe_ca cT hr (by decide) (by rfl) (pa_cons (pv 0) (pa_cons (pe_callB call_len_seq (by rfl) T.len PySem.boot_len (pa_cons (pv 7) pa_nil)) pa_nil))) (pa_cons (pe_ca cT hr (by decide) (by rfl) (pa_cons (pv 0) (pa_cons (pe_callB call_len_seq (by rfl) T.len PySem.boot_len (pa_cons (pv 7) pa_nil)) pa_nil))) pa_nil)) (by rfl))
      (pss_cons (ps_if (pt_cmpR op_lt (pv 4) pe_int (nomark _)) (pss_one (ps_ret (pe_op op_add_str (pe_op op_add_str (pe_slice sl_str (pv 1) po_none (po_some (pv 6))) (pe_ix ix_list (pe_lst (pa_cons (pv 3) (pa_cons pe_str (pa_cons (pv 3) (pa_cons (pe_ca cP hr (by decide) (by rfl) (pa_cons (pv 0) (pa_cons (pv 2) pa_nil))) (pa_cons pe_str pa_nil)))))) (pv 4) (fun _ _ => rfl))) (pe_slice sl_str (pv 1) (po_some (pe_op op_add (pv 6) (pe_callTy call_int1 (by rfl) T.int (by decide +kernel) (pa_cons (pe_chain op_lt op_lt pe_int (pv 4) pe_int) pa_nil)))) po_none)))) pss_nil)
      (pss_cons (ps_if (pt_cmpR op_eq (pv 4) pe_int (nomark _)) (pss_one (ps_ret (pe_m1 F.slot_str_join F.type_str_join mt_join (pv 5) (pe_op op_cat (pe_slice sl_list (pv 7) po_none (po_some (pv 8))) (pe_slice sl_list (pv 7) (po_some (pe_op op_add (pv 8) pe_int)) po_none))))) pss_nil)
      (pss_cons (ps_if (pt_cmpR op_eq (pv 4) pe_int (nomark _)) (pss_one (ps_ret (pe_m1 F.slot_str_join F.type_str_join mt_join (pv 5) (pe_op op_cat (pe_op op_cat (pe_slice sl_list (pv 7) po_none (po_some (pv 8))) (pe_lst (pa_cons (pe_ix ix_list (pv 7) (pv 9) (fun _ _ => rfl)) pa_nil))) (pe_slice sl_list (pv 7) (po_some (pv 8)) po_none))))) pss_nil)
      (pss_cons (ps_if (pt_cmpR op_eq (pv 4) pe_int (nomark _)) (pss_one (ps_ret (pe_m1 F.slot_str_join F.type_str_join mt_join (pv 5) (pe_op op_cat (pe_op op_cat (pe_slice sl_list (pv 7) po_none (po_some (pv 8))) (pe_lst (pa_cons (pe_ca cP hr (by decide) (by rfl) (pa_cons (pv 0) (pa_cons (pv 2) pa_nil))) pa_nil))) (pe_slice sl_list (pv 7) (po_some (pe_op op_add (pv 8) pe_int)) po_none))))) pss_nil)
      (pss_cons (ps_if (pt_cmpR op_eq (pv 4) pe_int (nomark _)) (pss_one (ps_ret (pe_m1 F.slot_str_join F.type_str_join mt_join (pv 5) (pe_op op_cat (pe_op op_cat (pe_slice sl_list (pv 7) po_none (po_some (pv 8))) (pe_lst (pa_cons (pe_ca cP hr (by decide) (by rfl) (pa_cons (pv 0) (pa_cons (pv 2) pa_nil))) pa_nil))) (pe_slice sl_list (pv 7) (po_some (pv 8)) po_none))))) pss_nil)
      (pss_cons (ps_asg (pe_tup (pa_cons (pe_ix ix_list (pv 7) (pv 9) (fun _ _ => rfl)) (pa_cons (pe_ix ix_list (pv 7) (pv 8) (fun _ _ => rfl)) pa_nil))) (pg_tup (by rfl) (pgs_cons (pg_sub (pv 7) (pv 8) set_list) (pgs_cons (pg_sub (pv 7) (pv 9) set_list) pgs_nil))))
      (pss_one (ps_ret (pe_m1 F.slot_str_join F.type_str_join mt_join (pv 5) (pv 7)))))))))))))), ?_⟩
    have fr : n + 20 ≤ 1000000 := hn
    refine ⟨_, rfl, h, n, _, rfl, hh, by show n ≤ 1000000; omega, .inr ⟨_, rfl, by decide +kernel, by decide +kernel, fun c H1 mc h1 b1 => ?_⟩⟩
    refine ⟨_, rfl, h, 10, n + 1, rfl, by decide, by decide, h1, by show n + 1 ≤ 1000000; omega, fun d H2 d0 d1 h2 b2 => ⟨_, _, rfl, ?_⟩⟩
    -- joint
    refine ⟨_, rfl, (by show 5 ≤ sizeLine; decide), fun l1 n1 => ?_⟩
    have s1 := same_upd n1 (o := .lst [.str " ", .str " | ", .str ", ", .str ":", .str "\n"])
    refine ⟨h, n + 2, _, rfl, (h2.same s1).mono (by omega), by show n + 2 ≤ 1000000; omega, .inl ⟨l1, _, rfl, upd_same, h2.fresh n1, by simp, by show 5 < 1000; decide, fun v H3 mv h3 b3 => ?_⟩⟩
    obtain ⟨j, rfl, hj⟩ : ∃ j : Str, v = .str j ∧ Jt j := by
      simp only [List.mem_cons, List.not_mem_nil, or_false] at mv
      rcases mv with e | e | e | e | e
      · exact ⟨_, e, .inl rfl⟩
      · exact ⟨_, e, .inr (.inl rfl)⟩
      · exact ⟨_, e, .inr (.inr (.inl rfl))⟩
      · exact ⟨_, e, .inr (.inr (.inr (.inl rfl)))⟩
      · exact ⟨_, e, .inr (.inr (.inr (.inr rfl)))⟩
    have b03 := ((b1.trans b2).trans (Same.but s1 h)).trans b3
    clear b1 b2 b3 s1 h1 h2 mv
    obtain ⟨jl, j0⟩ := hj.l
    have lx' := lx
    have fit : x.length ≤ sizeLine := fitN' (by omega)
    have eS := split_S (x := x) hj.ne hj.k
    have sp := split_pos (x := x) hj.ne hj.k
    have sl := (split_len (x := x) hj.ne hj.k).1
    -- at, bits
    refine ⟨_, rfl, _, rfl, x, rfl, fit, _, _, rfl, rfl, h, (x.length : Int) + 1, n + 2 + 1, rfl, by omega, Int.lt_trans (show (x.length : Int) + 1 < 1000000 by omega) (by decide), h3, by show n + 2 + 1 ≤ 1000000; omega, fun k H4 k0 k1 h4 b4 => ?_⟩
    obtain ⟨kn, rfl⟩ : ∃ kn : Nat, k = (kn : Int) := ⟨k.toNat, by omega⟩
    refine ⟨_, rfl, ⟨_, rfl⟩, _, rfl, x, j, rfl, rfl, j0, Nat.le_trans (show _ ≤ 60000 by omega) (by decide), fun B nB => ⟨_, _, rfl, ?_⟩⟩
    have sB := same_upd nB (o := .lst ((Txt.split x j).map V.str))
    have eB : (L2.upd H4 B (.lst ((Txt.split x j).map V.str))) B = some (.lst ((Txt.split x j).map V.str)) := upd_same
    have Bh := h4.fresh nB
    have HB : H B = none := (b03.trans b4).free Bh nB
    have b05 := (b03.trans b4).trans (Same.but sB h)
    have h5 := h4.same sB
    generalize L2.upd H4 B (.lst ((Txt.split x j).map V.str)) = H5 at sB eB b05 h5 ⊢
    clear sB b03 b4 h4 h3
    have rps := rx.split hj.ne hj.k
    generalize Txt.split x j = ps at eS sp sl eB rps ⊢
    -- spot, other
    refine ⟨_, rfl, _, rfl, B, _, rfl, .inl (SqL.of eB), h, ((ps.map V.str).length : Int), n + 4, rfl, by rw [List.length_map]; omega, by rw [List.length_map]; exact Int.lt_trans (show (ps.length : Int) < 1000000 by omega) (by decide), h5.mono (by omega), by show n + 4 ≤ 1000000; omega, fun a H6 a0 a1 h6 b6 => ?_⟩
    have eB6 := b6 _ _ Bh eB
    refine ⟨_, rfl, _, rfl, B, _, rfl, .inl (SqL.of eB6), h, ((ps.map V.str).length : Int), n + 4 + 1, rfl, by rw [List.length_map]; omega, by rw [List.length_map]; exact Int.lt_trans (show (ps.length : Int) < 1000000 by omega) (by decide), h6, by show n + 4 + 1 ≤ 1000000; omega, fun o H7 o0 o1 h7 b7 => ⟨_, _, rfl, ?_⟩⟩
    rw [List.length_map] at a1 o1
    obtain ⟨an, rfl⟩ : ∃ an : Nat, a = (an : Int) := ⟨a.toNat, by omega⟩
    obtain ⟨on, rfl⟩ : ∃ on : Nat, o = (on : Int) := ⟨o.toNat, by omega⟩
    have eB7 := b7 _ _ Bh eB6
    have b07 := (b05.trans b6).trans b7
    have eW7 := b07 _ _ Wh eW
    clear b05 b6 b7 h5 h6 eB eB6
    refine ⟨_, rfl, _, _, rfl, rfl, _, rfl, ite2 (fun e5 => ?_) (fun e5 => ?_)⟩
    · have d5 := of_decide_eq_true e5
      have cl := cutS_len x none (some (kn : Int))
      refine ⟨_, rfl, _, rfl, (kn : Int), rfl, x, rfl, fit, ?_⟩
      refine ⟨_, rfl, _, rfl, _, rfl, _, rfl, h, n + 6, _, rfl, h7.mono (by omega), by show n + 6 ≤ 1000000; omega, .inl ⟨W, _, rfl, eW7, Wh, by simpa using wne, by rw [List.length_map]; exact wl, fun v H8 mv h8 b8 => ?_⟩⟩
      obtain ⟨w1, hw1, rfl⟩ := List.mem_map.mp mv
      have lw1 := w60 w1 hw1
      refine ⟨(by show 5 ≤ sizeLine; decide), fun l2 n2 => ?_⟩
      have s2 := same_upd n2 (o := .lst [.str ⟨#[c]⟩, .str "", .str ⟨#[c]⟩, .str w1, .str "  "])
      have e2 : (L2.upd H8 l2 (.lst [.str ⟨#[c]⟩, .str "", .str ⟨#[c]⟩, .str w1, .str "  "])) l2 = some (.lst [.str ⟨#[c]⟩, .str "", .str ⟨#[c]⟩, .str w1, .str "  "]) := upd_same
      obtain ⟨w2, aw, lw2⟩ : ∃ w2 : Str, atI [V.str ⟨#[c]⟩, .str "", .str ⟨#[c]⟩, .str w1, .str "  "] d = some (.str w2) ∧ w2.length ≤ 41 := by
        have cs : d = 0 ∨ d = 1 ∨ d = 2 ∨ d = 3 ∨ d = 4 := by omega
        rcases cs with rfl | rfl | rfl | rfl | rfl
        · exact ⟨_, atI_nat (j := 0) rfl, by show 1 ≤ 41; decide⟩
        · exact ⟨_, atI_nat (j := 1) rfl, by decide⟩
        · exact ⟨_, atI_nat (j := 2) rfl, by show 1 ≤ 41; decide⟩
        · exact ⟨_, atI_nat (j := 3) rfl, lw1⟩
        · exact ⟨_, atI_nat (j := 4) rfl, by decide⟩
      have b8' := (b07.trans b8).trans (Same.but s2 h)
      refine ⟨_, rfl, l2, _, d, _, rfl, rfl, SqL.of e2, aw, _, _, rfl, rfl, fitN (by omega), ?_⟩
      refine ⟨_, rfl, _, rfl, ?_⟩
      have fin : ∀ q2 : Int, Q (.str (cutS x none (some (kn : Int)) ++ w2 ++ cutS x (some ((kn : Int) + q2)) none)) (L2.upd H8 l2 (.lst [.str ⟨#[c]⟩, .str "", .str ⟨#[c]⟩, .str w1, .str "  "])) := fun q2 => by
        have cl2 := cutS_len x (some ((kn : Int) + q2)) none
        exact q _ _ (by rw [strLen_append, strLen_append]; omega) ((show Run (R + 41 + R) _ from ((run_cut rx _ _).app ((run_len w2).mono lw2)).app (run_cut rx _ _)).mono (by omega)) ((h8.same s2).mono (by omega)) b8'
      have fit2 : ∀ q2 : Int, (cutS x none (some (kn : Int)) ++ w2).length + (cutS x (some ((kn : Int) + q2)) none).length ≤ sizeLine := fun q2 => by
        have cl2 := cutS_len x (some ((kn : Int) + q2)) none
        exact fitN (by rw [strLen_append]; omega)
      refine ⟨_, rfl, _, _, rfl, rfl, _, rfl, ite2 (fun _ => ?_) (fun _ => ?_)⟩
      · exact ⟨_, _, rfl, rfl, .inr ⟨_, rfl, _, _, rfl, rfl, _, rfl, x, rfl, fit, _, _, rfl, rfl, fit2 _, fin _⟩⟩
      · exact .inr ⟨_, rfl, _, _, rfl, rfl, _, rfl, x, rfl, fit, _, _, rfl, rfl, fit2 _, fin _⟩
    -- joined anew
    have S3 : S j ps ≤ x.length + 3 := by omega
    have fitS : ∀ {qs : List Str}, S j qs ≤ 3 * x.length + 50 → (qs.map (·.length)).sum + qs.length * j.length ≤ sizeLine := fun {qs} hq => by
      rw [sum_S]
      exact fitN (by omega)
    have ret : ∀ {H' : Hp} {qs : List Str}, (∀ z ∈ qs, z ∈ ps ∨ z ∈ ws) → S j qs ≤ 3 * x.length + 50 → Hand (n + 10) H' h → But h H H' → Q (.str (Txt.join j qs)) H' := fun {H' qs} hm hq hd bt => q _ _ (Nat.le_trans (joint_len j qs) hq) (Run.join hj.nd fun p hp => (hm p hp).elim (fun z => (rps p z).mono (by omega)) fun z => (run_len p).mono (by have := w60 p z; omega)) hd bt
    have h7' : Hand (n + 10) H7 h := h7.mono (by omega)
    obtain ⟨A, eA, sA, lA⟩ := cutP j ps none (some (an : Int))
    have mA := cutP_mem eA
    have catL : ∀ {xs ys : List V}, xs.length ≤ 20010 → ys.length ≤ 20010 → xs.length + ys.length ≤ sizeLine := fun {xs ys} a b => fitN (by omega)
    -- the part ahead
    have head : ∀ (p : Addr), H7 p = none → (L2.upd H7 p (.lst (cutV (ps.map V.str) none (some (an : Int))))) p = some (.lst (A.map V.str)) := fun p np => by rw [upd_same, eA]
    refine ⟨_, rfl, rfl, _, rfl, ite2 (fun e5 => ?_) (fun e5 => ?_)⟩
    · refine ⟨_, rfl, ⟨_, rfl⟩, _, rfl, _, rfl, (an : Int), rfl, B, _, rfl, SqL.of eB7, fun p np => ?_⟩
      have sp1 := same_upd np (o := .lst (cutV (ps.map V.str) none (some (an : Int))))
      have e1 := head p np
      generalize L2.upd H7 p (.lst (cutV (ps.map V.str) none (some (an : Int)))) = H8 at sp1 e1 ⊢
      refine ⟨_, rfl, _, rfl, _, _, rfl, rfl, _, rfl, B, _, rfl, SqL.of (sp1 _ _ eB7), fun p2 np2 => ?_⟩
      obtain ⟨Z, eZ, sZ, lZ⟩ := cutP j ps (some ((an : Int) + 1)) none
      have sp2 := same_upd np2 (o := .lst (cutV (ps.map V.str) (some ((an : Int) + 1)) none))
      have e2 : (L2.upd H8 p2 (.lst (cutV (ps.map V.str) (some ((an : Int) + 1)) none))) p2 = some (.lst (Z.map V.str)) := by rw [upd_same, eZ]
      generalize L2.upd H8 p2 (.lst (cutV (ps.map V.str) (some ((an : Int) + 1)) none)) = H9 at sp2 e2 ⊢
      refine ⟨p, p2, _, _, rfl, rfl, sp2 _ _ e1, e2, catL (by rw [List.length_map]; omega) (by rw [List.length_map]; omega), fun p3 np3 => ?_⟩
      have sp3 := same_upd np3 (o := .lst (A.map V.str ++ Z.map V.str))
      have hS : S j (A ++ Z) ≤ 3 * x.length + 50 := by rw [S_app]; omega
      have sall := (sp1.trans sp2).trans sp3
      exact ⟨j, p3, A ++ Z, rfl, rfl, .inl (SqL.of (by rw [upd_same, List.map_append])), fitS hS, ret (fun z hz => by
          rcases List.mem_append.mp hz with y | y
          · exact .inl (mA z y)
          · exact .inl (cutP_mem eZ z y)) hS (h7'.same sall) (b07.trans (Same.but sall h))⟩
    refine ⟨_, rfl, rfl, _, rfl, ite2 (fun e6 => ?_) (fun e6 => ?_)⟩
    · have eb : ps[on]? = some (ps[on]'(by omega)) := List.getElem?_eq_getElem (by omega)
      have mb := List.getElem_mem (l := ps) (n := on) (by omega)
      have lb := S_mem (j := j) mb
      generalize ps[on]'(by omega) = bt at eb mb lb
      refine ⟨_, rfl, ⟨_, rfl⟩, _, rfl, _, rfl, (an : Int), rfl, B, _, rfl, SqL.of eB7, fun p np => ?_⟩
      have sp1 := same_upd np (o := .lst (cutV (ps.map V.str) none (some (an : Int))))
      have e1 := head p np
      have ph := h7.fresh np
      generalize L2.upd H7 p (.lst (cutV (ps.map V.str) none (some (an : Int)))) = H8 at sp1 e1 ⊢
      refine ⟨_, rfl, _, rfl, B, _, (on : Int), .str bt, rfl, rfl, SqL.of (sp1 _ _ eB7), atI_nat (by rw [List.getElem?_map, eb]; rfl), (by show 1 ≤ sizeLine; decide), fun p2 np2 => ?_⟩
      have sp2 := same_upd np2 (o := .lst [.str bt])
      have f2 : (L2.upd H8 p2 (.lst [.str bt])) p2 = some (.lst [.str bt]) := upd_same
      have f1 := sp2 _ _ e1
      have fB := sp2 _ _ (sp1 _ _ eB7)
      have h9 := (h7'.same sp1).same sp2
      have b9 := (b07.trans (Same.but sp1 h)).trans (Same.but sp2 h)
      generalize L2.upd H8 p2 (.lst [.str bt]) = H9 at f1 f2 fB h9 b9 ⊢
      have hS1 : S j (A ++ [bt]) ≤ S j ps + (bt).length + 3 := by rw [S_app, S_one]; omega
      refine ⟨p, p2, _, _, rfl, rfl, f1, f2, catL (by rw [List.length_map]; omega) (by show 1 ≤ 20010; decide), fun p3 np3 => ?_⟩
      have sp3 := same_upd np3 (o := .lst (A.map V.str ++ [.str (bt)]))
      have f3 : (L2.upd H9 p3 (.lst (A.map V.str ++ [.str (bt)]))) p3 = some (.lst ((A ++ [bt]).map V.str)) := by rw [upd_same, List.map_append]; rfl
      have fB3 := sp3 _ _ fB
      have h10 := h9.same sp3
      have b10 := b9.trans (Same.but sp3 h)
      generalize L2.upd H9 p3 (.lst (A.map V.str ++ [.str (bt)])) = HA at sp3 f3 fB3 h10 b10 ⊢
      obtain ⟨Z, eZ, sZ, lZ⟩ := cutP j ps (some ((an : Int))) none
      refine ⟨_, rfl, _, rfl, (an : Int), rfl, B, _, rfl, SqL.of fB3, fun p4 np4 => ?_⟩
      have sp4 := same_upd np4 (o := .lst (cutV (ps.map V.str) (some ((an : Int))) none))
      have f4 : (L2.upd HA p4 (.lst (cutV (ps.map V.str) (some ((an : Int))) none))) p4 = some (.lst (Z.map V.str)) := by rw [upd_same, eZ]
      generalize L2.upd HA p4 (.lst (cutV (ps.map V.str) (some ((an : Int))) none)) = HB at sp4 f4 ⊢
      refine ⟨p3, p4, _, _, rfl, rfl, sp4 _ _ f3, f4, catL (by rw [List.length_map, List.length_append]; show A.length + 1 ≤ 20010; omega) (by rw [List.length_map]; omega), fun p5 np5 => ?_⟩
      have sp5 := same_upd np5 (o := .lst ((A ++ [bt]).map V.str ++ Z.map V.str))
      have hS : S j (A ++ [bt] ++ Z) ≤ 3 * x.length + 50 := by rw [S_app]; omega
      have sall := sp4.trans sp5
      exact ⟨j, p5, A ++ [bt] ++ Z, rfl, rfl, .inl (SqL.of (by rw [upd_same, ← List.map_append])), fitS hS, ret (fun z hz => by
          rcases List.mem_append.mp hz with y | y
          · rcases List.mem_append.mp y with y | y
            · exact .inl (mA z y)
            · rw [List.mem_singleton.mp y]; exact .inl mb
          · exact .inl (cutP_mem eZ z y)) hS (h10.same sall) (b10.trans (Same.but sall h))⟩
    refine ⟨_, rfl, rfl, _, rfl, ite2 (fun e7 => ?_) (fun e7 => ?_)⟩
    · clear e5 e6
      refine ⟨_, rfl, ⟨_, rfl⟩, _, rfl, _, rfl, (an : Int), rfl, B, _, rfl, SqL.of eB7, fun p np => ?_⟩
      have sp1 := same_upd np (o := .lst (cutV (ps.map V.str) none (some (an : Int))))
      have e1 := head p np
      have ph := h7.fresh np
      generalize L2.upd H7 p (.lst (cutV (ps.map V.str) none (some (an : Int)))) = H8 at sp1 e1 ⊢
      refine ⟨_, rfl, _, rfl, h, n + 6, _, rfl, (h7.same sp1).mono (by omega), by show n + 6 ≤ 1000000; omega, .inl ⟨W, _, rfl, sp1 _ _ eW7, Wh, by simpa using wne, by rw [List.length_map]; exact wl, fun v H8' mv h8 b8 => ?_⟩⟩
      obtain ⟨bt, hw1, rfl⟩ := List.mem_map.mp mv
      have lb := w60 bt hw1
      refine ⟨(by show 1 ≤ sizeLine; decide), fun p2 np2 => ?_⟩
      have sp2 := same_upd np2 (o := .lst [.str bt])
      have f2 : (L2.upd H8' p2 (.lst [.str bt])) p2 = some (.lst [.str bt]) := upd_same
      have f1 := sp2 _ _ (b8 _ _ ph e1)
      have fB := sp2 _ _ (b8 _ _ Bh (sp1 _ _ eB7))
      have h9 : Hand (n + 10) (L2.upd H8' p2 (.lst [.str bt])) h := (h8.same sp2).mono (by omega)
      have b9 := ((b07.trans (Same.but sp1 h)).trans b8).trans (Same.but sp2 h)
      generalize L2.upd H8' p2 (.lst [.str bt]) = H9 at f1 f2 fB h9 b9 ⊢
      have hS1 : S j (A ++ [bt]) ≤ S j ps + (bt).length + 3 := by rw [S_app, S_one]; omega
      refine ⟨p, p2, _, _, rfl, rfl, f1, f2, catL (by rw [List.length_map]; omega) (by show 1 ≤ 20010; decide), fun p3 np3 => ?_⟩
      have sp3 := same_upd np3 (o := .lst (A.map V.str ++ [.str (bt)]))
      have f3 : (L2.upd H9 p3 (.lst (A.map V.str ++ [.str (bt)]))) p3 = some (.lst ((A ++ [bt]).map V.str)) := by rw [upd_same, List.map_append]; rfl
      have fB3 := sp3 _ _ fB
      have h10 := h9.same sp3
      have b10 := b9.trans (Same.but sp3 h)
      generalize L2.upd H9 p3 (.lst (A.map V.str ++ [.str (bt)])) = HA at sp3 f3 fB3 h10 b10 ⊢
      obtain ⟨Z, eZ, sZ, lZ⟩ := cutP j ps (some ((an : Int) + 1)) none
      refine ⟨_, rfl, _, rfl, _, _, rfl, rfl, _, rfl, B, _, rfl, SqL.of fB3, fun p4 np4 => ?_⟩
      have sp4 := same_upd np4 (o := .lst (cutV (ps.map V.str) (some ((an : Int) + 1)) none))
      have f4 : (L2.upd HA p4 (.lst (cutV (ps.map V.str) (some ((an : Int) + 1)) none))) p4 = some (.lst (Z.map V.str)) := by rw [upd_same, eZ]
      generalize L2.upd HA p4 (.lst (cutV (ps.map V.str) (some ((an : Int) + 1)) none)) = HB at sp4 f4 ⊢
      refine ⟨p3, p4, _, _, rfl, rfl, sp4 _ _ f3, f4, catL (by rw [List.length_map, List.length_append]; show A.length + 1 ≤ 20010; omega) (by rw [List.length_map]; omega), fun p5 np5 => ?_⟩
      have sp5 := same_upd np5 (o := .lst ((A ++ [bt]).map V.str ++ Z.map V.str))
      have hS : S j (A ++ [bt] ++ Z) ≤ 3 * x.length + 50 := by rw [S_app]; omega
      have sall := sp4.trans sp5
      exact ⟨j, p5, A ++ [bt] ++ Z, rfl, rfl, .inl (SqL.of (by rw [upd_same, ← List.map_append])), fitS hS, ret (fun z hz => by
          rcases List.mem_append.mp hz with y | y
          · rcases List.mem_append.mp y with y | y
            · exact .inl (mA z y)
            · rw [List.mem_singleton.mp y]; exact .inr hw1
          · exact .inl (cutP_mem eZ z y)) hS (h10.same sall) (b10.trans (Same.but sall h))⟩
    refine ⟨_, rfl, rfl, _, rfl, ite2 (fun e8 => ?_) (fun e8 => ?_)⟩
    · clear e5 e6 e7
      refine ⟨_, rfl, ⟨_, rfl⟩, _, rfl, _, rfl, (an : Int), rfl, B, _, rfl, SqL.of eB7, fun p np => ?_⟩
      have sp1 := same_upd np (o := .lst (cutV (ps.map V.str) none (some (an : Int))))
      have e1 := head p np
      have ph := h7.fresh np
      generalize L2.upd H7 p (.lst (cutV (ps.map V.str) none (some (an : Int)))) = H8 at sp1 e1 ⊢
      refine ⟨_, rfl, _, rfl, h, n + 6, _, rfl, (h7.same sp1).mono (by omega), by show n + 6 ≤ 1000000; omega, .inl ⟨W, _, rfl, sp1 _ _ eW7, Wh, by simpa using wne, by rw [List.length_map]; exact wl, fun v H8' mv h8 b8 => ?_⟩⟩
      obtain ⟨bt, hw1, rfl⟩ := List.mem_map.mp mv
      have lb := w60 bt hw1
      refine ⟨(by show 1 ≤ sizeLine; decide), fun p2 np2 => ?_⟩
      have sp2 := same_upd np2 (o := .lst [.str bt])
      have f2 : (L2.upd H8' p2 (.lst [.str bt])) p2 = some (.lst [.str bt]) := upd_same
      have f1 := sp2 _ _ (b8 _ _ ph e1)
      have fB := sp2 _ _ (b8 _ _ Bh (sp1 _ _ eB7))
      have h9 : Hand (n + 10) (L2.upd H8' p2 (.lst [.str bt])) h := (h8.same sp2).mono (by omega)
      have b9 := ((b07.trans (Same.but sp1 h)).trans b8).trans (Same.but sp2 h)
      generalize L2.upd H8' p2 (.lst [.str bt]) = H9 at f1 f2 fB h9 b9 ⊢
      have hS1 : S j (A ++ [bt]) ≤ S j ps + (bt).length + 3 := by rw [S_app, S_one]; omega
      refine ⟨p, p2, _, _, rfl, rfl, f1, f2, catL (by rw [List.length_map]; omega) (by show 1 ≤ 20010; decide), fun p3 np3 => ?_⟩
      have sp3 := same_upd np3 (o := .lst (A.map V.str ++ [.str (bt)]))
      have f3 : (L2.upd H9 p3 (.lst (A.map V.str ++ [.str (bt)]))) p3 = some (.lst ((A ++ [bt]).map V.str)) := by rw [upd_same, List.map_append]; rfl
      have fB3 := sp3 _ _ fB
      have h10 := h9.same sp3
      have b10 := b9.trans (Same.but sp3 h)
      generalize L2.upd H9 p3 (.lst (A.map V.str ++ [.str (bt)])) = HA at sp3 f3 fB3 h10 b10 ⊢
      obtain ⟨Z, eZ, sZ, lZ⟩ := cutP j ps (some ((an : Int))) none
      refine ⟨_, rfl, _, rfl, (an : Int), rfl, B, _, rfl, SqL.of fB3, fun p4 np4 => ?_⟩
      have sp4 := same_upd np4 (o := .lst (cutV (ps.map V.str) (some ((an : Int))) none))
      have f4 : (L2.upd HA p4 (.lst (cutV (ps.map V.str) (some ((an : Int))) none))) p4 = some (.lst (Z.map V.str)) := by rw [upd_same, eZ]
      generalize L2.upd HA p4 (.lst (cutV (ps.map V.str) (some ((an : Int))) none)) = HB at sp4 f4 ⊢
      refine ⟨p3, p4, _, _, rfl, rfl, sp4 _ _ f3, f4, catL (by rw [List.length_map, List.length_append]; show A.length + 1 ≤ 20010; omega) (by rw [List.length_map]; omega), fun p5 np5 => ?_⟩
      have sp5 := same_upd np5 (o := .lst ((A ++ [bt]).map V.str ++ Z.map V.str))
      have hS : S j (A ++ [bt] ++ Z) ≤ 3 * x.length + 50 := by rw [S_app]; omega
      have sall := sp4.trans sp5
      exact ⟨j, p5, A ++ [bt] ++ Z, rfl, rfl, .inl (SqL.of (by rw [upd_same, ← List.map_append])), fitS hS, ret (fun z hz => by
          rcases List.mem_append.mp hz with y | y
          · rcases List.mem_append.mp y with y | y
            · exact .inl (mA z y)
            · rw [List.mem_singleton.mp y]; exact .inr hw1
          · exact .inl (cutP_mem eZ z y)) hS (h10.same sall) (b10.trans (Same.but sall h))⟩
    clear e5 e6 e7 e8
    have eb : ps[on]? = some (ps[on]'(by omega)) := List.getElem?_eq_getElem (by omega)
    have lb := S_mem (j := j) (List.getElem_mem (l := ps) (n := on) (by omega))
    generalize ps[on]'(by omega) = b1 at eb lb
    have ea : ps[an]? = some (ps[an]'(by omega)) := List.getElem?_eq_getElem (by omega)
    have la := S_mem (j := j) (List.getElem_mem (l := ps) (n := an) (by omega))
    generalize ps[an]'(by omega) = b2 at ea la
    refine ⟨_, rfl, _, rfl, B, _, (on : Int), .str b1, rfl, rfl, SqL.of eB7, atI_nat (by rw [List.getElem?_map, eb]; rfl), _, rfl, _, rfl, B, _, (an : Int), .str b2, rfl, rfl, SqL.of eB7, atI_nat (by rw [List.getElem?_map, ea]; rfl), (by show 2 ≤ sizeLine; decide), fun t nt => ?_⟩
    have st := same_upd nt (o := .tup [.str b1, .str b2])
    have et : (L2.upd H7 t (.tup [.str b1, .str b2])) t = some (.tup [.str b1, .str b2]) := upd_same
    have eB8 := st _ _ eB7
    have h8 := h7'.same st
    have b8 := b07.trans (Same.but st h)
    generalize L2.upd H7 t (.tup [.str b1, .str b2]) = H8 at st et eB8 h8 b8 ⊢
    refine ⟨t, _, rfl, SqT.of et, rfl, _, _, rfl, _, rfl, _, rfl, B, _, (an : Int), an, rfl, rfl, eB8, ixN_k (by rw [List.length_map]; omega), ?_⟩
    refine ⟨_, _, rfl, _, rfl, _, rfl, B, _, (on : Int), on, rfl, rfl, upd_same, ixN_k (by rw [List.length_set, List.length_map]; omega), rfl, ?_⟩
    have hS : S j ((ps.set an b1).set on b2) ≤ 3 * x.length + 50 := by
      have g1 := S_set (j := j) (b := b2) (ps.set an b1) on
      have g2 := S_set (j := j) (b := b1) ps an
      omega
    refine ⟨_, rfl, ⟨_, rfl⟩, _, rfl, j, B, (ps.set an b1).set on b2, rfl, rfl, .inl (SqL.of (by rw [upd_same, ← List.map_set, ← List.map_set])), fitS hS, ret (fun z hz => by
        rcases List.mem_or_eq_of_mem_set hz with y | y
        · rcases List.mem_or_eq_of_mem_set y with y | y
          · exact .inl y
          · rw [y]; exact .inl (List.mem_of_getElem? eb)
        · rw [y]; exact .inl (List.mem_of_getElem? ea)) hS ((h8.upd (Ne.symm Bh)).upd (Ne.symm Bh)) fun c o nc e => ?_⟩
    have nB : c ≠ B := fun z => by
      rw [z, HB] at e
      cases e
    rw [upd_ne nB, upd_ne nB]
    exact b8 c o nc e
end
end K64
set_option Elab.async false
set_option linter.all false
set_option maxRecDepth 100000
set_option maxHeartbeats 4000000
set_option pp.maxSteps 400
set_option pp.deepTerms false
namespace K64
open PySem PySem.Spec PyProof.Rows L2
open Xk Az Xtx Xkd Xst Xsp
section
variable {P : Program} {w : World} {K : PySem.W.Frag} {mg : Str → Option Value} {base : Heap} {C CL : Addr}
theorem nice_t2 {d e : PyData} {k n m : Nat} (h : Nice d k n) (h' : Nice e k m) : Nice (.tuple [d, e]) (k + 1) (n + m + 10) := by
  refine ⟨by simp [PyData.showable, PyData.showableAll, h.sh, h'.sh], ?_, ?_⟩
  · simp only [PyData.depth, PyData.depthAll]
    have := h.dp
    have := h'.dp
    omega
  · simp only [PyData.shown, PyData.shownAll]
    have z := fmt_text [d.shown, e.shown]
    simp only [piled_cons, piled_nil] at z
    have := h.sz
    have := h'.sz
    omega
theorem nice_t3 {d e g : PyData} {k n m j : Nat} (h : Nice d k n) (h' : Nice e k m) (h2 : Nice g k j) : Nice (.tuple [d, e, g]) (k + 1) (n + m + j + 12) := by
  refine ⟨by simp [PyData.showable, PyData.showableAll, h.sh, h'.sh, h2.sh], ?_, ?_⟩
  · simp only [PyData.depth, PyData.depthAll]
    have := h.dp
    have := h'.dp
    have := h2.dp
    omega
  · simp only [PyData.shown, PyData.shownAll]
    have z := fmt_text [d.shown, e.shown, g.shown]
    simp only [piled_cons, piled_nil] at z
    have := h.sz
    have := h'.sz
    have := h2.sz
    omega
theorem dayRepr_len {y : Int} {m d : Option Int} (g : Good y m d) : (dayRepr y m d).length ≤ 100 := by
  obtain ⟨ty, tm, td⟩ := good_tiny g
  have l1 := txt_len ty
  unfold dayRepr
  rw [strLen_append, strLen_append, dPar, dEnd]
  cases m with
  | none =>
    have : d = none := g.2.2
    subst this
    have : (Str.join ", " (toldS y none none)).length ≤ 4 := l1
    omega
  | some i =>
    have l2 := txt_len tm
    cases d with
    | none =>
      have : (Str.join ", " (toldS y (some i) none)).length ≤ 10 := by
        show (Str.ofString (toString y) ++ ", " ++ Str.ofString (toString i)).length ≤ 10
        rw [strLen_append, strLen_append, dCom]
        omega
      omega
    | some j =>
      have l3 := txt_len td
      have : (Str.join ", " (toldS y (some i) (some j))).length ≤ 16 := by
        show (Str.ofString (toString y) ++ ", " ++ (Str.ofString (toString i) ++ ", " ++ Str.ofString (toString j))).length ≤ 16
        rw [strLen_append, strLen_append, strLen_append, strLen_append, dCom]
        omega
      omega
theorem lenRepr_len {c : Int} (h0 : 0 ≤ c) (h1 : c ≤ 359999) : (lenRepr c).length ≤ 100 := by
  have := tx_len (i := c) h0 (by omega)
  unfold lenRepr
  rw [strLen_append, strLen_append, show ("Length(" : Str).length = 7 by decide +kernel, show (")" : Str).length = 1 by decide +kernel]
  omega
def plP : Option (List (Str × Str)) → PyData
  | none => .none
  | some ps => .tuple (ps.map NP)
def cdP : Option Str → PyData
  | none => .none
  | some c => .str c
def dyT : Option (Int × Option Int × Option Int) → Str
  | none => PyData.none.shown
  | some d => dayRepr d.1 d.2.1 d.2.2
def lnT : Option Int → Str
  | none => PyData.none.shown
  | some c => lenRepr c
/-- how an entry is shown by repr, item by item -/
def its (e : En) : List Str := [(PyData.str e.k.1).shown, (PyData.int e.k.2).shown, (cdP e.code).shown, (nmP e.title).shown, (plP e.pl).shown, dyT e.day, lnT e.len]
def enR (e : En) : Str := tupleText (its e)
theorem nice_non : Nice .none 0 10 := ⟨by simp [PyData.showable], by simp [PyData.depth], by decide +kernel⟩
theorem asc_sm {z : Str} (h : ∀ c ∈ z.cps.toList, c ∈ small.cps.toList) : ∀ c ∈ z.cps.toList, c < 16 ^ 8 := fun c hc => by
  have g : ∀ c ∈ small.cps.toList, c < 128 := by decide +kernel
  exact Nat.lt_of_lt_of_le (g c (h c hc)) (by decide)
theorem asc_sg {z : Str} (h : ∀ c ∈ z.cps.toList, c ∈ signs.cps.toList) : ∀ c ∈ z.cps.toList, c < 16 ^ 8 := fun c hc => by
  have g : ∀ c ∈ signs.cps.toList, c < 128 := by decide +kernel
  exact Nat.lt_of_lt_of_le (g c (h c hc)) (by decide)
theorem asc_cd {z : Str} (h : ∀ c ∈ z.cps.toList, c ∈ codes.cps.toList) : ∀ c ∈ z.cps.toList, c < 16 ^ 8 := fun c hc => by
  have g : ∀ c ∈ codes.cps.toList, c < 128 := by decide +kernel
  exact Nat.lt_of_lt_of_le (g c (h c hc)) (by decide)
theorem nice_NP {n : Str × Str} (ok : NmOk n) : Nice (NP n) 1 500 := by
  have a1 := ok.tl
  have a2 := ok.tx.l40
  have x : Nice (.str n.1) 0 40 := nice_str (Nat.le_trans (PySem.StrLaws.reprText_len n.1 (asc_sm ok.ts)) (by omega))
  have y : Nice (.str n.2) 0 410 := nice_str (Nat.le_trans (PySem.StrLaws.reprText_len n.2 (asc_sg ok.tx.sg)) (by omega))
  exact (nice_t2 x y).mono (by decide) (by decide)
theorem nice_NPs : ∀ {ns : List (Str × Str)}, (∀ n ∈ ns, NmOk n) → PyData.showableAll (ns.map NP) = true ∧ PyData.depthAll (ns.map NP) ≤ 2 ∧ piled (PyData.shownAll (ns.map NP)) ≤ 502 * ns.length
  | [], _ => ⟨by simp [PyData.showableAll], by simp [PyData.depthAll], by simp [PyData.shownAll, piled_nil]⟩
  | n :: r, h => by
    obtain ⟨a, b, c⟩ := nice_NPs (ns := r) fun z hz => h z (List.mem_cons_of_mem _ hz)
    have w := nice_NP (h n List.mem_cons_self)
    refine ⟨by simp [PyData.showableAll, w.sh, a], ?_, ?_⟩
    · simp only [List.map_cons, PyData.depthAll]
      have := w.dp
      omega
    · simp only [List.map_cons, PyData.shownAll, piled_cons, List.length_cons]
      have := w.sz
      omega
theorem nice_pl {ps : List (Str × Str)} (h : ∀ n ∈ ps, NmOk n) (l : ps.length ≤ 8) : Nice (.tuple (ps.map NP)) 3 5000 := by
  obtain ⟨a, b, c⟩ := nice_NPs h
  refine ⟨by simp only [PyData.showable]; exact a, by simp only [PyData.depth]; omega, ?_⟩
  simp only [PyData.shown]
  have z := fmt_text (PyData.shownAll (ps.map NP))
  omega
/-- the data of the first five items -/
theorem five {K : PySem.W.Frag} {H : Hp} {t : Addr} {e : En} (h : EnAt C CL H t e) (ok : OkE e) : ∃ v2 v3 v4 v5 v6 : V, H t = some (.tup [.str e.k.1, .int e.k.2, v2, v3, v4, v5, v6]) ∧ DyO C H v5 e.day ∧ LnO CL H v6 e.len ∧
    (Nice (.str e.k.1) 0 100 ∧ Nice (.int e.k.2) 0 40) ∧ (Dz K H v2 (cdP e.code) ∧ Nice (cdP e.code) 0 200) ∧ (Dz K H v3 (nmP e.title) ∧ Nice (nmP e.title) 1 500) ∧ (Dz K H v4 (plP e.pl) ∧ Nice (plP e.pl) 3 5000) := by
  obtain ⟨v2, v3, v4, v5, v6, et, h2, h3, h4, h5, h6⟩ := h
  have w8 := ok.gk.w8
  refine ⟨v2, v3, v4, v5, v6, et, h5, h6, ⟨nice_str (Nat.le_trans (PySem.StrLaws.reprText_len e.k.1 (asc_sm ok.gk.ws)) (by omega)), nice_int (lg (by have := ok.gk.n0; omega) (by have := ok.gk.n1; omega)) (by have := kyn_len ok.gk; exact Nat.le_trans this (by decide))⟩, ?_, ?_, ?_⟩
  · cases hc : e.code with
    | none => rw [hc] at h2; subst h2; exact ⟨.non, nice_non.mono (Nat.le_refl _) (by decide)⟩
    | some c =>
      rw [hc] at h2
      subst h2
      obtain ⟨c1, c2, c3⟩ := ofT_iff.mp (ok.gc c hc)
      exact ⟨.str c, nice_str (Nat.le_trans (PySem.StrLaws.reprText_len c (asc_cd (chk_iff.mp c3))) (by omega))⟩
  · cases ht : e.title with
    | none => rw [ht] at h3; cases (show v3 = .non from h3); exact ⟨.non, nice_non.mono (by decide) (by decide)⟩
    | some n => rw [ht] at h3; exact ⟨NA.dz h3, nice_NP (ok.gt n ht)⟩
  · cases hp : e.pl with
    | none => rw [hp] at h4; cases (show v4 = .non from h4); exact ⟨.non, nice_non.mono (by decide) (by decide)⟩
    | some ps =>
      rw [hp] at h4
      obtain ⟨p, xs, rfl, ex, na⟩ := h4
      obtain ⟨p1, p8, pn, _⟩ := ok.gp ps hp
      exact ⟨.tup ex na.dz, nice_pl pn p8⟩
theorem its_len {e : En} (ok : OkE e) {K : PySem.W.Frag} {H : Hp} {t : Addr} (h : EnAt C CL H t e) : (enR e).length ≤ 20000 := by
  obtain ⟨_, _, _, _, _, _, _, _, ⟨a1, a2⟩, ⟨_, a3⟩, ⟨_, a4⟩, ⟨_, a5⟩⟩ := five (K := K) h ok
  have a6 : (dyT e.day).length ≤ 100 := by
    cases hd : e.day with
    | none => show PyData.none.shown.length ≤ 100; decide +kernel
    | some d => exact dayRepr_len (ok.gd d hd)
  have a7 : (lnT e.len).length ≤ 100 := by
    cases hl : e.len with
    | none => show PyData.none.shown.length ≤ 100; decide +kernel
    | some c => obtain ⟨g0, g1⟩ := ok.gl c hl; exact lenRepr_len g0 g1
  have z := fmt_text (its e)
  unfold its at z
  simp only [piled_cons, piled_nil] at z
  have := a1.sz
  have := a2.sz
  have := a3.sz
  have := a4.sz
  have := a5.sz
  show (tupleText (its e)).length ≤ 20000
  unfold its
  omega
/-- what is answered -/
def AnsO (C CL : Addr) (H : Hp) (v : V) : Option En → Prop
  | none => ∃ t : Addr, v = .ref t ∧ H t = some (.tup [.str "refused", .int 0, .str "entry"])
  | some e => OkE e ∧ ∃ t p : Addr, v = .ref t ∧ H t = some (.tup [.str "told", .ref p]) ∧ EnAt C CL H p e
def reT : PyData := .tuple [.str "refused", .int 0, .str "entry"]
def ansT : Option En → Str
  | none => reT.shown
  | some e => tupleText [(PyData.str "told").shown, enR e]
def spAsk (C CL : Addr) : Sp := fun vs H Q _ => ∃ (x : Str), vs = [.str x] ∧ x.length ≤ 30000 ∧ Run 640 x ∧ ∀ v H', L2.Same H H' → AnsO C CL H' v (enP x) → Q v H'
theorem nice_re : Nice reT 1 1000 := ⟨by decide +kernel, by decide +kernel, by decide +kernel⟩
def rAns (C CL : Addr) : List V → Hp → VK → Prop := fun xs H Q => ∃ (v : V) (o : Option En), xs = [v] ∧ AnsO C CL H v o ∧ Q (.str (ansT o)) H
section
variable {X : Cx}
theorem cr_ans {C CL fS fR gS gR : Addr} {fdS fdR gdS gdR : FuncData} (quiet : X.A.guards = some []) (room : Room 4 X.A) (O : Sh X.prog X.w X.K X.mg X.base C 1 fS fR fdS fdR (spStrD C) (spReprD C)) (OL : Sh X.prog X.w X.K X.mg X.base CL 2 gS gR gdS gdR (spStrL CL) (spReprL CL)) :
    CallR X (.builtin "repr") (rAns C CL) := by
  intro pins s σ H xs us Q I r h
  obtain ⟨v, o, rfl, hA, q⟩ := h
  cases o with
  | none =>
    obtain ⟨t, rfl, et⟩ := hA
    have n := nice_re
    exact cr_reprZ quiet room pins s σ H _ us Q I r ⟨.ref t, reT, rfl, .tup et (.cons (.str _) (.cons (.int _) (.cons (.str _) .nil))), n.sh, Nat.le_trans n.dp (by decide), Nat.le_trans n.sz (by decide), q⟩
  | some e =>
  obtain ⟨ok, t0, t, rfl, e0, hE⟩ := hA
  have lz := its_len (K := X.K) ok hE
  have lT : (PyData.str "told").shown.length ≤ 10 := by decide +kernel
  have lz0 : (tupleText [(PyData.str "told").shown, enR e]).length ≤ 30000 := by
    have z := fmt_text [(PyData.str "told").shown, enR e]
    simp only [piled_cons, piled_nil] at z
    omega
  obtain ⟨v2, v3, v4, v5, v6, et, h5, h6, ⟨a1, a2⟩, ⟨z3, a3⟩, ⟨z4, a4⟩, ⟨z5, a5⟩⟩ := five (K := X.K) hE ok
  have ne : t0 ≠ t := fun z => by
    rw [z, et] at e0
    injection e0 with e0
    injection e0 with e0
    have := congrArg List.length e0
    simp at this
  have dat : ∀ {v : V} {d : PyData} {k n : Nat}, Dz X.K H v d → Nice d k n → k ≤ 3 → n ≤ 5000 → Xro.It X 1 H v d.shown := fun {v d k n} hz hn hk hl => .dat hz hn.sh (Nat.le_trans hn.dp (by omega)) (Nat.le_trans hn.sz (Nat.le_trans hl (by decide)))
  have i6 : Xro.It X 1 H v5 (dyT e.day) := by
    cases hd : e.day with
    | none => rw [hd] at h5; cases (show v5 = .non from h5); exact dat .non nice_non (by decide) (by decide)
    | some d =>
      rw [hd] at h5
      obtain ⟨o, rfl, dx, eo⟩ := h5
      exact .own ⟨C, dx, _, 1, fR, fdR, ["self"], spReprD C, eo, O.hr, O.rf, Nat.le_refl _, O.okR, O.bdR, o, d.1, d.2.1, d.2.2, rfl, ⟨dx, eo⟩, ok.gd d hd, rfl, rfl⟩
  have i7 : Xro.It X 1 H v6 (lnT e.len) := by
    cases hl : e.len with
    | none => rw [hl] at h6; cases (show v6 = .non from h6); exact dat .non nice_non (by decide) (by decide)
    | some c =>
      rw [hl] at h6
      obtain ⟨o, rfl, dx, eo⟩ := h6
      obtain ⟨g0, g1⟩ := ok.gl c hl
      exact .own ⟨CL, dx, _, 1, gR, gdR, ["self"], spReprL CL, eo, OL.hr, OL.rf, Nat.le_refl _, OL.okR, OL.bdR, o, c, rfl, ⟨dx, eo⟩, g0, g1, rfl, rfl⟩
  have items : Xro.ItL X 1 H [.str e.k.1, .int e.k.2, v2, v3, v4, v5, v6] (its e) := .cons (dat (.str _) a1 (by decide) (by decide)) (.cons (dat (.int _) a2 (by decide) (by decide)) (.cons (dat z3 a3 (by decide) (by decide)) (.cons (dat z4 a4 (by decide) (by decide)) (.cons (dat z5 a5 (by decide) (by decide)) (.cons i6 (.cons i7 .nil))))))
  have lz2 : (tupleText [(PyData.str "told").shown, enR e]).length ≤ sizeLine := Nat.le_trans lz0 (by decide)
  have nested : ∀ {a C' dx : Addr} {fs : List (Str × V)}, V.ref a ∈ [V.str e.k.1, .int e.k.2, v2, v3, v4, v5, v6] → H a = some (.ins C' dx fs) → Xrn.rReprN X 2 [.ref t0] H Q := fun {a C' dx fs} m ea => by
    have ndt : Xrn.ND H t := .tup et m (.ins ea)
    refine ⟨t0, [t], _, [(PyData.str "told").shown, enR e], rfl, e0, .tup e0 (by simp) ndt, by simpa using ne, .cons (Xrn.Shw.mono (Xrn.shw_dat (k := 2) (.str "told") (by decide +kernel) (by decide +kernel) (Nat.le_trans lT (by decide))) (Nat.le_refl _) (fun a h => by cases h)) (.cons (Xrn.shw_tup (k := 1) et ndt (by simp) (Xrn.shl_of items)) .nil), lz2, q⟩
  cases hd : e.day with
  | some d =>
    rw [hd] at h5
    obtain ⟨o, rfl, dx, eo⟩ := h5
    exact Xrn.cr_reprN (k := 2) quiet room pins s σ H _ us Q I r (nested (by simp) eo)
  | none =>
    rw [hd] at h5
    have e5 : v5 = .non := h5
    cases hl : e.len with
    | some c =>
      rw [hl] at h6
      obtain ⟨o, rfl, dx, eo⟩ := h6
      exact Xrn.cr_reprN (k := 2) quiet room pins s σ H _ us Q I r (nested (by simp) eo)
    | none =>
      rw [hl] at h6
      have e6 : v6 = .non := h6
      subst e5 e6
      have sh : (PyData.tuple [.str "told", .tuple [.str e.k.1, .int e.k.2, cdP e.code, nmP e.title, plP e.pl, .none, .none]]).shown = ansT (some e) := by
        rw [show ansT (some e) = tupleText [(PyData.str "told").shown, enR e] from rfl]
        unfold enR its
        rw [hd, hl]
        simp only [PyData.shown, PyData.shownAll, dyT, lnT]
      refine cr_reprZ quiet room pins s σ H _ us Q I r ⟨.ref t0, .tuple [.str "told", .tuple [.str e.k.1, .int e.k.2, cdP e.code, nmP e.title, plP e.pl, .none, .none]], rfl, .tup e0 (.cons (.str _) (.cons (.tup et (.cons (.str _) (.cons (.int _) (.cons z3 (.cons z4 (.cons z5 (.cons .non (.cons .non .nil)))))))) .nil)), ?_, ?_, ?_, ?_⟩
      · simp [PyData.showable, PyData.showableAll, a1.sh, a2.sh, a3.sh, a4.sh, a5.sh]
        simpa [PyData.showable] using a2.sh
      · simp only [PyData.depth, PyData.depthAll]
        have := a3.dp
        have := a4.dp
        have := a5.dp
        omega
      · rw [sh]; exact lz2
      · rw [sh]; exact q
end
def spAlone (e : Ex) : Sp := fun vs H Q _ => ∃ (a : Addr) (fs : List (Str × V)), vs = [.ref a] ∧ Kept H a e.NoText fs ∧ ∀ H', L2.Same H H' → Q (.bl true) H'
theorem ok_alone {f : Addr} {fd : FuncData} {e : Ex} (D : Df K mg "_law_alone" ["_law_e"] sAlone f fd) (T : Txt K mg C CL e) : FnOk P w K mg base CX0 1 f fd ["_law_e"] (spAlone e) := by
  refine D.fn.ok scAlone (fun vs H Q E h => ?_) (fun cdv A outer s H vs Q E hr h => ?_)
  · obtain ⟨a, fs, rfl, k, q⟩ := h
    rfl
  · obtain ⟨a, fs, rfl, k, q⟩ := h
    refine ⟨_, (pss_cons (ps_if (pt_val (pe_callB (call_isKT T.xc) (by rfl) T.isi (by decide +kernel) (pa_cons (pv 0) (pa_cons (pe_tup (pa_cons (pe_glob (v := .ref e.Lost) (by rfl) T.mLost rfl) (pa_cons (pe_glob (v := .ref e.Taken) (by rfl) T.mTaken rfl) (pa_cons (pe_glob (v := .ref e.NoCustom) (by rfl) T.mNoCustom rfl) (pa_cons (pe_glob (v := .ref e.NoDay) (by rfl) T.mNoDay rfl) (pa_cons (pe_glob (v := .ref e.NoDisc) (by rfl) T.mNoDisc rfl) (pa_cons (pe_glob (v := .ref e.NoEntry) (by rfl) T.mNoEntry rfl) (pa_cons (pe_glob (v := .ref e.NoKey) (by rfl) T.mNoKey rfl) (pa_cons (pe_glob (v := .ref e.NoLength) (by rfl) T.mNoLength rfl) pa_nil))))))))) pa_nil)))) (pss_one (ps_ret pe_bl)) pss_nil)
      (pss_cons (ps_if (pt_val (pe_callB (call_isKT T.xc) (by rfl) T.isi (by decide +kernel) (pa_cons (pv 0) (pa_cons (pe_tup (pa_cons (pe_glob (v := .ref e.NoLine) (by rfl) T.mNoLine rfl) (pa_cons (pe_glob (v := .ref e.NoName) (by rfl) T.mNoName rfl) (pa_cons (pe_glob (v := .ref e.NoNumber) (by rfl) T.mNoNumber rfl) (pa_cons (pe_glob (v := .ref e.NoPath) (by rfl) T.mNoPath rfl) (pa_cons (pe_glob (v := .ref e.Same) (by rfl) T.mSame rfl) (pa_cons (pe_glob (v := .ref e.Struck) (by rfl) T.mStruck rfl) (pa_cons (pe_glob (v := .ref e.Twice) (by rfl) T.mTwice rfl) pa_nil)))))))) pa_nil)))) (pss_one (ps_ret pe_bl)) pss_nil)
      (pss_one (ps_ret (pe_and (pe_callB (call_isK T.xc) (by rfl) T.isi (by decide +kernel) (pa_cons (pv 0) (pa_cons (pe_glob (v := .ref e.NoText) (by rfl) T.mNoText rfl) pa_nil))) (pe_and (pe_callB (call_isK T.xc) (by rfl) T.isi (by decide +kernel) (pa_cons (pv 0) (pa_cons (pe_glob (v := .ref e.NotSuch) (by rfl) T.mNotSuch rfl) pa_nil))) (pe_one (pe_callB (call_isK T.xc) (by rfl) T.isi (by decide +kernel) (pa_cons (pv 0) (pa_cons (pe_bltn (v := .ty "ValueError") (by rfl) T.ValueError (by decide +kernel) rfl) pa_nil)))))))))), ?_⟩
    refine ⟨_, rfl, (by show 8 ≤ sizeLine; decide), fun t nt => ⟨a, t, fs, _, _, false, rfl, k.same (same_upd nt), upd_same, (.cons (.own _) (.cons (.own _) (.cons (.own _) (.cons (.own _) (.cons (.own _) (.cons (.own _) (.cons (.own _) (.cons (.own _) .nil)))))))), T.kit1, false, rfl, iteF ?_⟩⟩
    refine ⟨_, rfl, (by show 7 ≤ sizeLine; decide), fun u nu => ⟨a, u, fs, _, _, false, rfl, (k.same (same_upd nt)).same (same_upd nu), upd_same, (.cons (.own _) (.cons (.own _) (.cons (.own _) (.cons (.own _) (.cons (.own _) (.cons (.own _) (.cons (.own _) .nil))))))), T.kit2, false, rfl, iteF ?_⟩⟩
    have k2 := (k.same (same_upd nt (o := .tup [.ref e.Lost, .ref e.Taken, .ref e.NoCustom, .ref e.NoDay, .ref e.NoDisc, .ref e.NoEntry, .ref e.NoKey, .ref e.NoLength]))).same (same_upd nu (o := .tup [.ref e.NoLine, .ref e.NoName, .ref e.NoNumber, .ref e.NoPath, .ref e.Same, .ref e.Struck, .ref e.Twice]))
    refine ⟨_, rfl, a, fs, _, _, true, rfl, k2, .own _, T.kit3, true, rfl, iteT ?_⟩
    refine ⟨_, rfl, a, fs, _, _, true, rfl, k2, .own _, T.kit4, true, rfl, iteT ?_⟩
    exact ⟨_, rfl, a, fs, _, _, true, rfl, k2, .ty _, T.kit5, q _ ((same_upd nt).trans (same_upd nu))⟩
theorem ok_asked {f : Addr} {fd : FuncData} {e : Ex} {fLr : Addr} {fdLr : FuncData} (D : Df K mg "_law_asked" ["_law_row"] sAsked f fd) (T : Txt K mg C CL e) (DLr : Df K mg "read_entry" ["text"] sReadEntry fLr fdLr) (FLr : FnOk P w K mg base (L2.CX P w) 11 fLr fdLr ["text"] (spRd C CL e)) (cA : Ca P w K mg base 1 "_law_alone" ["_law_e"] (spAlone e)) : FnOk P w K mg base CX0 12 f fd ["_law_row"] (spAsk C CL) := by
  refine D.fn.ok scAsked (fun vs H Q E h => ?_) (fun cdv A outer s H vs Q E hr h => ?_)
  · obtain ⟨x, rfl, lx, rx, q⟩ := h
    rfl
  · obtain ⟨x, rfl, lx, rx, q⟩ := h
    refine ⟨_, (pss_cons (ps_asg (pe_tup (pa_cons pe_non (pa_cons pe_non pa_nil))) (pg_tup (by rfl) (pgs_cons (pg_name (i := 1) scAsked.nd rfl (.inl rfl)) (pgs_cons (pg_name (i := 2) scAsked.nd rfl (.inl rfl)) pgs_nil))))
      (pss_cons (ps_try_keep (i := 3) (C1 := e.NotSuch) (C2 := e.Lost) (C3 := e.Taken) rfl rfl rfl scAsked.nd rfl rfl ⟨by rfl, by decide, T.mNotSuch⟩ ⟨by rfl, by decide, T.mLost⟩ ⟨by rfl, by decide, T.mTaken⟩ takes0 (fun W pn xe tk _ =>
        (pss_one (ps_set (i := 2) scAsked.nd rfl (.inl rfl) (pe_callS FLr (hr.mono (by decide)) (by rfl) DLr.mgf DLr.fn.kp DLr.bd (fun σ => passAt tk σ) (pa_cons (pv 0) pa_nil))))) (fun a pn => pss_one (ps_set (i := 1) scAsked.nd rfl (.inl rfl) (pv 3))))
      (pss_cons (ps_if (pt_cmpR op_isN (pv 1) pe_non (nomark _)) (pss_one (ps_ret (pe_tup (pa_cons pe_str (pa_cons (pv 2) pa_nil))))) pss_nil)
      (pss_one (ps_ret (pe_ifExp (pt_val (pe_ca cA hr (by decide) (by rfl) (pa_cons (pv 1) pa_nil))) (pe_tup (pa_cons pe_str (pa_cons (pe_kf T.xc T.f1 (pv 1)) (pa_cons (pe_kf T.xc T.f2 (pv 1)) pa_nil)))) (pe_tup (pa_cons pe_str (pa_cons pe_non pa_nil))))))))), ?_⟩
    refine ⟨(by show 2 ≤ sizeLine; decide), fun t0 n0 => ⟨t0, _, rfl, SqT.of upd_same, rfl, _, _, rfl, _, _, rfl, rfl, ?_⟩⟩
    have s0 := same_upd n0 (o := .tup [.non, .non])
    generalize L2.upd H t0 (.tup [.non, .non]) = H0 at s0 ⊢
    refine ⟨_, rfl, x, rfl, lx, fun v H1 s1 r nv => ?_, fun H1 s1 r p H2 s2 ed => ⟨true, T.exm, fun _ y ny => ?_, fun z => nomatch z⟩⟩
    · have s01 := s0.trans s1
      refine ⟨_, rfl, rfl, _, rfl, iteT ?_⟩
      unfold RE at r
      cases ee : enP x with
      | none => rw [ee] at r; exact absurd r nv
      | some e =>
        rw [ee] at r
        obtain ⟨ok, o, rfl, hE⟩ := r
        refine ⟨_, rfl, (by show 2 ≤ sizeLine; decide), fun t nt => q _ _ (s01.trans (same_upd nt)) ?_⟩
        rw [ee]
        exact ⟨ok, t, o, rfl, upd_same, hE.same (same_upd nt)⟩
    · have sy := same_upd ny (o := ExK (.ref e.NoText) (some p) y)
      have kp : Kept (L2.upd H2 y (ExK (.ref e.NoText) (some p) y)) y e.NoText [("wanted", .str "entry"), ("row", .int 0)] := ⟨p, upd_same, sy _ _ ed⟩
      have s02 := ((s0.trans s1).trans s2).trans sy
      generalize L2.upd H2 y (ExK (.ref e.NoText) (some p) y) = H3 at kp s02 ⊢
      refine ⟨_, rfl, ?_⟩
      refine ⟨_, rfl, rfl, _, rfl, iteF ?_⟩
      refine ⟨_, rfl, y, _, rfl, kp, fun H4 s4 => ⟨true, rfl, iteT ?_⟩⟩
      have kp4 := kp.same s4
      have l1 : ([(("wanted" : Str), V.str "entry"), ("row", .int 0)] : List (Str × V)).lookup ("row" : Str) = some (.int 0) := by
        rw [List.lookup_cons, show (("row" : Str) == ("wanted" : Str)) = false by decide +kernel]
        exact List.lookup_cons_self
      have l2 : ([(("wanted" : Str), V.str "entry"), ("row", .int 0)] : List (Str × V)).lookup ("wanted" : Str) = some (.str "entry") := List.lookup_cons_self
      refine ⟨_, rfl, y, _, .int 0, rfl, kp4, l1, _, rfl, y, _, .str "entry", rfl, kp4, l2, (by show 3 ≤ sizeLine; decide), fun t nt => ?_⟩
      refine q _ _ ((s02.trans s4).trans (same_upd nt)) ?_
      have en : enP x = none := by
        unfold RE at r
        cases ee : enP x with
        | none => rfl
        | some e => rw [ee] at r; obtain ⟨_, _, z, _⟩ := r; cases z
      rw [en]
      exact ⟨t, rfl, upd_same⟩
theorem ok_due {f : Addr} {fd : FuncData} {e : Ex} (D : Df K mg "_law_due" ["_law_row"] sDue f fd) (T : Txt K mg C CL e) (cLe : Ca P w K mg base 5 "_law_entry_in" ["_law_row"] spLe) (cMd : Ca P w K mg base 6 "_law_made" ["_law_entry_here"] (spMd C CL)) : FnOk P w K mg base CX0 7 f fd ["_law_row"] (spAsk C CL) := by
  refine D.fn.ok scDue (fun vs H Q E h => ?_) (fun cdv A outer s H vs Q E hr h => ?_)
  · obtain ⟨x, rfl, lx, rx, q⟩ := h
    rfl
  · obtain ⟨x, rfl, lx, rx, q⟩ := h
    refine ⟨_, (pss_cons (ps_set (i := 1) scDue.nd rfl (.inl rfl) (pe_ca cLe hr (by decide) (by rfl) (pa_cons (pv 0) pa_nil)))
      (pss_one (ps_ret (pe_ifExp (pt_cmpR op_isN (pv 1) pe_non (nomark _)) (pe_tup (pa_cons pe_str (pa_cons pe_int (pa_cons pe_str pa_nil)))) (pe_tup (pa_cons pe_str (pa_cons (pe_ca cMd hr (by decide) (by rfl) (pa_cons (pv 1) pa_nil)) pa_nil))))))), ?_⟩
    refine ⟨_, rfl, x, rfl, lx, rx, fun v H1 s1 r => ?_⟩
    cases ee : enP x with
    | none =>
      rw [ee] at r q
      cases (show v = .non from r)
      exact ⟨_, rfl, rfl, _, rfl, iteT ⟨(by show 3 ≤ sizeLine; decide), fun t nt => q _ _ (s1.trans (same_upd nt)) ⟨t, rfl, upd_same⟩⟩⟩
    | some e =>
      rw [ee] at r q
      obtain ⟨ok, t, rfl, hL⟩ := r
      refine ⟨_, rfl, rfl, _, rfl, iteF ⟨_, rfl, t, e, rfl, hL, ok, fun p H2 s2 hE => ⟨(by show 2 ≤ sizeLine; decide), fun u nu => ?_⟩⟩⟩
      exact q _ _ ((s1.trans s2).trans (same_upd nu)) ⟨ok, u, p, rfl, upd_same, hE.same (same_upd nu)⟩
end
end K64
set_option Elab.async false
set_option linter.all false
set_option maxRecDepth 100000
set_option maxHeartbeats 4000000
set_option pp.maxSteps 400
set_option pp.deepTerms false
namespace K64
open PySem PySem.Spec PyProof.Rows L2
open Xk Az Xtx Xkd Xst Xsp
section
variable {P : Program} {w : World} {K : PySem.W.Frag} {mg : Str → Option Value} {base : Heap} {C CL : Addr}
def spRight : Sp := fun vs H Q _ => ∃ h, vs = [.ref h] ∧ Hand 0 H h ∧ ∀ H', But h H H' → Q (.bl true) H'
def w7 : List Str := ["code A1", "title de:A", "by de:A, de:B", "day 1931", "day 1900-02-29", "day 2000-02-29", "day 0000"]
def w9 : List Str := ["long 0:00", "long 00:01", "long 5999:59", "long 6000:00", "long 0:60", "0", "00", "01", "-1"]
def w10 : List Str := [Xrep.rep "9" 30, "1" ++ Xrep.rep "0" 30, "ab", "ab 0", "x:Y", "de:", "de: A", "de:A ", "de:A  B", "code "]
def w3 : List Str := ["by ", "D", ""]
def bnd : Nat → Nat
  | 0 => 3000
  | 1 => 9050
  | _ => 27200
def bnr : Nat → Nat
  | 0 => 50
  | 1 => 141
  | _ => 323
theorem bnd_le (k : Nat) : bnd k ≤ 27200 ∧ bnr k ≤ 323 := by
  match k with
  | 0 => decide
  | 1 => decide
  | n + 2 => exact ⟨Nat.le_refl _, Nat.le_refl _⟩
theorem bnd_step {k : Nat} {n m : Nat} (hk : k < 2) (h : n ≤ bnd k) (l : m ≤ 3 * n + 50) : m ≤ bnd (k + 1) := by
  match k, hk with
  | 0, _ => have h : n ≤ 3000 := h; show m ≤ 9050; omega
  | 1, _ => have h : n ≤ 9050 := h; show m ≤ 27200; omega
theorem bnd2 {k : Nat} (hk : k < 2) : bnd k ≤ 10000 := by
  match k, hk with
  | 0, _ => decide
  | 1, _ => decide
theorem bnr_step {k : Nat} (hk : k < 2) : 2 * bnr k + 41 ≤ bnr (k + 1) := by
  match k, hk with
  | 0, _ => decide
  | 1, _ => decide
theorem ok_right {f : Addr} {fd : FuncData} {e : Ex} {fS fR gS gR : Addr} {fdS fdR gdS gdR : FuncData} (D : Df K mg "_law_right" ["_law_hand_here"] sRight f fd) (T : Txt K mg C CL e) (O : Sh P w K mg base C 1 fS fR fdS fdR (spStrD C) (spReprD C)) (OL : Sh P w K mg base CL 2 gS gR gdS gdR (spStrL CL) (spReprL CL)) (cP : Ca P w K mg base 2 "_law_pick" ["_law_hand_here", "_law_some"] spPick) (cEn : Ca P w K mg base 4 "_law_entry" ["_law_hand_here"] spEn) (cEt : Ca P w K mg base 2 "_law_entry_text" ["_law_entry_here"] spEt) (cBn : Ca P w K mg base 3 "_law_bent" ["_law_hand_here", "_law_text", "_law_words"] spBent) (cAs : Ca P w K mg base 12 "_law_asked" ["_law_row"] (spAsk C CL)) (cDu : Ca P w K mg base 7 "_law_due" ["_law_row"] (spAsk C CL)) : Gn P w K mg base 13 f fd ["_law_hand_here"] spRight := by
  refine gn_body D.fn scRight (fun vs H Q E h => ?_) (fun cdv A outer s H vs Q E hg hr h => ?_)
  · obtain ⟨h, rfl, hh, q⟩ := h
    rfl
  · obtain ⟨h, rfl, hh, q⟩ := h
    refine ⟨_, (pss_cons (ps_set (i := 1) scRight.nd rfl (.inl rfl) (pe_ca cEt hr (by decide) (by rfl) (pa_cons (pe_ca cEn hr (by decide) (by rfl) (pa_cons (pv 0) pa_nil)) pa_nil)))
      (pss_cons (ps_set (i := 2) scRight.nd rfl (.inl rfl) (pe_lst (pa_cons pe_str (pa_cons pe_str (pa_cons pe_str (pa_cons pe_str (pa_cons pe_str (pa_cons pe_str (pa_cons pe_str pa_nil)))))))))
      (pss_cons (ps_set (i := 2) scRight.nd rfl (.inl rfl) (pe_op op_cat (pv 2) (pe_lst (pa_cons pe_str (pa_cons pe_str (pa_cons pe_str (pa_cons pe_str (pa_cons pe_str (pa_cons pe_str (pa_cons pe_str (pa_cons pe_str (pa_cons pe_str pa_nil))))))))))))
      (pss_cons (ps_set (i := 2) scRight.nd rfl (.inl rfl) (pe_op op_cat (pv 2) (pe_lst (pa_cons (pe_op Xrep.op_rep pe_str pe_int) (pa_cons (pe_op op_add_str pe_str (pe_op Xrep.op_rep pe_str pe_int)) (pa_cons pe_str (pa_cons pe_str (pa_cons pe_str (pa_cons pe_str (pa_cons pe_str (pa_cons pe_str (pa_cons pe_str (pa_cons pe_str pa_nil)))))))))))))
      (C8.pss_cut (ps_set (i := 2) scRight.nd rfl (.inl rfl) (pe_op op_cat (pv 2) (pe_lst (pa_cons pe_str (pa_cons pe_str (pa_cons pe_str pa_nil))))))
      (pss_cons (ps_for PassesOwn.never rfl (pi_range1 (by rfl) T.range (pa_cons pe_int pa_nil)) (pg_name (i := 3) scRight.nd rfl (.inl rfl)) (pss_cons (ps_set (i := 4) scRight.nd rfl (.inl rfl) (pv 1))
      (pss_cons (ps_for PassesOwn.never rfl (pi_range1 (by rfl) T.range (pa_cons (pe_ca cP hr (by decide) (by rfl) (pa_cons (pv 0) (pa_cons (pe_lst (pa_cons pe_int (pa_cons pe_int (pa_cons pe_int (pa_cons pe_int pa_nil))))) pa_nil))) pa_nil)) (pg_name (i := 5) scRight.nd rfl (.inl rfl)) (pss_one (ps_set (i := 4) scRight.nd rfl (.inl rfl) (pe_ca cBn hr (by decide) (by rfl) (pa_cons (pv 0) (pa_cons (pv 4) (pa_cons (pv 2) pa_nil)))))))
      (pss_one (ps_if (pt_cmpR op_ne (pe_callB (cr_ans hg (hr.mono (by decide)) O OL) (by rfl) T.repr (by decide +kernel) (pa_cons (pe_ca cAs hr (by decide) (by rfl) (pa_cons (pv 4) pa_nil)) pa_nil)) (pe_callB (cr_ans hg (hr.mono (by decide)) O OL) (by rfl) T.repr (by decide +kernel) (pa_cons (pe_ca cDu hr (by decide) (by rfl) (pa_cons (pv 4) pa_nil)) pa_nil)) (nomark _)) (pss_one (ps_ret pe_bl)) pss_nil)))))
      (pss_one (ps_ret pe_bl)))))))), ?_⟩
    refine ⟨_, rfl, h, 0, rfl, hh, by decide, fun t e H1 hL ok h1 b1 => ⟨t, e, rfl, hL, ok, fun H2 s2 => ?_⟩⟩
    have h2 : Hand 5000 H2 h := (h1.same s2).mono (by decide)
    have b2 := b1.trans (Same.but s2 h)
    clear h1 b1 hL
    have k1 : ("1" : Str).length = 1 := by decide +kernel
    have k30 : (Xrep.rep "0" 30).length = 30 := by decide +kernel
    refine ⟨(by show 7 ≤ sizeLine; decide), fun W1 n1 => ⟨_, rfl, (by show 9 ≤ sizeLine; decide), fun W2 n2 => ⟨W1, W2, w7.map V.str, w9.map V.str, rfl, rfl, same_upd n2 _ _ upd_same, upd_same, (by show 16 ≤ sizeLine; decide), fun W3 n3 => ?_⟩⟩⟩
    refine ⟨_, rfl, "9", 30, rfl, rfl, by decide, by decide +kernel, "0", 30, rfl, rfl, by decide, by decide +kernel, _, _, rfl, rfl, fitN (by rw [k1, k30]; decide), (by show 10 ≤ sizeLine; decide), fun W4 n4 => ⟨W3, W4, (w7 ++ w9).map V.str, w10.map V.str, rfl, rfl, same_upd n4 _ _ (by rw [upd_same, List.map_append]), upd_same, (by show 26 ≤ sizeLine; decide), fun W5 n5 => ?_⟩⟩
    have s25 := (((same_upd n1).trans (same_upd n2)).trans (same_upd n3)).trans ((same_upd n4).trans (same_upd n5 (o := .lst ((w7 ++ w9).map V.str ++ w10.map V.str))))
    refine ⟨fun σ Hx => ∃ (W : Addr) (ws : List Str), σ = [some (.ref h), some (.str (enT e)), some (.ref W), none, none, none] ∧ Hx W = some (.lst (ws.map V.str)) ∧ ws ≠ [] ∧ ws.length < 1000 ∧ (∀ w ∈ ws, w.length ≤ 41) ∧ W ≠ h ∧ Hand 5000 Hx h ∧ But h H Hx, ?_, ?_⟩
    · refine ⟨_, rfl, (by show 3 ≤ sizeLine; decide), fun W6 n6 => ⟨W5, W6, (w7 ++ w9 ++ w10).map V.str, w3.map V.str, rfl, rfl, same_upd n6 _ _ (by rw [upd_same, ← List.map_append]), upd_same, (by show 29 ≤ sizeLine; decide), fun W n => ?_⟩⟩
      have s6 := (same_upd n6).trans (same_upd n (o := .lst ((w7 ++ w9 ++ w10).map V.str ++ w3.map V.str)))
      have h5 := h2.same s25
      exact ⟨W, w7 ++ w9 ++ w10 ++ w3, rfl, by rw [upd_same, ← List.map_append], by simp [w7], by decide +kernel, by decide +kernel, (h5.same (same_upd n6)).fresh n, h5.same s6, (b2.trans (Same.but s25 h)).trans (Same.but s6 h)⟩
    clear s25 h2 b2 n1 n2 n3 n4 n5
    rintro σ H6 ⟨W, ws, rfl, eW, wne, wl, w41, Wh, h6, b6⟩
    have el := en_len ok
    have er := en_run ok
    refine ⟨_, rfl, by decide, by decide, for_range (lo := 0) (fun i σ Hi => ∃ (c3 c4 c5 : Option V), σ = [some (.ref h), some (.str (enT e)), some (.ref W), c3, c4, c5] ∧ Hi W = some (.lst (ws.map V.str)) ∧ Hand (5000 + 100 * (i : Int)) Hi h ∧ But h H Hi) ?_ ?_ ?_⟩
    · exact ⟨none, none, none, rfl, eW, h6.mono (by omega), b6⟩
    · rintro i σ Hi hi ⟨c3, c4, c5, rfl, eWi, hd, bt⟩
      have i6 : i < 6 := hi
      refine ⟨_, rfl, _, rfl, (by show 4 ≤ sizeLine; decide), fun l1 n1 => ?_⟩
      have s1 := same_upd n1 (o := .lst [.int 0, .int 1, .int 1, .int 2])
      refine ⟨h, _, _, rfl, hd.same s1, by show 5000 + 100 * (i : Int) ≤ 1000000; omega, .inl ⟨l1, _, rfl, upd_same, hd.fresh n1, by simp, by show 4 < 1000; decide, fun v H7 mv h7 b7 => ?_⟩⟩
      obtain ⟨m, rfl, m0, m2⟩ : ∃ m : Int, v = .int m ∧ 0 ≤ m ∧ m ≤ 2 := by
        simp only [List.mem_cons, List.not_mem_nil, or_false] at mv
        rcases mv with z | z | z | z
        · exact ⟨0, z, by decide, by decide⟩
        · exact ⟨1, z, by decide, by decide⟩
        · exact ⟨1, z, by decide, by decide⟩
        · exact ⟨2, z, by decide, by decide⟩
      have bt7 := (bt.trans (Same.but s1 h)).trans b7
      have eW7 := b7 _ _ Wh (s1 _ _ eWi)
      refine ⟨m, rfl, by omega, by omega, for_range (lo := 0) (fun k σ Hk => ∃ (y : Str) (c5 : Option V), σ = [some (.ref h), some (.str (enT e)), some (.ref W), some (.int (0 + (i : Int))), some (.str y), c5] ∧ Hk W = some (.lst (ws.map V.str)) ∧ Hand (5000 + 100 * (i : Int) + 1 + 10 * (k : Int)) Hk h ∧ But h H Hk ∧ y.length ≤ bnd k ∧ Run (bnr k) y) ?_ ?_ ?_⟩
      · exact ⟨enT e, c5, rfl, eW7, h7.mono (by omega), bt7, el, er⟩
      · rintro k σ Hk hk ⟨y, c5, rfl, eWk, hdk, btk, ly, ry⟩
        have k2 : k < 2 := by
          have : k < m.toNat := hk
          omega
        have ly2 : y.length ≤ 10000 := Nat.le_trans ly (bnd2 k2)
        refine ⟨_, rfl, _, rfl, _, rfl, h, W, _, y, ws, bnr k, rfl, eWk, Wh, wne, wl, w41, ly2, ry, hdk, by show 5000 + 100 * (i : Int) + 1 + 10 * (k : Int) + 20 ≤ 1000000; omega, fun y2 H8 l8 r8 h8 b8 => ?_⟩
        exact ⟨y2, _, rfl, b8 _ _ Wh eWk, h8.mono (by push_cast; omega), btk.trans b8, bnd_step k2 ly l8, r8.mono (bnr_step k2)⟩
      · rintro σ Hk ⟨y, c5, rfl, eWk, hdk, btk, ly, ry⟩
        have lk := bnd_le m.toNat
        have ly3 : y.length ≤ 30000 := Nat.le_trans ly (by omega)
        have ry3 : Run 640 y := ry.mono (by omega)
        have hdk2 : Hand (5000 + 100 * (i : Int) + 1 + 10 * ((m.toNat : Nat) : Int)) Hk h := hdk
        refine ⟨_, rfl, y, rfl, ly3, ry3, fun v1 H9 s9 a1 => ⟨v1, _, rfl, a1, _, rfl, y, rfl, ly3, ry3, fun v2 HA sA a2 => ⟨v2, _, rfl, a2, rfl, _, rfl, ?_⟩⟩⟩
        have e1 : (!decide (V.str (ansT (enP y)) = V.str (ansT (enP y)))) = false := by simp
        rw [e1]
        have sall := s9.trans sA
        exact iteF ⟨_, _, _, rfl, sall _ _ eWk, (hdk2.same sall).mono (by push_cast; omega), btk.trans (Same.but sall h)⟩
    · rintro σ Hi ⟨c3, c4, c5, rfl, eWi, hd, bt⟩
      exact q _ bt
def spLaw (K : PySem.W.Frag) : Sp := fun vs H Q _ => ∃ (a : Addr) (ns : List Int), vs = [.ref a] ∧ SqL K H a (ns.map V.int) ∧ ns.length ≤ 63 ∧ ∀ H', Q (.bl true) H'
theorem ok_law {f : Addr} {fd : FuncData} {e : Ex} {fR : Addr} {fdR : FuncData} (D : Df K mg "law" ["_law_script"] sLaw f fd) (T : Txt K mg C CL e) (cH : Ca P w K mg base 1 "_law_hand" ["_law_script", "_law_k"] (spHand K)) (DR : Df K mg "_law_right" ["_law_hand_here"] sRight fR fdR) (GR : Gn P w K mg base 13 fR fdR ["_law_hand_here"] spRight) : Gn P w K mg base 14 f fd ["_law_script"] (spLaw K) := by
  refine gn_body D.fn scLaw (fun vs H Q E h => ?_) (fun cdv A outer s H vs Q E hg hr h => ?_)
  · obtain ⟨a, ns, rfl, hS, hlen, q⟩ := h
    rfl
  · obtain ⟨a, ns, rfl, hS, hlen, q⟩ := h
    refine ⟨_, (pss_one (ps_ret (pe_callB (cr_all (by rfl)) (by rfl) T.all (by decide +kernel) (pa_cons (pe_lc (own := [("_law_k", 1)]) (g := gName 1) (tt := tYes) (te := tCall spRight [] E0 (tCons (tCall (spHand K) [] E0 (tCons (tVar 0) (tCons (tVar 1) tNil))) tNil)) (by rfl) scLaw.nd (pi_range1 (by rfl) T.range (pa_cons (pe_op op_add pe_int (pe_callB (call_min2 (by rfl)) (by rfl) T.min (by decide +kernel) (pa_cons pe_int (pa_cons (pe_callB call_len_seq (by rfl) T.len PySem.boot_len (pa_cons (pv 0) pa_nil)) pa_nil)))) pa_nil)) (blkOk_by (own := [("_law_k", 1)]) (N := ["_law_script", "_law_k"]) (sc := defScope sLaw) (by decide +kernel)) (fun _ _ _ _ _ => pg_name (i := 1) scLaw.nd rfl (.inl rfl)) (fun _ _ _ _ _ => pts_nil) (fun _ _ _ _ _ => pe_gn GR hg hr (by rfl) DR.mgf DR.fn.kp DR.bd (pa_cons (pe_ca cH hr (by decide) (by rfl) (pa_cons (pv 0) (pa_cons (pv 1) pa_nil))) pa_nil))) pa_nil)))), ?_⟩
    refine ⟨_, rfl, a, _, rfl, .inl hS, 4, _, rfl, _, _, rfl, rfl, _, rfl, ?_, ?_, fun L nL => ?_⟩
    · show -(2 ^ 62) ≤ 2 + (if ((ns.map V.int).length : Int) < 4 then ((ns.map V.int).length : Int) else 4)
      split <;> omega
    · show 2 + (if ((ns.map V.int).length : Int) < 4 then ((ns.map V.int).length : Int) else 4) < 2 ^ 62
      split <;> omega
    refine lc_range (lo := 0) (fun i Hi => L2.Same H Hi ∧ Hi L = some (.lst ((List.replicate i true).map V.bl))) ⟨same_upd nL, upd_same⟩ ?_ ?_
    · rintro i Hi hi ⟨sm, hL⟩
      have hi' : i < 7 := by
        have : i < (2 + (if ((ns.map V.int).length : Int) < 4 then ((ns.map V.int).length : Int) else 4)).toNat := hi
        split at this <;> omega
      refine ⟨rfl, ?_⟩
      unfold tYes
      refine iteT ?_
      refine ⟨_, rfl, _, rfl, a, 0 + (i : Int), ns, rfl, by omega, sm.seq hS, fun p g m' np g0 m0' m1' => ?_⟩
      refine ⟨p, rfl, ⟨g, m', 0, upd_same, g0, m0', m1', Int.le_refl _, Int.le_refl _⟩, fun H' bt => ?_⟩
      have nLp : L ≠ p := ne_of_none hL np
      refine ⟨_, bt L _ nLp (same_upd np _ _ hL), ?_, fun b o e => ?_, ?_⟩
      · rw [List.length_map, List.length_replicate]
        exact Nat.lt_of_le_of_lt (show i ≤ 1000 by omega) (by decide)
      · rw [upd_ne (ne_of_none e nL)]
        have e2 := sm _ _ e
        exact bt _ _ (ne_of_none e2 np) (same_upd np _ _ e2)
      · rw [upd_same, List.replicate_succ', List.map_append]
        rfl
    · rintro He ⟨sm, hL⟩
      refine ⟨L, _, rfl, SqL.of hL, ?_⟩
      rw [show (List.replicate _ true).all id = true from List.all_eq_true.mpr fun b hb => (List.mem_replicate.mp hb).2]
      exact q _
end
end K64
set_option Elab.async false
set_option linter.all false
set_option maxRecDepth 100000
set_option maxHeartbeats 4000000
set_option pp.maxSteps 400
set_option pp.deepTerms false
namespace K64
open PySem PySem.Spec PyProof.Rows L2
open Xk Az Xtx Xkd Xst Xsp
theorem kit_self {K : PySem.W.Frag} {C : Addr} : PySem.W.kitOne K (.ref C) (.ref C) = some true := by
  unfold PySem.W.kitOne
  simp
theorem kit_in {K : PySem.W.Frag} {t : Value} {c : Addr} {b : Bool} (ic : PySem.W.isClsIn K c = true) (ty : PySem.W.typeIn K (.ref c) = some (.type "type")) (sb : PySem.W.subIn K t (.ref c) = some b) : PySem.W.kitCls K t (.ref c) = some b := by
  have h : ((PySem.W.clsIn K c).isSome && PySem.W.typeIn K (.ref c) == some (.type "type")) = true := by
    rw [show (PySem.W.clsIn K c).isSome = true from ic, ty]
    rfl
  unfold PySem.W.kitCls
  simp only [h, if_true]
  exact sb
theorem kit_no {K : PySem.W.Frag} {a c : Addr} (ic : PySem.W.isClsIn K c = true) (ty : PySem.W.typeIn K (.ref c) = some (.type "type")) (sb : PySem.W.subIn K (.ref a) (.ref c) = some false) (me : PySem.W.subIn K (.ref a) (.ref a) = some true) :
    PySem.W.kitOne K (.ref a) (.ref c) = some false := by
  have ne : ((Value.ref a == Value.ref c) = true) = False := by
    refine propext ⟨fun z => ?_, False.elim⟩
    have z2 : a = c := Value.ref.inj (beq_iff_eq.mp z)
    rw [← z2, me] at sb
    cases sb
  unfold PySem.W.kitOne
  simp only [ne, if_false]
  exact kit_in ic ty sb
theorem kit_yes {K : PySem.W.Frag} {a c : Addr} (ic : PySem.W.isClsIn K c = true) (ty : PySem.W.typeIn K (.ref c) = some (.type "type")) (sb : PySem.W.subIn K (.ref a) (.ref c) = some true) : PySem.W.kitOne K (.ref a) (.ref c) = some true := by
  unfold PySem.W.kitOne
  split
  · rfl
  · exact kit_in ic ty sb
theorem kit_ve {K : PySem.W.Frag} {a : Addr} (sb : PySem.W.subIn K (.ref a) (.type "ValueError") = some true) : PySem.W.kitOne K (.ref a) (.type "ValueError") = some true := by
  have h : PySem.W.kitMeta "ValueError" = true := by decide +kernel
  unfold PySem.W.kitOne PySem.W.kitCls
  split
  · rfl
  · simp only [h, if_true]
    exact sb
theorem kit_skip {K : PySem.W.Frag} {t c : Value} {r : List Value} {b : Bool} (h : PySem.W.kitOne K t c = some false) (hr : PySem.W.kitAny K t r = some b) : PySem.W.kitAny K t (c :: r) = some b := by
  unfold PySem.W.kitAny
  rw [h]
  exact hr
theorem exm_is {K : PySem.W.Frag} {t : Value} {c : Addr} {b : Bool} (ic : PySem.W.isClsIn K c = true) (ty : PySem.W.typeIn K (.ref c) = some (.type "type")) (be : PySem.W.subIn K (.ref c) (.type "BaseException") = some true) (sb : PySem.W.subIn K t (.ref c) = some b) :
    PySem.W.exmOne K t (.ref c) = some b := by
  unfold PySem.W.exmOne
  rw [be, if_pos (by decide)]
  exact kit_in ic ty sb
theorem exm_3 {K : PySem.W.Frag} {t c1 c2 c3 : Value} {b2 b3 : Bool} (h1 : PySem.W.exmOne K t c1 = some true) (h2 : PySem.W.exmOne K t c2 = some b2) (h3 : PySem.W.exmOne K t c3 = some b3) : PySem.W.exmAny K t [c1, c2, c3] = some true := by
  unfold PySem.W.exmAny PySem.W.exmAny PySem.W.exmAny PySem.W.exmAny
  rw [h1, h2, h3]
  rfl
open He Xhd
theorem all_mk {l : PySem.W.OpenLaw} {w : World} {K : PySem.W.Frag} {h : Heap} {mg : Str → Option Value} {fa cDay cLength cNotSuch cLost cTaken cNoCustom cNoDay cNoDisc cNoEntry cNoKey cNoLength cNoLine cNoName cNoNumber cNoPath cSame cStruck cTwice cNoText f0 f1 f2 f3 f4 f5 f6 f7 f8 f9 f10 f11 f12 f13 f14 f15 f16 f17 f18 f19 f20 f21 f22 f23 f24 f25 f26 f27 f28 f29 f30 f31 f32 f33 f34 f35 f36 f37 f38 f39 f40 f41 f42 f43 f44 f45 f46 f47 f48 f49 f50 f51 f52 f53 f54 f55 f56 f57 f58 f59 f60 f61 f62 f63 f64 f65 f66 f67 f68 f69 f70 f71 gMONTH_DAYS gFIELDS : Addr} {fd0 fd1 fd2 fd3 fd4 fd5 fd6 fd7 fd8 fd9 fd10 fd11 fd12 fd13 fd14 fd15 fd16 fd17 fd18 fd19 fd20 fd21 fd22 fd23 fd24 fd25 fd26 fd27 fd28 fd29 fd30 fd31 fd32 fd33 fd34 fd35 fd36 fd37 fd38 fd39 fd40 fd41 fd42 fd43 fd44 fd45 fd46 fd47 fd48 fd49 fd50 fd51 fd52 fd53 fd54 fd55 fd56 fd57 fd58 fd59 fd60 fd61 fd62 fd63 fd64 fd65 fd66 fd67 fd68 fd69 fd70 fd71 : FuncData}
    (X : K.In h) (G : h.Ns mainGlobals mg) (hfa : mg "law" = some (.ref fa))
    (a_Day : PySem.W.nsIn K mainGlobals "Day" = some (some (.ref cDay)))
    (a_Length : PySem.W.nsIn K mainGlobals "Length" = some (some (.ref cLength)))
    (a_NotSuch : PySem.W.nsIn K mainGlobals "NotSuch" = some (some (.ref cNotSuch)))
    (a_Lost : PySem.W.nsIn K mainGlobals "Lost" = some (some (.ref cLost)))
    (a_Taken : PySem.W.nsIn K mainGlobals "Taken" = some (some (.ref cTaken)))
    (a_NoCustom : PySem.W.nsIn K mainGlobals "NoCustom" = some (some (.ref cNoCustom)))
    (a_NoDay : PySem.W.nsIn K mainGlobals "NoDay" = some (some (.ref cNoDay)))
    (a_NoDisc : PySem.W.nsIn K mainGlobals "NoDisc" = some (some (.ref cNoDisc)))
    (a_NoEntry : PySem.W.nsIn K mainGlobals "NoEntry" = some (some (.ref cNoEntry)))
    (a_NoKey : PySem.W.nsIn K mainGlobals "NoKey" = some (some (.ref cNoKey)))
    (a_NoLength : PySem.W.nsIn K mainGlobals "NoLength" = some (some (.ref cNoLength)))
    (a_NoLine : PySem.W.nsIn K mainGlobals "NoLine" = some (some (.ref cNoLine)))
    (a_NoName : PySem.W.nsIn K mainGlobals "NoName" = some (some (.ref cNoName)))
    (a_NoNumber : PySem.W.nsIn K mainGlobals "NoNumber" = some (some (.ref cNoNumber)))
    (a_NoPath : PySem.W.nsIn K mainGlobals "NoPath" = some (some (.ref cNoPath)))
    (a_Same : PySem.W.nsIn K mainGlobals "Same" = some (some (.ref cSame)))
    (a_Struck : PySem.W.nsIn K mainGlobals "Struck" = some (some (.ref cStruck)))
    (a_Twice : PySem.W.nsIn K mainGlobals "Twice" = some (some (.ref cTwice)))
    (a_NoText : PySem.W.nsIn K mainGlobals "NoText" = some (some (.ref cNoText)))
    (a0 : PySem.W.findIn K (.ref cNoText) "__init__" = some (some (.ref f0)))
    (i0 : PySem.W.isFn K (.ref f0) = true)
    (F0 : L2.Fun K "__init__" "NoText.__init__" sNoTextInit f0 fd0)
    (a1 : PySem.W.nsIn K mainGlobals "is_whole" = some (some (.ref f1)))
    (F1 : L2.Fun K "is_whole" "is_whole" sIsWhole f1 fd1)
    (a2 : PySem.W.nsIn K mainGlobals "is_within" = some (some (.ref f2)))
    (F2 : L2.Fun K "is_within" "is_within" sIsWithin f2 fd2)
    (a3 : PySem.W.nsIn K mainGlobals "is_text_of" = some (some (.ref f3)))
    (F3 : L2.Fun K "is_text_of" "is_text_of" sIsTextOf f3 fd3)
    (a4 : PySem.W.nsIn K mainGlobals "is_small_text" = some (some (.ref f4)))
    (F4 : L2.Fun K "is_small_text" "is_small_text" sIsSmallText f4 fd4)
    (a5 : PySem.W.nsIn K mainGlobals "is_word" = some (some (.ref f5)))
    (F5 : L2.Fun K "is_word" "is_word" sIsWord f5 fd5)
    (a6 : PySem.W.nsIn K mainGlobals "are_rising" = some (some (.ref f6)))
    (F6 : L2.Fun K "are_rising" "are_rising" sAreRising f6 fd6)
    (a7 : PySem.W.nsIn K mainGlobals "is_leap" = some (some (.ref f7)))
    (F7 : L2.Fun K "is_leap" "is_leap" sIsLeap f7 fd7)
    (a8 : PySem.W.nsIn K mainGlobals "days_in" = some (some (.ref f8)))
    (F8 : L2.Fun K "days_in" "days_in" sDaysIn f8 fd8)
    (a9 : PySem.W.nsIn K mainGlobals "makes_day" = some (some (.ref f9)))
    (F9 : L2.Fun K "makes_day" "makes_day" sMakesDay f9 fd9)
    (a10 : PySem.W.findIn K (.ref cDay) "__init__" = some (some (.ref f10)))
    (i10 : PySem.W.isFn K (.ref f10) = true)
    (F10 : FunD K "__init__" "Day.__init__" (defArgs sDayInit) (defBody sDayInit) (defScope sDayInit) [.non, .non] [] f10 fd10)
    (a11 : PySem.W.findIn K (.ref cDay) "__str__" = some (some (.ref f11)))
    (i11 : PySem.W.isFn K (.ref f11) = true)
    (F11 : L2.Fun K "__str__" "Day.__str__" sDayStr f11 fd11)
    (a12 : PySem.W.findIn K (.ref cDay) "__repr__" = some (some (.ref f12)))
    (i12 : PySem.W.isFn K (.ref f12) = true)
    (F12 : L2.Fun K "__repr__" "Day.__repr__" sDayRepr f12 fd12)
    (a13 : PySem.W.nsIn K mainGlobals "beyond_minutes" = some (some (.ref f13)))
    (F13 : L2.Fun K "beyond_minutes" "beyond_minutes" sBeyondMinutes f13 fd13)
    (a14 : PySem.W.findIn K (.ref cLength) "__init__" = some (some (.ref f14)))
    (i14 : PySem.W.isFn K (.ref f14) = true)
    (F14 : L2.Fun K "__init__" "Length.__init__" sLengthInit f14 fd14)
    (a15 : PySem.W.findIn K (.ref cLength) "__str__" = some (some (.ref f15)))
    (i15 : PySem.W.isFn K (.ref f15) = true)
    (F15 : L2.Fun K "__str__" "Length.__str__" sLengthStr f15 fd15)
    (a16 : PySem.W.findIn K (.ref cLength) "__repr__" = some (some (.ref f16)))
    (i16 : PySem.W.isFn K (.ref f16) = true)
    (F16 : L2.Fun K "__repr__" "Length.__repr__" sLengthRepr f16 fd16)
    (a17 : PySem.W.nsIn K mainGlobals "is_tongue" = some (some (.ref f17)))
    (F17 : L2.Fun K "is_tongue" "is_tongue" sIsTongue f17 fd17)
    (a18 : PySem.W.nsIn K mainGlobals "is_name_text" = some (some (.ref f18)))
    (F18 : L2.Fun K "is_name_text" "is_name_text" sIsNameText f18 fd18)
    (a19 : PySem.W.nsIn K mainGlobals "is_name" = some (some (.ref f19)))
    (F19 : L2.Fun K "is_name" "is_name" sIsName f19 fd19)
    (a20 : PySem.W.nsIn K mainGlobals "is_key" = some (some (.ref f20)))
    (F20 : L2.Fun K "is_key" "is_key" sIsKey f20 fd20)
    (a21 : PySem.W.nsIn K mainGlobals "is_code" = some (some (.ref f21)))
    (F21 : L2.Fun K "is_code" "is_code" sIsCode f21 fd21)
    (a22 : PySem.W.nsIn K mainGlobals "are_players" = some (some (.ref f22)))
    (F22 : L2.Fun K "are_players" "are_players" sArePlayers f22 fd22)
    (a23 : PySem.W.nsIn K mainGlobals "is_entry" = some (some (.ref f23)))
    (F23 : L2.Fun K "is_entry" "is_entry" sIsEntry f23 fd23)
    (a24 : PySem.W.nsIn K mainGlobals "key_of" = some (some (.ref f24)))
    (F24 : L2.Fun K "key_of" "key_of" sKeyOf f24 fd24)
    (a25 : PySem.W.nsIn K mainGlobals "field_of" = some (some (.ref f25)))
    (F25 : L2.Fun K "field_of" "field_of" sFieldOf f25 fd25)
    (a26 : PySem.W.nsIn K mainGlobals "show_name" = some (some (.ref f26)))
    (F26 : L2.Fun K "show_name" "show_name" sShowName f26 fd26)
    (a27 : PySem.W.nsIn K mainGlobals "show_key" = some (some (.ref f27)))
    (F27 : L2.Fun K "show_key" "show_key" sShowKey f27 fd27)
    (a28 : PySem.W.nsIn K mainGlobals "show_told" = some (some (.ref f28)))
    (F28 : L2.Fun K "show_told" "show_told" sShowTold f28 fd28)
    (a29 : PySem.W.nsIn K mainGlobals "show_entry" = some (some (.ref f29)))
    (F29 : L2.Fun K "show_entry" "show_entry" sShowEntry f29 fd29)
    (a30 : PySem.W.nsIn K mainGlobals "are_figures" = some (some (.ref f30)))
    (F30 : L2.Fun K "are_figures" "are_figures" sAreFigures f30 fd30)
    (a31 : PySem.W.nsIn K mainGlobals "number_in" = some (some (.ref f31)))
    (F31 : L2.Fun K "number_in" "number_in" sNumberIn f31 fd31)
    (a32 : PySem.W.nsIn K mainGlobals "day_in" = some (some (.ref f32)))
    (F32 : L2.Fun K "day_in" "day_in" sDayIn f32 fd32)
    (a33 : PySem.W.nsIn K mainGlobals "length_in" = some (some (.ref f33)))
    (F33 : L2.Fun K "length_in" "length_in" sLengthIn f33 fd33)
    (a34 : PySem.W.nsIn K mainGlobals "name_in" = some (some (.ref f34)))
    (F34 : L2.Fun K "name_in" "name_in" sNameIn f34 fd34)
    (a35 : PySem.W.nsIn K mainGlobals "key_in" = some (some (.ref f35)))
    (F35 : L2.Fun K "key_in" "key_in" sKeyIn f35 fd35)
    (a36 : PySem.W.nsIn K mainGlobals "all_in" = some (some (.ref f36)))
    (F36 : L2.Fun K "all_in" "all_in" sAllIn f36 fd36)
    (a37 : PySem.W.nsIn K mainGlobals "names_in" = some (some (.ref f37)))
    (F37 : L2.Fun K "names_in" "names_in" sNamesIn f37 fd37)
    (a38 : PySem.W.nsIn K mainGlobals "code_in" = some (some (.ref f38)))
    (F38 : L2.Fun K "code_in" "code_in" sCodeIn f38 fd38)
    (a39 : PySem.W.nsIn K mainGlobals "told_in" = some (some (.ref f39)))
    (F39 : L2.Fun K "told_in" "told_in" sToldIn f39 fd39)
    (a40 : PySem.W.nsIn K mainGlobals "entry_in" = some (some (.ref f40)))
    (F40 : L2.Fun K "entry_in" "entry_in" sEntryIn f40 fd40)
    (a41 : PySem.W.nsIn K mainGlobals "so_written" = some (some (.ref f41)))
    (F41 : FunD K "so_written" "so_written" (defArgs sSoWritten) (defBody sSoWritten) (defScope sSoWritten) [.int 0] [] f41 fd41)
    (a42 : PySem.W.nsIn K mainGlobals "read_entry" = some (some (.ref f42)))
    (F42 : L2.Fun K "read_entry" "read_entry" sReadEntry f42 fd42)
    (a43 : PySem.W.nsIn K mainGlobals "_law_hand" = some (some (.ref f43)))
    (F43 : L2.Fun K "_law_hand" "_law_hand" sHand f43 fd43)
    (a44 : PySem.W.nsIn K mainGlobals "_law_take" = some (some (.ref f44)))
    (F44 : L2.Fun K "_law_take" "_law_take" sTake f44 fd44)
    (a45 : PySem.W.nsIn K mainGlobals "_law_pick" = some (some (.ref f45)))
    (F45 : L2.Fun K "_law_pick" "_law_pick" sPick f45 fd45)
    (a46 : PySem.W.nsIn K mainGlobals "_law_last" = some (some (.ref f46)))
    (F46 : L2.Fun K "_law_last" "_law_last" sLast f46 fd46)
    (a47 : PySem.W.nsIn K mainGlobals "_law_parts" = some (some (.ref f47)))
    (F47 : L2.Fun K "_law_parts" "_law_parts" sParts f47 fd47)
    (a48 : PySem.W.nsIn K mainGlobals "_law_day_text" = some (some (.ref f48)))
    (F48 : L2.Fun K "_law_day_text" "_law_day_text" sDayText f48 fd48)
    (a49 : PySem.W.nsIn K mainGlobals "_law_name" = some (some (.ref f49)))
    (F49 : L2.Fun K "_law_name" "_law_name" sName f49 fd49)
    (a50 : PySem.W.nsIn K mainGlobals "_law_key" = some (some (.ref f50)))
    (F50 : L2.Fun K "_law_key" "_law_key" sKey f50 fd50)
    (a51 : PySem.W.nsIn K mainGlobals "_law_seconds" = some (some (.ref f51)))
    (F51 : L2.Fun K "_law_seconds" "_law_seconds" sSeconds f51 fd51)
    (a52 : PySem.W.nsIn K mainGlobals "_law_entry" = some (some (.ref f52)))
    (F52 : L2.Fun K "_law_entry" "_law_entry" sEntry f52 fd52)
    (a53 : PySem.W.nsIn K mainGlobals "_law_made" = some (some (.ref f53)))
    (F53 : L2.Fun K "_law_made" "_law_made" sMade f53 fd53)
    (a54 : PySem.W.nsIn K mainGlobals "_law_length_text" = some (some (.ref f54)))
    (F54 : L2.Fun K "_law_length_text" "_law_length_text" sLengthText f54 fd54)
    (a55 : PySem.W.nsIn K mainGlobals "_law_entry_text" = some (some (.ref f55)))
    (F55 : L2.Fun K "_law_entry_text" "_law_entry_text" sEntryText f55 fd55)
    (a56 : PySem.W.nsIn K mainGlobals "_law_figures" = some (some (.ref f56)))
    (F56 : L2.Fun K "_law_figures" "_law_figures" sFigures f56 fd56)
    (a57 : PySem.W.nsIn K mainGlobals "_law_number" = some (some (.ref f57)))
    (F57 : L2.Fun K "_law_number" "_law_number" sNumber f57 fd57)
    (a58 : PySem.W.nsIn K mainGlobals "_law_day_in" = some (some (.ref f58)))
    (F58 : L2.Fun K "_law_day_in" "_law_day_in" sLawDayIn f58 fd58)
    (a59 : PySem.W.nsIn K mainGlobals "_law_length_in" = some (some (.ref f59)))
    (F59 : L2.Fun K "_law_length_in" "_law_length_in" sLawLengthIn f59 fd59)
    (a60 : PySem.W.nsIn K mainGlobals "_law_name_in" = some (some (.ref f60)))
    (F60 : L2.Fun K "_law_name_in" "_law_name_in" sLawNameIn f60 fd60)
    (a61 : PySem.W.nsIn K mainGlobals "_law_key_in" = some (some (.ref f61)))
    (F61 : L2.Fun K "_law_key_in" "_law_key_in" sLawKeyIn f61 fd61)
    (a62 : PySem.W.nsIn K mainGlobals "_law_players_in" = some (some (.ref f62)))
    (F62 : L2.Fun K "_law_players_in" "_law_players_in" sLawPlayersIn f62 fd62)
    (a63 : PySem.W.nsIn K mainGlobals "_law_code_in" = some (some (.ref f63)))
    (F63 : L2.Fun K "_law_code_in" "_law_code_in" sLawCodeIn f63 fd63)
    (a64 : PySem.W.nsIn K mainGlobals "_law_field_in" = some (some (.ref f64)))
    (F64 : L2.Fun K "_law_field_in" "_law_field_in" sLawFieldIn f64 fd64)
    (a65 : PySem.W.nsIn K mainGlobals "_law_entry_in" = some (some (.ref f65)))
    (F65 : L2.Fun K "_law_entry_in" "_law_entry_in" sLawEntryIn f65 fd65)
    (a66 : PySem.W.nsIn K mainGlobals "_law_bent" = some (some (.ref f66)))
    (F66 : L2.Fun K "_law_bent" "_law_bent" sBent f66 fd66)
    (a67 : PySem.W.nsIn K mainGlobals "_law_alone" = some (some (.ref f67)))
    (F67 : L2.Fun K "_law_alone" "_law_alone" sAlone f67 fd67)
    (a68 : PySem.W.nsIn K mainGlobals "_law_asked" = some (some (.ref f68)))
    (F68 : L2.Fun K "_law_asked" "_law_asked" sAsked f68 fd68)
    (a69 : PySem.W.nsIn K mainGlobals "_law_due" = some (some (.ref f69)))
    (F69 : L2.Fun K "_law_due" "_law_due" sDue f69 fd69)
    (a70 : PySem.W.nsIn K mainGlobals "_law_right" = some (some (.ref f70)))
    (F70 : L2.Fun K "_law_right" "_law_right" sRight f70 fd70)
    (a71 : PySem.W.nsIn K mainGlobals "law" = some (some (.ref f71)))
    (F71 : L2.Fun K "law" "law" sLaw f71 fd71)
    (g_KEY_PARTS : ∃ t, mg "KEY_PARTS" = some (.int 2 t))
    (g_LONGEST_WORD : ∃ t, mg "LONGEST_WORD" = some (.int 8 t))
    (g_LONGEST_CODE : ∃ t, mg "LONGEST_CODE" = some (.int 12 t))
    (g_MOST_PLAYERS : ∃ t, mg "MOST_PLAYERS" = some (.int 8 t))
    (g_LAST_YEAR : ∃ t, mg "LAST_YEAR" = some (.int 9999 t))
    (g_MONTHS : ∃ t, mg "MONTHS" = some (.int 12 t))
    (g_FEBRUARY : ∃ t, mg "FEBRUARY" = some (.int 2 t))
    (g_MOST_SECONDS : ∃ t, mg "MOST_SECONDS" = some (.int 359999 t))
    (g_SHORTEST_TONGUE : ∃ t, mg "SHORTEST_TONGUE" = some (.int 2 t))
    (g_LONGEST_TONGUE : ∃ t, mg "LONGEST_TONGUE" = some (.int 3 t))
    (g_LONGEST_TEXT : ∃ t, mg "LONGEST_TEXT" = some (.int 40 t))
    (g_MOST_FIGURES : ∃ t, mg "MOST_FIGURES" = some (.int 30 t))
    (g_DAY_PARTS : ∃ t, mg "DAY_PARTS" = some (.int 3 t))
    (g_YEAR_FIGURES : ∃ t, mg "YEAR_FIGURES" = some (.int 4 t))
    (g_SMALL_LETTERS : ∃ t, mg "SMALL_LETTERS" = some (.str "abcdefghijklmnopqrstuvwxyz" t))
    (g_TEXT_SIGNS : ∃ t, mg "TEXT_SIGNS" = some (.str "abcdefghijklmnopqrstuvwxyzABCDEFGHIJKLMNOPQRSTUVWXYZ0123456789 '-." t))
    (g_FIGURES : ∃ t, mg "FIGURES" = some (.str "0123456789" t))
    (g_CODE_SIGNS : ∃ t, mg "CODE_SIGNS" = some (.str "ABCDEFGHIJKLMNOPQRSTUVWXYZ0123456789" t))
    (g0_MONTH_DAYS : PySem.W.nsIn K mainGlobals "MONTH_DAYS" = some (some (.ref gMONTH_DAYS)))
    (h_MONTH_DAYS : ∀ H, SqT K H gMONTH_DAYS [V.int 31, V.int 28, V.int 31, V.int 30, V.int 31, V.int 30, V.int 31, V.int 31, V.int 30, V.int 31, V.int 30, V.int 31])
    (g0_FIELDS : PySem.W.nsIn K mainGlobals "FIELDS" = some (some (.ref gFIELDS)))
    (h_FIELDS : ∀ H, SqT K H gFIELDS [V.str "code", V.str "title", V.str "players", V.str "day", V.str "length"])
    (ic_NotSuch : PySem.W.isClsIn K cNotSuch = true)
    (ty_NotSuch : PySem.W.typeIn K (.ref cNotSuch) = some (.type "type"))
    (sb_NotSuch : PySem.W.subIn K (.ref cNoText) (.ref cNotSuch) = some true)
    (ic_Lost : PySem.W.isClsIn K cLost = true)
    (ty_Lost : PySem.W.typeIn K (.ref cLost) = some (.type "type"))
    (sb_Lost : PySem.W.subIn K (.ref cNoText) (.ref cLost) = some false)
    (ic_Taken : PySem.W.isClsIn K cTaken = true)
    (ty_Taken : PySem.W.typeIn K (.ref cTaken) = some (.type "type"))
    (sb_Taken : PySem.W.subIn K (.ref cNoText) (.ref cTaken) = some false)
    (ic_NoCustom : PySem.W.isClsIn K cNoCustom = true)
    (ty_NoCustom : PySem.W.typeIn K (.ref cNoCustom) = some (.type "type"))
    (sb_NoCustom : PySem.W.subIn K (.ref cNoText) (.ref cNoCustom) = some false)
    (ic_NoDay : PySem.W.isClsIn K cNoDay = true)
    (ty_NoDay : PySem.W.typeIn K (.ref cNoDay) = some (.type "type"))
    (sb_NoDay : PySem.W.subIn K (.ref cNoText) (.ref cNoDay) = some false)
    (ic_NoDisc : PySem.W.isClsIn K cNoDisc = true)
    (ty_NoDisc : PySem.W.typeIn K (.ref cNoDisc) = some (.type "type"))
    (sb_NoDisc : PySem.W.subIn K (.ref cNoText) (.ref cNoDisc) = some false)
    (ic_NoEntry : PySem.W.isClsIn K cNoEntry = true)
    (ty_NoEntry : PySem.W.typeIn K (.ref cNoEntry) = some (.type "type"))
    (sb_NoEntry : PySem.W.subIn K (.ref cNoText) (.ref cNoEntry) = some false)
    (ic_NoKey : PySem.W.isClsIn K cNoKey = true)
    (ty_NoKey : PySem.W.typeIn K (.ref cNoKey) = some (.type "type"))
    (sb_NoKey : PySem.W.subIn K (.ref cNoText) (.ref cNoKey) = some false)
    (ic_NoLength : PySem.W.isClsIn K cNoLength = true)
    (ty_NoLength : PySem.W.typeIn K (.ref cNoLength) = some (.type "type"))
    (sb_NoLength : PySem.W.subIn K (.ref cNoText) (.ref cNoLength) = some false)
    (ic_NoLine : PySem.W.isClsIn K cNoLine = true)
    (ty_NoLine : PySem.W.typeIn K (.ref cNoLine) = some (.type "type"))
    (sb_NoLine : PySem.W.subIn K (.ref cNoText) (.ref cNoLine) = some false)
    (ic_NoName : PySem.W.isClsIn K cNoName = true)
    (ty_NoName : PySem.W.typeIn K (.ref cNoName) = some (.type "type"))
    (sb_NoName : PySem.W.subIn K (.ref cNoText) (.ref cNoName) = some false)
    (ic_NoNumber : PySem.W.isClsIn K cNoNumber = true)
    (ty_NoNumber : PySem.W.typeIn K (.ref cNoNumber) = some (.type "type"))
    (sb_NoNumber : PySem.W.subIn K (.ref cNoText) (.ref cNoNumber) = some false)
    (ic_NoPath : PySem.W.isClsIn K cNoPath = true)
    (ty_NoPath : PySem.W.typeIn K (.ref cNoPath) = some (.type "type"))
    (sb_NoPath : PySem.W.subIn K (.ref cNoText) (.ref cNoPath) = some false)
    (ic_Same : PySem.W.isClsIn K cSame = true)
    (ty_Same : PySem.W.typeIn K (.ref cSame) = some (.type "type"))
    (sb_Same : PySem.W.subIn K (.ref cNoText) (.ref cSame) = some false)
    (ic_Struck : PySem.W.isClsIn K cStruck = true)
    (ty_Struck : PySem.W.typeIn K (.ref cStruck) = some (.type "type"))
    (sb_Struck : PySem.W.subIn K (.ref cNoText) (.ref cStruck) = some false)
    (ic_Twice : PySem.W.isClsIn K cTwice = true)
    (ty_Twice : PySem.W.typeIn K (.ref cTwice) = some (.type "type"))
    (sb_Twice : PySem.W.subIn K (.ref cNoText) (.ref cTwice) = some false)
    (ic_NoText : PySem.W.isClsIn K cNoText = true)
    (ty_NoText : PySem.W.typeIn K (.ref cNoText) = some (.type "type"))
    (sb_NoText : PySem.W.subIn K (.ref cNoText) (.ref cNoText) = some true)
    (be_NotSuch : PySem.W.subIn K (.ref cNotSuch) (.type "BaseException") = some true)
    (be_Lost : PySem.W.subIn K (.ref cLost) (.type "BaseException") = some true)
    (be_Taken : PySem.W.subIn K (.ref cTaken) (.type "BaseException") = some true)
    (sVE : PySem.W.subIn K (.ref cNoText) (.type "ValueError") = some true)
    (saX : PySem.W.findIn K (.ref cNoText) "__setattr__" = some (some (.builtin "object.__setattr__")))
    (exX : PySem.W.subIn K (.ref cNoText) (.type "BaseException") = some true)
    (kX : PySem.W.keepIn K (.ref cNoText) = true)
    (gaX : PySem.W.findIn K (.ref cNoText) "__getattribute__" = some (some (.builtin "BaseException.__getattribute__")))
    (ggX : PySem.W.findIn K (.ref cNoText) "__getattr__" = some none)
    (hdX : PySem.W.hasDictIn K cNoText = true)
    (haX : PySem.W.findIn K (.ref cNoText) "__class__" = some (some (.builtin "object.__class__")))
    (hmX : PySem.W.mroIn K cNoText (.type "object") = some true)
    (fl1 : PySem.W.findIn K (.ref cNoText) "row" = some none)
    (fl2 : PySem.W.findIn K (.ref cNoText) "wanted" = some none)
    (tyF : PySem.W.typeIn K (.ref f0) = some (.type "function"))
    (rdN : PySem.W.readsIn K cNotSuch (.type "type") = true)
    (spN : PySem.W.specialIn K (.ref cNotSuch) "__getattribute__" = some (some (.builtin "type.__getattribute__")))
    (pg : PySem.W.plainGet K cDay Str.empty = true)
    (hd : PySem.W.hasDictIn K cDay = true)
    (po : PySem.W.plainOver K cDay = true)
    (sa : PySem.W.findIn K (.ref cDay) "__setattr__" = some (some (.builtin "object.__setattr__")))
    (mk : PySem.W.makesIn K cDay = true)
    (kc : PySem.W.keepIn K (.ref cDay) = true)
    (ha : PySem.W.findIn K (.ref cDay) "__class__" = some (some (.builtin "object.__class__")))
    (hm : PySem.W.mroIn K cDay (.type "object") = some true)
    (pgL : PySem.W.plainGet K cLength Str.empty = true)
    (hdL : PySem.W.hasDictIn K cLength = true)
    (poL : PySem.W.plainOver K cLength = true)
    (saL : PySem.W.findIn K (.ref cLength) "__setattr__" = some (some (.builtin "object.__setattr__")))
    (mkL : PySem.W.makesIn K cLength = true)
    (kcL : PySem.W.keepIn K (.ref cLength) = true)
    (haL : PySem.W.findIn K (.ref cLength) "__class__" = some (some (.builtin "object.__class__")))
    (hmL : PySem.W.mroIn K cLength (.type "object") = some true)
    (nY : PySem.W.findIn K (.ref cDay) "year" = some none)
    (nMo : PySem.W.findIn K (.ref cDay) "month" = some none)
    (nD : PySem.W.findIn K (.ref cDay) "day" = some none)
    (nS : PySem.W.findIn K (.ref cLength) "seconds" = some none)
    (hn : PySem.W.specialIn K (.builtin "object.__class__") "__get__" = some (some (.builtin "getset_descriptor.__get__")))
    (ht : PySem.W.takesIn K (.builtin "object.__class__") = some true)
    (oX : XCls PySem.HandSPX.refsVE "ValueError.__new__" cNoText K)
    (fiN : PySem.W.findCls K (.ref cNotSuch) (.type "type") "__init__" = some (.val (.builtin "ValueError.__init__")))
    (z_isinstance : PySem.W.nsIn K mainGlobals "isinstance" = some none)
    (z_int : PySem.W.nsIn K mainGlobals "int" = some none)
    (z_bool : PySem.W.nsIn K mainGlobals "bool" = some none)
    (z_str : PySem.W.nsIn K mainGlobals "str" = some none)
    (z_tuple : PySem.W.nsIn K mainGlobals "tuple" = some none)
    (z_list : PySem.W.nsIn K mainGlobals "list" = some none)
    (z_len : PySem.W.nsIn K mainGlobals "len" = some none)
    (z_all : PySem.W.nsIn K mainGlobals "all" = some none)
    (z_any : PySem.W.nsIn K mainGlobals "any" = some none)
    (z_abs : PySem.W.nsIn K mainGlobals "abs" = some none)
    (z_range : PySem.W.nsIn K mainGlobals "range" = some none)
    (z_repr : PySem.W.nsIn K mainGlobals "repr" = some none)
    (z_max : PySem.W.nsIn K mainGlobals "max" = some none)
    (z_min : PySem.W.nsIn K mainGlobals "min" = some none)
    (z_sorted : PySem.W.nsIn K mainGlobals "sorted" = some none)
    (z_zip : PySem.W.nsIn K mainGlobals "zip" = some none)
    (z_enumerate : PySem.W.nsIn K mainGlobals "enumerate" = some none)
    (z_ValueError : PySem.W.nsIn K mainGlobals "ValueError" = some none)
    (WK : Kd K w mg "FIELD_WORDS" (wrds.map V.str))
    (RK : Kd K w mg "FIELD_READERS" [.ref f38, .ref f34, .ref f37, .ref f32, .ref f33])
    (oF2 : ∃ o, K.lookup gFIELDS = some o ∧ o.cls = .type "tuple" ∧ o.dict = none)
    : ∃ fd : FuncData, (∀ (s : Shared) (v : Value), BindsTo s fd ⟨[v], []⟩ [("_law_script", v)]) ∧
      ∀ base : Heap, K.In base → base.Ns mainGlobals mg → base.NoDigits → Gn l.prog w K mg base 14 fa fd ["_law_script"] (spLaw K) := by
  have e := hfa.symm.trans (PySem.W.mg_of X G a71)
  cases e
  have FL := F71
  obtain ⟨⟨ocL, odL, kV71, dc71, pm71, an71, cd71, ct71, oslL, eL, lkL, ccL⟩, kpL⟩ := FL
  subst eL
  have B0 := F0.binds (ps := ["self", "row", "wanted"]) fun _ _ _ _ _ _ us hl => match us, hl with | [_, _, _], _ => rfl
  have D1 : Df K mg "is_whole" ["thing"] sIsWhole f1 _ := ⟨F1, PySem.W.mg_of X G a1, F1.binds (ps := ["thing"]) fun _ _ _ _ _ _ us hl => match us, hl with | [_], _ => rfl⟩
  have D2 : Df K mg "is_within" ["thing", "least", "most"] sIsWithin f2 _ := ⟨F2, PySem.W.mg_of X G a2, F2.binds (ps := ["thing", "least", "most"]) fun _ _ _ _ _ _ us hl => match us, hl with | [_, _, _], _ => rfl⟩
  have D3 : Df K mg "is_text_of" ["thing", "signs", "least", "most"] sIsTextOf f3 _ := ⟨F3, PySem.W.mg_of X G a3, F3.binds (ps := ["thing", "signs", "least", "most"]) fun _ _ _ _ _ _ us hl => match us, hl with | [_, _, _, _], _ => rfl⟩
  have D4 : Df K mg "is_small_text" ["thing", "least", "most"] sIsSmallText f4 _ := ⟨F4, PySem.W.mg_of X G a4, F4.binds (ps := ["thing", "least", "most"]) fun _ _ _ _ _ _ us hl => match us, hl with | [_, _, _], _ => rfl⟩
  have D5 : Df K mg "is_word" ["thing"] sIsWord f5 _ := ⟨F5, PySem.W.mg_of X G a5, F5.binds (ps := ["thing"]) fun _ _ _ _ _ _ us hl => match us, hl with | [_], _ => rfl⟩
  have D6 : Df K mg "are_rising" ["things"] sAreRising f6 _ := ⟨F6, PySem.W.mg_of X G a6, F6.binds (ps := ["things"]) fun _ _ _ _ _ _ us hl => match us, hl with | [_], _ => rfl⟩
  have D7 : Df K mg "is_leap" ["year"] sIsLeap f7 _ := ⟨F7, PySem.W.mg_of X G a7, F7.binds (ps := ["year"]) fun _ _ _ _ _ _ us hl => match us, hl with | [_], _ => rfl⟩
  have D8 : Df K mg "days_in" ["year", "month"] sDaysIn f8 _ := ⟨F8, PySem.W.mg_of X G a8, F8.binds (ps := ["year", "month"]) fun _ _ _ _ _ _ us hl => match us, hl with | [_, _], _ => rfl⟩
  have D9 : Df K mg "makes_day" ["year", "month", "day"] sMakesDay f9 _ := ⟨F9, PySem.W.mg_of X G a9, F9.binds (ps := ["year", "month", "day"]) fun _ _ _ _ _ _ us hl => match us, hl with | [_, _, _], _ => rfl⟩
  have B11 := F11.binds (ps := ["self"]) fun _ _ _ _ _ _ us hl => match us, hl with | [_], _ => rfl
  have B12 := F12.binds (ps := ["self"]) fun _ _ _ _ _ _ us hl => match us, hl with | [_], _ => rfl
  have D13 : Df K mg "beyond_minutes" ["seconds"] sBeyondMinutes f13 _ := ⟨F13, PySem.W.mg_of X G a13, F13.binds (ps := ["seconds"]) fun _ _ _ _ _ _ us hl => match us, hl with | [_], _ => rfl⟩
  have B14 := F14.binds (ps := ["self", "seconds"]) fun _ _ _ _ _ _ us hl => match us, hl with | [_, _], _ => rfl
  have B15 := F15.binds (ps := ["self"]) fun _ _ _ _ _ _ us hl => match us, hl with | [_], _ => rfl
  have B16 := F16.binds (ps := ["self"]) fun _ _ _ _ _ _ us hl => match us, hl with | [_], _ => rfl
  have D17 : Df K mg "is_tongue" ["thing"] sIsTongue f17 _ := ⟨F17, PySem.W.mg_of X G a17, F17.binds (ps := ["thing"]) fun _ _ _ _ _ _ us hl => match us, hl with | [_], _ => rfl⟩
  have D18 : Df K mg "is_name_text" ["thing"] sIsNameText f18 _ := ⟨F18, PySem.W.mg_of X G a18, F18.binds (ps := ["thing"]) fun _ _ _ _ _ _ us hl => match us, hl with | [_], _ => rfl⟩
  have D19 : Df K mg "is_name" ["thing"] sIsName f19 _ := ⟨F19, PySem.W.mg_of X G a19, F19.binds (ps := ["thing"]) fun _ _ _ _ _ _ us hl => match us, hl with | [_], _ => rfl⟩
  have D20 : Df K mg "is_key" ["thing"] sIsKey f20 _ := ⟨F20, PySem.W.mg_of X G a20, F20.binds (ps := ["thing"]) fun _ _ _ _ _ _ us hl => match us, hl with | [_], _ => rfl⟩
  have D21 : Df K mg "is_code" ["thing"] sIsCode f21 _ := ⟨F21, PySem.W.mg_of X G a21, F21.binds (ps := ["thing"]) fun _ _ _ _ _ _ us hl => match us, hl with | [_], _ => rfl⟩
  have D22 : Df K mg "are_players" ["thing"] sArePlayers f22 _ := ⟨F22, PySem.W.mg_of X G a22, F22.binds (ps := ["thing"]) fun _ _ _ _ _ _ us hl => match us, hl with | [_], _ => rfl⟩
  have D23 : Df K mg "is_entry" ["thing"] sIsEntry f23 _ := ⟨F23, PySem.W.mg_of X G a23, F23.binds (ps := ["thing"]) fun _ _ _ _ _ _ us hl => match us, hl with | [_], _ => rfl⟩
  have D24 : Df K mg "key_of" ["entry"] sKeyOf f24 _ := ⟨F24, PySem.W.mg_of X G a24, F24.binds (ps := ["entry"]) fun _ _ _ _ _ _ us hl => match us, hl with | [_], _ => rfl⟩
  have D25 : Df K mg "field_of" ["entry", "field"] sFieldOf f25 _ := ⟨F25, PySem.W.mg_of X G a25, F25.binds (ps := ["entry", "field"]) fun _ _ _ _ _ _ us hl => match us, hl with | [_, _], _ => rfl⟩
  have D26 : Df K mg "show_name" ["name"] sShowName f26 _ := ⟨F26, PySem.W.mg_of X G a26, F26.binds (ps := ["name"]) fun _ _ _ _ _ _ us hl => match us, hl with | [_], _ => rfl⟩
  have D27 : Df K mg "show_key" ["key"] sShowKey f27 _ := ⟨F27, PySem.W.mg_of X G a27, F27.binds (ps := ["key"]) fun _ _ _ _ _ _ us hl => match us, hl with | [_], _ => rfl⟩
  have D28 : Df K mg "show_told" ["field", "thing"] sShowTold f28 _ := ⟨F28, PySem.W.mg_of X G a28, F28.binds (ps := ["field", "thing"]) fun _ _ _ _ _ _ us hl => match us, hl with | [_, _], _ => rfl⟩
  have D29 : Df K mg "show_entry" ["entry"] sShowEntry f29 _ := ⟨F29, PySem.W.mg_of X G a29, F29.binds (ps := ["entry"]) fun _ _ _ _ _ _ us hl => match us, hl with | [_], _ => rfl⟩
  have D30 : Df K mg "are_figures" ["text", "least", "most"] sAreFigures f30 _ := ⟨F30, PySem.W.mg_of X G a30, F30.binds (ps := ["text", "least", "most"]) fun _ _ _ _ _ _ us hl => match us, hl with | [_, _, _], _ => rfl⟩
  have D31 : Df K mg "number_in" ["text"] sNumberIn f31 _ := ⟨F31, PySem.W.mg_of X G a31, F31.binds (ps := ["text"]) fun _ _ _ _ _ _ us hl => match us, hl with | [_], _ => rfl⟩
  have D32 : Df K mg "day_in" ["text"] sDayIn f32 _ := ⟨F32, PySem.W.mg_of X G a32, F32.binds (ps := ["text"]) fun _ _ _ _ _ _ us hl => match us, hl with | [_], _ => rfl⟩
  have D33 : Df K mg "length_in" ["text"] sLengthIn f33 _ := ⟨F33, PySem.W.mg_of X G a33, F33.binds (ps := ["text"]) fun _ _ _ _ _ _ us hl => match us, hl with | [_], _ => rfl⟩
  have D34 : Df K mg "name_in" ["text"] sNameIn f34 _ := ⟨F34, PySem.W.mg_of X G a34, F34.binds (ps := ["text"]) fun _ _ _ _ _ _ us hl => match us, hl with | [_], _ => rfl⟩
  have D35 : Df K mg "key_in" ["text"] sKeyIn f35 _ := ⟨F35, PySem.W.mg_of X G a35, F35.binds (ps := ["text"]) fun _ _ _ _ _ _ us hl => match us, hl with | [_], _ => rfl⟩
  have D36 : Df K mg "all_in" ["reader", "text"] sAllIn f36 _ := ⟨F36, PySem.W.mg_of X G a36, F36.binds (ps := ["reader", "text"]) fun _ _ _ _ _ _ us hl => match us, hl with | [_, _], _ => rfl⟩
  have D37 : Df K mg "names_in" ["text"] sNamesIn f37 _ := ⟨F37, PySem.W.mg_of X G a37, F37.binds (ps := ["text"]) fun _ _ _ _ _ _ us hl => match us, hl with | [_], _ => rfl⟩
  have D38 : Df K mg "code_in" ["text"] sCodeIn f38 _ := ⟨F38, PySem.W.mg_of X G a38, F38.binds (ps := ["text"]) fun _ _ _ _ _ _ us hl => match us, hl with | [_], _ => rfl⟩
  have D39 : Df K mg "told_in" ["field", "pieces"] sToldIn f39 _ := ⟨F39, PySem.W.mg_of X G a39, F39.binds (ps := ["field", "pieces"]) fun _ _ _ _ _ _ us hl => match us, hl with | [_, _], _ => rfl⟩
  have D40 : Df K mg "entry_in" ["text"] sEntryIn f40 _ := ⟨F40, PySem.W.mg_of X G a40, F40.binds (ps := ["text"]) fun _ _ _ _ _ _ us hl => match us, hl with | [_], _ => rfl⟩
  have D42 : Df K mg "read_entry" ["text"] sReadEntry f42 _ := ⟨F42, PySem.W.mg_of X G a42, F42.binds (ps := ["text"]) fun _ _ _ _ _ _ us hl => match us, hl with | [_], _ => rfl⟩
  have D43 : Df K mg "_law_hand" ["_law_script", "_law_k"] sHand f43 _ := ⟨F43, PySem.W.mg_of X G a43, F43.binds (ps := ["_law_script", "_law_k"]) fun _ _ _ _ _ _ us hl => match us, hl with | [_, _], _ => rfl⟩
  have D44 : Df K mg "_law_take" ["_law_hand_here", "_law_many"] sTake f44 _ := ⟨F44, PySem.W.mg_of X G a44, F44.binds (ps := ["_law_hand_here", "_law_many"]) fun _ _ _ _ _ _ us hl => match us, hl with | [_, _], _ => rfl⟩
  have D45 : Df K mg "_law_pick" ["_law_hand_here", "_law_some"] sPick f45 _ := ⟨F45, PySem.W.mg_of X G a45, F45.binds (ps := ["_law_hand_here", "_law_some"]) fun _ _ _ _ _ _ us hl => match us, hl with | [_, _], _ => rfl⟩
  have D46 : Df K mg "_law_last" ["_law_y", "_law_m"] sLast f46 _ := ⟨F46, PySem.W.mg_of X G a46, F46.binds (ps := ["_law_y", "_law_m"]) fun _ _ _ _ _ _ us hl => match us, hl with | [_, _], _ => rfl⟩
  have D47 : Df K mg "_law_parts" ["_law_hand_here"] sParts f47 _ := ⟨F47, PySem.W.mg_of X G a47, F47.binds (ps := ["_law_hand_here"]) fun _ _ _ _ _ _ us hl => match us, hl with | [_], _ => rfl⟩
  have D48 : Df K mg "_law_day_text" ["_law_parts_here"] sDayText f48 _ := ⟨F48, PySem.W.mg_of X G a48, F48.binds (ps := ["_law_parts_here"]) fun _ _ _ _ _ _ us hl => match us, hl with | [_], _ => rfl⟩
  have D49 : Df K mg "_law_name" ["_law_hand_here"] sName f49 _ := ⟨F49, PySem.W.mg_of X G a49, F49.binds (ps := ["_law_hand_here"]) fun _ _ _ _ _ _ us hl => match us, hl with | [_], _ => rfl⟩
  have D50 : Df K mg "_law_key" ["_law_hand_here"] sKey f50 _ := ⟨F50, PySem.W.mg_of X G a50, F50.binds (ps := ["_law_hand_here"]) fun _ _ _ _ _ _ us hl => match us, hl with | [_], _ => rfl⟩
  have D51 : Df K mg "_law_seconds" ["_law_hand_here"] sSeconds f51 _ := ⟨F51, PySem.W.mg_of X G a51, F51.binds (ps := ["_law_hand_here"]) fun _ _ _ _ _ _ us hl => match us, hl with | [_], _ => rfl⟩
  have D52 : Df K mg "_law_entry" ["_law_hand_here"] sEntry f52 _ := ⟨F52, PySem.W.mg_of X G a52, F52.binds (ps := ["_law_hand_here"]) fun _ _ _ _ _ _ us hl => match us, hl with | [_], _ => rfl⟩
  have D53 : Df K mg "_law_made" ["_law_entry_here"] sMade f53 _ := ⟨F53, PySem.W.mg_of X G a53, F53.binds (ps := ["_law_entry_here"]) fun _ _ _ _ _ _ us hl => match us, hl with | [_], _ => rfl⟩
  have D54 : Df K mg "_law_length_text" ["_law_count"] sLengthText f54 _ := ⟨F54, PySem.W.mg_of X G a54, F54.binds (ps := ["_law_count"]) fun _ _ _ _ _ _ us hl => match us, hl with | [_], _ => rfl⟩
  have D55 : Df K mg "_law_entry_text" ["_law_entry_here"] sEntryText f55 _ := ⟨F55, PySem.W.mg_of X G a55, F55.binds (ps := ["_law_entry_here"]) fun _ _ _ _ _ _ us hl => match us, hl with | [_], _ => rfl⟩
  have D56 : Df K mg "_law_figures" ["_law_word"] sFigures f56 _ := ⟨F56, PySem.W.mg_of X G a56, F56.binds (ps := ["_law_word"]) fun _ _ _ _ _ _ us hl => match us, hl with | [_], _ => rfl⟩
  have D57 : Df K mg "_law_number" ["_law_word"] sNumber f57 _ := ⟨F57, PySem.W.mg_of X G a57, F57.binds (ps := ["_law_word"]) fun _ _ _ _ _ _ us hl => match us, hl with | [_], _ => rfl⟩
  have D58 : Df K mg "_law_day_in" ["_law_text"] sLawDayIn f58 _ := ⟨F58, PySem.W.mg_of X G a58, F58.binds (ps := ["_law_text"]) fun _ _ _ _ _ _ us hl => match us, hl with | [_], _ => rfl⟩
  have D59 : Df K mg "_law_length_in" ["_law_text"] sLawLengthIn f59 _ := ⟨F59, PySem.W.mg_of X G a59, F59.binds (ps := ["_law_text"]) fun _ _ _ _ _ _ us hl => match us, hl with | [_], _ => rfl⟩
  have D60 : Df K mg "_law_name_in" ["_law_text"] sLawNameIn f60 _ := ⟨F60, PySem.W.mg_of X G a60, F60.binds (ps := ["_law_text"]) fun _ _ _ _ _ _ us hl => match us, hl with | [_], _ => rfl⟩
  have D61 : Df K mg "_law_key_in" ["_law_text"] sLawKeyIn f61 _ := ⟨F61, PySem.W.mg_of X G a61, F61.binds (ps := ["_law_text"]) fun _ _ _ _ _ _ us hl => match us, hl with | [_], _ => rfl⟩
  have D62 : Df K mg "_law_players_in" ["_law_text"] sLawPlayersIn f62 _ := ⟨F62, PySem.W.mg_of X G a62, F62.binds (ps := ["_law_text"]) fun _ _ _ _ _ _ us hl => match us, hl with | [_], _ => rfl⟩
  have D63 : Df K mg "_law_code_in" ["_law_text"] sLawCodeIn f63 _ := ⟨F63, PySem.W.mg_of X G a63, F63.binds (ps := ["_law_text"]) fun _ _ _ _ _ _ us hl => match us, hl with | [_], _ => rfl⟩
  have D64 : Df K mg "_law_field_in" ["_law_spot", "_law_text"] sLawFieldIn f64 _ := ⟨F64, PySem.W.mg_of X G a64, F64.binds (ps := ["_law_spot", "_law_text"]) fun _ _ _ _ _ _ us hl => match us, hl with | [_, _], _ => rfl⟩
  have D65 : Df K mg "_law_entry_in" ["_law_row"] sLawEntryIn f65 _ := ⟨F65, PySem.W.mg_of X G a65, F65.binds (ps := ["_law_row"]) fun _ _ _ _ _ _ us hl => match us, hl with | [_], _ => rfl⟩
  have D66 : Df K mg "_law_bent" ["_law_hand_here", "_law_text", "_law_words"] sBent f66 _ := ⟨F66, PySem.W.mg_of X G a66, F66.binds (ps := ["_law_hand_here", "_law_text", "_law_words"]) fun _ _ _ _ _ _ us hl => match us, hl with | [_, _, _], _ => rfl⟩
  have D67 : Df K mg "_law_alone" ["_law_e"] sAlone f67 _ := ⟨F67, PySem.W.mg_of X G a67, F67.binds (ps := ["_law_e"]) fun _ _ _ _ _ _ us hl => match us, hl with | [_], _ => rfl⟩
  have D68 : Df K mg "_law_asked" ["_law_row"] sAsked f68 _ := ⟨F68, PySem.W.mg_of X G a68, F68.binds (ps := ["_law_row"]) fun _ _ _ _ _ _ us hl => match us, hl with | [_], _ => rfl⟩
  have D69 : Df K mg "_law_due" ["_law_row"] sDue f69 _ := ⟨F69, PySem.W.mg_of X G a69, F69.binds (ps := ["_law_row"]) fun _ _ _ _ _ _ us hl => match us, hl with | [_], _ => rfl⟩
  have D70 : Df K mg "_law_right" ["_law_hand_here"] sRight f70 _ := ⟨F70, PySem.W.mg_of X G a70, F70.binds (ps := ["_law_hand_here"]) fun _ _ _ _ _ _ us hl => match us, hl with | [_], _ => rfl⟩
  have D71 : Df K mg "law" ["_law_script"] sLaw fa _ := ⟨F71, PySem.W.mg_of X G a71, F71.binds (ps := ["_law_script"]) fun _ _ _ _ _ _ us hl => match us, hl with | [_], _ => rfl⟩
  let e : Ex := ⟨cNotSuch, cLost, cTaken, cNoCustom, cNoDay, cNoDisc, cNoEntry, cNoKey, cNoLength, cNoLine, cNoName, cNoNumber, cNoPath, cSame, cStruck, cTwice, cNoText⟩
  have no : ∀ {c : Addr}, PySem.W.isClsIn K c = true → PySem.W.typeIn K (.ref c) = some (.type "type") → PySem.W.subIn K (.ref cNoText) (.ref c) = some false → PySem.W.kitOne K (.ref cNoText) (.ref c) = some false := fun a b d => kit_no a b d sb_NoText
  have exs : ∀ {c : Addr} {b : Bool}, PySem.W.isClsIn K c = true → PySem.W.typeIn K (.ref c) = some (.type "type") → PySem.W.subIn K (.ref c) (.type "BaseException") = some true → PySem.W.subIn K (.ref cNoText) (.ref c) = some b → PySem.W.exmOne K (.ref cNoText) (.ref c) = some b := fun a b d g => exm_is a b d g
  have T : Txt K mg cDay cLength e := ⟨⟨pg, hd, po, sa⟩,
    nY,
    nMo,
    nD,
    PySem.W.mg_of X G a_Day,
    ⟨pgL, hdL, poL, saL⟩,
    nS,
    PySem.W.mg_of X G a_Length,
    ⟨⟨pg, hd, po, sa⟩, ha, hn, ht, hm, kit_self⟩,
    ⟨⟨pgL, hdL, poL, saL⟩, haL, hn, ht, hmL, kit_self⟩,
    kit_self,
    kit_self,
    g_KEY_PARTS,
    g_LONGEST_WORD,
    g_LONGEST_CODE,
    g_MOST_PLAYERS,
    g_LAST_YEAR,
    g_MONTHS,
    g_FEBRUARY,
    g_MOST_SECONDS,
    g_SHORTEST_TONGUE,
    g_LONGEST_TONGUE,
    g_LONGEST_TEXT,
    g_MOST_FIGURES,
    g_DAY_PARTS,
    g_YEAR_FIGURES,
    g_SMALL_LETTERS,
    g_TEXT_SIGNS,
    g_FIGURES,
    g_CODE_SIGNS,
    ⟨gMONTH_DAYS, PySem.W.mg_of X G g0_MONTH_DAYS, h_MONTH_DAYS⟩,
    ⟨gFIELDS, PySem.W.mg_of X G g0_FIELDS, oF2, h_FIELDS⟩,
    PySem.W.mg_of X G a_NotSuch,
    PySem.W.mg_of X G a_Lost,
    PySem.W.mg_of X G a_Taken,
    PySem.W.mg_of X G a_NoCustom,
    PySem.W.mg_of X G a_NoDay,
    PySem.W.mg_of X G a_NoDisc,
    PySem.W.mg_of X G a_NoEntry,
    PySem.W.mg_of X G a_NoKey,
    PySem.W.mg_of X G a_NoLength,
    PySem.W.mg_of X G a_NoLine,
    PySem.W.mg_of X G a_NoName,
    PySem.W.mg_of X G a_NoNumber,
    PySem.W.mg_of X G a_NoPath,
    PySem.W.mg_of X G a_Same,
    PySem.W.mg_of X G a_Struck,
    PySem.W.mg_of X G a_Twice,
    PySem.W.mg_of X G a_NoText,
    PySem.W.mg_none_of X G z_isinstance,
    PySem.W.mg_none_of X G z_int,
    PySem.W.mg_none_of X G z_bool,
    PySem.W.mg_none_of X G z_str,
    PySem.W.mg_none_of X G z_tuple,
    PySem.W.mg_none_of X G z_list,
    PySem.W.mg_none_of X G z_len,
    PySem.W.mg_none_of X G z_all,
    PySem.W.mg_none_of X G z_any,
    PySem.W.mg_none_of X G z_abs,
    PySem.W.mg_none_of X G z_range,
    PySem.W.mg_none_of X G z_repr,
    PySem.W.mg_none_of X G z_max,
    PySem.W.mg_none_of X G z_min,
    PySem.W.mg_none_of X G z_sorted,
    PySem.W.mg_none_of X G z_zip,
    PySem.W.mg_none_of X G z_enumerate,
    PySem.W.mg_none_of X G z_ValueError,
    ⟨oX, saX, exX, ty_NoText, kX⟩,
    ⟨ic_NoText, gaX, ggX, exX, hdX, haX, hn, ht, hmX⟩,
    ⟨rdN, spN, fiN⟩,
    fl1,
    fl2,
    exm_3 (exs ic_NotSuch ty_NotSuch be_NotSuch sb_NotSuch) (exs ic_Lost ty_Lost be_Lost sb_Lost) (exs ic_Taken ty_Taken be_Taken sb_Taken),
    kit_skip (no ic_Lost ty_Lost sb_Lost) (kit_skip (no ic_Taken ty_Taken sb_Taken) (kit_skip (no ic_NoCustom ty_NoCustom sb_NoCustom) (kit_skip (no ic_NoDay ty_NoDay sb_NoDay) (kit_skip (no ic_NoDisc ty_NoDisc sb_NoDisc) (kit_skip (no ic_NoEntry ty_NoEntry sb_NoEntry) (kit_skip (no ic_NoKey ty_NoKey sb_NoKey) (kit_skip (no ic_NoLength ty_NoLength sb_NoLength) (rfl)))))))),
    kit_skip (no ic_NoLine ty_NoLine sb_NoLine) (kit_skip (no ic_NoName ty_NoName sb_NoName) (kit_skip (no ic_NoNumber ty_NoNumber sb_NoNumber) (kit_skip (no ic_NoPath ty_NoPath sb_NoPath) (kit_skip (no ic_Same ty_Same sb_Same) (kit_skip (no ic_Struck ty_Struck sb_Struck) (kit_skip (no ic_Twice ty_Twice sb_Twice) (rfl))))))),
    kit_self,
    kit_yes ic_NotSuch ty_NotSuch sb_NotSuch,
    kit_ve sVE⟩
  refine ⟨PySem.W.fnOf "law" "law" (defArgs sLaw) (defBody sLaw) (defScope sLaw) .none kV71 dc71 pm71 an71 cd71 ct71, fun s v => .of_eq rfl, fun base kb gb nd => ?g⟩
  case g =>
    have N : Nt l.prog w K mg base e f0 _ := ⟨ok_nt (P := l.prog) (w := w) (base := base) F0 T, a0, tyF, B0⟩
    have cW := D1.ca (ok_whole (P := l.prog) (w := w) (base := base) D1 T)
    have cI := D2.ca (ok_within D2 cW)
    have cLp := D7.ca (ok_leap (P := l.prog) (w := w) (base := base) D7)
    have cDy := D8.ca (ok_daysIn D8 T cLp)
    have cM := D9.ca (ok_makes D9 T cI cDy)
    have cO := D3.ca (ok_of (P := l.prog) (w := w) (base := base) D3 T)
    have cSm := D4.ca (ok_smallt D4 T cO)
    have cTo := D17.ca (ok_tonguep D17 T cSm)
    have cNt := D18.ca (ok_nmt D18 T cO)
    have cIs := D19.ca (ok_name D19 T cTo cNt)
    have cB := D13.ca (ok_bey (P := l.prog) (w := w) (base := base) D13)
    have G2 : Dc l.prog w K mg base cDay f10 _ := ⟨⟨mk, a10, i10, kc⟩, ok_init F10 T cM, init_binds F10⟩
    have GL : Lc l.prog w K mg base cLength f14 _ := ⟨⟨mkL, a14, i14, kcL⟩, ok_len F14 T cI, B14⟩
    have O : Sh l.prog w K mg base cDay 1 f11 f12 _ _ (spStrD cDay) (spReprD cDay) := ⟨a11, i11, ok_strD F11 T nd, B11, a12, i12, ok_reprD F12 T, B12⟩
    have OL : Sh l.prog w K mg base cLength 2 f15 f16 _ _ (spStrL cLength) (spReprL cLength) := ⟨a15, i15, ok_strL F15 T nd cB, B15, a16, i16, ok_reprL F16 T, B16⟩
    have cFg := D30.ca (ok_fig D30 T cO)
    have cNu := D31.ca (ok_num D31 T cFg)
    have oDy := ok_di D32 T G2 O cFg cM
    have oLn := ok_li D33 T GL OL cFg cNu cI
    have oNm := ok_ni D34 T cIs
    have cWd := D5.ca (ok_word D5 T cSm)
    have cK := D20.ca (ok_keyG D20 T cWd cW)
    have cKi := D35.ca (ok_ki D35 T cNu cK)
    have cSk := D27.ca (ok_sk (P := l.prog) (w := w) (base := base) D27 T)
    have cSn := D26.ca (ok_sn (P := l.prog) (w := w) (base := base) D26 T)
    have cKo := D24.ca (ok_ko (P := l.prog) (w := w) (base := base) D24 T)
    have cFo := D25.ca (ok_fo (P := l.prog) (w := w) (base := base) D25 T)
    have cTd := D28.ca (ok_td D28 T O OL WK cSn)
    have cSe := D29.ca (ok_se D29 T cSk cKo cFo cTd)
    have cCd := D21.ca (ok_code D21 T cO)
    have cRi := D6.ca (ok_ris (P := l.prog) (w := w) (base := base) D6 T)
    have cPl := D22.ca (ok_pl D22 T cIs cRi)
    have cIe := D23.ca (ok_ie D23 T cK cCd cIs cPl)
    have RN : FnR l.prog w K mg base CX0 5 f34 spNi := (oNm.raw D34.bd .nil).imp (fun vs H Q E h => by rw [List.append_nil]; exact h)
    have cAi := D36.ca (ok_ai D36 T D34.fn.kp RN)
    have oNs := ok_nsi D37 T cAi D34.mgf
    have oCd := ok_ci (P := l.prog) (w := w) (base := base) D38 T
    have RR0 : FnR l.prog w K mg base CX0 7 f38 (spRt cDay cLength 0) := ((oCd.mono (by decide)).raw D38.bd .nil).imp (fun vs H Q E h => by rw [List.append_nil]; exact rt_code h)
    have ti0 := ok_ti D39 T WK RK (i := 0) (by decide) rfl D38.fn.kp RR0
    have RR1 : FnR l.prog w K mg base CX0 7 f34 (spRt cDay cLength 1) := ((oNm.mono (by decide)).raw D34.bd .nil).imp (fun vs H Q E h => by rw [List.append_nil]; exact rt_name h)
    have ti1 := ok_ti D39 T WK RK (i := 1) (by decide) rfl D34.fn.kp RR1
    have RR2 : FnR l.prog w K mg base CX0 7 f37 (spRt cDay cLength 2) := ((oNs).raw D37.bd .nil).imp (fun vs H Q E h => by rw [List.append_nil]; exact rt_names h)
    have ti2 := ok_ti D39 T WK RK (i := 2) (by decide) rfl D37.fn.kp RR2
    have RR3 : FnR l.prog w K mg base CX0 7 f32 (spRt cDay cLength 3) := ((oDy.mono (by decide)).raw D32.bd .nil).imp (fun vs H Q E h => by rw [List.append_nil]; exact rt_day h)
    have ti3 := ok_ti D39 T WK RK (i := 3) (by decide) rfl D32.fn.kp RR3
    have RR4 : FnR l.prog w K mg base CX0 7 f33 (spRt cDay cLength 4) := ((oLn.mono (by decide)).raw D33.bd .nil).imp (fun vs H Q E h => by rw [List.append_nil]; exact rt_len h)
    have ti4 := ok_ti D39 T WK RK (i := 4) (by decide) rfl D33.fn.kp RR4
    have cTi : Ca l.prog w K mg base 8 "told_in" ["field", "pieces"] (spTiA cDay cLength) := D39.ca (fn_all (N := 4) (sp := spTi cDay cLength) fun n hn => match n, hn with
      | 0, _ => ti0
      | 1, _ => ti1
      | 2, _ => ti2
      | 3, _ => ti3
      | 4, _ => ti4
      | n + 5, z => absurd z (by omega))
    have oEi := ok_ei D40 T cKi cTi cIe cSe
    have REr : FnR l.prog w K mg base CX0 9 f40 (spE cDay cLength) := (oEi.raw D40.bd .nil).imp (fun vs H Q E h => by rw [List.append_nil]; exact h)
    have S : Sd l.prog w K mg base cDay cLength e f40 f41 _ := sd_mk F41 (PySem.W.mg_of X G a41) (ok_sd F41 T N D40.fn.kp REr)
    have oRe := ok_re D42 T S D40.mgf
    have cH := D43.ca (ok_hand (P := l.prog) (w := w) (base := base) D43 T)
    have cT := D44.ca (ok_take (P := l.prog) (w := w) (base := base) D44)
    have cP := D45.ca (ok_pick D45 T cT)
    have cLa := D46.ca (ok_last (P := l.prog) (w := w) (base := base) D46)
    have cPr := D47.ca (ok_parts D47 cT cP cLa)
    have cDt := D48.ca (ok_text (P := l.prog) (w := w) (base := base) D48 T)
    have cLt := D54.ca (ok_lt (P := l.prog) (w := w) (base := base) D54 T)
    have cNm := D49.ca (ok_nm D49 T cT cP)
    have cKy := D50.ca (ok_ky D50 T cT cP)
    have cSec := D51.ca (ok_sec D51 T cT cP)
    have cEn := D52.ca (ok_en D52 T cT cP cKy cSec cPr cNm)
    have cMd := D53.ca (ok_md D53 T G2 GL)
    have cEt := D55.ca (ok_et D55 T cDt cLt)
    have cLf := D56.ca (ok_lf (P := l.prog) (w := w) (base := base) D56 T)
    have cLdi := D58.ca (ok_ldi D58 T cLf cLa)
    have cLli := D59.ca (ok_lli D59 T cLf cLt)
    have cLni := D60.ca (ok_lni (P := l.prog) (w := w) (base := base) D60 T)
    have cLn := D57.ca (ok_ln D57 T cLf)
    have cLk := D61.ca (ok_lk D61 T cLn)
    have cLpl := D62.ca (ok_lp D62 T cLni)
    have cLc := D63.ca (ok_lc (P := l.prog) (w := w) (base := base) D63 T)
    have cLfi := D64.ca (ok_lfi D64 T cLc cLni cLpl cLdi cLli)
    have cLe := D65.ca (ok_le D65 T cLk cLfi)
    have cBn := D66.ca (ok_bn D66 T cT cP)
    have cA := D67.ca (ok_alone (P := l.prog) (w := w) (base := base) D67 T)
    have cAs := D68.ca (ok_asked D68 T D42 oRe cA)
    have cDu := D69.ca (ok_due D69 T cLe cMd)
    exact ok_law D71 T cH D70 (ok_right D70 T O OL cP cEn cEt cBn cAs cDu)
theorem facts {w : World} {K : PySem.W.Frag} {h : Heap} {mg : Str → Option Value} {fa : Addr} (X : K.In h) (G : h.Ns mainGlobals mg) (hfa : mg ("law" : Str) = some (.ref fa)) (c : SaysZ fns dfs tbs exs w K) :
    ∃ fd : FuncData, (∀ (s : Shared) (v : Value), BindsTo s fd ⟨[v], []⟩ [("_law_script", v)]) ∧
      ∀ base : Heap, K.In base → base.Ns mainGlobals mg → base.NoDigits → Gn PySem.Challenge.rw_takesworks_k64_rows_of_no_entry.prog w K mg base 14 fa fd ["_law_script"] (spLaw K) := by
  obtain ⟨fd0, F0⟩ := c.f 0 (x := "__init__") (q := "NoText.__init__") (st := sNoTextInit) (p := ("NoText", some "__init__")) rfl
  obtain ⟨fd1, F1⟩ := c.f 1 (x := "is_whole") (q := "is_whole") (st := sIsWhole) (p := ("is_whole", none)) rfl
  obtain ⟨fd2, F2⟩ := c.f 2 (x := "is_within") (q := "is_within") (st := sIsWithin) (p := ("is_within", none)) rfl
  obtain ⟨fd3, F3⟩ := c.f 3 (x := "is_text_of") (q := "is_text_of") (st := sIsTextOf) (p := ("is_text_of", none)) rfl
  obtain ⟨fd4, F4⟩ := c.f 4 (x := "is_small_text") (q := "is_small_text") (st := sIsSmallText) (p := ("is_small_text", none)) rfl
  obtain ⟨fd5, F5⟩ := c.f 5 (x := "is_word") (q := "is_word") (st := sIsWord) (p := ("is_word", none)) rfl
  obtain ⟨fd6, F6⟩ := c.f 6 (x := "are_rising") (q := "are_rising") (st := sAreRising) (p := ("are_rising", none)) rfl
  obtain ⟨fd7, F7⟩ := c.f 7 (x := "is_leap") (q := "is_leap") (st := sIsLeap) (p := ("is_leap", none)) rfl
  obtain ⟨fd8, F8⟩ := c.f 8 (x := "days_in") (q := "days_in") (st := sDaysIn) (p := ("days_in", none)) rfl
  obtain ⟨fd9, F9⟩ := c.f 9 (x := "makes_day") (q := "makes_day") (st := sMakesDay) (p := ("makes_day", none)) rfl
  obtain ⟨fd10, F10⟩ := c.d 0 (d := ⟨("Day", some "__init__"), "__init__", "Day.__init__", defArgs sDayInit, defBody sDayInit, defScope sDayInit, [.non, .non], []⟩) rfl
  obtain ⟨fd11, F11⟩ := c.f 10 (x := "__str__") (q := "Day.__str__") (st := sDayStr) (p := ("Day", some "__str__")) rfl
  obtain ⟨fd12, F12⟩ := c.f 11 (x := "__repr__") (q := "Day.__repr__") (st := sDayRepr) (p := ("Day", some "__repr__")) rfl
  obtain ⟨fd13, F13⟩ := c.f 12 (x := "beyond_minutes") (q := "beyond_minutes") (st := sBeyondMinutes) (p := ("beyond_minutes", none)) rfl
  obtain ⟨fd14, F14⟩ := c.f 13 (x := "__init__") (q := "Length.__init__") (st := sLengthInit) (p := ("Length", some "__init__")) rfl
  obtain ⟨fd15, F15⟩ := c.f 14 (x := "__str__") (q := "Length.__str__") (st := sLengthStr) (p := ("Length", some "__str__")) rfl
  obtain ⟨fd16, F16⟩ := c.f 15 (x := "__repr__") (q := "Length.__repr__") (st := sLengthRepr) (p := ("Length", some "__repr__")) rfl
  obtain ⟨fd17, F17⟩ := c.f 16 (x := "is_tongue") (q := "is_tongue") (st := sIsTongue) (p := ("is_tongue", none)) rfl
  obtain ⟨fd18, F18⟩ := c.f 17 (x := "is_name_text") (q := "is_name_text") (st := sIsNameText) (p := ("is_name_text", none)) rfl
  obtain ⟨fd19, F19⟩ := c.f 18 (x := "is_name") (q := "is_name") (st := sIsName) (p := ("is_name", none)) rfl
  obtain ⟨fd20, F20⟩ := c.f 19 (x := "is_key") (q := "is_key") (st := sIsKey) (p := ("is_key", none)) rfl
  obtain ⟨fd21, F21⟩ := c.f 20 (x := "is_code") (q := "is_code") (st := sIsCode) (p := ("is_code", none)) rfl
  obtain ⟨fd22, F22⟩ := c.f 21 (x := "are_players") (q := "are_players") (st := sArePlayers) (p := ("are_players", none)) rfl
  obtain ⟨fd23, F23⟩ := c.f 22 (x := "is_entry") (q := "is_entry") (st := sIsEntry) (p := ("is_entry", none)) rfl
  obtain ⟨fd24, F24⟩ := c.f 23 (x := "key_of") (q := "key_of") (st := sKeyOf) (p := ("key_of", none)) rfl
  obtain ⟨fd25, F25⟩ := c.f 24 (x := "field_of") (q := "field_of") (st := sFieldOf) (p := ("field_of", none)) rfl
  obtain ⟨fd26, F26⟩ := c.f 25 (x := "show_name") (q := "show_name") (st := sShowName) (p := ("show_name", none)) rfl
  obtain ⟨fd27, F27⟩ := c.f 26 (x := "show_key") (q := "show_key") (st := sShowKey) (p := ("show_key", none)) rfl
  obtain ⟨fd28, F28⟩ := c.f 27 (x := "show_told") (q := "show_told") (st := sShowTold) (p := ("show_told", none)) rfl
  obtain ⟨fd29, F29⟩ := c.f 28 (x := "show_entry") (q := "show_entry") (st := sShowEntry) (p := ("show_entry", none)) rfl
  obtain ⟨fd30, F30⟩ := c.f 29 (x := "are_figures") (q := "are_figures") (st := sAreFigures) (p := ("are_figures", none)) rfl
  obtain ⟨fd31, F31⟩ := c.f 30 (x := "number_in") (q := "number_in") (st := sNumberIn) (p := ("number_in", none)) rfl
  obtain ⟨fd32, F32⟩ := c.f 31 (x := "day_in") (q := "day_in") (st := sDayIn) (p := ("day_in", none)) rfl
  obtain ⟨fd33, F33⟩ := c.f 32 (x := "length_in") (q := "length_in") (st := sLengthIn) (p := ("length_in", none)) rfl
  obtain ⟨fd34, F34⟩ := c.f 33 (x := "name_in") (q := "name_in") (st := sNameIn) (p := ("name_in", none)) rfl
  obtain ⟨fd35, F35⟩ := c.f 34 (x := "key_in") (q := "key_in") (st := sKeyIn) (p := ("key_in", none)) rfl
  obtain ⟨fd36, F36⟩ := c.f 35 (x := "all_in") (q := "all_in") (st := sAllIn) (p := ("all_in", none)) rfl
  obtain ⟨fd37, F37⟩ := c.f 36 (x := "names_in") (q := "names_in") (st := sNamesIn) (p := ("names_in", none)) rfl
  obtain ⟨fd38, F38⟩ := c.f 37 (x := "code_in") (q := "code_in") (st := sCodeIn) (p := ("code_in", none)) rfl
  obtain ⟨fd39, F39⟩ := c.f 38 (x := "told_in") (q := "told_in") (st := sToldIn) (p := ("told_in", none)) rfl
  obtain ⟨fd40, F40⟩ := c.f 39 (x := "entry_in") (q := "entry_in") (st := sEntryIn) (p := ("entry_in", none)) rfl
  obtain ⟨fd41, F41⟩ := c.d 1 (d := ⟨("so_written", none), "so_written", "so_written", defArgs sSoWritten, defBody sSoWritten, defScope sSoWritten, [.int 0], []⟩) rfl
  obtain ⟨fd42, F42⟩ := c.f 40 (x := "read_entry") (q := "read_entry") (st := sReadEntry) (p := ("read_entry", none)) rfl
  obtain ⟨fd43, F43⟩ := c.f 41 (x := "_law_hand") (q := "_law_hand") (st := sHand) (p := ("_law_hand", none)) rfl
  obtain ⟨fd44, F44⟩ := c.f 42 (x := "_law_take") (q := "_law_take") (st := sTake) (p := ("_law_take", none)) rfl
  obtain ⟨fd45, F45⟩ := c.f 43 (x := "_law_pick") (q := "_law_pick") (st := sPick) (p := ("_law_pick", none)) rfl
  obtain ⟨fd46, F46⟩ := c.f 44 (x := "_law_last") (q := "_law_last") (st := sLast) (p := ("_law_last", none)) rfl
  obtain ⟨fd47, F47⟩ := c.f 45 (x := "_law_parts") (q := "_law_parts") (st := sParts) (p := ("_law_parts", none)) rfl
  obtain ⟨fd48, F48⟩ := c.f 46 (x := "_law_day_text") (q := "_law_day_text") (st := sDayText) (p := ("_law_day_text", none)) rfl
  obtain ⟨fd49, F49⟩ := c.f 47 (x := "_law_name") (q := "_law_name") (st := sName) (p := ("_law_name", none)) rfl
  obtain ⟨fd50, F50⟩ := c.f 48 (x := "_law_key") (q := "_law_key") (st := sKey) (p := ("_law_key", none)) rfl
  obtain ⟨fd51, F51⟩ := c.f 49 (x := "_law_seconds") (q := "_law_seconds") (st := sSeconds) (p := ("_law_seconds", none)) rfl
  obtain ⟨fd52, F52⟩ := c.f 50 (x := "_law_entry") (q := "_law_entry") (st := sEntry) (p := ("_law_entry", none)) rfl
  obtain ⟨fd53, F53⟩ := c.f 51 (x := "_law_made") (q := "_law_made") (st := sMade) (p := ("_law_made", none)) rfl
  obtain ⟨fd54, F54⟩ := c.f 52 (x := "_law_length_text") (q := "_law_length_text") (st := sLengthText) (p := ("_law_length_text", none)) rfl
  obtain ⟨fd55, F55⟩ := c.f 53 (x := "_law_entry_text") (q := "_law_entry_text") (st := sEntryText) (p := ("_law_entry_text", none)) rfl
  obtain ⟨fd56, F56⟩ := c.f 54 (x := "_law_figures") (q := "_law_figures") (st := sFigures) (p := ("_law_figures", none)) rfl
  obtain ⟨fd57, F57⟩ := c.f 55 (x := "_law_number") (q := "_law_number") (st := sNumber) (p := ("_law_number", none)) rfl
  obtain ⟨fd58, F58⟩ := c.f 56 (x := "_law_day_in") (q := "_law_day_in") (st := sLawDayIn) (p := ("_law_day_in", none)) rfl
  obtain ⟨fd59, F59⟩ := c.f 57 (x := "_law_length_in") (q := "_law_length_in") (st := sLawLengthIn) (p := ("_law_length_in", none)) rfl
  obtain ⟨fd60, F60⟩ := c.f 58 (x := "_law_name_in") (q := "_law_name_in") (st := sLawNameIn) (p := ("_law_name_in", none)) rfl
  obtain ⟨fd61, F61⟩ := c.f 59 (x := "_law_key_in") (q := "_law_key_in") (st := sLawKeyIn) (p := ("_law_key_in", none)) rfl
  obtain ⟨fd62, F62⟩ := c.f 60 (x := "_law_players_in") (q := "_law_players_in") (st := sLawPlayersIn) (p := ("_law_players_in", none)) rfl
  obtain ⟨fd63, F63⟩ := c.f 61 (x := "_law_code_in") (q := "_law_code_in") (st := sLawCodeIn) (p := ("_law_code_in", none)) rfl
  obtain ⟨fd64, F64⟩ := c.f 62 (x := "_law_field_in") (q := "_law_field_in") (st := sLawFieldIn) (p := ("_law_field_in", none)) rfl
  obtain ⟨fd65, F65⟩ := c.f 63 (x := "_law_entry_in") (q := "_law_entry_in") (st := sLawEntryIn) (p := ("_law_entry_in", none)) rfl
  obtain ⟨fd66, F66⟩ := c.f 64 (x := "_law_bent") (q := "_law_bent") (st := sBent) (p := ("_law_bent", none)) rfl
  obtain ⟨fd67, F67⟩ := c.f 65 (x := "_law_alone") (q := "_law_alone") (st := sAlone) (p := ("_law_alone", none)) rfl
  obtain ⟨fd68, F68⟩ := c.f 66 (x := "_law_asked") (q := "_law_asked") (st := sAsked) (p := ("_law_asked", none)) rfl
  obtain ⟨fd69, F69⟩ := c.f 67 (x := "_law_due") (q := "_law_due") (st := sDue) (p := ("_law_due", none)) rfl
  obtain ⟨fd70, F70⟩ := c.f 68 (x := "_law_right") (q := "_law_right") (st := sRight) (p := ("_law_right", none)) rfl
  obtain ⟨fd71, F71⟩ := c.f 69 (x := "law") (q := "law") (st := sLaw) (p := ("law", none)) rfl
  have a_Day : PySem.W.nsIn K mainGlobals "Day" = some (some (.ref (ga K "Day"))) := by
    have h : x0 K = true := c.x 0 rfl
    exact of_decide_eq_true h
  have a_Length : PySem.W.nsIn K mainGlobals "Length" = some (some (.ref (ga K "Length"))) := by
    have h : x1 K = true := c.x 1 rfl
    exact of_decide_eq_true h
  have a_NotSuch : PySem.W.nsIn K mainGlobals "NotSuch" = some (some (.ref (ga K "NotSuch"))) := by
    have h : x2 K = true := c.x 2 rfl
    exact of_decide_eq_true h
  have a_Lost : PySem.W.nsIn K mainGlobals "Lost" = some (some (.ref (ga K "Lost"))) := by
    have h : x3 K = true := c.x 3 rfl
    exact of_decide_eq_true h
  have a_Taken : PySem.W.nsIn K mainGlobals "Taken" = some (some (.ref (ga K "Taken"))) := by
    have h : x4 K = true := c.x 4 rfl
    exact of_decide_eq_true h
  have a_NoCustom : PySem.W.nsIn K mainGlobals "NoCustom" = some (some (.ref (ga K "NoCustom"))) := by
    have h : x5 K = true := c.x 5 rfl
    exact of_decide_eq_true h
  have a_NoDay : PySem.W.nsIn K mainGlobals "NoDay" = some (some (.ref (ga K "NoDay"))) := by
    have h : x6 K = true := c.x 6 rfl
    exact of_decide_eq_true h
  have a_NoDisc : PySem.W.nsIn K mainGlobals "NoDisc" = some (some (.ref (ga K "NoDisc"))) := by
    have h : x7 K = true := c.x 7 rfl
    exact of_decide_eq_true h
  have a_NoEntry : PySem.W.nsIn K mainGlobals "NoEntry" = some (some (.ref (ga K "NoEntry"))) := by
    have h : x8 K = true := c.x 8 rfl
    exact of_decide_eq_true h
  have a_NoKey : PySem.W.nsIn K mainGlobals "NoKey" = some (some (.ref (ga K "NoKey"))) := by
    have h : x9 K = true := c.x 9 rfl
    exact of_decide_eq_true h
  have a_NoLength : PySem.W.nsIn K mainGlobals "NoLength" = some (some (.ref (ga K "NoLength"))) := by
    have h : x10 K = true := c.x 10 rfl
    exact of_decide_eq_true h
  have a_NoLine : PySem.W.nsIn K mainGlobals "NoLine" = some (some (.ref (ga K "NoLine"))) := by
    have h : x11 K = true := c.x 11 rfl
    exact of_decide_eq_true h
  have a_NoName : PySem.W.nsIn K mainGlobals "NoName" = some (some (.ref (ga K "NoName"))) := by
    have h : x12 K = true := c.x 12 rfl
    exact of_decide_eq_true h
  have a_NoNumber : PySem.W.nsIn K mainGlobals "NoNumber" = some (some (.ref (ga K "NoNumber"))) := by
    have h : x13 K = true := c.x 13 rfl
    exact of_decide_eq_true h
  have a_NoPath : PySem.W.nsIn K mainGlobals "NoPath" = some (some (.ref (ga K "NoPath"))) := by
    have h : x14 K = true := c.x 14 rfl
    exact of_decide_eq_true h
  have a_Same : PySem.W.nsIn K mainGlobals "Same" = some (some (.ref (ga K "Same"))) := by
    have h : x15 K = true := c.x 15 rfl
    exact of_decide_eq_true h
  have a_Struck : PySem.W.nsIn K mainGlobals "Struck" = some (some (.ref (ga K "Struck"))) := by
    have h : x16 K = true := c.x 16 rfl
    exact of_decide_eq_true h
  have a_Twice : PySem.W.nsIn K mainGlobals "Twice" = some (some (.ref (ga K "Twice"))) := by
    have h : x17 K = true := c.x 17 rfl
    exact of_decide_eq_true h
  have a_NoText : PySem.W.nsIn K mainGlobals "NoText" = some (some (.ref (ga K "NoText"))) := by
    have h : x18 K = true := c.x 18 rfl
    exact of_decide_eq_true h
  have a0 : PySem.W.findIn K (.ref (ga K "NoText")) "__init__" = some (some (.ref (ma K (ga K "NoText") "__init__"))) := by
    have h : x19 K = true := c.x 19 rfl
    exact of_decide_eq_true h
  have i0 : PySem.W.isFn K (.ref (ma K (ga K "NoText") "__init__")) = true := by
    have h : x20 K = true := c.x 20 rfl
    exact of_decide_eq_true h
  have a1 : PySem.W.nsIn K mainGlobals "is_whole" = some (some (.ref (ga K "is_whole"))) := by
    have h : x21 K = true := c.x 21 rfl
    exact of_decide_eq_true h
  have a2 : PySem.W.nsIn K mainGlobals "is_within" = some (some (.ref (ga K "is_within"))) := by
    have h : x22 K = true := c.x 22 rfl
    exact of_decide_eq_true h
  have a3 : PySem.W.nsIn K mainGlobals "is_text_of" = some (some (.ref (ga K "is_text_of"))) := by
    have h : x23 K = true := c.x 23 rfl
    exact of_decide_eq_true h
  have a4 : PySem.W.nsIn K mainGlobals "is_small_text" = some (some (.ref (ga K "is_small_text"))) := by
    have h : x24 K = true := c.x 24 rfl
    exact of_decide_eq_true h
  have a5 : PySem.W.nsIn K mainGlobals "is_word" = some (some (.ref (ga K "is_word"))) := by
    have h : x25 K = true := c.x 25 rfl
    exact of_decide_eq_true h
  have a6 : PySem.W.nsIn K mainGlobals "are_rising" = some (some (.ref (ga K "are_rising"))) := by
    have h : x26 K = true := c.x 26 rfl
    exact of_decide_eq_true h
  have a7 : PySem.W.nsIn K mainGlobals "is_leap" = some (some (.ref (ga K "is_leap"))) := by
    have h : x27 K = true := c.x 27 rfl
    exact of_decide_eq_true h
  have a8 : PySem.W.nsIn K mainGlobals "days_in" = some (some (.ref (ga K "days_in"))) := by
    have h : x28 K = true := c.x 28 rfl
    exact of_decide_eq_true h
  have a9 : PySem.W.nsIn K mainGlobals "makes_day" = some (some (.ref (ga K "makes_day"))) := by
    have h : x29 K = true := c.x 29 rfl
    exact of_decide_eq_true h
  have a10 : PySem.W.findIn K (.ref (ga K "Day")) "__init__" = some (some (.ref (ma K (ga K "Day") "__init__"))) := by
    have h : x30 K = true := c.x 30 rfl
    exact of_decide_eq_true h
  have i10 : PySem.W.isFn K (.ref (ma K (ga K "Day") "__init__")) = true := by
    have h : x31 K = true := c.x 31 rfl
    exact of_decide_eq_true h
  have a11 : PySem.W.findIn K (.ref (ga K "Day")) "__str__" = some (some (.ref (ma K (ga K "Day") "__str__"))) := by
    have h : x32 K = true := c.x 32 rfl
    exact of_decide_eq_true h
  have i11 : PySem.W.isFn K (.ref (ma K (ga K "Day") "__str__")) = true := by
    have h : x33 K = true := c.x 33 rfl
    exact of_decide_eq_true h
  have a12 : PySem.W.findIn K (.ref (ga K "Day")) "__repr__" = some (some (.ref (ma K (ga K "Day") "__repr__"))) := by
    have h : x34 K = true := c.x 34 rfl
    exact of_decide_eq_true h
  have i12 : PySem.W.isFn K (.ref (ma K (ga K "Day") "__repr__")) = true := by
    have h : x35 K = true := c.x 35 rfl
    exact of_decide_eq_true h
  have a13 : PySem.W.nsIn K mainGlobals "beyond_minutes" = some (some (.ref (ga K "beyond_minutes"))) := by
    have h : x36 K = true := c.x 36 rfl
    exact of_decide_eq_true h
  have a14 : PySem.W.findIn K (.ref (ga K "Length")) "__init__" = some (some (.ref (ma K (ga K "Length") "__init__"))) := by
    have h : x37 K = true := c.x 37 rfl
    exact of_decide_eq_true h
  have i14 : PySem.W.isFn K (.ref (ma K (ga K "Length") "__init__")) = true := by
    have h : x38 K = true := c.x 38 rfl
    exact of_decide_eq_true h
  have a15 : PySem.W.findIn K (.ref (ga K "Length")) "__str__" = some (some (.ref (ma K (ga K "Length") "__str__"))) := by
    have h : x39 K = true := c.x 39 rfl
    exact of_decide_eq_true h
  have i15 : PySem.W.isFn K (.ref (ma K (ga K "Length") "__str__")) = true := by
    have h : x40 K = true := c.x 40 rfl
    exact of_decide_eq_true h
  have a16 : PySem.W.findIn K (.ref (ga K "Length")) "__repr__" = some (some (.ref (ma K (ga K "Length") "__repr__"))) := by
    have h : x41 K = true := c.x 41 rfl
    exact of_decide_eq_true h
  have i16 : PySem.W.isFn K (.ref (ma K (ga K "Length") "__repr__")) = true := by
    have h : x42 K = true := c.x 42 rfl
    exact of_decide_eq_true h
  have a17 : PySem.W.nsIn K mainGlobals "is_tongue" = some (some (.ref (ga K "is_tongue"))) := by
    have h : x43 K = true := c.x 43 rfl
    exact of_decide_eq_true h
  have a18 : PySem.W.nsIn K mainGlobals "is_name_text" = some (some (.ref (ga K "is_name_text"))) := by
    have h : x44 K = true := c.x 44 rfl
    exact of_decide_eq_true h
  have a19 : PySem.W.nsIn K mainGlobals "is_name" = some (some (.ref (ga K "is_name"))) := by
    have h : x45 K = true := c.x 45 rfl
    exact of_decide_eq_true h
  have a20 : PySem.W.nsIn K mainGlobals "is_key" = some (some (.ref (ga K "is_key"))) := by
    have h : x46 K = true := c.x 46 rfl
    exact of_decide_eq_true h
  have a21 : PySem.W.nsIn K mainGlobals "is_code" = some (some (.ref (ga K "is_code"))) := by
    have h : x47 K = true := c.x 47 rfl
    exact of_decide_eq_true h
  have a22 : PySem.W.nsIn K mainGlobals "are_players" = some (some (.ref (ga K "are_players"))) := by
    have h : x48 K = true := c.x 48 rfl
    exact of_decide_eq_true h
  have a23 : PySem.W.nsIn K mainGlobals "is_entry" = some (some (.ref (ga K "is_entry"))) := by
    have h : x49 K = true := c.x 49 rfl
    exact of_decide_eq_true h
  have a24 : PySem.W.nsIn K mainGlobals "key_of" = some (some (.ref (ga K "key_of"))) := by
    have h : x50 K = true := c.x 50 rfl
    exact of_decide_eq_true h
  have a25 : PySem.W.nsIn K mainGlobals "field_of" = some (some (.ref (ga K "field_of"))) := by
    have h : x51 K = true := c.x 51 rfl
    exact of_decide_eq_true h
  have a26 : PySem.W.nsIn K mainGlobals "show_name" = some (some (.ref (ga K "show_name"))) := by
    have h : x52 K = true := c.x 52 rfl
    exact of_decide_eq_true h
  have a27 : PySem.W.nsIn K mainGlobals "show_key" = some (some (.ref (ga K "show_key"))) := by
    have h : x53 K = true := c.x 53 rfl
    exact of_decide_eq_true h
  have a28 : PySem.W.nsIn K mainGlobals "show_told" = some (some (.ref (ga K "show_told"))) := by
    have h : x54 K = true := c.x 54 rfl
    exact of_decide_eq_true h
  have a29 : PySem.W.nsIn K mainGlobals "show_entry" = some (some (.ref (ga K "show_entry"))) := by
    have h : x55 K = true := c.x 55 rfl
    exact of_decide_eq_true h
  have a30 : PySem.W.nsIn K mainGlobals "are_figures" = some (some (.ref (ga K "are_figures"))) := by
    have h : x56 K = true := c.x 56 rfl
    exact of_decide_eq_true h
  have a31 : PySem.W.nsIn K mainGlobals "number_in" = some (some (.ref (ga K "number_in"))) := by
    have h : x57 K = true := c.x 57 rfl
    exact of_decide_eq_true h
  have a32 : PySem.W.nsIn K mainGlobals "day_in" = some (some (.ref (ga K "day_in"))) := by
    have h : x58 K = true := c.x 58 rfl
    exact of_decide_eq_true h
  have a33 : PySem.W.nsIn K mainGlobals "length_in" = some (some (.ref (ga K "length_in"))) := by
    have h : x59 K = true := c.x 59 rfl
    exact of_decide_eq_true h
  have a34 : PySem.W.nsIn K mainGlobals "name_in" = some (some (.ref (ga K "name_in"))) := by
    have h : x60 K = true := c.x 60 rfl
    exact of_decide_eq_true h
  have a35 : PySem.W.nsIn K mainGlobals "key_in" = some (some (.ref (ga K "key_in"))) := by
    have h : x61 K = true := c.x 61 rfl
    exact of_decide_eq_true h
  have a36 : PySem.W.nsIn K mainGlobals "all_in" = some (some (.ref (ga K "all_in"))) := by
    have h : x62 K = true := c.x 62 rfl
    exact of_decide_eq_true h
  have a37 : PySem.W.nsIn K mainGlobals "names_in" = some (some (.ref (ga K "names_in"))) := by
    have h : x63 K = true := c.x 63 rfl
    exact of_decide_eq_true h
  have a38 : PySem.W.nsIn K mainGlobals "code_in" = some (some (.ref (ga K "code_in"))) := by
    have h : x64 K = true := c.x 64 rfl
    exact of_decide_eq_true h
  have a39 : PySem.W.nsIn K mainGlobals "told_in" = some (some (.ref (ga K "told_in"))) := by
    have h : x65 K = true := c.x 65 rfl
    exact of_decide_eq_true h
  have a40 : PySem.W.nsIn K mainGlobals "entry_in" = some (some (.ref (ga K "entry_in"))) := by
    have h : x66 K = true := c.x 66 rfl
    exact of_decide_eq_true h
  have a41 : PySem.W.nsIn K mainGlobals "so_written" = some (some (.ref (ga K "so_written"))) := by
    have h : x67 K = true := c.x 67 rfl
    exact of_decide_eq_true h
  have a42 : PySem.W.nsIn K mainGlobals "read_entry" = some (some (.ref (ga K "read_entry"))) := by
    have h : x68 K = true := c.x 68 rfl
    exact of_decide_eq_true h
  have a43 : PySem.W.nsIn K mainGlobals "_law_hand" = some (some (.ref (ga K "_law_hand"))) := by
    have h : x69 K = true := c.x 69 rfl
    exact of_decide_eq_true h
  have a44 : PySem.W.nsIn K mainGlobals "_law_take" = some (some (.ref (ga K "_law_take"))) := by
    have h : x70 K = true := c.x 70 rfl
    exact of_decide_eq_true h
  have a45 : PySem.W.nsIn K mainGlobals "_law_pick" = some (some (.ref (ga K "_law_pick"))) := by
    have h : x71 K = true := c.x 71 rfl
    exact of_decide_eq_true h
  have a46 : PySem.W.nsIn K mainGlobals "_law_last" = some (some (.ref (ga K "_law_last"))) := by
    have h : x72 K = true := c.x 72 rfl
    exact of_decide_eq_true h
  have a47 : PySem.W.nsIn K mainGlobals "_law_parts" = some (some (.ref (ga K "_law_parts"))) := by
    have h : x73 K = true := c.x 73 rfl
    exact of_decide_eq_true h
  have a48 : PySem.W.nsIn K mainGlobals "_law_day_text" = some (some (.ref (ga K "_law_day_text"))) := by
    have h : x74 K = true := c.x 74 rfl
    exact of_decide_eq_true h
  have a49 : PySem.W.nsIn K mainGlobals "_law_name" = some (some (.ref (ga K "_law_name"))) := by
    have h : x75 K = true := c.x 75 rfl
    exact of_decide_eq_true h
  have a50 : PySem.W.nsIn K mainGlobals "_law_key" = some (some (.ref (ga K "_law_key"))) := by
    have h : x76 K = true := c.x 76 rfl
    exact of_decide_eq_true h
  have a51 : PySem.W.nsIn K mainGlobals "_law_seconds" = some (some (.ref (ga K "_law_seconds"))) := by
    have h : x77 K = true := c.x 77 rfl
    exact of_decide_eq_true h
  have a52 : PySem.W.nsIn K mainGlobals "_law_entry" = some (some (.ref (ga K "_law_entry"))) := by
    have h : x78 K = true := c.x 78 rfl
    exact of_decide_eq_true h
  have a53 : PySem.W.nsIn K mainGlobals "_law_made" = some (some (.ref (ga K "_law_made"))) := by
    have h : x79 K = true := c.x 79 rfl
    exact of_decide_eq_true h
  have a54 : PySem.W.nsIn K mainGlobals "_law_length_text" = some (some (.ref (ga K "_law_length_text"))) := by
    have h : x80 K = true := c.x 80 rfl
    exact of_decide_eq_true h
  have a55 : PySem.W.nsIn K mainGlobals "_law_entry_text" = some (some (.ref (ga K "_law_entry_text"))) := by
    have h : x81 K = true := c.x 81 rfl
    exact of_decide_eq_true h
  have a56 : PySem.W.nsIn K mainGlobals "_law_figures" = some (some (.ref (ga K "_law_figures"))) := by
    have h : x82 K = true := c.x 82 rfl
    exact of_decide_eq_true h
  have a57 : PySem.W.nsIn K mainGlobals "_law_number" = some (some (.ref (ga K "_law_number"))) := by
    have h : x83 K = true := c.x 83 rfl
    exact of_decide_eq_true h
  have a58 : PySem.W.nsIn K mainGlobals "_law_day_in" = some (some (.ref (ga K "_law_day_in"))) := by
    have h : x84 K = true := c.x 84 rfl
    exact of_decide_eq_true h
  have a59 : PySem.W.nsIn K mainGlobals "_law_length_in" = some (some (.ref (ga K "_law_length_in"))) := by
    have h : x85 K = true := c.x 85 rfl
    exact of_decide_eq_true h
  have a60 : PySem.W.nsIn K mainGlobals "_law_name_in" = some (some (.ref (ga K "_law_name_in"))) := by
    have h : x86 K = true := c.x 86 rfl
    exact of_decide_eq_true h
  have a61 : PySem.W.nsIn K mainGlobals "_law_key_in" = some (some (.ref (ga K "_law_key_in"))) := by
    have h : x87 K = true := c.x 87 rfl
    exact of_decide_eq_true h
  have a62 : PySem.W.nsIn K mainGlobals "_law_players_in" = some (some (.ref (ga K "_law_players_in"))) := by
    have h : x88 K = true := c.x 88 rfl
    exact of_decide_eq_true h
  have a63 : PySem.W.nsIn K mainGlobals "_law_code_in" = some (some (.ref (ga K "_law_code_in"))) := by
    have h : x89 K = true := c.x 89 rfl
    exact of_decide_eq_true h
  have a64 : PySem.W.nsIn K mainGlobals "_law_field_in" = some (some (.ref (ga K "_law_field_in"))) := by
    have h : x90 K = true := c.x 90 rfl
    exact of_decide_eq_true h
  have a65 : PySem.W.nsIn K mainGlobals "_law_entry_in" = some (some (.ref (ga K "_law_entry_in"))) := by
    have h : x91 K = true := c.x 91 rfl
    exact of_decide_eq_true h
  have a66 : PySem.W.nsIn K mainGlobals "_law_bent" = some (some (.ref (ga K "_law_bent"))) := by
    have h : x92 K = true := c.x 92 rfl
    exact of_decide_eq_true h
  have a67 : PySem.W.nsIn K mainGlobals "_law_alone" = some (some (.ref (ga K "_law_alone"))) := by
    have h : x93 K = true := c.x 93 rfl
    exact of_decide_eq_true h
  have a68 : PySem.W.nsIn K mainGlobals "_law_asked" = some (some (.ref (ga K "_law_asked"))) := by
    have h : x94 K = true := c.x 94 rfl
    exact of_decide_eq_true h
  have a69 : PySem.W.nsIn K mainGlobals "_law_due" = some (some (.ref (ga K "_law_due"))) := by
    have h : x95 K = true := c.x 95 rfl
    exact of_decide_eq_true h
  have a70 : PySem.W.nsIn K mainGlobals "_law_right" = some (some (.ref (ga K "_law_right"))) := by
    have h : x96 K = true := c.x 96 rfl
    exact of_decide_eq_true h
  have a71 : PySem.W.nsIn K mainGlobals "law" = some (some (.ref (ga K "law"))) := by
    have h : x97 K = true := c.x 97 rfl
    exact of_decide_eq_true h
  have g_KEY_PARTS : ∃ t, mg "KEY_PARTS" = some (.int 2 t) := by
    have h : x98 K = true := c.x 98 rfl
    exact int_ok X G h
  have g_LONGEST_WORD : ∃ t, mg "LONGEST_WORD" = some (.int 8 t) := by
    have h : x99 K = true := c.x 99 rfl
    exact int_ok X G h
  have g_LONGEST_CODE : ∃ t, mg "LONGEST_CODE" = some (.int 12 t) := by
    have h : x100 K = true := c.x 100 rfl
    exact int_ok X G h
  have g_MOST_PLAYERS : ∃ t, mg "MOST_PLAYERS" = some (.int 8 t) := by
    have h : x101 K = true := c.x 101 rfl
    exact int_ok X G h
  have g_LAST_YEAR : ∃ t, mg "LAST_YEAR" = some (.int 9999 t) := by
    have h : x102 K = true := c.x 102 rfl
    exact int_ok X G h
  have g_MONTHS : ∃ t, mg "MONTHS" = some (.int 12 t) := by
    have h : x103 K = true := c.x 103 rfl
    exact int_ok X G h
  have g_FEBRUARY : ∃ t, mg "FEBRUARY" = some (.int 2 t) := by
    have h : x104 K = true := c.x 104 rfl
    exact int_ok X G h
  have g_MOST_SECONDS : ∃ t, mg "MOST_SECONDS" = some (.int 359999 t) := by
    have h : x105 K = true := c.x 105 rfl
    exact int_ok X G h
  have g_SHORTEST_TONGUE : ∃ t, mg "SHORTEST_TONGUE" = some (.int 2 t) := by
    have h : x106 K = true := c.x 106 rfl
    exact int_ok X G h
  have g_LONGEST_TONGUE : ∃ t, mg "LONGEST_TONGUE" = some (.int 3 t) := by
    have h : x107 K = true := c.x 107 rfl
    exact int_ok X G h
  have g_LONGEST_TEXT : ∃ t, mg "LONGEST_TEXT" = some (.int 40 t) := by
    have h : x108 K = true := c.x 108 rfl
    exact int_ok X G h
  have g_MOST_FIGURES : ∃ t, mg "MOST_FIGURES" = some (.int 30 t) := by
    have h : x109 K = true := c.x 109 rfl
    exact int_ok X G h
  have g_DAY_PARTS : ∃ t, mg "DAY_PARTS" = some (.int 3 t) := by
    have h : x110 K = true := c.x 110 rfl
    exact int_ok X G h
  have g_YEAR_FIGURES : ∃ t, mg "YEAR_FIGURES" = some (.int 4 t) := by
    have h : x111 K = true := c.x 111 rfl
    exact int_ok X G h
  have g_SMALL_LETTERS : ∃ t, mg "SMALL_LETTERS" = some (.str "abcdefghijklmnopqrstuvwxyz" t) := by
    have h : x112 K = true := c.x 112 rfl
    exact str_ok X G h
  have g_TEXT_SIGNS : ∃ t, mg "TEXT_SIGNS" = some (.str "abcdefghijklmnopqrstuvwxyzABCDEFGHIJKLMNOPQRSTUVWXYZ0123456789 '-." t) := by
    have h : x113 K = true := c.x 113 rfl
    exact str_ok X G h
  have g_FIGURES : ∃ t, mg "FIGURES" = some (.str "0123456789" t) := by
    have h : x114 K = true := c.x 114 rfl
    exact str_ok X G h
  have g_CODE_SIGNS : ∃ t, mg "CODE_SIGNS" = some (.str "ABCDEFGHIJKLMNOPQRSTUVWXYZ0123456789" t) := by
    have h : x115 K = true := c.x 115 rfl
    exact str_ok X G h
  have g0_MONTH_DAYS : PySem.W.nsIn K mainGlobals "MONTH_DAYS" = some (some (.ref (ga K "MONTH_DAYS"))) := by
    have h : x116 K = true := c.x 116 rfl
    exact of_decide_eq_true h
  have h_MONTH_DAYS : ∀ H, SqT K H (ga K "MONTH_DAYS") [V.int 31, V.int 28, V.int 31, V.int 30, V.int 31, V.int 30, V.int 31, V.int 31, V.int 30, V.int 31, V.int 30, V.int 31] := by
    have h : x117 K = true := c.x 117 rfl
    exact fun H => tupB_ok h H
  have g0_FIELDS : PySem.W.nsIn K mainGlobals "FIELDS" = some (some (.ref (ga K "FIELDS"))) := by
    have h : x118 K = true := c.x 118 rfl
    exact of_decide_eq_true h
  have h_FIELDS : ∀ H, SqT K H (ga K "FIELDS") [V.str "code", V.str "title", V.str "players", V.str "day", V.str "length"] := by
    have h : x119 K = true := c.x 119 rfl
    exact fun H => tupB_ok h H
  have ic_NotSuch : PySem.W.isClsIn K (ga K "NotSuch") = true := by
    have h : x120 K = true := c.x 120 rfl
    exact of_decide_eq_true h
  have ty_NotSuch : PySem.W.typeIn K (.ref (ga K "NotSuch")) = some (.type "type") := by
    have h : x121 K = true := c.x 121 rfl
    exact of_decide_eq_true h
  have sb_NotSuch : PySem.W.subIn K (.ref (ga K "NoText")) (.ref (ga K "NotSuch")) = some true := by
    have h : x122 K = true := c.x 122 rfl
    exact of_decide_eq_true h
  have ic_Lost : PySem.W.isClsIn K (ga K "Lost") = true := by
    have h : x123 K = true := c.x 123 rfl
    exact of_decide_eq_true h
  have ty_Lost : PySem.W.typeIn K (.ref (ga K "Lost")) = some (.type "type") := by
    have h : x124 K = true := c.x 124 rfl
    exact of_decide_eq_true h
  have sb_Lost : PySem.W.subIn K (.ref (ga K "NoText")) (.ref (ga K "Lost")) = some false := by
    have h : x125 K = true := c.x 125 rfl
    exact of_decide_eq_true h
  have ic_Taken : PySem.W.isClsIn K (ga K "Taken") = true := by
    have h : x126 K = true := c.x 126 rfl
    exact of_decide_eq_true h
  have ty_Taken : PySem.W.typeIn K (.ref (ga K "Taken")) = some (.type "type") := by
    have h : x127 K = true := c.x 127 rfl
    exact of_decide_eq_true h
  have sb_Taken : PySem.W.subIn K (.ref (ga K "NoText")) (.ref (ga K "Taken")) = some false := by
    have h : x128 K = true := c.x 128 rfl
    exact of_decide_eq_true h
  have ic_NoCustom : PySem.W.isClsIn K (ga K "NoCustom") = true := by
    have h : x129 K = true := c.x 129 rfl
    exact of_decide_eq_true h
  have ty_NoCustom : PySem.W.typeIn K (.ref (ga K "NoCustom")) = some (.type "type") := by
    have h : x130 K = true := c.x 130 rfl
    exact of_decide_eq_true h
  have sb_NoCustom : PySem.W.subIn K (.ref (ga K "NoText")) (.ref (ga K "NoCustom")) = some false := by
    have h : x131 K = true := c.x 131 rfl
    exact of_decide_eq_true h
  have ic_NoDay : PySem.W.isClsIn K (ga K "NoDay") = true := by
    have h : x132 K = true := c.x 132 rfl
    exact of_decide_eq_true h
  have ty_NoDay : PySem.W.typeIn K (.ref (ga K "NoDay")) = some (.type "type") := by
    have h : x133 K = true := c.x 133 rfl
    exact of_decide_eq_true h
  have sb_NoDay : PySem.W.subIn K (.ref (ga K "NoText")) (.ref (ga K "NoDay")) = some false := by
    have h : x134 K = true := c.x 134 rfl
    exact of_decide_eq_true h
  have ic_NoDisc : PySem.W.isClsIn K (ga K "NoDisc") = true := by
    have h : x135 K = true := c.x 135 rfl
    exact of_decide_eq_true h
  have ty_NoDisc : PySem.W.typeIn K (.ref (ga K "NoDisc")) = some (.type "type") := by
    have h : x136 K = true := c.x 136 rfl
    exact of_decide_eq_true h
  have sb_NoDisc : PySem.W.subIn K (.ref (ga K "NoText")) (.ref (ga K "NoDisc")) = some false := by
    have h : x137 K = true := c.x 137 rfl
    exact of_decide_eq_true h
  have ic_NoEntry : PySem.W.isClsIn K (ga K "NoEntry") = true := by
    have h : x138 K = true := c.x 138 rfl
    exact of_decide_eq_true h
  have ty_NoEntry : PySem.W.typeIn K (.ref (ga K "NoEntry")) = some (.type "type") := by
    have h : x139 K = true := c.x 139 rfl
    exact of_decide_eq_true h
  have sb_NoEntry : PySem.W.subIn K (.ref (ga K "NoText")) (.ref (ga K "NoEntry")) = some false := by
    have h : x140 K = true := c.x 140 rfl
    exact of_decide_eq_true h
  have ic_NoKey : PySem.W.isClsIn K (ga K "NoKey") = true := by
    have h : x141 K = true := c.x 141 rfl
    exact of_decide_eq_true h
  have ty_NoKey : PySem.W.typeIn K (.ref (ga K "NoKey")) = some (.type "type") := by
    have h : x142 K = true := c.x 142 rfl
    exact of_decide_eq_true h
  have sb_NoKey : PySem.W.subIn K (.ref (ga K "NoText")) (.ref (ga K "NoKey")) = some false := by
    have h : x143 K = true := c.x 143 rfl
    exact of_decide_eq_true h
  have ic_NoLength : PySem.W.isClsIn K (ga K "NoLength") = true := by
    have h : x144 K = true := c.x 144 rfl
    exact of_decide_eq_true h
  have ty_NoLength : PySem.W.typeIn K (.ref (ga K "NoLength")) = some (.type "type") := by
    have h : x145 K = true := c.x 145 rfl
    exact of_decide_eq_true h
  have sb_NoLength : PySem.W.subIn K (.ref (ga K "NoText")) (.ref (ga K "NoLength")) = some false := by
    have h : x146 K = true := c.x 146 rfl
    exact of_decide_eq_true h
  have ic_NoLine : PySem.W.isClsIn K (ga K "NoLine") = true := by
    have h : x147 K = true := c.x 147 rfl
    exact of_decide_eq_true h
  have ty_NoLine : PySem.W.typeIn K (.ref (ga K "NoLine")) = some (.type "type") := by
    have h : x148 K = true := c.x 148 rfl
    exact of_decide_eq_true h
  have sb_NoLine : PySem.W.subIn K (.ref (ga K "NoText")) (.ref (ga K "NoLine")) = some false := by
    have h : x149 K = true := c.x 149 rfl
    exact of_decide_eq_true h
  have ic_NoName : PySem.W.isClsIn K (ga K "NoName") = true := by
    have h : x150 K = true := c.x 150 rfl
    exact of_decide_eq_true h
  have ty_NoName : PySem.W.typeIn K (.ref (ga K "NoName")) = some (.type "type") := by
    have h : x151 K = true := c.x 151 rfl
    exact of_decide_eq_true h
  have sb_NoName : PySem.W.subIn K (.ref (ga K "NoText")) (.ref (ga K "NoName")) = some false := by
    have h : x152 K = true := c.x 152 rfl
    exact of_decide_eq_true h
  have ic_NoNumber : PySem.W.isClsIn K (ga K "NoNumber") = true := by
    have h : x153 K = true := c.x 153 rfl
    exact of_decide_eq_true h
  have ty_NoNumber : PySem.W.typeIn K (.ref (ga K "NoNumber")) = some (.type "type") := by
    have h : x154 K = true := c.x 154 rfl
    exact of_decide_eq_true h
  have sb_NoNumber : PySem.W.subIn K (.ref (ga K "NoText")) (.ref (ga K "NoNumber")) = some false := by
    have h : x155 K = true := c.x 155 rfl
    exact of_decide_eq_true h
  have ic_NoPath : PySem.W.isClsIn K (ga K "NoPath") = true := by
    have h : x156 K = true := c.x 156 rfl
    exact of_decide_eq_true h
  have ty_NoPath : PySem.W.typeIn K (.ref (ga K "NoPath")) = some (.type "type") := by
    have h : x157 K = true := c.x 157 rfl
    exact of_decide_eq_true h
  have sb_NoPath : PySem.W.subIn K (.ref (ga K "NoText")) (.ref (ga K "NoPath")) = some false := by
    have h : x158 K = true := c.x 158 rfl
    exact of_decide_eq_true h
  have ic_Same : PySem.W.isClsIn K (ga K "Same") = true := by
    have h : x159 K = true := c.x 159 rfl
    exact of_decide_eq_true h
  have ty_Same : PySem.W.typeIn K (.ref (ga K "Same")) = some (.type "type") := by
    have h : x160 K = true := c.x 160 rfl
    exact of_decide_eq_true h
  have sb_Same : PySem.W.subIn K (.ref (ga K "NoText")) (.ref (ga K "Same")) = some false := by
    have h : x161 K = true := c.x 161 rfl
    exact of_decide_eq_true h
  have ic_Struck : PySem.W.isClsIn K (ga K "Struck") = true := by
    have h : x162 K = true := c.x 162 rfl
    exact of_decide_eq_true h
  have ty_Struck : PySem.W.typeIn K (.ref (ga K "Struck")) = some (.type "type") := by
    have h : x163 K = true := c.x 163 rfl
    exact of_decide_eq_true h
  have sb_Struck : PySem.W.subIn K (.ref (ga K "NoText")) (.ref (ga K "Struck")) = some false := by
    have h : x164 K = true := c.x 164 rfl
    exact of_decide_eq_true h
  have ic_Twice : PySem.W.isClsIn K (ga K "Twice") = true := by
    have h : x165 K = true := c.x 165 rfl
    exact of_decide_eq_true h
  have ty_Twice : PySem.W.typeIn K (.ref (ga K "Twice")) = some (.type "type") := by
    have h : x166 K = true := c.x 166 rfl
    exact of_decide_eq_true h
  have sb_Twice : PySem.W.subIn K (.ref (ga K "NoText")) (.ref (ga K "Twice")) = some false := by
    have h : x167 K = true := c.x 167 rfl
    exact of_decide_eq_true h
  have ic_NoText : PySem.W.isClsIn K (ga K "NoText") = true := by
    have h : x168 K = true := c.x 168 rfl
    exact of_decide_eq_true h
  have ty_NoText : PySem.W.typeIn K (.ref (ga K "NoText")) = some (.type "type") := by
    have h : x169 K = true := c.x 169 rfl
    exact of_decide_eq_true h
  have sb_NoText : PySem.W.subIn K (.ref (ga K "NoText")) (.ref (ga K "NoText")) = some true := by
    have h : x170 K = true := c.x 170 rfl
    exact of_decide_eq_true h
  have be_NotSuch : PySem.W.subIn K (.ref (ga K "NotSuch")) (.type "BaseException") = some true := by
    have h : x171 K = true := c.x 171 rfl
    exact of_decide_eq_true h
  have be_Lost : PySem.W.subIn K (.ref (ga K "Lost")) (.type "BaseException") = some true := by
    have h : x172 K = true := c.x 172 rfl
    exact of_decide_eq_true h
  have be_Taken : PySem.W.subIn K (.ref (ga K "Taken")) (.type "BaseException") = some true := by
    have h : x173 K = true := c.x 173 rfl
    exact of_decide_eq_true h
  have sVE : PySem.W.subIn K (.ref (ga K "NoText")) (.type "ValueError") = some true := by
    have h : x174 K = true := c.x 174 rfl
    exact of_decide_eq_true h
  have saX : PySem.W.findIn K (.ref (ga K "NoText")) "__setattr__" = some (some (.builtin "object.__setattr__")) := by
    have h : x175 K = true := c.x 175 rfl
    exact of_decide_eq_true h
  have exX : PySem.W.subIn K (.ref (ga K "NoText")) (.type "BaseException") = some true := by
    have h : x176 K = true := c.x 176 rfl
    exact of_decide_eq_true h
  have kX : PySem.W.keepIn K (.ref (ga K "NoText")) = true := by
    have h : x177 K = true := c.x 177 rfl
    exact of_decide_eq_true h
  have gaX : PySem.W.findIn K (.ref (ga K "NoText")) "__getattribute__" = some (some (.builtin "BaseException.__getattribute__")) := by
    have h : x178 K = true := c.x 178 rfl
    exact of_decide_eq_true h
  have ggX : PySem.W.findIn K (.ref (ga K "NoText")) "__getattr__" = some none := by
    have h : x179 K = true := c.x 179 rfl
    exact of_decide_eq_true h
  have hdX : PySem.W.hasDictIn K (ga K "NoText") = true := by
    have h : x180 K = true := c.x 180 rfl
    exact of_decide_eq_true h
  have haX : PySem.W.findIn K (.ref (ga K "NoText")) "__class__" = some (some (.builtin "object.__class__")) := by
    have h : x181 K = true := c.x 181 rfl
    exact of_decide_eq_true h
  have hmX : PySem.W.mroIn K (ga K "NoText") (.type "object") = some true := by
    have h : x182 K = true := c.x 182 rfl
    exact of_decide_eq_true h
  have fl1 : PySem.W.findIn K (.ref (ga K "NoText")) "row" = some none := by
    have h : x183 K = true := c.x 183 rfl
    exact of_decide_eq_true h
  have fl2 : PySem.W.findIn K (.ref (ga K "NoText")) "wanted" = some none := by
    have h : x184 K = true := c.x 184 rfl
    exact of_decide_eq_true h
  have tyF : PySem.W.typeIn K (.ref (ma K (ga K "NoText") "__init__")) = some (.type "function") := by
    have h : x185 K = true := c.x 185 rfl
    exact of_decide_eq_true h
  have rdN : PySem.W.readsIn K (ga K "NotSuch") (.type "type") = true := by
    have h : x186 K = true := c.x 186 rfl
    exact of_decide_eq_true h
  have spN : PySem.W.specialIn K (.ref (ga K "NotSuch")) "__getattribute__" = some (some (.builtin "type.__getattribute__")) := by
    have h : x187 K = true := c.x 187 rfl
    exact of_decide_eq_true h
  have pg : PySem.W.plainGet K (ga K "Day") Str.empty = true := by
    have h : x188 K = true := c.x 188 rfl
    exact of_decide_eq_true h
  have hd : PySem.W.hasDictIn K (ga K "Day") = true := by
    have h : x189 K = true := c.x 189 rfl
    exact of_decide_eq_true h
  have po : PySem.W.plainOver K (ga K "Day") = true := by
    have h : x190 K = true := c.x 190 rfl
    exact of_decide_eq_true h
  have sa : PySem.W.findIn K (.ref (ga K "Day")) "__setattr__" = some (some (.builtin "object.__setattr__")) := by
    have h : x191 K = true := c.x 191 rfl
    exact of_decide_eq_true h
  have mk : PySem.W.makesIn K (ga K "Day") = true := by
    have h : x192 K = true := c.x 192 rfl
    exact of_decide_eq_true h
  have kc : PySem.W.keepIn K (.ref (ga K "Day")) = true := by
    have h : x193 K = true := c.x 193 rfl
    exact of_decide_eq_true h
  have ha : PySem.W.findIn K (.ref (ga K "Day")) "__class__" = some (some (.builtin "object.__class__")) := by
    have h : x194 K = true := c.x 194 rfl
    exact of_decide_eq_true h
  have hm : PySem.W.mroIn K (ga K "Day") (.type "object") = some true := by
    have h : x195 K = true := c.x 195 rfl
    exact of_decide_eq_true h
  have pgL : PySem.W.plainGet K (ga K "Length") Str.empty = true := by
    have h : x196 K = true := c.x 196 rfl
    exact of_decide_eq_true h
  have hdL : PySem.W.hasDictIn K (ga K "Length") = true := by
    have h : x197 K = true := c.x 197 rfl
    exact of_decide_eq_true h
  have poL : PySem.W.plainOver K (ga K "Length") = true := by
    have h : x198 K = true := c.x 198 rfl
    exact of_decide_eq_true h
  have saL : PySem.W.findIn K (.ref (ga K "Length")) "__setattr__" = some (some (.builtin "object.__setattr__")) := by
    have h : x199 K = true := c.x 199 rfl
    exact of_decide_eq_true h
  have mkL : PySem.W.makesIn K (ga K "Length") = true := by
    have h : x200 K = true := c.x 200 rfl
    exact of_decide_eq_true h
  have kcL : PySem.W.keepIn K (.ref (ga K "Length")) = true := by
    have h : x201 K = true := c.x 201 rfl
    exact of_decide_eq_true h
  have haL : PySem.W.findIn K (.ref (ga K "Length")) "__class__" = some (some (.builtin "object.__class__")) := by
    have h : x202 K = true := c.x 202 rfl
    exact of_decide_eq_true h
  have hmL : PySem.W.mroIn K (ga K "Length") (.type "object") = some true := by
    have h : x203 K = true := c.x 203 rfl
    exact of_decide_eq_true h
  have nY : PySem.W.findIn K (.ref (ga K "Day")) "year" = some none := by
    have h : x204 K = true := c.x 204 rfl
    exact of_decide_eq_true h
  have nMo : PySem.W.findIn K (.ref (ga K "Day")) "month" = some none := by
    have h : x205 K = true := c.x 205 rfl
    exact of_decide_eq_true h
  have nD : PySem.W.findIn K (.ref (ga K "Day")) "day" = some none := by
    have h : x206 K = true := c.x 206 rfl
    exact of_decide_eq_true h
  have nS : PySem.W.findIn K (.ref (ga K "Length")) "seconds" = some none := by
    have h : x207 K = true := c.x 207 rfl
    exact of_decide_eq_true h
  have hn : PySem.W.specialIn K (.builtin "object.__class__") "__get__" = some (some (.builtin "getset_descriptor.__get__")) := by
    have h : x208 K = true := c.x 208 rfl
    exact of_decide_eq_true h
  have ht : PySem.W.takesIn K (.builtin "object.__class__") = some true := by
    have h : x209 K = true := c.x 209 rfl
    exact of_decide_eq_true h
  have oX : XCls PySem.HandSPX.refsVE "ValueError.__new__" (ga K "NoText") K := by
    have h : x210 K = true := c.x 210 rfl
    exact xcls_of h
  have fiN : PySem.W.findCls K (.ref (ga K "NotSuch")) (.type "type") "__init__" = some (.val (.builtin "ValueError.__init__")) := by
    have h : x211 K = true := c.x 211 rfl
    exact fc_of h
  have gW : PySem.W.nsIn K mainGlobals "FIELD_WORDS" = some (some (.ref (ga K "FIELD_WORDS"))) := by
    have h : x212 K = true := c.x 212 rfl
    exact of_decide_eq_true h
  have vW : valsB K (ga K "FIELD_WORDS") [("code", .str "code"), ("title", .str "title"), ("players", .str "by"), ("day", .str "day"), ("length", .str "long")] = true := by
    have h : x213 K = true := c.x 213 rfl
    exact h
  have gR : PySem.W.nsIn K mainGlobals "FIELD_READERS" = some (some (.ref (ga K "FIELD_READERS"))) := by
    have h : x214 K = true := c.x 214 rfl
    exact of_decide_eq_true h
  have vR : valsB K (ga K "FIELD_READERS") [("code", .adr (fun K => ga K "code_in")), ("title", .adr (fun K => ga K "name_in")), ("players", .adr (fun K => ga K "names_in")), ("day", .adr (fun K => ga K "day_in")), ("length", .adr (fun K => ga K "length_in"))] = true := by
    have h : x215 K = true := c.x 215 rfl
    exact h
  have oF : ocB (ga K "FIELDS") "tuple" K = true := by
    have h : x216 K = true := c.x 216 rfl
    exact h
  have z_isinstance : PySem.W.nsIn K mainGlobals "isinstance" = some none := by
    have h : x217 K = true := c.x 217 rfl
    exact of_decide_eq_true h
  have z_int : PySem.W.nsIn K mainGlobals "int" = some none := by
    have h : x218 K = true := c.x 218 rfl
    exact of_decide_eq_true h
  have z_bool : PySem.W.nsIn K mainGlobals "bool" = some none := by
    have h : x219 K = true := c.x 219 rfl
    exact of_decide_eq_true h
  have z_str : PySem.W.nsIn K mainGlobals "str" = some none := by
    have h : x220 K = true := c.x 220 rfl
    exact of_decide_eq_true h
  have z_tuple : PySem.W.nsIn K mainGlobals "tuple" = some none := by
    have h : x221 K = true := c.x 221 rfl
    exact of_decide_eq_true h
  have z_list : PySem.W.nsIn K mainGlobals "list" = some none := by
    have h : x222 K = true := c.x 222 rfl
    exact of_decide_eq_true h
  have z_len : PySem.W.nsIn K mainGlobals "len" = some none := by
    have h : x223 K = true := c.x 223 rfl
    exact of_decide_eq_true h
  have z_all : PySem.W.nsIn K mainGlobals "all" = some none := by
    have h : x224 K = true := c.x 224 rfl
    exact of_decide_eq_true h
  have z_any : PySem.W.nsIn K mainGlobals "any" = some none := by
    have h : x225 K = true := c.x 225 rfl
    exact of_decide_eq_true h
  have z_abs : PySem.W.nsIn K mainGlobals "abs" = some none := by
    have h : x226 K = true := c.x 226 rfl
    exact of_decide_eq_true h
  have z_range : PySem.W.nsIn K mainGlobals "range" = some none := by
    have h : x227 K = true := c.x 227 rfl
    exact of_decide_eq_true h
  have z_repr : PySem.W.nsIn K mainGlobals "repr" = some none := by
    have h : x228 K = true := c.x 228 rfl
    exact of_decide_eq_true h
  have z_max : PySem.W.nsIn K mainGlobals "max" = some none := by
    have h : x229 K = true := c.x 229 rfl
    exact of_decide_eq_true h
  have z_min : PySem.W.nsIn K mainGlobals "min" = some none := by
    have h : x230 K = true := c.x 230 rfl
    exact of_decide_eq_true h
  have z_sorted : PySem.W.nsIn K mainGlobals "sorted" = some none := by
    have h : x231 K = true := c.x 231 rfl
    exact of_decide_eq_true h
  have z_zip : PySem.W.nsIn K mainGlobals "zip" = some none := by
    have h : x232 K = true := c.x 232 rfl
    exact of_decide_eq_true h
  have z_enumerate : PySem.W.nsIn K mainGlobals "enumerate" = some none := by
    have h : x233 K = true := c.x 233 rfl
    exact of_decide_eq_true h
  have z_ValueError : PySem.W.nsIn K mainGlobals "ValueError" = some none := by
    have h : x234 K = true := c.x 234 rfl
    exact of_decide_eq_true h
  obtain ⟨es0, n0, tb0⟩ := c.t 0 (t := ("FIELD_WORDS", ["code", "title", "players", "day", "length"])) rfl
  obtain ⟨es1, n1, tb1⟩ := c.t 1 (t := ("FIELD_READERS", ["code", "title", "players", "day", "length"])) rfl
  have WK : Kd K w mg "FIELD_WORDS" (wrds.map V.str) := ⟨ga K "FIELD_WORDS", es0, n0, PySem.W.mg_of X G gW, tb0.at_, tb0.lit, fun i k v h1 h2 => match i, h1, h2 with | 0, h1, h2 => by injection h1 with e1; injection h2 with e2; subst e1; subst e2; exact tab_at tb0 vW 0 rfl | 1, h1, h2 => by injection h1 with e1; injection h2 with e2; subst e1; subst e2; exact tab_at tb0 vW 1 rfl | 2, h1, h2 => by injection h1 with e1; injection h2 with e2; subst e1; subst e2; exact tab_at tb0 vW 2 rfl | 3, h1, h2 => by injection h1 with e1; injection h2 with e2; subst e1; subst e2; exact tab_at tb0 vW 3 rfl | 4, h1, h2 => by injection h1 with e1; injection h2 with e2; subst e1; subst e2; exact tab_at tb0 vW 4 rfl | n + 5, h1, _ => by cases h1⟩
  have RK : Kd K w mg "FIELD_READERS" [.ref (ga K "code_in"), .ref (ga K "name_in"), .ref (ga K "names_in"), .ref (ga K "day_in"), .ref (ga K "length_in")] := ⟨ga K "FIELD_READERS", es1, n1, PySem.W.mg_of X G gR, tb1.at_, tb1.lit, fun i k v h1 h2 => match i, h1, h2 with | 0, h1, h2 => by injection h1 with e1; injection h2 with e2; subst e1; subst e2; exact tab_at tb1 vR 0 rfl | 1, h1, h2 => by injection h1 with e1; injection h2 with e2; subst e1; subst e2; exact tab_at tb1 vR 1 rfl | 2, h1, h2 => by injection h1 with e1; injection h2 with e2; subst e1; subst e2; exact tab_at tb1 vR 2 rfl | 3, h1, h2 => by injection h1 with e1; injection h2 with e2; subst e1; subst e2; exact tab_at tb1 vR 3 rfl | 4, h1, h2 => by injection h1 with e1; injection h2 with e2; subst e1; subst e2; exact tab_at tb1 vR 4 rfl | n + 5, h1, _ => by cases h1⟩
  have oF2 : ∃ o, K.lookup (ga K "FIELDS") = some o ∧ o.cls = .type "tuple" ∧ o.dict = none := ocB_ok oF
  exact all_mk X G hfa a_Day a_Length a_NotSuch a_Lost a_Taken a_NoCustom a_NoDay a_NoDisc a_NoEntry a_NoKey a_NoLength a_NoLine a_NoName a_NoNumber a_NoPath a_Same a_Struck a_Twice a_NoText a0 i0 F0 a1 F1 a2 F2 a3 F3 a4 F4 a5 F5 a6 F6 a7 F7 a8 F8 a9 F9 a10 i10 F10 a11 i11 F11 a12 i12 F12 a13 F13 a14 i14 F14 a15 i15 F15 a16 i16 F16 a17 F17 a18 F18 a19 F19 a20 F20 a21 F21 a22 F22 a23 F23 a24 F24 a25 F25 a26 F26 a27 F27 a28 F28 a29 F29 a30 F30 a31 F31 a32 F32 a33 F33 a34 F34 a35 F35 a36 F36 a37 F37 a38 F38 a39 F39 a40 F40 a41 F41 a42 F42 a43 F43 a44 F44 a45 F45 a46 F46 a47 F47 a48 F48 a49 F49 a50 F50 a51 F51 a52 F52 a53 F53 a54 F54 a55 F55 a56 F56 a57 F57 a58 F58 a59 F59 a60 F60 a61 F61 a62 F62 a63 F63 a64 F64 a65 F65 a66 F66 a67 F67 a68 F68 a69 F69 a70 F70 a71 F71 g_KEY_PARTS g_LONGEST_WORD g_LONGEST_CODE g_MOST_PLAYERS g_LAST_YEAR g_MONTHS g_FEBRUARY g_MOST_SECONDS g_SHORTEST_TONGUE g_LONGEST_TONGUE g_LONGEST_TEXT g_MOST_FIGURES g_DAY_PARTS g_YEAR_FIGURES g_SMALL_LETTERS g_TEXT_SIGNS g_FIGURES g_CODE_SIGNS g0_MONTH_DAYS h_MONTH_DAYS g0_FIELDS h_FIELDS ic_NotSuch ty_NotSuch sb_NotSuch ic_Lost ty_Lost sb_Lost ic_Taken ty_Taken sb_Taken ic_NoCustom ty_NoCustom sb_NoCustom ic_NoDay ty_NoDay sb_NoDay ic_NoDisc ty_NoDisc sb_NoDisc ic_NoEntry ty_NoEntry sb_NoEntry ic_NoKey ty_NoKey sb_NoKey ic_NoLength ty_NoLength sb_NoLength ic_NoLine ty_NoLine sb_NoLine ic_NoName ty_NoName sb_NoName ic_NoNumber ty_NoNumber sb_NoNumber ic_NoPath ty_NoPath sb_NoPath ic_Same ty_Same sb_Same ic_Struck ty_Struck sb_Struck ic_Twice ty_Twice sb_Twice ic_NoText ty_NoText sb_NoText be_NotSuch be_Lost be_Taken sVE saX exX kX gaX ggX hdX haX hmX fl1 fl2 tyF rdN spN pg hd po sa mk kc ha hm pgL hdL poL saL mkL kcL haL hmL nY nMo nD nS hn ht oX fiN z_isinstance z_int z_bool z_str z_tuple z_list z_len z_all z_any z_abs z_range z_repr z_max z_min z_sorted z_zip z_enumerate z_ValueError WK RK oF2
theorem walk_goE {l : PySem.W.OpenLaw} {n k : Nat} {q : Program} {loose : List Str} {XP : (Str → Option Value) → Heap → Prop} {YP : World → Heap → Prop} {d : DefRec} {sp : PySem.W.Frag → Sp} {x : Str}
    (most : l.most = some n) (small : n ≤ sizeLine) (nodef : d.params.defaults = []) (room : Room k callerA)
    (F : ∀ (w : World) (mg : Str → Option Value) (fa : Addr) (h : Heap), YP w h → h.Ns mainGlobals mg → mg d.name = some (.ref fa) →
      ∃ (K : PySem.W.Frag) (fd : FuncData), K.In h ∧ (∀ (s : Shared) (u : Value), BindsTo s fd ⟨[u], []⟩ [(x, u)]) ∧ ∀ base : Heap, K.In base → base.Ns mainGlobals mg → base.NoDigits → Gn l.prog w K mg base k fa fd [x] (sp K))
    (hsp : ∀ (K : PySem.W.Frag) (H : Hp) (a : Addr) (ns : List Int), ns.length ≤ n → SqL K H a (ns.map V.int) → sp K [.ref a] H (fun v _ => v = .bl true) fun _ _ _ => False) :
    PySem.W.WalkO q loose XP YP l.row.toRowW d [] (fun f vs => PySem.call f vs) := by
  refine Att.attach_call most nodef fun w s₀ s₁ mg mb fa o pm cd doc a vs ns G Y _ _ _ hmg hobj hints hlen hg => ?_
  obtain ⟨K, fd, kin, hb, hF⟩ := F w mg fa _ Y G.T.g hmg
  exact law_go kin G.T.g G.T.b G.T.builtins G.T.nolimit G.T.nodigits hg hobj hints (Nat.le_trans hlen small) room hF hb fun H hS => hsp _ H a ns hlen hS
end K64
open PySem PySem.W PySem.Calls PyProof.Rows
set_option maxHeartbeats 0 in
theorem PySem.Challenge.cw_takesworks_k64_rows_of_no_entry_holds : PySem.Challenge.rw_takesworks_k64_rows_of_no_entry.Holds := by
  w_on; o_law
  refine HandSHeadRun.head_any (r := OpenLaw.row PySem.Challenge.rw_takesworks_k64_rows_of_no_entry) (q := view (OpenLaw.row PySem.Challenge.rw_takesworks_k64_rows_of_no_entry).prog [114]) (H := K64.hk) (ob := K64.ob) (M := 40000) (loose := K64.names) (d := HandSHeadRun.topDef (OpenLaw.row PySem.Challenge.rw_takesworks_k64_rows_of_no_entry).prog 114) (kwd := []) K64.ob_eq
    (by kernel_rfl) (fun s => by kernel_rfl) K64.run (by kernel_rfl) (by kernel_rfl) (by kernel_rfl) (by rfl) (by first | assumption | decide +kernel) (by decide +kernel) ⟨rfl, rfl, rfl, rfl, rfl, by decide +kernel⟩ ?hw ?hc
  case hw => w_witness2
  case hc =>
    refine K64.walk_goE (l := PySem.Challenge.rw_takesworks_k64_rows_of_no_entry) (n := 63) (k := 14) (x := "_law_script") (sp := fun K => K64.spLaw K) rfl (by decide) (by kernel_rfl) ⟨rfl, by decide, by decide⟩ ?F (fun _ _ a ns hl hS => ⟨a, ns, rfl, hS, hl, fun _ => rfl⟩)
    intro w mg fa h Y G hmg0
    obtain ⟨K, KX, c⟩ := Y
    have hmg : mg ("law" : PySem.Str) = some (.ref fa) := by
      have e : (HandSHeadRun.topDef (OpenLaw.row PySem.Challenge.rw_takesworks_k64_rows_of_no_entry).prog 114).name = ("law" : PySem.Str) := by kernel_rfl
      rw [← e]
      exact hmg0
    obtain ⟨fd, hb, hF⟩ := K64.facts (w := w) KX G hmg c
    exact ⟨K, fd, KX, hb, hF⟩
